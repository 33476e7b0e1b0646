import PyProof.Rows.All
import Wide.All
import OpenK.AllK
import Wide.FinOn
import Lean
import PyProof.EqAt
import PyProof.EqKinds
import PyProof.TupleCall
import PySem.Challenge.RW_noshortring_k34_fewest_by_turns
noncomputable section
open Array renaming length_toList→fw,getElem?_toList→gT,getElem?_eq_some_iff→iJ,toList_extract→iS,toList_reverse→je,toList_append→kb,toList_push→kJ,ext'→lE,toList_map→l9,getD→n6,toList_zip→oJ,replicate→ph
open Bool renaming false_ne_true→c9,false_eq_true→gD,and_eq_true→iE,not_eq_true'→jc,eq_iff_iff→kB,not_true→lO,not_false→nX,not_eq_false'→nY,and_false→nZ,true_and→p8
open Classical renaming byContradiction→jy
open False renaming elim→jn
open ForInStep renaming yield→jR
open Int renaming mul_le_mul_of_nonneg_right→gI,eq_ofNat_of_zero_le→gO,toNat_natCast→iy,le_of_lt→iY,le_refl→jM,le_trans→kg,emod_lt_of_pos→ko,toNat_of_nonneg→kT,one_mul→lg,add_mul→lh,emod_nonneg→lG,emod_eq_of_lt→mV,le_total→nH,pow_pos→ot,min_eq_right→oH,pow_succ→oW,natCast_pow→o9,min_eq_left→pe,le_antisymm→pf,zero_add→qx
open List renaming mem_singleton→b9,length_map→e8,mem_cons_of_mem→fk,mem_of_getElem?→fo,getElem?_map→fq,mem_cons→fu,length_cons→fz,mem_map→gc,getElem?_eq_some_iff→gh,size_toArray→gj,getElem?_eq_getElem→gm,mem_filter→gq,mem_append→gu,length_append→gw,nodup_cons→gB,mem_cons_self→gC,range→gF,mem_range→gG,map_cons→gH,replicate→gK,getElem?_append_right→gN,getElem?_set_ne→gQ,Pairwise→gS,nodup_append→gU,getElem?_set_self→gW,length_take→gX,cons_append→gY,getElem?_append_left→ic,extract_eq_drop_take→ie,map_append→il,pairwise_map→iw,lookup_cons→iz,getElem?_of_mem→iA,getLast?_cons_cons→iB,mem_append_right→iD,nodup_iff_pairwise_ne→iI,take_length→iK,length_range→iL,length_filter_le→iM,pairwise_iff_getElem→iO,mem_append_left→iR,not_mem_nil→iU,take_add_one→iV,getD_eq_getElem?_getD→iW,map_map→i6,filterMap_cons→i7,append_nil→i8,getElem_mem→jk,filter_cons→jl,all_eq_true→jm,getLast?_append→jr,length_nil→js,getLast?_eq_some_iff→jx,ext_getElem?→jA,append_assoc→jB,take_append_drop→jC,length_replicate→jD,pairwise_cons→jH,getElem?_drop→jI,mem_of_getLast?→jK,getElem?_replicate→jL,perm_append_comm→jU,mem_flatMap→jW,mem_filterMap→jX,pairwise_singleton→j5,getElem?_range→j8,pairwise_lt_range→ke,getElem?_eq_none→kr,drop_eq_getElem_cons→ku,length_set→kA,pairwise_append→kH,getElem?_take_of_lt→kM,length_drop→kY,getElem?_cons_succ→kZ,Perm→k9,take_of_length_le→lB,length_pos_of_mem→lC,mem_of_mem_take→lV,toArray→l7,map_nil→l8,map_congr_left→me,getElem_of_mem→mf,length_erase_of_mem→mq,filter_append→mD,length_eq_zero_iff→mH,reverse_cons→mT,flatMap_cons→mU,getElem_map→m9,range_succ→ny,of_mem_zip→nz,reverse_append→nB,mem_map_of_mem→nC,zip_cons_cons→nU,getLast?_cons→nV,getElem?_take→nW,set_comm→oB,getD→oG,map_set→oU,forIn_cons→o8,take_zero→pK,drop_zero→pL,map_id→qG,foldl→qP
open List.Pairwise renaming imp_of_mem→iG,filter→lW,map→om
open Nat renaming le_refl→fv,lt_of_lt_of_le→gy,ne_of_lt→gL,zero_le→ip,le_trans→iq,lt_irrefl→iQ,lt_trichotomy→jQ,lt_succ_of_lt→j4,zero_add→kG,lt_succ_self→kX,not_lt_zero→my,le_of_lt→mS,le_of_not_lt→m8,strongRecOn→nu,pow_succ→nF,ne_of_gt→nG,lt_of_le_of_lt→nT,le_of_succ_le→oj,add_assoc→p7,mod_lt→qd,succ_pos→qp,succ_add→qq,mul_succ→qr,mul_comm→qt,lt_trans→qu,le_of_eq→qv
open Option renaming some→gZ,isSome→oA
open Or renaming inr→oy,inl→oz
open Prod renaming ext→jd,fst→jw
open Prod.mk renaming injEq→p0
open PyProof.Rows renaming wpS_bind→fh,wpS_pure→fm,seqObj→gP,SortSt→hV,wpS_forRange→iF,slot_tuple_getitem→i5,wpS_mono→jv,SortKind→j7,failedOf→kj,assignInOrder_cons→kl,wpS_modify→lj,envOfC→lz,get?_update_seq→lF,callWith_type1→lR,wpS_get→lX,listUpdate_at→mi,wpS_lift→mJ,seqEpoch_at→ng,AllBare→nI,setPending→nP,assignInOrder_nil→og,listItems_at→oM,list_sort_plain→oY,entry_list_sort→oZ,slot_list_sort→pq,args_list_sort→pE,sortRuns'→pM,minRun'→pQ,firstOfTuple'→pV,plain_sorted→qf,entry_sorted→qh,args_sorted1→ql,kind_sorted→qE
open PyProof.Rows.F renaming plain_set_update_loop→jz
open PyProof.Rows.SortSt renaming mk'→mz
open PySem renaming wpAny_bind→a8,wpAny_pure→b8,starEach→fj,Spec→gk,Around→gx,FuncData→gE,wpAny_holding→hZ,bootBuiltins→ig,PyData→iC,sizeLine_eq→iH,mainGlobals→iP,SetTable→iX,wpAny_newObj_type→i9,foldedSetIterable→ja,compareOp→jf,wpAny_setState_of→jo,cellsFrom→jt,wpAny_mono→jG,wpAny_call_entry→jJ,backTo→jS,assignEach→jV,binaryOp→jY,wpAny_truthy_bool→j3,codeAny_builtin→j6,wpAny_passesOwn→kz,wpAny_rule→kK,Builtin→kL,mem_of_lookup→kQ,wpAny_callSpecial?_slot→kU,wpAny_Call_Name_kw→lu,wpAny_standAt→lH,wpAny_attempt→lI,swapsWithSole→lJ,swappedStores→lK,plainId_quiet→lL,codeAny→lQ,codeAny_call_builtin→lT,wpAny_typeOf→lY,wpAny_eqBool_int→lZ,wpAny_newList→mh,wpAny_execs_nil→mw,sliceBounds→mE,wpAny_tryCatch→mK,wpAny_seqItems→mL,wpAny_bindName→mM,codeAny_mono→mO,wpAny_forIn_list→mX,wpAny_askSetting→mY,call_meets→mZ,wpAny_loadPart'→nj,letOwnedTupleGo→nr,swapsWith→nJ,pickOrder→nK,PassesOwn→nL,wpAny_setField_rec→nM,wpAny_call→nO,pyNext→nQ,wpAny_pyIter_list→n8,wpAny_of_eq→n9,ofAClassStatement→oa,Keyword→oq,attributeBase→ou,noFill_tuple_add→oC,checkBuiltinCall→oD,rawInt→oK,argBest→oN,IsPart→oV,wpAny_updateSeq→oX,wpAny_newTuple→pj,wpAny_letGo→pk,recursionLimit→pA,newFunctionEnv→pB,keywordEach→pC,isSubtype_type→pD,Operator→pJ,pushCells→pO,getItem→pR,callerA→pS,BindsTo→pT,seq_tuple_add→pU,frameOf→pX,setEntries→p9,pyIter→qb,builtinsNs→qc,entryPlaceOf→qi,concat_meets→qj,compEnvC→qk,Within→qm,noteFrame→qy,Result→qz,Fin→qA,wpAny_field→qC,seqIndex_of→qD,backToKw→qO
open PySem.Around renaming under_plainId→jZ
open PySem.Builtin renaming bitAnd→mW
open PySem.Builtin.List renaming listTooLong→kP
open PySem.Builtin.Slice renaming slicePlaces→kv,sliceAdjust→md
open PySem.Builtin.Tuple renaming tupleExact→kO
open PySem.Challenge renaming pw_noshortring_k34_fewest_by_turns→gM
open PySem.EntryCells renaming newEntry→nE
open PySem.F renaming plain_min_loop→ki,plainAttrs_list→kW,args_tuple_add_2→mn,entry_tuple_add→mG,slot_tuple_add→mQ,entry_min_loop→oI
open PySem.Flow renaming next→qB
open PySem.Heap renaming get?_push_of_some→e9,lt_size→gi,get?_push_size→gJ,get?_update_other→ju,size_push→jE,get?_update_ne→j9,FlyingW→kI,SameBut→lD,get?_update_self→lP
open PySem.Heap.SameBut renaming update→nD
open PySem.NameKind renaming cell→lN
open PySem.Obj renaming mapSeq→iN,putSet→nS
open PySem.PyData renaming depthAll→jF,weightAll→kh,eqv→lA,weight→pZ
open PySem.SeqAt renaming EqAt→iZ
open PySem.SetTable renaming insertAt→jT,runEnd→lS,sizeAbove→pN,fill→pW
open PySem.SetTable.below renaming go→qN
open PySem.SetTable.probe renaming go→nh
open PySem.Str renaming ofString→oT
open PySem.Value renaming type→jO,none→lU,bool→oO
open PySem.W renaming Frag→a9,kitOne→gz,openGood→iT,kitCls→ji,kia_one→jj,keepIn→jq,mroIn→jN,nsIn→jP,findIn→km,hideAll_get→kS,Looks→lM,fnOf→l0,excIn→mj,hideAll→mx,of_hideAll→mB,cellsFrom_some→mP,looks_findIn→ni,looks_mroIn→nA,specialIn→oh,methodObj→oi,clsIn→ow,kat_cons→oF,takesIn→o4,kat_yes→o5,instObj→o6,OpenLaw→o7,lookIn→pF,kat_no→pG,kat_go→pH,codeIn→pI,recOk→pY,xlAt→qo,KatTups→qw,InK→qF
open PySem.W.Fast renaming te14364793385576792824→jb,tw4187177175401517315→jg,te4187177175401517315→jh
open PySem.pickOrder renaming go→qg
open Sum renaming inr→oQ,inl→oR
open True renaming intro→oP
set_option Elab.async false
set_option linter.all false
set_option maxRecDepth 100000
namespace L2
open PySem PySem.Spec PyProof.Rows
noncomputable abbrev Jh:=Sum Int Str
noncomputable def VY:Jh→Value→Bool
 | .inl k,v=>Value.isInt k v
 | .inr x,v=>Value.isStrOf x v
noncomputable def cX(w:World):Jh→Int
 | .inl k=>hashInt k
 | .inr x=>hashStr w x
theorem Ae:∀{k:Jh} {v:Value},VY k v=true→(∃i t,k=oR i∧v=Value.int i t)∨(∃x t,k=oQ x∧v=Value.str x t)
 | .inl i,v,h=>by
  obtain⟨t,e⟩:=Value.isInt_shape (k:=i) (v:=v) h
  exact .inl ⟨i,t,rfl,e⟩
 | .inr x,v,h=>by
  obtain⟨t,e⟩:=Value.isStrOf_shape (x:=x) (v:=v) h
  exact .inr ⟨x,t,rfl,e⟩
theorem WQ(a b:Int):decide ((oR a:Jh)=oR b)=(a==b):=by
 by_cases e:a=b
 ·subst e;simp
 ·have h:¬(oR a:Jh)=oR b:=fun q=>e (oR.inj q)
  rw[decide_eq_false h]
  exact(beq_eq_false_iff_ne.mpr e).symm
theorem WR(a b:Str):decide ((oQ a:Jh)=oQ b)=decide (a=b):=by
 by_cases e:a=b
 ·subst e;simp
 ·have h:¬(oQ a:Jh)=oQ b:=fun q=>e (oQ.inj q)
  rw[decide_eq_false h,decide_eq_false e]
theorem WU(a:Int)(b:Str):decide ((oR a:Jh)=oQ b)=false:=decide_eq_false (fun q=>nomatch q)
theorem WV(a:Str)(b:Int):decide ((oQ a:Jh)=oR b)=false:=decide_eq_false (fun q=>nomatch q)
noncomputable def IQ(prog:Program)(w:World):PySem.KeyKind prog w Jh where
 is:=VY
 hash:=cX w
 inj:=fun v a b ha hb=>by
  rcases Ae ha with⟨i,t,rfl,rfl⟩| ⟨x,t,rfl,rfl⟩
  ·rcases Ae hb with⟨j,u,rfl,e⟩| ⟨y,u,rfl,e⟩
   ·injection e with e1 _;rw[e1]
   ·exact nomatch e
  ·rcases Ae hb with⟨j,u,rfl,e⟩| ⟨y,u,rfl,e⟩
   ·exact nomatch e
   ·injection e with e1 _;rw[e1]
 byValue:=fun k v h=>by
  rcases Ae h with⟨i,t,rfl,rfl⟩| ⟨x,t,rfl,rfl⟩<;>rfl
 pyHash:=fun hv h=>by
  rcases Ae hv with⟨i,t,rfl,rfl⟩| ⟨x,t,rfl,rfl⟩
  ·exact wpAny_pyHash_int h
  ·exact wpAny_pyHash_str h
 eqBool:=fun hu hv h=>by
  rcases Ae hu with⟨i,t,rfl,rfl⟩| ⟨x,t,rfl,rfl⟩
  ·rcases Ae hv with⟨j,u,rfl,rfl⟩| ⟨y,u,rfl,rfl⟩
   ·rw[WQ] at h;exact lZ h
   ·rw[WU] at h;exact iZ.int_str i t y u _ _ _ _ h
  ·rcases Ae hv with⟨j,u,rfl,rfl⟩| ⟨y,u,rfl,rfl⟩
   ·rw[WV] at h;exact iZ.str_int x t j u _ _ _ _ h
   ·rw[WR] at h;exact wpAny_eqBool_str h
 «strs»:=fun k x t v h=>by
  rcases Ae h with⟨i,u,rfl,e⟩| ⟨y,u,rfl,e⟩
  ·exact nomatch e
  ·injection e with e1 _
   subst e1
   cases v<;>rfl
inductive V where
 |non|bl (b:Bool)|int (i:Int)|str (x:Str)|byt (b:Array UInt8)|flt (b:UInt64)|ref (a:Addr)|ty (n:String)
 deriving DecidableEq
noncomputable def RelV:V→Value→Prop
 | .non,u=>u=lU
 | .bl b,u=>u=oO b
 | .int i,u=>∃t,u=Value.int i t
 | .str x,u=>∃t,u=Value.str x t
 | .byt b,u=>∃t,u=Value.bytes b t
 | .flt b,u=>∃t,u=Value.float b t
 | .ref a,u=>u=Value.ref a
 | .ty n,u=>u=jO n
noncomputable abbrev Vals:List V→List Value→Prop:=Paired RelV
theorem Vals.length{xs:List V}{us:List Value}(r:Vals xs us):xs.length=us.length:=Paired.length r
theorem Vals.get:∀{xs:List V} {us:List Value} {i:Nat} {x:V},Vals xs us→xs[i]?=some x→∃u,us[i]?=some u∧RelV x u
 |_,_,_,_,.nil,e=>by simp at e
 |_,_,0,_,.cons r _,e=>by simp at e;subst e;exact⟨_,rfl,r⟩
 |_,_,i+1,x,.cons _ t,e=>by
  obtain⟨u,h1,h2⟩:=Vals.get (i:=i) (x:=x) t (by simpa using e)
  exact⟨u,by simpa using h1,h2⟩
theorem Vals.set{x:V}{u:Value}(r:RelV x u):∀{xs:List V} {us:List Value} (i:Nat),Vals xs us→Vals (xs.set i x) (us.set i u)
 |_,_,_,.nil=> .nil
 |_,_,0,.cons _ t=> .cons r t
 |_,_,i+1,.cons q t=> .cons q (Vals.set r i t)
theorem Vals.append:∀{xs ys:List V} {us ws:List Value},Vals xs us→Vals ys ws→Vals (xs++ys) (us++ws)
 |_,_,_,_,.nil,s=>s
 |_,_,_,_,.cons r t,s=> .cons r (Vals.append t s)
theorem Vals.take:∀{xs:List V} {us:List Value} (n:Nat),Vals xs us→Vals (xs.take n) (us.take n)
 |_,_,0,_=> .nil
 |_,_,_+1,.nil=> .nil
 |_,_,n+1,.cons r t=> .cons r (Vals.take n t)
theorem Vals.drop:∀{xs:List V} {us:List Value} (n:Nat),Vals xs us→Vals (xs.drop n) (us.drop n)
 |_,_,0,r=>r
 |_,_,_+1,.nil=> .nil
 |_,_,n+1,.cons _ t=>Vals.drop n t
noncomputable def Sy:Option V→Option Value→Prop
 |some v,some u=>RelV v u
 |none,none=>True
 |_,_=>False
noncomputable def KV{κ:Type}:List (κ×V)→List (κ×Value)→Prop:=Paired fun(p:κ×V) (q:κ×Value)=>p.1=q.1∧RelV p.2 q.2
noncomputable def kV:Jh→V
 | .inl i=> .int i
 | .inr x=> .str x
inductive HO where
 /-- a list -/
 | lst (xs:List V)
 /-- a tuple (never changes) -/
 | tup (xs:List V)
 /-- a dict whose keys are ints and texts; one whose keys are tuples of ints and texts (the empty one is both) -/
 | dK (kvs:List (Jh × V)) | dT (kvs:List (List Jh × V))
 /-- a set of ints: its members,its size -/
 | set (S:Int→Bool) (n:Nat)
 /-- an instance of the class at C,its dict at dx,its attributes -/
 | ins (C dx:Addr) (fs:List (Str × V))
 /-- the dict of the instance at x -/
 | own (x:Addr)
 /-- the dict of an exception -/
 | xd (fs:List (Str × V))
 /-- a bound method,f of x -/
 | met (f x:Addr)
 /-- a range object lo,lo + 1,.. below hi -/
 | rng (lo hi:Int)
 /-- a thing that is known to the object (the script; a dict while a loop walks it): read,never written while it is so -/
 | frz (o:Obj) (u:HO)
 /-- a code object's table -/
 | tbl (ps:Array Value)
 /-- any other thing,by what is true of its one object (a def of one's own: SetO a S n:=HO.ext fun h => ..) -/
 | ext (φ:Heap→Prop)
noncomputable abbrev Hp:=Addr→Option HO
noncomputable def upd(H:Hp)(a:Addr)(o:HO):Hp:=fun b=>if b=a then some o else H b
theorem AM{H:Hp}{a:Addr}{o:HO}:upd H a o a=some o:=by unfold upd;rw[if_pos rfl]
theorem AL{H:Hp}{a b:Addr}{o:HO}(h:b≠a):upd H a o b=H b:=by unfold upd;rw[if_neg h]
theorem AQ{H:Hp}{a b:Addr}{o:HO}(h:H a=some o)(h':H b=none):a≠b:=by
 intro e;subst e;rw[h] at h';cases h'
section
variable(P:Program)(w:World)
noncomputable def ObjOk(H:Hp)(h:Heap)(a:Addr):HO→Prop
 | .lst xs=>xs.length≤sizeLine∧∃(its:List Value) (n:Nat),Vals xs its∧h.get? a=some {cls:=.type "list",data:=.seq its.toArray n}
 | .tup xs=>xs.length≤sizeLine∧∃its:List Value,Vals xs its∧IsTup h a its.toArray
 | .dK kvs=>kvs.length≤sizeLine∧(a==sysModules)=false∧∃vs,KV kvs vs∧h.DictOf (IQ P w) a vs
 | .dT kvs=>kvs.length≤sizeLine∧(a==sysModules)=false∧∃xs:List (List Jh×Addr×Value),
   Paired (fun(p:List Jh×V) (q:List Jh×Addr×Value)=>p.1=q.1∧H q.2.1=some (.tup (p.1.map kV))∧RelV p.2 q.2.2) kvs xs∧
   ∃o es ep,h.get? a=some o∧o.ExactDict∧o.data=.dict es ep∧es.toList=xs.map (entryOfKey (tupleKind (IQ P w)))∧(xs.map (·.1)).Nodup
 | .set S n=>h.SetOf (intKind P w) a S n
 | .ins C dx fs=>H dx=some (.own a)∧fs.length≤1000∧dx≠a∧h.get? a=some (o6 C dx)∧
   ∃mA,h.Ns1 dx mA∧(∀f,Sy (fs.lookup f) (mA f))∧qm mA (fs.map (·.1))
 | .own _=>∃o,h.get? a=some o
 | .xd fs=>∃mA,h.Ns1 a mA∧∀f,Sy (fs.lookup f) (mA f)
 | .rng lo hi=>∃t u v,h.get? a=some {cls:=.type "range",data:=.fields #[.int lo t,.int hi u,.int 1 v]}
 | .frz o u=>h.get? a=some o∧ObjOk H h a u
 | .tbl ps=>h.get? a=some {cls:=.none,data:=.fields ps}
 | .met f x=>h.get? a=some (oi (.ref f) (.ref x))
 | .ext φ=>φ h∧(∃o,h.get? a=some o)∧∀h1 h2:Heap,φ h1→(∀o,h1.get? a=some o→h2.get? a=some o)→φ h2
noncomputable def HOk(H:Hp)(h:Heap):Prop:=∀a o,H a=some o→ObjOk P w H h a o
end
section
variable{P:Program}{w:World}{H H':Hp}{h h':Heap}{a:Addr}{o:HO}
theorem ObjOk.lt(x:ObjOk P w H h a o):a<h.objs.size:=by
 cases o with
 |lst xs=>obtain⟨_,_,_,_,e⟩:=x;exact gi e
 |tup xs=>obtain⟨_,_,_,p⟩:=x;exact p.lt
 |dK kvs=>obtain⟨_,_,_,_,o,_,_,e,_⟩:=x;exact gi e
 |dT kvs=>obtain⟨_,_,_,_,o,_,_,e,_⟩:=x;exact gi e
 |set S n=>obtain⟨o,_,_,_,e,_⟩:=x;exact gi e
 |ins C dx fs=>obtain⟨_,_,_,e,_⟩:=x;exact gi e
 |own y=>obtain⟨_,e⟩:=x;exact gi e
 |xd fs=>obtain⟨_,⟨_,_,_,e,_⟩,_⟩:=x;exact gi e
 |rng lo hi=>obtain⟨_,_,_,e⟩:=x;exact gi e
 |frz ob u=>obtain⟨e,_⟩:=x;exact gi e
 |tbl ps=>exact gi (show h.get? a=some _ from x)
 |met f y=>exact gi (show h.get? a=some _ from x)
 |ext φ=>obtain⟨_,⟨_,e⟩,_⟩:=x;exact gi e
theorem Paired.mapP{α β:Type}{F G:α→β→Prop}:∀{l₁:List α} {l₂:List β},Paired F l₁ l₂→(∀a b,F a b→G a b)→Paired G l₁ l₂
 |_,_,.nil,_=> .nil
 |_,_,.cons r t,f=> .cons (f _ _ r) (Paired.mapP t f)
theorem ObjOk.stay(x:ObjOk P w H h a o)(k:∀b u,(b=a∨H b=some (.own a))→h.get? b=some u→h'.get? b=some u)
  (ho:∀b,H b=some (.own a)→H' b=some (.own a)) (ht:∀b xs,H b=some (.tup xs)→H' b=some (.tup xs)):ObjOk P w H' h' a o:=by
 induction o with
 |lst xs=>obtain⟨z,its,n,r,e⟩:=x;exact⟨z,its,n,r,k _ _ (.inl rfl) e⟩
 |tup xs=>obtain⟨z,its,r,ob,e,c⟩:=x;exact⟨z,its,r,ob,k _ _ (.inl rfl) e,c⟩
 |dK kvs=>obtain⟨z,y,vs,r,ob,es,ep,e,c⟩:=x;exact⟨z,y,vs,r,ob,es,ep,k _ _ (.inl rfl) e,c⟩
 |dT kvs=>
  obtain⟨z,y,xs,r,ob,es,ep,e,c⟩:=x
  exact⟨z,y,xs,Paired.mapP r fun p q z=> ⟨z.1,ht _ _ z.2.1,z.2.2⟩,ob,es,ep,k _ _ (.inl rfl) e,c⟩
 |set S n=>obtain⟨ob,es,ep,t,e,c⟩:=x;exact⟨ob,es,ep,t,k _ _ (.inl rfl) e,c⟩
 |ins C dx fs=>
  obtain⟨d,z,ne,e,mA,⟨od,es,ep,e2,c⟩,r⟩:=x
  exact⟨ho _ d,z,ne,k _ _ (.inl rfl) e,mA,⟨od,es,ep,k _ _ (.inr d) e2,c⟩,r⟩
 |own y=>obtain⟨ob,e⟩:=x;exact⟨ob,k _ _ (.inl rfl) e⟩
 |xd fs=>obtain⟨mA,⟨od,es,ep,e,c⟩,r⟩:=x;exact⟨mA,⟨od,es,ep,k _ _ (.inl rfl) e,c⟩,r⟩
 |rng lo hi=>obtain⟨t,u,v,e⟩:=x;exact⟨t,u,v,k _ _ (.inl rfl) e⟩
 |frz ob u ih=>obtain⟨e,q⟩:=x;exact⟨k _ _ (.inl rfl) e,ih q⟩
 |tbl ps=>
  have e:h.get? a=some {cls:=.none,data:=.fields ps}:=x
  show h'.get? a=some {cls:=.none,data:=.fields ps}
  exact k a _ (.inl rfl) e
 |met f y=>
  have e:h.get? a=some (oi (.ref f) (.ref y)):=x
  show h'.get? a=some (oi (.ref f) (.ref y))
  exact k a _ (.inl rfl) e
 |ext φ=>obtain⟨p,⟨o,e⟩,st⟩:=x;exact⟨st _ _ p fun o q=>k _ _ (.inl rfl) q,⟨o,k _ _ (.inl rfl) e⟩,st⟩
theorem HOk.lt(x:HOk P w H h)(e:H a=some o):a<h.objs.size:=(x a o e).lt
theorem HOk.fresh(x:HOk P w H h)(e:h.objs.size≤a):H a=none:=by
 cases q:H a with
 |none=>rfl
 |some u=>exact absurd (gy (x.lt q) e) (iQ _)
theorem HOk.kept(x:HOk P w H h)(k:∀b u,h.get? b=some u→h'.get? b=some u):HOk P w H h':=fun a o e=>
 (x a o e).stay (fun b u _ q=>k b u q) (fun _ q=>q) fun _ _ q=>q
theorem HOk.laid(x:HOk P w H h)(k:∀b u,h.get? b=some u→h'.get? b=some u)(hp:h.objs.size≤a)(new:ObjOk P w (upd H a o) h' a o):HOk P w (upd H a o) h':=fun b u e=>by
 have hn:=x.fresh hp
 by_cases hb:b=a
 ·subst hb;rw[AM] at e;cases e;exact new
 ·rw[AL hb] at e
  exact(x b u e).stay (fun c v _ q=>k c v q) (fun c q=>by rw[AL (AQ q hn)];exact q) fun c xs q=>by rw[AL (AQ q hn)];exact q
end
noncomputable def Rd(H:Hp)(a:Addr)(u:HO):Prop:=H a=some u∨∃o,H a=some (.frz o u)
theorem Rd.ok{P:Program}{w:World}{H:Hp}{h:Heap}{a:Addr}{u:HO}(r:Rd H a u)(x:HOk P w H h):ObjOk P w H h a u:=by
 rcases r with r| ⟨o,r⟩
 ·exact x a u r
 ·obtain⟨_,q⟩:=x a _ r
  exact q
noncomputable def cI:Option HO→Prop
 |some (.lst _)=>True
 |some (.dK _)=>True
 |some (.dT _)=>True
 |some (.set _ _)=>True
 |some (.ins _ _ _)=>True
 |some (.ext _)=>True
 |_=>False
section
variable{P:Program}{w:World}{H:Hp}{h h':Heap}{x e:Addr}{o':HO}
theorem HOk.write(ok:HOk P w H h)(mu:cI (H x))(he:e=x∨H e=some (.own x))(k:∀b u,b≠e→h.get? b=some u→h'.get? b=some u)(heo:∃u,h'.get? e=some u)
  (new:ObjOk P w (upd H x o') h' x o'):HOk P w (upd H x o') h':=fun b u q=>by
 have nown:∀c y,H c=some (.own y)→c≠x:=fun c y r z=>by subst z;rw[r] at mu;exact mu
 have ntup:∀c xs,H c=some (.tup xs)→c≠x:=fun c xs r z=>by subst z;rw[r] at mu;exact mu
 by_cases hb:b=x
 ·subst hb;rw[AM] at q;cases q;exact new
 ·rw[AL hb] at q
  by_cases hbe:b=e
  ·have q':H b=some (.own x):=by
    rcases he with z|z
    ·exact absurd (hbe.trans z) hb
    ·rw[hbe];exact z
   rw[q] at q';cases q'
   obtain⟨v,hv⟩:=heo
   exact⟨v,by rw[hbe];exact hv⟩
  ·refine(ok b u q).stay (fun c v hc r=>k c v ?_ r) (fun c r=>by rw[AL (nown c b r)];exact r) fun c xs r=>by rw[AL (ntup c xs r)];exact r
   rcases hc with rfl|hc
   ·exact hbe
   ·rintro rfl
    rcases he with z|z
    ·exact nown c b hc z
    ·rw[hc] at z;cases z;exact hb rfl
end
structure Un(fs ex:List Addr)(H H':Hp)(h h':Heap):Prop where
 keep:∀b o,h.get? b=some o→H b=none→b∉fs→b∉ex→h'.get? b=some o
 slot:∀b o,h.get? b=some o→H b=none→b∈fs→b∉ex→∃sl,h'.get? b=some {o with slots:=sl}
 free:∀b o,h.get? b=some o→H b=none→b∉ex→H' b=none
 there:∀b o,h.get? b=some o→b∉ex→∃o',h'.get? b=some o'
 tups:∀b xs,H b=some (.tup xs)→H' b=some (.tup xs)
 frzs:∀b o u,H b=some (.frz o u)→H' b=some (.frz o u)
 tbls:∀b ps,H b=some (.tbl ps)→∃more,H' b=some (.tbl (ps++more))
section
variable{fs fs' ex ex':List Addr}{H H1 H2:Hp}{h h1 h2 h':Heap}{a x e:Addr}{o:HO}
theorem Un.any(u:Un fs ex H H1 h h1){b:Addr}{ob:Obj}(q:h.get? b=some ob)(n:H b=none)(hx:b∉ex):∃sl,h1.get? b=some {ob with slots:=sl}:=by
 by_cases hb:b∈fs
 ·exact u.slot b ob q n hb hx
 ·exact⟨ob.slots,u.keep b ob q n hb hx⟩
theorem Un.kept(k:∀b u,h.get? b=some u→h'.get? b=some u):Un fs ex H H h h':=
 ⟨fun b ob q _ _ _=>k b ob q,fun b ob q _ _ _=> ⟨ob.slots,k b ob q⟩,fun _ _ _ n _=>n,fun b ob q _=> ⟨ob,k b ob q⟩,fun _ _ q=>q,fun _ _ _ q=>q,fun _ ps q=> ⟨#[],by rw[q];simp⟩⟩
theorem Un.refl:Un fs ex H H h h:=Un.kept fun _ _ q=>q
theorem Un.laid(k:∀b u,h.get? b=some u→h'.get? b=some u)(hp:h.objs.size≤a)(hn:H a=none):Un fs ex H (upd H a o) h h' where
 keep:=fun b u q _ _ _=>k b u q
 slot:=fun b u q _ _ _=> ⟨u.slots,k b u q⟩
 free:=fun b u q n _=>by rw[AL (gL (gy (gi q) hp))];exact n
 there:=fun b u q _=> ⟨u,k b u q⟩
 tups:=fun b xs q=>by rw[AL (AQ q hn)];exact q
 frzs:=fun b u xs q=>by rw[AL (AQ q hn)];exact q
 tbls:=fun b ps q=> ⟨#[],by rw[AL (AQ q hn),q];simp⟩
theorem Un.write(mu:cI (H x))(he:e=x∨H e=some (.own x))(k:∀b u,b≠e→h.get? b=some u→h'.get? b=some u)(heo:∃u,h'.get? e=some u):Un fs ex H (upd H x o) h h':=by
 have hx:∀b,H b=none→b≠x:=fun b n z=>by subst z;rw[n] at mu;exact mu
 have hb:∀b,H b=none→b≠e:=fun b n z=>by
  subst z
  rcases he with r|r
  ·exact hx b n r
  ·rw[n] at r;cases r
 have hm:∀b u,H b=some u→¬cI (some u)→b≠x:=fun b u q nm z=>by subst z;rw[q] at mu;exact nm mu
 refine⟨fun b u q n _ _=>k b u (hb b n) q,fun b u q n _ _=> ⟨u.slots,k b u (hb b n) q⟩,fun b u q n _=>by rw[AL (hx b n)];exact n,fun b u q _=>?_,
  fun b xs q=>by rw[AL (hm b _ q fun z=>z)];exact q,fun b u xs q=>by rw[AL (hm b _ q fun z=>z)];exact q,fun b ps q=> ⟨#[],by rw[AL (hm b _ q fun z=>z),q];simp⟩⟩
 by_cases hbe:b=e
 ·subst hbe;exact heo
 ·exact⟨u,k b u hbe q⟩
end
noncomputable def cJ(h:Heap)(H:Hp):List Addr:=(gF h.objs.size).filter fun a=> (H a).isSome
noncomputable def IR(h:Heap)(H:Hp):Heap:=mx h (cJ h H)
theorem OF(h:Heap)(H:Hp):(IR h H).objs.size=h.objs.size:=PySem.W.hideAll_size _ _
theorem Pd{h:Heap}{H:Hp}{b:Addr}{o:Obj}(e:h.get? b=some o)(n:H b=none):(IR h H).get? b=some o:=
 kS _ e fun hm=>by
  have q:(H b).isSome=true:=(gq.mp hm).2
  rw[n] at q;simp at q
theorem Sz{h:Heap}{H:Hp}{b:Addr}{o:Obj}(e:(IR h H).get? b=some o):h.get? b=some o∧H b=none:=by
 have e':h.get? b=some o:=mB (cJ h H) e
 refine⟨e',?_⟩
 cases q:H b with
 |none=>rfl
 |some x=>
  have hm:b∈cJ h H:=gq.mpr ⟨gG.mpr (gi e'),by simp[q]⟩
  have z:(IR h H).get? b=none:=PySem.W.hideAll_none (cJ h H) hm
  rw[z] at e;cases e
structure Mod(K:a9)(mg:Str→Option Value)(base:Heap):Prop where
 kin:K.In base
 glob:base.Ns iP mg
 blt:∃mb,base.Ns qc mb∧∀x:Str,x≠"__name__"→mb x=ig x
 nolimit:base.NoLimit
structure Cx where
 prog:Program
 w:World
 K:a9
 mg:Str→Option Value
 base:Heap
 A:gx
 N:List Str
 s₀:Shared
 H₀:Hp
 env:Env
 outer:List Env
 stack:List Env
 ex:List Addr
 fn:Str→Bool
 calm:Bool
 pn:List (Addr×Obj)
 xe:Value→Shared→Prop
noncomputable def El(l:List Env):List Addr:=l.filterMap (·.frame)
noncomputable abbrev Cx.fs(X:Cx):List Addr:=El X.outer
noncomputable def ZN(sc:Scope)(x:Str):Prop:=sc.names.lookup x=some .local∨sc.names.lookup x=some .cell∨sc.names.lookup x=some .free
noncomputable def Su(sc:Scope)(x:Str):Prop:=sc.names.lookup x=some .local∨sc.names.lookup x=some .cell
noncomputable def cY(env:Env)(h:Heap)(m:Str→Option Value)(x:Str)(u:Value):Prop:=
 (env.kindOf x=some .local∧m x=some u)∨((env.kindOf x=some .cell∨env.kindOf x=some .free)∧∃c,env.cells.lookup x=some c∧h.IsCell c (some u))
structure Cx.Ok(X:Cx):Prop where
 mod:Mod X.K X.mg X.base
 kind:X.env.scope.kind=.function
 glob:X.env.globals=iP
 blt:X.env.builtins=qc
 above:X.s₀.heap.objs.size≤X.env.locals
 inj:∀x y c,X.env.cells.lookup x=some c→X.env.cells.lookup y=some c→x=y
 has:∀x,(X.env.kindOf x=some .cell∨X.env.kindOf x=some .free)→∃c,X.env.cells.lookup x=some c
 cab:∀x c,X.fn x=true→X.env.cells.lookup x=some c→X.s₀.heap.objs.size≤c
 hd:X.calm=true→X.A.handled=none
 frames:X.A.frames=some X.stack
 stk:X.stack=X.outer∨(X.stack=X.env::X.outer∧X.env.frame=some X.env.locals)
 exf:∀b∈X.ex,b≠X.env.locals∧∀x c,X.env.cells.lookup x=some c→c≠b
 bs:∀b o,X.base.get? b=some o→X.s₀.heap.get? b=some o∧X.H₀ b=none
 bsz:X.base.objs.size≤X.s₀.heap.objs.size
 noex:∀b o,X.base.get? b=some o→b∉X.ex
 exfs:∀b∈X.ex,b∉X.fs
 funs:X.s₀.heap.FunFrames X.base X.outer
 frf:∀b∈X.fs,X.H₀ b=none
structure Inv(X:Cx)(pins:List (Addr×Obj))(σ:List (Option V))(H:Hp)(s:Shared):Prop where
 ok:X.Ok
 os:s.os=X.s₀.os
 bare:nI s.gens
 base:Un X.fs X.ex X.H₀ H X.s₀.heap s.heap
 loc:∃m,s.heap.Ns X.env.locals m∧∀(i:Nat) (x:Str) (v:V),X.N[i]?=some x→σ[i]?=some (some v)→ZN X.env.scope x→∃u,RelV v u∧cY X.env s.heap m x u
 cell:∀x c,X.env.cells.lookup x=some c→∃v,s.heap.IsCell c v
 free:H X.env.locals=none
 freeC:∀x c,X.env.cells.lookup x=some c→H c=none
 pin:∀p∈X.pn++pins,s.heap.get? p.1=some p.2∧H p.1=none∧p.1≠X.env.locals∧p.1∉X.fs∧∀v,p.2.data≠.cell v
 hok:HOk X.prog X.w H s.heap
 len:σ.length=X.N.length
section
variable{X:Cx}{pins:List (Addr×Obj)}{σ:List (Option V)}{H H':Hp}{s:Shared}{h':Heap}
theorem Cx.Ok.nofr(ok:X.Ok){b:Addr}{o:Obj}(e:X.base.get? b=some o):b∉X.fs:=fun hb=>by
 have:=(ok.funs.mem hb).1
 rw[e] at this;cases this
theorem Inv.bs(I:Inv X pins σ H s):∀b o,X.base.get? b=some o→s.heap.get? b=some o∧H b=none:=fun b o e=>
 ⟨I.base.keep b o (I.ok.bs b o e).1 (I.ok.bs b o e).2 (I.ok.nofr e) (I.ok.noex b o e),I.base.free b o (I.ok.bs b o e).1 (I.ok.bs b o e).2 (I.ok.noex b o e)⟩
theorem Inv.bk(I:Inv X pins σ H s):∀b o,X.base.get? b=some o→s.heap.get? b=some o:=fun b o e=> (I.bs b o e).1
theorem Inv.mod(I:Inv X pins σ H s):Mod X.K X.mg X.base:=I.ok.mod
theorem Inv.kIn(I:Inv X pins σ H s):X.K.In s.heap:=I.ok.mod.kin.keeps I.bk
theorem Inv.lt(I:Inv X pins σ H s):X.env.locals<s.heap.objs.size:=let⟨_,hn,_⟩:=I.loc;hn.lt
theorem Inv.sz(I:Inv X pins σ H s):X.s₀.heap.objs.size≤s.heap.objs.size:=iq I.ok.above (mS I.lt)
theorem Inv.nofs(I:Inv X pins σ H s){a:Addr}(h:s.heap.objs.size≤a):a∉X.fs:=fun hb=>by
 obtain⟨_,o,ho,_⟩:=I.ok.funs.mem hb
 exact absurd (gy (gi ho) (iq I.sz h)) (iQ _)
theorem Inv.cne(I:Inv X pins σ H s):∀x c,X.env.cells.lookup x=some c→c≠X.env.locals:=fun x c e z=>by
 obtain⟨v,o,ho,hd⟩:=I.cell x c e
 obtain⟨m,⟨o',es,ep,ho',hd',_⟩,_⟩:=I.loc
 rw[z,ho'] at ho;cases ho;rw[hd'] at hd;cases hd
theorem Inv.funs(I:Inv X pins σ H s):s.heap.FunFrames X.base X.outer:=by
 have all:∀(l:List Env),(∀b∈El l,b∈X.fs)→X.s₀.heap.FunFrames X.base l→s.heap.FunFrames X.base l:=by
  intro l
  induction l with
  |nil=>intro _ _;trivial
  |cons env r ih=>
   intro hs hl
   obtain⟨hk,⟨L,o,hf,hn,ho,hd⟩,hr⟩:=hl
   have hL:L∈X.fs:=hs L (by unfold El;rw[i7,hf];exact gC)
   obtain⟨sl,e⟩:=I.base.slot L o ho (I.ok.frf L hL) hL fun z=>I.ok.exfs L z hL
   exact⟨hk,⟨L,_,hf,hn,e,hd⟩,ih (fun b hb=>hs b (by unfold El;rw[i7,hf];exact fk _ hb)) hr⟩
 exact all X.outer (fun _ hb=>hb) I.ok.funs
theorem Inv.stack(I:Inv X pins σ H s):s.heap.FunFrames X.base X.stack:=by
 rcases I.ok.stk with e| ⟨e,hf⟩
 ·rw[e];exact I.funs
 ·rw[e]
  obtain⟨m,hn,_⟩:=I.loc
  refine .cons (by rw[I.ok.kind];decide) hf hn ?_ I.funs
  exact Heap.get?_none_of_le (iq I.ok.bsz I.ok.above)
theorem Inv.stkSub(I:Inv X pins σ H s):∀b∈El X.stack,b∈X.env.locals::X.fs:=fun b hb=>by
 rcases I.ok.stk with e| ⟨e,hf⟩
 ·rw[e] at hb;exact fk _ hb
 ·rw[e] at hb
  unfold El at hb
  rw[i7,hf] at hb
  exact hb
theorem Inv.stkFree(I:Inv X pins σ H s):∀b∈El X.stack,H b=none:=fun b hb=>by
 rcases fu.mp (I.stkSub b hb) with e|hb
 ·rw[e];exact I.free
 ·obtain⟨_,o,ho,_⟩:=I.ok.funs.mem hb
  exact I.base.free b o ho (I.ok.frf b hb) fun z=>I.ok.exfs b z hb
theorem Inv.step{g':Array GenState}{t':Nat}{d':Drawn}{ch:List Addr}(I:Inv X pins σ H s)
  (hch:∀b∈ch,(b∈X.ex∨X.s₀.heap.objs.size≤b)∧b≠X.env.locals∧(∀x c,X.env.cells.lookup x=some c→c≠b)∧∀p∈X.pn++pins,p.1≠b)
  (keep:∀b o,b≠X.env.locals→b∉X.fs→b∉ch→s.heap.get? b=some o→H b=none→h'.get? b=some o)
  (slot:∀b o,b≠X.env.locals→b∈X.fs→b∉ch→s.heap.get? b=some o→H b=none→∃sl,h'.get? b=some {o with slots:=sl}) (free:∀b o,b∉ch→s.heap.get? b=some o→H b=none→H' b=none)
  (there:∀b o,b∉ch→s.heap.get? b=some o→∃o',h'.get? b=some o')
  (tups:∀b xs,H b=some (.tup xs)→H' b=some (.tup xs)) (frzs:∀b o u,H b=some (.frz o u)→H' b=some (.frz o u)) (tbls:∀b ps,H b=some (.tbl ps)→∃more,H' b=some (.tbl (ps++more)))
  (ns:∀m,s.heap.Ns X.env.locals m→h'.Ns X.env.locals m) (hok:HOk X.prog X.w H' h') (hg:nI g'):
  Inv X pins σ H' {s with heap:=h',gens:=g',drawn:=d',toks:=t'}:=by
 have neL:∀b o,X.s₀.heap.get? b=some o→b≠X.env.locals:=fun b o e=>gL (gy (gi e) I.ok.above)
 have neC:∀b o,X.s₀.heap.get? b=some o→b∉X.ex→b∉ch:=fun b o e hx hb=>by
  rcases(hch b hb).1 with z|z
  ·exact hx z
  ·exact absurd (gy (gi e) z) (iQ _)
 have cellK:∀x c,X.env.cells.lookup x=some c→∀v,s.heap.IsCell c v→h'.IsCell c v:=fun x c e v ⟨o,ho,hd⟩=>by
  have nch:c∉ch:=fun z=> (hch c z).2.2.1 x c e rfl
  by_cases hc:c∈X.fs
  ·obtain⟨sl,q⟩:=slot c o (I.cne x c e) hc nch ho (I.freeC x c e)
   exact⟨_,q,hd⟩
  ·exact⟨o,keep c o (I.cne x c e) hc nch ho (I.freeC x c e),hd⟩
 refine⟨I.ok,I.os,hg,⟨fun b o e n hb hx=>?_,fun b o e n hb hx=>?_,fun b o e n hx=>?_,fun b o e hx=>?_,fun b xs e=>tups b xs (I.base.tups b xs e),fun b o xs e=>frzs b o xs (I.base.frzs b o xs e),fun b ps e=>?_⟩,?_,fun x c e=>?_,?_,fun x c e=>?_,fun p hp=>?_,hok,I.len⟩
 ·exact keep b o (neL b o e) hb (neC b o e hx) (I.base.keep b o e n hb hx) (I.base.free b o e n hx)
 ·obtain⟨sl,e1⟩:=I.base.slot b o e n hb hx
  obtain⟨sl',e2⟩:=slot b _ (neL b o e) hb (neC b o e hx) e1 (I.base.free b o e n hx)
  exact⟨sl',e2⟩
 ·obtain⟨o',e1⟩:=I.base.there b o e hx
  exact free b o' (neC b o e hx) e1 (I.base.free b o e n hx)
 ·obtain⟨o',e1⟩:=I.base.there b o e hx
  exact there b o' (neC b o e hx) e1
 ·obtain⟨m1,e1⟩:=I.base.tbls b ps e
  obtain⟨m2,e2⟩:=tbls b _ e1
  exact⟨m1++m2,by rw[e2,Array.append_assoc]⟩
 ·obtain⟨m,hn,hl⟩:=I.loc
  refine⟨m,ns m hn,fun i x v e1 e2 e3=>?_⟩
  obtain⟨u,r,l⟩:=hl i x v e1 e2 e3
  refine⟨u,r,?_⟩
  rcases l with l| ⟨k,c,e,z⟩
  ·exact .inl l
  ·exact .inr ⟨k,c,e,cellK x c e _ z⟩
 ·obtain⟨v,z⟩:=I.cell x c e
  exact⟨v,cellK x c e v z⟩
 ·obtain⟨m,⟨o,_,_,ho,_⟩,_⟩:=I.loc
  exact free _ o (fun z=> (hch _ z).2.1 rfl) ho I.free
 ·obtain⟨v,o,ho,hd⟩:=I.cell x c e
  exact free c o (fun z=> (hch c z).2.2.1 x c e rfl) ho (I.freeC x c e)
 ·obtain⟨e,n,ne,nf,d⟩:=I.pin p hp
  have nch:p.1∉ch:=fun z=> (hch p.1 z).2.2.2 p hp rfl
  exact⟨keep p.1 p.2 ne nf nch e n,free p.1 p.2 nch e n,ne,nf,d⟩
theorem Inv.un{t':Nat}(I:Inv X pins σ H s)(u:Un X.fs [] H H' s.heap h')(hok:HOk X.prog X.w H' h'):Inv X pins σ H' {s with heap:=h',toks:=t'}:=by
 obtain⟨m,⟨o,es,ep,ho,r⟩,_⟩:=id I.loc
 obtain⟨sl,hL⟩:=u.any ho I.free (by simp)
 exact I.step (g':=s.gens) (d':=s.drawn) (ch:=[]) (fun _ z=>nomatch z) (fun b o _ hb _ e n=>u.keep b o e n hb (by simp)) (fun b o _ hb _ e n=>u.slot b o e n hb (by simp)) (fun b o _ e n=>u.free b o e n (by simp)) (fun b o _ e=>u.there b o e (by simp)) u.tups u.frzs u.tbls (fun m' hm=>by
  obtain⟨o',es',ep',ho',r'⟩:=hm
  rw[ho] at ho';cases ho'
  exact⟨_,es',ep',hL,r'⟩) hok I.bare
theorem Inv.call{g':Array GenState}{t':Nat}{d':Drawn}{ch:List Addr}(I:Inv X pins σ H s)(u:Un (El X.stack) ch H H' s.heap h')(hok:HOk X.prog X.w H' h')(hg:nI g')
  (hch:∀b∈ch,(b∈X.ex∨X.s₀.heap.objs.size≤b)∧b≠X.env.locals∧(∀x c,X.env.cells.lookup x=some c→c≠b)∧∀p∈X.pn++pins,p.1≠b):
  Inv X pins σ H' {s with heap:=h',gens:=g',drawn:=d',toks:=t'}:=by
 obtain⟨m,⟨o,es,ep,ho,r⟩,_⟩:=id I.loc
 obtain⟨sl,hL⟩:=u.any ho I.free fun z=> (hch _ z).2.1 rfl
 exact I.step (ch:=ch) hch (fun b o hL hb hc e n=>u.keep b o e n (fun z=> (fu.mp (I.stkSub b z)).elim hL hb) hc) (fun b o _ _ hc e n=>u.any e n hc) (fun b o hc e n=>u.free b o e n hc) (fun b o hc e=>u.there b o e hc) u.tups u.frzs u.tbls (fun m' hm=>by
  obtain⟨o',es',ep',ho',r'⟩:=hm
  rw[ho] at ho';cases ho'
  exact⟨_,es',ep',hL,r'⟩) hok hg
theorem Inv.turned{t':Nat}{it:Addr}(I:Inv X pins σ H s)(k:∀b o,b≠it→s.heap.get? b=some o→h'.get? b=some o)(hn:H it=none)(hL:it≠X.env.locals)
  (h1:it∈X.ex∨X.s₀.heap.objs.size≤it) (h2:∀x c,X.env.cells.lookup x=some c→c≠it) (h3:∀p∈X.pn++pins,p.1≠it):Inv X pins σ H {s with heap:=h',toks:=t'}:=by
 have nit:∀b u,H b=some u→b≠it:=fun b u e z=>by rw[z,hn] at e;cases e
 refine I.step (g':=s.gens) (d':=s.drawn) (ch:=[it]) (fun b hb=>?_) (fun b o _ _ hc e _=>k b o (fun z=>hc (by simp[z])) e) (fun b o _ _ hc e _=> ⟨o.slots,k b o (fun z=>hc (by simp[z])) e⟩) (fun _ _ _ _ n=>n)
  (fun b o hc e=> ⟨o,k b o (fun z=>hc (by simp[z])) e⟩) (fun _ _ e=>e) (fun _ _ _ e=>e) (fun b ps e=> ⟨#[],by rw[e];simp⟩) (fun m hm=>?_) (fun b u e=>?_) I.bare
 ·have e:b=it:=by simpa using hb
  subst e
  exact⟨h1,hL,h2,h3⟩
 ·obtain⟨o,es,ep,ho,r⟩:=hm
  exact⟨o,es,ep,k _ o (Ne.symm hL) ho,r⟩
 ·refine(I.hok b u e).stay (fun c v hc q=>k c v ?_ q) (fun _ q=>q) fun _ _ q=>q
  rcases hc with z|z
  ·rw[z];exact nit b u e
  ·exact nit c _ z
theorem Inv.tok(I:Inv X pins σ H s)(t:Nat):Inv X pins σ H {s with toks:=t}:=I.un (h':=s.heap) (t':=t) Un.refl I.hok
theorem Inv.kept{t':Nat}(I:Inv X pins σ H s)(k:∀b u,s.heap.get? b=some u→h'.get? b=some u):Inv X pins σ H {s with heap:=h',toks:=t'}:=I.un (Un.kept k) (I.hok.kept k)
theorem Inv.laid{a:Addr}{o:HO}{t':Nat}(I:Inv X pins σ H s)(k:∀b u,s.heap.get? b=some u→h'.get? b=some u)(hp:s.heap.objs.size≤a)(new:ObjOk X.prog X.w (upd H a o) h' a o):
  Inv X pins σ (upd H a o) {s with heap:=h',toks:=t'}:=I.un (Un.laid k hp (I.hok.fresh hp)) (I.hok.laid k hp new)
theorem Inv.write{x e:Addr}{o:HO}{t':Nat}(I:Inv X pins σ H s)(mu:cI (H x))(he:e=x∨H e=some (.own x))(k:∀b u,b≠e→s.heap.get? b=some u→h'.get? b=some u)(heo:∃u,h'.get? e=some u)
  (new:ObjOk X.prog X.w (upd H x o) h' x o):Inv X pins σ (upd H x o) {s with heap:=h',toks:=t'}:=I.un (Un.write mu he k heo) (I.hok.write mu he k heo new)
theorem Inv.weak{σ':List (Option V)}(I:Inv X pins σ H s)(hl:σ'.length=σ.length)(w:∀(i:Nat) v,σ'[i]?=some (some v)→σ[i]?=some (some v)):Inv X pins σ' H s:=
 ⟨I.ok,I.os,I.bare,I.base,let⟨m,hn,hl'⟩:=I.loc;⟨m,hn,fun i x v e1 e2 e3=>hl' i x v e1 (w i v e2) e3⟩,I.cell,I.free,I.freeC,I.pin,I.hok,hl.trans I.len⟩
theorem Inv.pins_of{pins':List (Addr×Obj)}(I:Inv X pins σ H s)(h:∀p∈pins',s.heap.get? p.1=some p.2∧H p.1=none∧p.1≠X.env.locals∧p.1∉X.fs∧∀v,p.2.data≠.cell v):Inv X pins' σ H s:=
 ⟨I.ok,I.os,I.bare,I.base,I.loc,I.cell,I.free,I.freeC,fun p hp=> (gu.mp hp).elim (fun z=>I.pin p (iR _ z)) (h p),I.hok,I.len⟩
theorem Ft{N:List Str}(hN:N.Nodup){i j:Nat}{x:Str}(a:N[i]?=some x)(b:N[j]?=some x):i=j:=by
 obtain⟨h1,e1⟩:=gh.mp a
 obtain⟨h2,e2⟩:=gh.mp b
 exact(List.getElem_inj hN).mp (e1.trans e2.symm)
theorem HZ{M:Model}{A:gx}{E:Value→Shared→Prop}{i:Nat}{x:Str}{v:V}{u:Value}{Q:Unit→Shared→Prop}(I:Inv X pins σ H s)(hN:X.N.Nodup)(hi:X.N[i]?=some x)(hx:Su X.env.scope x)(r:RelV v u)
  (h:∀s',Inv X pins (σ.set i (some v)) H s'→(∃a,lD a s.heap s'.heap∧(a=X.env.locals∨X.env.cells.lookup x=some a))→Q () s') (hf:X.fn x=true∨X.env.scope.names.lookup x=some .local:=by first|exact .inl rfl|exact .inr rfl|assumption):wpAny M A (storeName X.env x u) Q E s:=by
 obtain⟨m,hn,hl⟩:=id I.loc
 have hcls:(X.env.scope.kind==.class|| (X.env.scope.kind==.module&&X.env.locals !=X.env.globals))=false:=by rw[I.ok.kind];rfl
 have hiσ:i<σ.length:=by rw[I.len];exact(gh.mp hi).1
 have cne:=I.cne
 have tracked:∀{a:Addr} {h':Heap},(∃o,s.heap.get? a=some o∧H a=none)→lD a s.heap h'→HOk X.prog X.w H h':=fun{a h'} ha hs b ob e=>by
  obtain⟨_,_,hfree⟩:=ha
  refine(I.hok b ob e).stay (fun c w' hc q=> (hs.2 c ?_).trans q) (fun _ q=>q) fun _ _ q=>q
  rintro rfl
  rcases hc with rfl|hc
  ·rw[hfree] at e;cases e
  ·rw[hfree] at hc;cases hc
 rcases hx with hk|hk
 ·refine wpAny_storeName_local hk hn (fun h' hn' hs=>?_) hcls
  obtain⟨oL,_,_,hoL,_⟩:=id hn
  refine h _ ⟨I.ok,I.os,I.bare,⟨fun b o e n hb hx=>?_,fun b o e n hb hx=>?_,I.base.free,fun b o e hx=>?_,I.base.tups,I.base.frzs,I.base.tbls⟩,⟨_,hn',fun j y v' e1 e2 e3=>?_⟩,fun y c e=>?_,I.free,I.freeC,fun p hp=>?_,tracked ⟨oL,hoL,I.free⟩ hs,by simpa using I.len⟩ ⟨_,hs,.inl rfl⟩
  ·exact(hs.2 b (gL (gy (gi e) I.ok.above))).trans (I.base.keep b o e n hb hx)
  ·obtain⟨sl,e1⟩:=I.base.slot b o e n hb hx
   exact⟨sl,(hs.2 b (gL (gy (gi e) I.ok.above))).trans e1⟩
  ·obtain⟨o',e1⟩:=I.base.there b o e hx
   exact⟨o',(hs.2 b (gL (gy (gi e) I.ok.above))).trans e1⟩
  ·by_cases hj:j=i
   ·subst hj
    rw[hi] at e1;cases e1
    rw[gW hiσ] at e2
    cases e2
    exact⟨u,r,.inl ⟨hk,by simp⟩⟩
   ·rw[gQ (Ne.symm hj)] at e2
    obtain⟨u',r',q⟩:=hl j y v' e1 e2 e3
    refine⟨u',r',?_⟩
    rcases q with⟨k,e⟩| ⟨k,c,e,z⟩
    ·refine .inl ⟨k,?_⟩
     have:y≠x:=fun e=>hj (Ft hN e1 (e▸hi))
     simp[this,e]
    ·exact .inr ⟨k,c,e,z.sameBut hs (cne y c e)⟩
  ·obtain⟨w',z⟩:=I.cell y c e
   exact⟨w',z.sameBut hs (cne y c e)⟩
  ·obtain⟨e,n,ne,nf,d⟩:=I.pin p hp
   exact⟨(hs.2 p.1 ne).trans e,n,ne,nf,d⟩
 ·have hfn:X.fn x=true:=by
   rcases hf with z|z
   ·exact z
   ·rw[z] at hk;cases hk
  obtain⟨c,hc⟩:=I.ok.has x (.inl hk)
  obtain⟨w',z⟩:=I.cell x c hc
  refine wpAny_storeName_cell I.ok.kind hk hc z (fun h' hc' hs=>?_)
  obtain⟨oc,hoc,hocd⟩:=id z
  refine h {s with heap:=h'} ⟨I.ok,I.os,I.bare,⟨fun b o e n hb hx=>?_,fun b o e n hb hx=>?_,I.base.free,fun b o e hx=>?_,I.base.tups,I.base.frzs,I.base.tbls⟩,⟨m,hn.sameBut hs (Ne.symm (cne x c hc)),fun j y v' e1 e2 e3=>?_⟩,fun y c' e=>?_,I.free,I.freeC,fun p hp=>?_,tracked ⟨oc,hoc,I.freeC x c hc⟩ hs,by simpa using I.len⟩ ⟨c,hs,.inr hc⟩
  ·exact(hs.2 b (gL (gy (gi e) (I.ok.cab x c hfn hc)))).trans (I.base.keep b o e n hb hx)
  ·obtain⟨sl,e1⟩:=I.base.slot b o e n hb hx
   exact⟨sl,(hs.2 b (gL (gy (gi e) (I.ok.cab x c hfn hc)))).trans e1⟩
  ·obtain⟨o',e1⟩:=I.base.there b o e hx
   exact⟨o',(hs.2 b (gL (gy (gi e) (I.ok.cab x c hfn hc)))).trans e1⟩
  ·by_cases hj:j=i
   ·subst hj
    rw[hi] at e1;cases e1
    rw[gW hiσ] at e2
    cases e2
    exact⟨u,r,.inr ⟨.inl hk,c,hc,hc'⟩⟩
   ·rw[gQ (Ne.symm hj)] at e2
    obtain⟨u',r',q⟩:=hl j y v' e1 e2 e3
    refine⟨u',r',?_⟩
    rcases q with q| ⟨k,c',e,z'⟩
    ·exact .inl q
    ·refine .inr ⟨k,c',e,z'.sameBut hs ?_⟩
     rintro rfl
     exact hj (Ft hN e1 (I.ok.inj _ _ _ e hc▸hi))
  ·by_cases hcc:c'=c
   ·subst hcc;exact⟨_,hc'⟩
   ·obtain⟨w2,z2⟩:=I.cell y c' e
    exact⟨w2,z2.sameBut hs hcc⟩
  ·obtain⟨e,n,ne,nf,d⟩:=I.pin p hp
   refine⟨(hs.2 p.1 ?_).trans e,n,ne,nf,d⟩
   intro q
   rw[q,hoc] at e
   have q':oc=p.2:=gZ.inj e
   exact d w' (by rw[←q'];exact hocd)
theorem BL{M:Model}{A:gx}{E:Value→Shared→Prop}{i:Nat}{x:Str}{v:V}{u:Value}{Q:Unit→Shared→Prop}(I:Inv X pins σ H s)(hN:X.N.Nodup)(hi:X.N[i]?=some x)(hx:Su X.env.scope x)(r:RelV v u)
  (h:∀s',Inv X pins (σ.set i (some v)) H s'→Q () s') (hf:X.fn x=true∨X.env.scope.names.lookup x=some .local:=by first|exact .inl rfl|exact .inr rfl|assumption):wpAny M A (storeName X.env x u) Q E s:=
 HZ I hN hi hx r (fun s' I' _=>h s' I') hf
theorem Inv.call'{s':Shared}{ch:List Addr}(I:Inv X pins σ H s)(ho:s'.os=s.os)(u:Un (El X.stack) ch H H' s.heap s'.heap)(hok:HOk X.prog X.w H' s'.heap)(hg:nI s'.gens)
  (hch:∀b∈ch,(b∈X.ex∨X.s₀.heap.objs.size≤b)∧b≠X.env.locals∧(∀x c,X.env.cells.lookup x=some c→c≠b)∧∀p∈X.pn++pins,p.1≠b):Inv X pins σ H' s':=by
 obtain⟨h',g',d',t',o'⟩:=s'
 have e:o'=s.os:=ho
 subst e
 exact I.call (g':=g') (t':=t') (d':=d') u hok hg hch
end
noncomputable abbrev XK:=Value→Option Addr→Hp→Prop
noncomputable abbrev St:=List (Option V)
noncomputable abbrev VK:=V→Hp→Prop
noncomputable abbrev TE:=St→Hp→VK→Prop
noncomputable abbrev TT:=St→Hp→(Bool→Hp→Prop)→Prop
noncomputable abbrev TA:=St→Hp→(List V→Hp→Prop)→Prop
structure Ends where
 nx:St→Hp→Prop
 rt:VK
 bk:St→Hp→Prop:=fun _ _=>False
 ct:St→Hp→Prop:=fun _ _=>False
noncomputable abbrev TS:=Ends→St→Hp→Prop
noncomputable def EP(X:Cx)(pins:List (Addr×Obj))(σ:St)(Q:VK)(u:Value)(s':Shared):Prop:=∃v H',Inv X pins σ H' s'∧RelV v u∧Q v H'
noncomputable def TP(X:Cx)(pins:List (Addr×Obj))(σ:St)(Q:Bool→Hp→Prop)(b:Bool)(s':Shared):Prop:=∃H',Inv X pins σ H' s'∧Q b H'
noncomputable def AP(X:Cx)(pins:List (Addr×Obj))(σ:St)(Q:List V→Hp→Prop)(us:List Value)(s':Shared):Prop:=∃vs H',Inv X pins σ H' s'∧Vals vs us∧Q vs H'
noncomputable def SP(X:Cx)(pins:List (Addr×Obj))(D:Ends)(f:Flow)(s':Shared):Prop:=
 match f with
 | .next=>∃σ' H',Inv X pins σ' H' s'∧D.nx σ' H'
 | .brk=>∃σ' H',Inv X pins σ' H' s'∧D.bk σ' H'
 | .cont=>∃σ' H',Inv X pins σ' H' s'∧D.ct σ' H'
 | .ret u=>∃v σ' H',Inv X pins σ' H' s'∧RelV v u∧D.rt v H'
noncomputable def PE(X:Cx)(e:Expr)(t:TE):Prop:=
 ∀(pins:List (Addr×Obj)) (s:Shared) (σ:St) (H:Hp) (Q:VK),Inv X pins σ H s→t σ H Q→wpAny (model X.prog X.w) X.A (eval e X.env) (EP X pins σ Q) X.xe s
noncomputable def PT(X:Cx)(e:Expr)(t:TT):Prop:=
 ∀(pins:List (Addr×Obj)) (s:Shared) (σ:St) (H:Hp) (Q:Bool→Hp→Prop),Inv X pins σ H s→t σ H Q→wpAny (model X.prog X.w) X.A (isTrue e X.env (eval e X.env)) (TP X pins σ Q) X.xe s
noncomputable def PW(X:Cx)(e:Expr)(t:TT):Prop:=
 ∀(whole:Sem Value) (pins:List (Addr×Obj)) (s:Shared) (σ:St) (H:Hp) (Q:Bool→Hp→Prop),Inv X pins σ H s→t σ H Q→wpAny (model X.prog X.w) X.A (isTrue e X.env whole) (TP X pins σ Q) X.xe s
theorem PW.pt{X:Cx}{e:Expr}{t:TT}(h:PW X e t):PT X e t:=h _
noncomputable def PA(X:Cx)(es:List Expr)(t:TA):Prop:=
 ∀(pos:Pos) (pins:List (Addr×Obj)) (s:Shared) (σ:St) (H:Hp) (Q:List V→Hp→Prop),Inv X pins σ H s→t σ H Q→wpAny (model X.prog X.w) X.A (spliced (jS pos (fj es X.env))) (AP X pins σ Q) X.xe s
noncomputable def PS(X:Cx)(st:Stmt)(t:TS):Prop:=
 ∀(pins:List (Addr×Obj)) (s:Shared) (σ:St) (H:Hp) (D:Ends),Inv X pins σ H s→t D σ H→wpAny (model X.prog X.w) X.A (exec st X.env) (SP X pins D) X.xe s
noncomputable def PSs(X:Cx)(st:List Stmt)(t:TS):Prop:=
 ∀(pins:List (Addr×Obj)) (s:Shared) (σ:St) (H:Hp) (D:Ends),Inv X pins σ H s→t D σ H→wpAny (model X.prog X.w) X.A (execs st X.env) (SP X pins D) X.xe s
theorem An{α:Type}{t:Sem α}{Q Q':α→Shared→Prop}{M:Model}{A:gx}{E:Value→Shared→Prop}{s:Shared}(h:wpAny M A t Q E s)(hQ:∀a s,Q a s→Q' a s):wpAny M A t Q' E s:=jG h hQ fun _ _ x=>x
section
variable{X:Cx}
noncomputable def ZW(i:Nat):TE:=fun σ H Q=>∃v,σ[i]?=some (some v)∧Q v H
noncomputable def tC(v:V):TE:=fun _ H Q=>Q v H
theorem Pe{i:Nat}{x:Str}{pos:Pos}(hN:X.N[i]?=some x)(hv:ZN X.env.scope x)(hd:(x==("__debug__" :Str))=false:=by decide)(hcd:(x==("__classdict__" :Str))=false:=by decide):PE X (.Name x pos) (ZW i):=by
 intro pins s σ H Q I h
 obtain⟨v,e,h⟩:=h
 obtain⟨m,hn,hl⟩:=I.loc
 obtain⟨u,r,l⟩:=hl i x v hN e hv
 have fin:EP X pins σ Q u s:=⟨v,H,I,r,h⟩
 rcases l with⟨hk,hm⟩| ⟨hk,c,hc,hcell⟩
 ·exact wpAny_Name (wpAny_loadName_local I.ok.kind hk hn hm fin) hd
 ·rcases hk with hk|hk
  ·exact wpAny_Name (wpAny_loadName_cell I.ok.kind hk hc hcell fin) hd
  ·exact wpAny_Name (wpAny_loadName_free I.ok.kind hk hc hcell fin hcd) hd
theorem LJ{i j pos}:PE X (.Constant (.int i) j pos) (tC (.int i)):=fun _ _ _ H _ I h=>wpAny_Constant_int ⟨.int i,H,I.tok _,⟨_,rfl⟩,h⟩
theorem Pf{b j pos}:PE X (.Constant (.bool b) j pos) (tC (.bl b)):=fun _ _ _ H _ I h=>Constant_bool ⟨.bl b,H,I,rfl,h⟩
theorem WX{j pos}:PE X (.Constant .none j pos) (tC .non):=fun _ _ _ H _ I h=>Constant_none ⟨.non,H,I,rfl,h⟩
theorem Bz{x j pos}:PE X (.Constant (.str x) j pos) (tC (.str x)):=fun _ _ _ H _ I h=>Calls.Constant_str ⟨.str x,H,I.tok _,⟨_,rfl⟩,h⟩
noncomputable def Gl(X:Cx)(x:Str):Prop:=X.env.kindOf x=some .globalImplicit
theorem EC{E:Value→Shared→Prop}{pins:List (Addr×Obj)}{s:Shared}{σ:St}{H:Hp}{x:Str}{u:Value}{pos:Pos}{Q:Value→Shared→Prop}(I:Inv X pins σ H s)(hg:Gl X x)(hm:X.mg x=some u)(h:Q u s)
  (hd:(x==("__debug__" :Str))=false:=by decide):wpAny (model X.prog X.w) X.A (eval (.Name x pos) X.env) Q E s:=
 Calls.Name_function_global I.ok.kind hg (Calls.loadGlobal_global (by rw[I.ok.glob];exact I.mod.glob.keeps I.bk) hm h) hd
theorem Em{E:Value→Shared→Prop}{pins:List (Addr×Obj)}{s:Shared}{σ:St}{H:Hp}{x:Str}{u:Value}{pos:Pos}{Q:Value→Shared→Prop}(I:Inv X pins σ H s)(hg:Gl X x)(hm:X.mg x=none)(hv:ig x=some u)(h:Q u s)
  (hn:x≠"__name__":=by decide) (hd:(x==("__debug__" :Str))=false:=by decide):wpAny (model X.prog X.w) X.A (eval (.Name x pos) X.env) Q E s:=by
 obtain⟨mb,h1,h2⟩:=I.mod.blt
 exact Calls.Name_function_global I.ok.kind hg (Calls.loadGlobal_builtin (by rw[I.ok.glob];exact I.mod.glob.keeps I.bk) hm (by rw[I.ok.blt];exact h1.keeps I.bk) ((h2 x hn).trans hv) h) hd
theorem Bc{x:Str}{v:V}{u:Value}{pos:Pos}(hg:Gl X x)(hm:X.mg x=some u)(r:RelV v u)(hd:(x==("__debug__" :Str))=false:=by decide):PE X (.Name x pos) (tC v):=
 fun _ _ _ H _ I h=>EC I hg hm ⟨v,H,I,r,h⟩ hd
theorem Mp{x:Str}{v:V}{u:Value}{pos:Pos}(hg:Gl X x)(hm:X.mg x=none)(hv:ig x=some u)(r:RelV v u)(hn:x≠"__name__":=by decide)(hd:(x==("__debug__" :Str))=false:=by decide):PE X (.Name x pos) (tC v):=
 fun _ _ _ H _ I h=>Em I hg hm hv ⟨v,H,I,r,h⟩ hn hd
variable{a b:Expr}{ta tb:TE}{pos:Pos}
variable{tA tB':TT}{rest:List Expr}
noncomputable def cZ(t u:TT):TT:=fun σ H Q=>t σ H fun c H1=>if c=true then u σ H1 Q else Q false H1
noncomputable def eW(t u:TT):TT:=fun σ H Q=>t σ H fun c H1=>if c=true then Q true H1 else u σ H1 Q
noncomputable def cb(t:TT):TT:=fun σ H Q=>t σ H fun c H1=>Q (!c) H1
theorem TB(ha:PT X a tA):PW X (.BoolOp .And [a] pos) tA:=by
 intro wh pins s σ H Q I h
 refine isTrue_and (An (ha pins s σ H Q I h) fun c s1 e=>?_)
 cases c with
 |true=>exact isTrue_and_nil e
 |false=>exact e
theorem Pg(ha:PT X a tA):PW X (.BoolOp .Or [a] pos) tA:=by
 intro wh pins s σ H Q I h
 refine isTrue_or (An (ha pins s σ H Q I h) fun c s1 e=>?_)
 cases c with
 |false=>exact isTrue_or_nil e
 |true=>exact e
theorem WY(ha:PT X a tA)(hb:PW X (.BoolOp .And (b::rest) pos) tB'):PW X (.BoolOp .And (a::b::rest) pos) (cZ tA tB'):=by
 intro wh pins s σ H Q I h
 refine isTrue_and (An (ha pins s σ H _ I h) fun c s1 ⟨H1,I1,q1⟩=>?_)
 cases c with
 |true=>exact hb wh pins s1 σ H1 Q I1 q1
 |false=>exact⟨H1,I1,q1⟩
theorem VZ(ha:PT X a tA)(hb:PW X (.BoolOp .Or (b::rest) pos) tB'):PW X (.BoolOp .Or (a::b::rest) pos) (eW tA tB'):=by
 intro wh pins s σ H Q I h
 refine isTrue_or (An (ha pins s σ H _ I h) fun c s1 ⟨H1,I1,q1⟩=>?_)
 cases c with
 |true=>exact⟨H1,I1,q1⟩
 |false=>exact hb wh pins s1 σ H1 Q I1 q1
theorem Ph(ha:PT X a tA):PT X (.UnaryOp .Not a pos) (cb tA):=by
 intro pins s σ H Q I h
 exact isTrue_not (ha pins s σ H (fun c H1=>Q (!c) H1) I h)
noncomputable def ZX(ta tb:TE):TE:=fun σ H Q=>ta σ H fun x H1=>∃c,x=.bl c∧if c=true then tb σ H1 Q else Q (.bl false) H1
noncomputable def ZY(ta:TE):TE:=fun σ H Q=>ta σ H fun x H1=>∃c,x=.bl c∧Q (.bl (!c)) H1
theorem WZ{op}{t:TE}(h:PE X a t):PE X (.BoolOp op [a] pos) t:=fun pins s σ H Q I hw=>BoolOp_one (h pins s σ H Q I hw)
theorem Wa(ha:PE X a ta)(hb:PE X (.BoolOp .And (b::rest) pos) tb):PE X (.BoolOp .And (a::b::rest) pos) (ZX ta tb):=by
 intro pins s σ H Q I h
 refine BoolOp_and (An (ha pins s σ H _ I h) fun v s1 ⟨x,H1,I1,r1,q1⟩=>?_)
 obtain⟨c,rfl,q1⟩:=q1
 cases r1
 refine j3 ?_
 cases c with
 |true=>exact hb pins s1 σ H1 Q I1 q1
 |false=>exact⟨.bl false,H1,I1,rfl,q1⟩
theorem Wb(ha:PE X a ta):PE X (.UnaryOp .Not a pos) (ZY ta):=by
 intro pins s σ H Q I h
 refine UnaryOp_ (An (ha pins s σ H _ I h) fun v s1 ⟨x,H1,I1,r1,q1⟩=>?_)
 obtain⟨c,rfl,q1⟩:=q1
 cases r1
 exact not_of (j3 ⟨.bl (!c),H1,I1,rfl,q1⟩)
noncomputable def eX(t:TT)(ta tb:TE):TE:=fun σ H Q=>t σ H fun c H1=>if c=true then ta σ H1 Q else tb σ H1 Q
theorem Pi{c:Expr}(hc:PT X c tA)(ha:PE X a ta)(hb:PE X b tb):PE X (.IfExp c a b pos) (eX tA ta tb):=by
 intro pins s σ H Q I h
 refine wpAny_IfExp (An (hc pins s σ H _ I h) fun d s1 ⟨H1,I1,q1⟩=>?_)
 cases d with
 |true=>exact ha pins s1 σ H1 Q I1 q1
 |false=>exact hb pins s1 σ H1 Q I1 q1
end
noncomputable def SqL(K:a9)(H:Hp)(a:Addr)(xs:List V):Prop:=
 Rd H a (.lst xs)∨
  ∃(o:Obj) (its:Array Value) (n:Nat),K.lookup a=some o∧o.cls=.type "list"∧o.dict=none∧o.data=.seq its n∧its.size≤sizeLine∧Vals xs its.toList
noncomputable def FV(K:a9)(H:Hp)(a:Addr)(xs:List V):Prop:=
 Rd H a (.tup xs)∨
  ∃(o:Obj) (its:Array Value) (n:Nat),K.lookup a=some o∧o.cls=.type "tuple"∧o.data=.seq its n∧its.size≤sizeLine∧Vals xs its.toList
noncomputable def cc:Value→Option V
 | .none=>some .non
 | .bool b=>some (.bl b)
 | .int i _=>some (.int i)
 | .str x _=>some (.str x)
 | .bytes b _=>some (.byt b)
 | .float b _=>some (.flt b)
 | .ref a=>some (.ref a)
 | .type n=>some (.ty n)
 |_=>none
theorem RelV.abs{x:V}{u:Value}(r:RelV x u):cc u=some x:=by
 cases x with
 |non=>cases r;rfl
 |bl _=>cases r;rfl
 |int _=>obtain⟨t,rfl⟩:=r;rfl
 |str _=>obtain⟨t,rfl⟩:=r;rfl
 |byt _=>obtain⟨t,rfl⟩:=r;rfl
 |flt _=>obtain⟨t,rfl⟩:=r;rfl
 |ref _=>cases r;rfl
 |ty _=>cases r;rfl
theorem RelV.inj{x y:V}{u:Value}(r:RelV x u)(q:RelV y u):x=y:=gZ.inj (r.abs.symm.trans q.abs)
theorem Vals.inj:∀{xs ys:List V} {us:List Value},Vals xs us→Vals ys us→xs=ys
 |_,_,_,.nil,.nil=>rfl
 |_,_,_,.cons r t,.cons r' t'=>by rw[r.inj r',Vals.inj t t']
section
variable{X:Cx}{pins:List (Addr×Obj)}{σ:St}{H:Hp}{s:Shared}{a:Addr}{xs ys:List V}
theorem SqL.of{K:a9}(h:H a=some (.lst xs)):SqL K H a xs:=.inl (.inl h)
theorem Inv.list(I:Inv X pins σ H s)(h:SqL X.K H a xs):∃its:List Value,Vals xs its∧PlainL s.heap a its.toArray∧xs.length≤sizeLine:=by
 rcases h with h| ⟨o,its,n,hk,hc,hd,hs,hz,r⟩
 ·obtain⟨z,its,n,r,e⟩:=h.ok I.hok
  exact⟨its,r,⟨_,n,e,rfl,rfl,rfl⟩,z⟩
 ·refine⟨its.toList,r,⟨o,n,I.kIn a o hk,hc,hd,by simpa using hs⟩,?_⟩
  have e:=r.length
  simp only[fw] at e
  omega
theorem Inv.tuple(I:Inv X pins σ H s)(h:FV X.K H a xs):∃its:List Value,Vals xs its∧IsTup s.heap a its.toArray∧xs.length≤sizeLine:=by
 rcases h with h| ⟨o,its,n,hk,hc,hs,hz,r⟩
 ·obtain⟨z,its,r,p⟩:=h.ok I.hok
  exact⟨its,r,p,z⟩
 ·refine⟨its.toList,r,⟨o,I.kIn a o hk,hc,n,by simpa using hs⟩,?_⟩
  have e:=r.length
  simp only[fw] at e
  omega
theorem Inv.list_inj(I:Inv X pins σ H s)(h:SqL X.K H a xs)(h':SqL X.K H a ys):xs=ys:=by
 obtain⟨its,r,⟨o,n,e,_,_,d⟩,_⟩:=I.list h
 obtain⟨its',r',⟨o',n',e',_,_,d'⟩,_⟩:=I.list h'
 rw[e] at e';cases e'
 rw[d] at d'
 injection d' with d1 _
 have:its=its':=by simpa using congrArg Array.toList d1
 subst this
 exact r.inj r'
theorem Inv.tuple_inj(I:Inv X pins σ H s)(h:FV X.K H a xs)(h':FV X.K H a ys):xs=ys:=by
 obtain⟨its,r,⟨o,e,_,n,d⟩,_⟩:=I.tuple h
 obtain⟨its',r',⟨o',e',_,n',d'⟩,_⟩:=I.tuple h'
 rw[e] at e';cases e'
 rw[d] at d'
 injection d' with d1 _
 have:its=its':=by simpa using congrArg Array.toList d1
 subst this
 exact r.inj r'
end
section
variable{X:Cx}{pins:List (Addr×Obj)}{σ:St}{H:Hp}{s:Shared}{E:Value→Shared→Prop}
end
section
variable{X:Cx}{st:Stmt}{rest:List Stmt}{t u:TS}{e:Expr}{te:TE}{pos:Pos}
noncomputable def ZZ:TS:=fun D σ H=>D.nx σ H
noncomputable def cf(t u:TS):TS:=fun D σ H=>t {D with nx:=u D} σ H
theorem IS:PSs X [] ZZ:=fun _ _ σ H _ I h=>mw ⟨σ,H,I,h⟩
theorem DF(h1:PS X st t)(h2:PSs X rest u):PSs X (st::rest) (cf t u):=by
 intro pins s σ H D I h
 refine wpAny_execs_cons (An (h1 pins s σ H {D with nx:=u D} I h) fun f s1 q=>?_)
 cases f with
 |next=>
  obtain⟨σ',H',I',q⟩:=q
  exact h2 pins s1 σ' H' D I' q
 |ret v=>exact q
 |brk=>exact q
 |cont=>exact q
theorem ED(h1:PS X st t):PSs X [st] t:=by
 intro pins s σ H D I h
 refine wpAny_execs_cons (An (h1 pins s σ H D I h) fun f s1 q=>?_)
 cases f with
 |next=>exact mw q
 |ret v=>exact q
 |brk=>exact q
 |cont=>exact q
theorem Inv.quiet{pins:List (Addr×Obj)}{σ:St}{H:Hp}{s:Shared}(I:Inv X pins σ H s):interactive X.env=false:=by simp[interactive,I.ok.kind]
noncomputable def Za(te:TE):TS:=fun D σ H=>te σ H fun _ H1=>D.nx σ H1
theorem TC(he:PE X e te)(hs:nJ e none pos.line X.env=pure false:=by rfl):PS X (.Expr e pos) (Za te):=by
 intro pins s σ H D I h
 exact wpAny_Expr_any (An (he pins s σ H _ I h) fun v s1 ⟨x,H1,I1,r1,q1⟩=> ⟨σ,H1,I1,q1⟩) I.quiet hs
noncomputable def cg(te:TE):TS:=fun D σ H=>te σ H D.rt
theorem Fu(he:PE X e te):PS X (.Return (some e) pos) (cg te):=by
 intro pins s σ H D I h
 exact wpAny_Return_some (An (he pins s σ H _ I h) fun v s1 ⟨x,H1,I1,r1,q1⟩=> ⟨x,σ,H1,I1,r1,q1⟩)
noncomputable def cj(c:TT)(t u:TS):TS:=fun D σ H=>c σ H fun b H1=>if b=true then t D σ H1 else u D σ H1
theorem Pj{c:Expr}{a b:List Stmt}{tc:TT}(hc:PT X c tc)(ha:PSs X a t)(hb:PSs X b u):PS X (.If c a b pos) (cj tc t u):=by
 intro pins s σ H D I h
 refine wpAny_If (An (hc pins s σ H _ I h) fun d s1 ⟨H1,I1,q1⟩=>?_)
 cases d with
 |true=>exact ha pins s1 σ H1 D I1 q1
 |false=>exact hb pins s1 σ H1 D I1 q1
end
noncomputable abbrev TG:=V→St→Hp→(St→Hp→Prop)→Prop
noncomputable abbrev Wc:=List V→St→Hp→(St→Hp→Prop)→Prop
noncomputable def PG(X:Cx)(target:Expr)(t:TG):Prop:=
 ∀(pins:List (Addr×Obj)) (s:Shared) (σ:St) (H:Hp) (v:V) (u:Value) (Q:St→Hp→Prop),Inv X pins σ H s→RelV v u→t v σ H Q→
  wpAny (model X.prog X.w) X.A (assign target X.env u) (fun _ s'=>∃σ' H',Inv X pins σ' H' s'∧Q σ' H') X.xe s
noncomputable def cK(X:Cx)(ts:List Expr)(t:Wc):Prop:=
 ∀(pins:List (Addr×Obj)) (s:Shared) (σ:St) (H:Hp) (vs:List V) (us:List Value) (Q:St→Hp→Prop),Inv X pins σ H s→Vals vs us→t vs σ H Q→
  wpAny (model X.prog X.w) X.A (assignInOrder ((jV ts X.env).map (·.2)) us) (fun _ s'=>∃σ' H',Inv X pins σ' H' s'∧Q σ' H') X.xe s
noncomputable abbrev Wd:=V→V→V→Hp→(Hp→Prop)→Prop
noncomputable def Zb(X:Cx)(t:Wd):Prop:=
 ∀(pins:List (Addr×Obj)) (s:Shared) (σ:St) (H:Hp) (o i v:V) (ov iv u:Value) (Q:Hp→Prop),Inv X pins σ H s→RelV o ov→RelV i iv→RelV v u→t o i v H Q→
  wpAny (model X.prog X.w) X.A (setItem ov iv u) (fun _ s'=>∃H',Inv X pins σ H' s'∧Q H') X.xe s
noncomputable abbrev Zc:=V→V→Hp→VK→Prop
noncomputable def cL(X:Cx)(op:pJ)(t:Zc):Prop:=
 ∀(pins:List (Addr×Obj)) (s:Shared) (σ:St) (H:Hp) (x y:V) (v u:Value) (Q:VK),Inv X pins σ H s→RelV x v→RelV y u→t x y H Q→
  wpAny (model X.prog X.w) X.A (inplaceOp op v u) (EP X pins σ Q) X.xe s
section
variable{X:Cx}{pos:Pos}
noncomputable def Va(i:Nat):TG:=fun v σ H Q=>Q (σ.set i (some v)) H
theorem IT{i:Nat}{x:Str}(hN:X.N.Nodup)(hi:X.N[i]?=some x)(hx:Su X.env.scope x)(hf:X.fn x=true∨X.env.scope.names.lookup x=some .local:=by first|exact .inl rfl|exact .inr rfl|assumption):PG X (.Name x pos) (Va i):=by
 intro pins s σ H v u Q I r h
 exact wpAny_assign_Name (BL I hN hi hx r (fun s' I'=> ⟨_,H,I',h⟩) hf)
noncomputable def ck:Wc:=fun vs σ H Q=>vs=[]∧Q σ H
noncomputable def Zd(t:TG)(u:Wc):Wc:=fun vs σ H Q=>∃v r,vs=v::r∧t v σ H fun σ' H'=>u r σ' H' Q
theorem TF:cK X [] ck:=by
 intro pins s σ H vs us Q I r h
 obtain⟨e,h⟩:=h
 subst e
 cases r
 exact og ⟨σ,H,I,h⟩
theorem Jm{e:Expr}{es:List Expr}{t:TG}{u:Wc}(h1:PG X e t)(h2:cK X es u)
  (hs:(jV (e::es) X.env).map (·.2)=assign e X.env::(jV es X.env).map (·.2):=by rfl):cK X (e::es) (Zd t u):=by
 intro pins s σ H vs us Q I r h
 obtain⟨v,vr,e1,h⟩:=h
 subst e1
 cases r with
 |cons r rr=>
  rw[hs]
  refine kl (An (h1 pins s σ H _ _ _ I r h) fun _ s1 ⟨σ1,H1,I1,q1⟩=>?_)
  exact h2 pins s1 σ1 H1 _ _ Q I1 rr q1
noncomputable def cq(K:a9)(n:Nat)(t:Wc):TG:=fun v σ H Q=>∃a xs,v=.ref a∧FV K H a xs∧xs.length=n∧t xs σ H Q
theorem We{es:List Expr}{k:Nat}{t:Wc}{n:Nat}(hc:X.calm=true)(h:cK X es t)
  (hn:(jV es X.env).length=n:=by rfl) (hst:(jV es X.env).findIdx? (·.1)=none:=by rfl):PG X (.Tuple es k pos) (cq X.K n t):=by
 intro pins s σ H v u Q I r hw
 obtain⟨a,xs,e1,hq,hl,hw⟩:=hw
 subst e1
 cases r
 obtain⟨its,rv,ht,hz⟩:=I.tuple hq
 refine assign_Tuple_tuple (I.ok.hd hc) ht (by simp[hn,←hl,rv.length]) hst fun h' hx=>?_
 have I1:Inv X pins σ H {s with heap:=h'}:=I.kept (t':=s.toks) fun b o e=>hx b o (gL (gi e)) e
 exact h pins _ σ H xs _ Q I1 (by simpa using rv) hw
noncomputable def cu(to ti:TE)(t:Wd):TG:=fun v σ H Q=>to σ H fun o H1=>ti σ H1 fun i H2=>t o i v H2 fun H3=>Q σ H3
theorem Wf{o i:Expr}{to ti:TE}{t:Wd}(ho:PE X o to)(hi:PE X i ti)(hs:Zb X t)
  (ha:∀v,assign (.Subscript o i pos) X.env v=(do
   let ov←holding [v] (eval o X.env)
   let iv←holding [v,ov] (eval i X.env)
   standAt pos
   holding [v,ov,iv] (setItem ov iv v)
   release [v,ov,iv] []):=by intro _;rfl):PG X (.Subscript o i pos) (cu to ti t):=by
 intro pins s σ H v u Q I r h
 rw[ha]
 refine a8 (hZ (An (ho pins s σ H _ I h) fun ov s1 ⟨x,H1,I1,r1,q1⟩=>?_))
 refine a8 (hZ (An (hi pins s1 σ H1 _ I1 q1) fun iv s2 ⟨y,H2,I2,r2,q2⟩=>?_))
 refine a8 (lH (a8 (hZ (An (hs pins s2 σ H2 x y v ov iv u _ I2 r1 r2 r q2) fun _ s3 ⟨H3,I3,q3⟩=>?_))))
 exact wpAny_release ⟨σ,H3,I3,q3⟩
noncomputable def Ze(te:TE)(g:TG):TS:=fun D σ H=>te σ H fun x H1=>g x σ H1 D.nx
theorem Pk{tg e:Expr}{te:TE}{g:TG}(he:PE X e te)(hg:PG X tg g)(hs:lJ [tg] e pos.line X.env=pure false:=by rfl)(hw:lK [tg] e X.env=pure none:=by rfl)
  (h1:(jV [tg] X.env).map (·.2)=[assign tg X.env]:=by rfl):PS X (.Assign [tg] e pos) (Ze te g):=by
 intro pins s σ H D I h
 refine wpAny_Assign_stores (An (he pins s σ H _ I h) fun v s1 ⟨x,H1,I1,r1,q1⟩=>?_) hs hw
 rw[h1]
 exact An (hg pins s1 σ H1 x v _ I1 r1 q1) fun _ s2 q=>q
theorem LK{i:Nat}{x:Str}{e:Expr}{te:TE}{pos':Pos}(hN:X.N.Nodup)(hi:X.N[i]?=some x)(hx:Su X.env.scope x)(he:PE X e te)(hs:nJ e (some (.Name x pos')) pos.line X.env=pure false:=by rfl)(hf:X.fn x=true∨X.env.scope.names.lookup x=some .local:=by first|exact .inl rfl|exact .inr rfl|assumption):
  PS X (.Assign [.Name x pos'] e pos) (Ze te (Va i)):=by
 intro pins s σ H D I h
 refine wpAny_Assign_Name (An (he pins s σ H _ I h) fun v s1 ⟨y,H1,I1,r1,q1⟩=>?_) hs
 exact BL I1 hN hi hx r1 (fun s2 I2=> ⟨_,H1,I2,q1⟩) hf
noncomputable def cw(i j:Nat)(ta:TA):TS:=fun D σ H=>ta σ H fun vs H1=>∃v w,vs=[v,w]∧D.nx ((σ.set i (some v)).set j (some w)) H1
theorem Wg{i j:Nat}{x y:Str}{a b:Expr}{ta:TA}{px py pt:Pos}{kt k2 pt2}(hc:X.calm=true)(hN:X.N.Nodup)(hi:X.N[i]?=some x)(hj:X.N[j]?=some y)(hij:i≠j)
  (hx:X.env.scope.names.lookup x=some .local) (hy:X.env.scope.names.lookup y=some .local) (ha:PA X [a,b] ta)
  (hw:lK [.Tuple [.Name x px,.Name y py] kt pt] (.Tuple [a,b] k2 pt2) X.env=pure (some [x,y]))
  (hs:lJ [.Tuple [.Name x px,.Name y py] kt pt] (.Tuple [a,b] k2 pt2) pos.line X.env=pure false:=by rfl):
  PS X (.Assign [.Tuple [.Name x px,.Name y py] kt pt] (.Tuple [a,b] k2 pt2) pos) (cw i j ta):=by
 intro pins s σ H D I h
 rw[exec_Assign_arm]
 refine a8 (lH ?_)
 rw[hs]
 refine a8 (b8 ?_)
 rw[if_neg (by decide)]
 refine a8 (Tuple_ (An (ha _ pins s σ H _ I h) fun us s1 ⟨vs,H1,I1,r1,q1⟩=>?_))
 obtain⟨v,w,e1,q1⟩:=q1
 subst e1
 obtain⟨u1,u2,rfl,rv,rw'⟩:∃u1 u2,us=[u1,u2]∧RelV v u1∧RelV w u2:=by
  cases r1 with
  |cons p q=>
   cases q with
   |cons p' q'=>
    cases q'
    exact⟨_,_,rfl,p,p'⟩
 refine i9 ?_ (by show 2≤sizeLine;decide)
 have I2:Inv X pins σ H1 {s1 with heap:=s1.heap.push {cls:=.type "tuple",data:=.seq [u1,u2].toArray}}:=I1.kept (t':=s1.toks) fun b o e=>e9 _ e
 rw[hw]
 refine a8 (b8 ?_)
 show wpAny (model X.prog X.w) X.A (do rule "assign.swapped-stores";let items←unpackItems (.ref s1.heap.objs.size) 2 none;assignInOrder [fun v=>bindName X.env y v,fun v=>bindName X.env x v] items.reverse;pure qB) _ _ _
 refine a8 (kK (a8 (unpackItems_tuple (items:=#[u1,u2]) (I.ok.hd hc) (IsTup.new s1.heap _) fun h' hx'=>?_)))
 have I3:=I2.kept (h':=h') (t':=s1.toks) fun b o e=>hx' b o (gL (gi e)) e
 show wpAny _ _ (assignInOrder [fun v=>bindName X.env y v,fun v=>bindName X.env x v] [u2,u1]>>=fun _=>pure qB) _ _ _
 refine a8 (kl (mM (BL I3 hN hj (.inl hy) rw' (fun s2 I4=>?_) (.inr hy))))
 refine kl (mM (BL I4 hN hi (.inl hx) rv (fun s3 I5=>og (b8 ?_)) (.inr hx)))
 rw[oB _ _ (Ne.symm hij)] at I5
 exact⟨_,H1,I5,q1⟩
noncomputable def dA(i:Nat)(te:TE)(ti:Zc):TS:=fun D σ H=>∃x,σ[i]?=some (some x)∧te σ H fun y H1=>ti x y H1 fun z H2=>D.nx (σ.set i (some z)) H2
theorem Wh{i:Nat}{x:Str}{e:Expr}{te:TE}{op:pJ}{ti:Zc}{pos':Pos}(hN:X.N.Nodup)(hi:X.N[i]?=some x)(hx:Su X.env.scope x)(he:PE X e te)(ho:cL X op ti)(hf:X.fn x=true∨X.env.scope.names.lookup x=some .local:=by first|exact .inl rfl|exact .inr rfl|assumption):
  PS X (.AugAssign (.Name x pos') op e pos) (dA i te ti):=by
 intro pins s σ H D I h
 obtain⟨v,e1,h⟩:=h
 obtain⟨m,hn,hl⟩:=I.loc
 have vis:ZN X.env.scope x:=by rcases hx with k|k;exact .inl k;exact .inr (.inl k)
 obtain⟨u,r,l⟩:=hl i x v hi e1 vis
 refine wpAny_AugAssign_Name ?_
 have go:wpAny (model X.prog X.w) X.A (eval e X.env) (fun w s₂=>wpAny (model X.prog X.w) X.A (inplaceOp op u w) (fun r s₃=>wpAny (model X.prog X.w) X.A (storeName X.env x r) (fun _=>SP X pins D .next) X.xe s₃) X.xe s₂) X.xe s:=by
  refine An (he pins s σ H _ I h) fun w s1 ⟨y,H1,I1,r1,q1⟩=>?_
  refine An (ho pins s1 σ H1 v y u w _ I1 r r1 q1) fun z s2 ⟨zv,H2,I2,r2,q2⟩=>?_
  exact BL I2 hN hi hx r2 (fun s3 I3=> ⟨_,H2,I3,q2⟩) hf
 rcases l with⟨hk,hm⟩| ⟨hk,c,hc,hcell⟩
 ·exact wpAny_loadName_local I.ok.kind hk hn hm go
 ·rcases hk with hk|hk
  ·exact wpAny_loadName_cell I.ok.kind hk hc hcell go
  ·rcases hx with k|k
   ·have:X.env.scope.names.lookup x=some .free:=hk
    rw[k] at this;cases this
   ·have:X.env.scope.names.lookup x=some .free:=hk
    rw[k] at this;cases this
noncomputable def eY(f:Int→Int→Int):Zc:=fun x y H Q=>∃i j,x=.int i∧y=.int j∧Q (.int (f i j)) H
theorem Pl:cL X .Add (eY fun i j=>i+j):=by
 intro pins s σ H x y v u Q I r1 r2 h
 obtain⟨i,j,e1,e2,q⟩:=h
 subst e1;subst e2
 obtain⟨t,rfl⟩:=r1
 obtain⟨t',rfl⟩:=r2
 exact iadd_int ⟨.int _,H,I.tok _,⟨_,rfl⟩,q⟩
end
section
variable{X:Cx}{pos:Pos}
noncomputable def Wi(c:TT)(tb:TS):TS:=fun D σ H=>∃W:Nat→St→Hp→Prop,(∃m,W m σ H)∧∀m σ H,W m σ H→
 c σ H fun b H1=>if b=true then∃N:St→Hp→Prop,(∀σ' H',N σ' H'→∃m',m'<m∧W m' σ' H')∧tb {D with nx:=N,ct:=N,bk:=D.nx} σ H1 else D.nx σ H1
theorem Pm{c:Expr}{body:List Stmt}{tc:TT}{tb:TS}(hp:nL (model X.prog X.w) X.A X.env X.xe)(hc:PT X c tc)(hb:PSs X body tb):PS X (.While c body [] pos) (Wi tc tb):=by
 intro pins s σ H D I h
 obtain⟨W,⟨m0,w0⟩,turn⟩:=h
 refine wpAny_While (codeAny_whileLoop (fun n s'=>∃σ' H',Inv X pins σ' H' s'∧W n σ' H') ?_ m0 ⟨σ,H,I,w0⟩)
 rintro n s1 ⟨σ1,H1,I1,w1⟩
 refine kz hp (An (hc pins s1 σ1 H1 _ I1 (turn n σ1 H1 w1)) fun b s2 ⟨H2,I2,q2⟩=>?_)
 cases b with
 |true=>
  obtain⟨N,hN,q2⟩:=q2
  rw[if_pos rfl]
  refine kz hp (An (hb pins s2 σ1 H2 _ I2 q2) fun f s3 q3=>?_)
  cases f with
  |next=>
   obtain⟨σ3,H3,I3,n3⟩:=q3
   obtain⟨m',hm,w3⟩:=hN σ3 H3 n3
   exact⟨m',hm,σ3,H3,I3,w3⟩
  |cont=>
   obtain⟨σ3,H3,I3,n3⟩:=q3
   obtain⟨m',hm,w3⟩:=hN σ3 H3 n3
   exact⟨m',hm,σ3,H3,I3,w3⟩
  |brk=>exact q3
  |ret v=>exact q3
 |false=>
  rw[if_neg c9]
  exact mw ⟨σ1,H2,I2,q2⟩
end
structure It where
 go:Nat→Hp→Prop
 yld:Nat→Hp→V→Hp→Prop
 stop:Nat→Hp→Prop
noncomputable def HP(X:Cx)(pins:List (Addr×Obj))(H:Hp)(b:Addr):Prop:=
 H b=none∧b≠X.env.locals∧b∉X.fs∧(b∈X.ex∨X.s₀.heap.objs.size≤b)∧(∀x c,X.env.cells.lookup x=some c→c≠b)∧∀p∈X.pn++pins,p.1≠b
theorem Inv.fpOk{X:Cx}{pins:List (Addr×Obj)}{σ:St}{H H':Hp}{s:Shared}{b:Addr}(I:Inv X pins σ H s)(hb:s.heap.objs.size≤b)(hn:H' b=none):HP X pins H' b:=by
 refine⟨hn,nG (gy I.lt hb),I.nofs hb,.inr (iq I.sz hb),fun x c e z=>?_,fun p hp z=>?_⟩
 ·obtain⟨v,q⟩:=I.cell x c e
  exact absurd (gy q.lt (by rw[z];exact hb)) (iQ _)
 ·exact absurd (gy (gi (I.pin p hp).1) (by rw[z];exact hb)) (iQ _)
structure Turn(P:Program)(w:World)(K:a9)(tg:Expr)(J:It)(fp:List Addr)(it:Addr)(tn:Nat→Heap→Prop):Prop where
 mem:it∈fp
 obj:∀i h,tn i h→∀b∈fp,∃o,h.get? b=some o∧∀v,o.data≠.cell v
 keep:∀i h h',tn i h→(∀b∈fp,∀o,h.get? b=some o→h'.get? b=some o)→tn i h'
 item:∀(X:Cx),X.prog=P→X.w=w→X.K=K→X.calm=true→∀(i:Nat) (pins:List (Addr×Obj)) (s:Shared) (σ:St) (H:Hp) (E:Value→Shared→Prop),Inv X pins σ H s→(∀b∈fp,HP X pins H b)→tn i s.heap→J.go i H→
  wpAny (model P w) X.A (nQ (.ref it)) (fun r s1=>∃u,r=some u∧
   wpAny (model P w) X.A (nr tg (.ref it) u) (fun _ s2=>∃x H',Inv X pins σ H' s2∧RelV x u∧J.yld i H x H'∧tn (i+1) s2.heap∧∀b∈fp,H' b=none) E s1) E s
 done:∀(X:Cx),X.prog=P→X.w=w→X.K=K→X.calm=true→∀(i:Nat) (pins:List (Addr×Obj)) (s:Shared) (σ:St) (H:Hp) (E:Value→Shared→Prop),Inv X pins σ H s→(∀b∈fp,HP X pins H b)→tn i s.heap→J.stop i H→
  wpAny (model P w) X.A (nQ (.ref it)) (fun r s1=>r=none∧Inv X pins σ H s1) E s
 self:∀(A:gx) (i:Nat) (s:Shared) (Q:Value→Shared→Prop) (E:Value→Shared→Prop),tn i s.heap→Q (.ref it) s→wpAny (model P w) A (qb (.ref it)) Q E s
noncomputable abbrev TI:=St→Hp→(It→Hp→Prop)→Prop
noncomputable def eF(X:Cx)(pins:List (Addr×Obj))(σ:St)(tg:Expr)(R:It→Hp→Prop)(itv:Value)(s2:Shared):Prop:=
 ∃(it:Addr) (fp:List Addr) (tn:Nat→Heap→Prop) (J:It) (H':Hp),itv=.ref it∧Inv X pins σ H' s2∧Turn X.prog X.w X.K tg J fp it tn∧tn 0 s2.heap∧(∀b∈fp,HP X pins H' b)∧R J H'
noncomputable def PI(X:Cx)(tg iter:Expr)(wi:TI):Prop:=
 ∀(pins:List (Addr×Obj)) (s:Shared) (σ:St) (H:Hp) (R:It→Hp→Prop),Inv X pins σ H s→wi σ H R→
  wpAny (model X.prog X.w) X.A (eval iter X.env) (fun v s1=>wpAny (model X.prog X.w) X.A (qb v) (eF X pins σ tg R) X.xe s1) X.xe s
theorem Pn{M:Model}{A:gx}{E:Value→Shared→Prop}{s:Shared}{tg:Expr}{it:Addr}{u:Value}{o:Obj}{n:String}{vs:Array Value}{Q:Unit→Shared→Prop}(ho:s.heap.get? it=some o)(hc:o.cls=.type n)(hd:o.data=.fields vs)
    (hn:["enumerate","zip","dict_itemiterator","dict_reverseitemiterator","odict_iterator","itertools.zip_longest","itertools.pairwise"].contains n=false) (hQ:Q () s):wpAny M A (nr tg (.ref it) u) Q E s:=by
  unfold nr
  cases tg<;>first
    |exact b8 hQ
    | (cases u<;>first
        |exact b8 hQ
        | (refine a8 (wpAny_load ho ?_)
           rw[hc,hd]
           show wpAny M A (if(["enumerate","zip","dict_itemiterator","dict_reverseitemiterator","odict_iterator","itertools.zip_longest","itertools.pairwise"].contains n&&vs[0]?==some (oK _))=true then _ else _) Q E s
           rw[if_neg (by intro h;rw[hn,Bool.false_and] at h;cases h)]
           exact b8 hQ))
noncomputable def dB(K:a9)(a:Addr):It:=
 ⟨fun i H=>∃xs x,SqL K H a xs∧xs[i]?=some x,fun i H x H'=>H'=H∧∀xs,SqL K H a xs→xs[i]?=some x,fun i H=>∃xs,SqL K H a xs∧xs.length≤i⟩
noncomputable def dC(K:a9)(a:Addr):It:=
 ⟨fun i H=>∃xs x,FV K H a xs∧xs[i]?=some x,fun i H x H'=>H'=H∧∀xs,FV K H a xs→xs[i]?=some x,fun i H=>∃xs,FV K H a xs∧xs.length≤i⟩
noncomputable def Zf(lo:Int)(n:Nat):It:=⟨fun i _=>i<n,fun i H x H'=>H'=H∧x=.int (lo+i),fun i _=>n≤i⟩
theorem OG{P:Program}{w:World}{K:a9}{tg:Expr}(a it:Addr):Turn P w K tg (dB K a) [it] it (fun i h=>h.IsListIter it a i) where
 mem:=by simp
 obj:=fun i h st b hb=>by
  have e:b=it:=by simpa using hb
  subst e
  obtain⟨o,e,c,d⟩:=st
  exact⟨o,e,fun v z=>by rw[d] at z;cases z⟩
 keep:=fun i h h' st k=>st.at fun o e=>k it (by simp) o e
 item:=by
  intro X hP hw hK hc i pins s σ H E I hf st hg
  subst hP hw hK
  obtain⟨xs,x,hq,hx⟩:=hg
  obtain⟨its,rv,p,hz⟩:=I.list hq
  obtain⟨u,hu,ru⟩:=rv.get hx
  obtain⟨f0,f1,f2,f3,f4,f5⟩:=hf it (by simp)
  refine wpAny_pyNext_list_item st p.isList (x:=u) (by simpa using hu) fun h' st' sb=>?_
  have I1:Inv X pins σ H {s with heap:=h'}:=I.turned (t':=s.toks) (fun b o hb e=> (sb.2 b hb).trans e) f0 f1 f3 f4 f5
  obtain⟨o,e,c,d⟩:=id st'
  exact⟨u,rfl,Pn (s:={s with heap:=h'}) e c d (by decide) ⟨x,H,I1,ru,⟨rfl,fun ys hy=>by rw[I.list_inj hy hq];exact hx⟩,st',fun b hb=> (hf b hb).1⟩⟩
 done:=by
  intro X hP hw hK hc i pins s σ H E I hf st hg
  subst hP hw hK
  obtain⟨xs,hq,hx⟩:=hg
  obtain⟨its,rv,p,hz⟩:=I.list hq
  obtain⟨f0,f1,f2,f3,f4,f5⟩:=hf it (by simp)
  have hl:=rv.length
  exact wpAny_pyNext_list_end (I.ok.hd hc) st p.isList (by simp;omega) fun h' eb=> ⟨rfl,I.turned (t':=s.toks) (fun b o hb e=>eb b o hb e) f0 f1 f3 f4 f5⟩
 self:=fun _ _ _ _ _ st h=>wpAny_pyIter_listiter st h
theorem LL{P:Program}{w:World}{K:a9}{tg:Expr}(a it:Addr):Turn P w K tg (dC K a) [it] it (fun i h=>h.IsTupleIter it a i) where
 mem:=by simp
 obj:=fun i h st b hb=>by
  have e:b=it:=by simpa using hb
  subst e
  obtain⟨o,e,c,d⟩:=st
  exact⟨o,e,fun v z=>by rw[d] at z;cases z⟩
 keep:=fun i h h' st k=>st.at fun o e=>k it (by simp) o e
 item:=by
  intro X hP hw hK hc i pins s σ H E I hf st hg
  subst hP hw hK
  obtain⟨xs,x,hq,hx⟩:=hg
  obtain⟨its,rv,p,hz⟩:=I.tuple hq
  obtain⟨u,hu,ru⟩:=rv.get hx
  obtain⟨f0,f1,f2,f3,f4,f5⟩:=hf it (by simp)
  refine wpAny_pyNext_tuple_item st (show s.heap.IsTuple a its.toArray from p) (x:=u) (by simpa using hu) fun h' st' sb=>?_
  have I1:Inv X pins σ H {s with heap:=h'}:=I.turned (t':=s.toks) (fun b o hb e=> (sb.2 b hb).trans e) f0 f1 f3 f4 f5
  obtain⟨o,e,c,d⟩:=id st'
  exact⟨u,rfl,Pn (s:={s with heap:=h'}) e c d (by decide) ⟨x,H,I1,ru,⟨rfl,fun ys hy=>by rw[I.tuple_inj hy hq];exact hx⟩,st',fun b hb=> (hf b hb).1⟩⟩
 done:=by
  intro X hP hw hK hc i pins s σ H E I hf st hg
  subst hP hw hK
  obtain⟨xs,hq,hx⟩:=hg
  obtain⟨its,rv,p,hz⟩:=I.tuple hq
  obtain⟨f0,f1,f2,f3,f4,f5⟩:=hf it (by simp)
  have hl:=rv.length
  exact wpAny_pyNext_tuple_end (I.ok.hd hc) st (show s.heap.IsTuple a its.toArray from p) (by simp;omega) fun h' eb=> ⟨rfl,I.turned (t':=s.toks) (fun b o hb e=>eb b o hb e) f0 f1 f3 f4 f5⟩
 self:=fun _ _ _ _ _ st h=>wpAny_pyIter_tupleiter st h
theorem LM{P:Program}{w:World}{K:a9}{tg:Expr}(it:Addr)(lo:Int)(n:Nat):Turn P w K tg (Zf lo n) [it] it (fun i h=>IsRangeIter h it (lo+(i:Nat)*1) ((n:Int)- (i:Nat)) 1) where
 mem:=by simp
 obj:=fun i h st b hb=>by
  have e:b=it:=by simpa using hb
  subst e
  exact⟨_,st,fun v z=>by
   have z':Data.fields _=Data.cell v:=z
   cases z'⟩
 keep:=fun i h h' st k=>k it (by simp) _ st
 item:=by
  intro X hP hw hK hc i pins s σ H E I hf st hg
  subst hP hw hK
  obtain⟨f0,f1,f2,f3,f4,f5⟩:=hf it (by simp)
  have W:=Walks.range (prog:=X.prog) (w:=X.w) (I.ok.hd hc) it lo 1 n
  refine W.item i s _ _ hg st fun v h' tk hv st' kk=>?_
  obtain⟨t,rfl⟩:=hv
  have I1:Inv X pins σ H {s with heap:=h',toks:=tk}:=I.turned (fun b o hb e=>kk b o (by simpa using hb) e) f0 f1 f3 f4 f5
  refine⟨_,rfl,Pn (s:={s with heap:=h',toks:=tk}) (n:="range_iterator") st' rfl rfl (by decide) ⟨.int (lo+i),H,I1,⟨t,?_⟩,⟨rfl,rfl⟩,st',fun b hb=> (hf b hb).1⟩⟩
  rw[Int.mul_one]
 done:=by
  intro X hP hw hK hc i pins s σ H E I hf st hg
  subst hP hw hK
  obtain⟨f0,f1,f2,f3,f4,f5⟩:=hf it (by simp)
  exact wpAny_pyNext_range_end (I.ok.hd hc) st (by have:n≤i:=hg;omega) fun h' eb=> ⟨rfl,I.turned (t':=s.toks) (fun b o hb e=>eb b o hb e) f0 f1 f3 f4 f5⟩
 self:=fun _ _ _ _ _ st h=>wpAny_pyIter_rangeiter st h
section
variable{X:Cx}{tg:Expr}
noncomputable def Zg(K:a9)(tl:TE):TI:=fun σ H R=>tl σ H fun x H1=>∃a,x=.ref a∧(∃xs,SqL K H1 a xs)∧R (dB K a) H1
noncomputable def dD(K:a9)(tl:TE):TI:=fun σ H R=>tl σ H fun x H1=>∃a,x=.ref a∧(∃xs,FV K H1 a xs)∧R (dC K a) H1
theorem TH{l:Expr}{tl:TE}(hl:PE X l tl):PI X tg l (Zg X.K tl):=by
 intro pins s σ H R I h
 refine An (hl pins s σ H _ I h) fun v s1 ⟨x,H1,I1,r1,q1⟩=>?_
 obtain⟨a,e,⟨xs,hq⟩,q⟩:=q1
 subst e
 cases r1
 obtain⟨its,rv,p,hz⟩:=I1.list hq
 refine n8 p.isList ?_
 refine⟨s1.heap.objs.size,[s1.heap.objs.size],_,_,H1,rfl,I1.kept (t':=s1.toks) fun b o e=>e9 _ e,OG a _,⟨_,gJ _ rfl,rfl,rfl⟩,fun b hb=>?_,q⟩
 have e:b=s1.heap.objs.size:=by simpa using hb
 subst e
 exact I1.fpOk (fv _) (I1.hok.fresh (fv _))
theorem Wj{l:Expr}{tl:TE}(hl:PE X l tl):PI X tg l (dD X.K tl):=by
 intro pins s σ H R I h
 refine An (hl pins s σ H _ I h) fun v s1 ⟨x,H1,I1,r1,q1⟩=>?_
 obtain⟨a,e,⟨xs,hq⟩,q⟩:=q1
 subst e
 cases r1
 obtain⟨its,rv,p,hz⟩:=I1.tuple hq
 refine wpAny_pyIter_tuple (show s1.heap.IsTuple a its.toArray from p) ?_
 refine⟨s1.heap.objs.size,[s1.heap.objs.size],_,_,H1,rfl,I1.kept (t':=s1.toks) fun b o e=>e9 _ e,LL a _,⟨_,gJ _ rfl,rfl,rfl⟩,fun b hb=>?_,q⟩
 have e:b=s1.heap.objs.size:=by simpa using hb
 subst e
 exact I1.fpOk (fv _) (I1.hok.fresh (fv _))
theorem Jn{pins:List (Addr×Obj)}{σ:St}{H:Hp}{s:Shared}{R:It→Hp→Prop}{E:Value→Shared→Prop}{lo hi:Int}{t u v:Tok}{tk:Nat}(I:Inv X pins σ H s)(h1: -(2^62)≤lo)(h2:lo<2^62)(h3: -(2^62)≤hi)(h4:hi<2^62)
  (q:R (Zf lo (hi-lo).toNat) H):wpAny (model X.prog X.w) X.A (qb (.ref s.heap.objs.size)) (eF X pins σ tg R) E {s with heap:=s.heap.push {cls:=.type "range",data:=.fields #[.int lo t,.int hi u,.int 1 v]},toks:=tk}:=by
 refine wpAny_pyIter_range (IsRange.new ..) (small_one h1 h2 h3 h4) ?_
 have I1:Inv X pins σ H {s with heap:=s.heap.push {cls:=.type "range",data:=.fields #[.int lo t,.int hi u,.int 1 v]},toks:=tk}:=I.kept fun b o e=>e9 _ e
 refine⟨(s.heap.push {cls:=.type "range",data:=.fields #[.int lo t,.int hi u,.int 1 v]}).objs.size,[(s.heap.push {cls:=.type "range",data:=.fields #[.int lo t,.int hi u,.int 1 v]}).objs.size],_,_,H,rfl,
  I1.kept (t':=tk) fun b o e=>e9 _ e,LM _ lo (hi-lo).toNat,?_,fun b hb=>?_,q⟩
 ·have e1:lo+((0:Nat):Int)*1=lo:=by simp
  have e2:(((hi-lo).toNat:Nat):Int)- ((0:Nat):Int)=Builtin.Range.rangeSize lo hi 1:=by rw[rangeSize_one];split<;>omega
  show IsRangeIter _ _ (lo+((0:Nat):Int)*1) ((((hi-lo).toNat:Nat):Int)- ((0:Nat):Int)) 1
  rw[e1,e2]
  exact gJ _ rfl
 ·have e:b=(s.heap.push {cls:=.type "range",data:=.fields #[.int lo t,.int hi u,.int 1 v]}).objs.size:=by simpa using hb
  subst e
  exact I1.fpOk (fv _) (I1.hok.fresh (fv _))
noncomputable def Zh(ta:TA):TI:=fun σ H R=>ta σ H fun vs H1=>∃j:Int,vs=[.int j]∧-(2^62)≤j∧j<2^62∧R (Zf 0 j.toNat) H1
noncomputable def Zi(ta:TA):TI:=fun σ H R=>ta σ H fun vs H1=>∃i j:Int,vs=[.int i,.int j]∧(-(2^62)≤i∧i<2^62∧-(2^62)≤j∧j<2^62)∧R (Zf i (j-i).toNat) H1
theorem OH{a:Expr}{ta:TA}{p pos:Pos}(hg:Gl X "range")(hm:X.mg "range" =none)(ha:PA X [a] ta)(hs:fj [a] X.env=[(false,eval a X.env)]:=by rfl):PI X tg (.Call (.Name "range" p) [a] [] pos) (Zh ta):=by
 intro pins s σ H R I h
 refine Call_ (Em I hg hm boot_range (lR (An (ha pos pins s σ H _ I h) fun us s1 ⟨vs,H1,I1,r1,q1⟩=>?_) hs rfl))
 obtain⟨j,e,q1,q2,q⟩:=q1
 subst e
 cases r1 with
 |cons r rr=>
  cases rr
  obtain⟨t,rfl⟩:=r
  exact call_range_1 (Jn I1 (by omega) (by omega) q1 q2 (by simpa using q))
theorem OI{a b:Expr}{ta:TA}{p pos:Pos}(hg:Gl X "range")(hm:X.mg "range" =none)(ha:PA X [a,b] ta)(hs:fj [a,b] X.env=[(false,eval a X.env),(false,eval b X.env)]:=by rfl)(hs2:fj [b] X.env=[(false,eval b X.env)]:=by rfl):
  PI X tg (.Call (.Name "range" p) [a,b] [] pos) (Zi ta):=by
 intro pins s σ H R I h
 refine Call_ (Em I hg hm boot_range (lR (An (ha pos pins s σ H _ I h) fun us s1 ⟨vs,H1,I1,r1,q1⟩=>?_) (by rw[hs,hs2]) (by rw[hs2];rfl)))
 obtain⟨i,j,e,⟨q1,q2,q3,q4⟩,q⟩:=q1
 subst e
 cases r1 with
 |cons r rr=>
  cases rr with
  |cons r' rr=>
   cases rr
   obtain⟨t,rfl⟩:=r
   obtain⟨t',rfl⟩:=r'
   exact call_range_2 (Jn I1 q1 q2 q3 q4 q)
noncomputable def dE(wi:TI)(g:TG)(tb:TS):TS:=fun D σ H=>wi σ H fun J H1=>∃W:Nat→Nat→St→Hp→Prop,(∃m,W 0 m σ H1)∧∀i m σ H,W i m σ H→
 (J.stop i H∧D.nx σ H)∨(J.go i H∧∃N:St→Hp→Prop,(∀σ' H',N σ' H'→∃m',m'<m∧W (i+1) m' σ' H')∧∀x H',J.yld i H x H'→g x σ H' fun σ2 H2=>tb {D with nx:=N,ct:=N,bk:=D.nx} σ2 H2)
noncomputable def Fv(fp:List Addr)(h:Heap):List (Addr×Obj):=fp.filterMap fun b=> (h.get? b).map fun o=> (b,o)
theorem Cb{fp:List Addr}{h:Heap}{b:Addr}{o:Obj}(hb:b∈fp)(e:h.get? b=some o):(b,o)∈Fv fp h:=jX.mpr ⟨b,hb,by rw[e];rfl⟩
theorem OJ{fp:List Addr}{h:Heap}{p:Addr×Obj}(hp:p∈Fv fp h):p.1∈fp∧h.get? p.1=some p.2:=by
 obtain⟨b,hb,e⟩:=jX.mp hp
 cases q:h.get? b with
 |none=>rw[q] at e;cases e
 |some o=>
  rw[q] at e
  have e':(b,o)=p:=gZ.inj e
  subst e'
  exact⟨hb,q⟩
theorem Inv.pinned{pins:List (Addr×Obj)}{σ:St}{H:Hp}{s:Shared}{fp:List Addr}(I:Inv X pins σ H s)(hf:∀b∈fp,HP X pins H b)(ho:∀b∈fp,∃o,s.heap.get? b=some o∧∀v,o.data≠.cell v):Inv X (pins++Fv fp s.heap) σ H s:=
 I.pins_of fun p hp=> (gu.mp hp).elim (fun z=>I.pin p (iD _ z)) fun z=>by
  obtain⟨hb,e⟩:=OJ z
  obtain⟨f0,f1,f2,_⟩:=hf p.1 hb
  obtain⟨o,e',d⟩:=ho p.1 hb
  rw[e] at e';cases e'
  exact⟨e,f0,f1,f2,d⟩
theorem Inv.unpinned{pins pl:List (Addr×Obj)}{σ:St}{H:Hp}{s:Shared}(I:Inv X (pins++pl) σ H s):Inv X pins σ H s:=I.pins_of fun p hp=>I.pin p (iD _ (iR _ hp))
theorem Wl{iter:Expr}{body:List Stmt}{wi:TI}{g:TG}{tb:TS}{pos:Pos}(hp:nL (model X.prog X.w) X.A X.env X.xe)(hc:X.calm=true)(hi:PI X tg iter wi)(hg:PG X tg g)(hb:PSs X body tb)
  (hs:∀x,ja iter X.env x=pure x:=by intro _;rfl):PS X (.For tg iter body [] pos) (dE wi g tb):=by
 intro pins s σ H D I h
 refine wpAny_For (An (hi pins s σ H _ I h) fun v s1 h1=>An h1 fun itv s2 h2=>?_) hs
 obtain⟨it,fp,tn,J,H2,e,I2,T,st2,f2,W,⟨m0,w0⟩,turn⟩:=h2
 subst e
 have stat:∀{H':Hp},(∀b∈fp,H' b=none)→∀b∈fp,HP X pins H' b:=fun hn b hb=> ⟨hn b hb,(f2 b hb).2⟩
 refine codeAny_forLoop_any (fun n s'=>∃i σ' H',Inv X pins σ' H' s'∧tn i s'.heap∧(∀b∈fp,H' b=none)∧W i n σ' H') ?_ m0 ⟨0,σ,H2,I2,st2,fun b hb=> (f2 b hb).1,w0⟩
 rintro n s3 ⟨i,σ3,H3,I3,st3,fr3,w3⟩
 rcases turn i n σ3 H3 w3 with⟨stop,qn⟩| ⟨go,N,hN,step⟩
 ·refine kz hp (An (T.done X rfl rfl rfl hc i pins s3 σ3 H3 X.xe I3 (stat fr3) st3 stop) fun r s4 ⟨hr,I4⟩=>?_)
  subst hr
  exact mw ⟨σ3,H3,I4,qn⟩
 ·refine kz hp (An (T.item X rfl rfl rfl hc i pins s3 σ3 H3 X.xe I3 (stat fr3) st3 go) fun r s4 ⟨u,hr,h4⟩=>?_)
  subst hr
  refine kz hp (An h4 fun _ s5 ⟨x,H5,I5,r5,y5,st5,fr5⟩=>?_)
  have I5':=I5.pinned (stat fr5) (T.obj _ _ st5)
  refine kz hp (An (hg _ s5 σ3 H5 x u _ I5' r5 (step x H5 y5)) fun _ s6 ⟨σ6,H6,I6,q6⟩=>?_)
  refine kz hp (An (hb _ s6 σ6 H6 _ I6 q6) fun f s7 q7=>?_)
  have again:∀{σ7:St} {H7:Hp},Inv X (pins++Fv fp s5.heap) σ7 H7 s7→N σ7 H7→∃m,m<n∧∃i σ' H',Inv X pins σ' H' s7∧tn i s7.heap∧(∀b∈fp,H' b=none)∧W i m σ' H':=fun{σ7 H7} I7 n7=>by
   obtain⟨m',hm,w7⟩:=hN σ7 H7 n7
   refine⟨m',hm,i+1,σ7,H7,I7.unpinned,T.keep _ _ _ st5 fun b hb o e=> (I7.pin (b,o) (iD _ (iD _ (Cb hb e)))).1,fun b hb=>?_,w7⟩
   obtain⟨o,e,d⟩:=T.obj _ _ st5 b hb
   exact(I7.pin (b,o) (iD _ (iD _ (Cb hb e)))).2.1
  cases f with
  |next=>obtain⟨σ7,H7,I7,n7⟩:=q7;exact again I7 n7
  |cont=>obtain⟨σ7,H7,I7,n7⟩:=q7;exact again I7 n7
  |brk=>obtain⟨σ7,H7,I7,q7⟩:=q7;exact⟨σ7,H7,I7.unpinned,q7⟩
  |ret v=>obtain⟨x7,σ7,H7,I7,r7,q7⟩:=q7;exact⟨x7,σ7,H7,I7.unpinned,r7,q7⟩
end
noncomputable abbrev R2:=V→V→Hp→VK→Prop
noncomputable def CO(X:Cx)(f:Value→Value→Sem Value)(r:R2):Prop:=
 ∀(pins:List (Addr×Obj)) (s:Shared) (σ:St) (H:Hp) (x y:V) (v u:Value) (Q:VK),Inv X pins σ H s→RelV x v→RelV y u→r x y H Q→
  wpAny (model X.prog X.w) X.A (f v u) (EP X pins σ Q) X.xe s
noncomputable def cM(X:Cx)(f:Value→Sem Value)(r:V→Hp→VK→Prop):Prop:=
 ∀(pins:List (Addr×Obj)) (s:Shared) (σ:St) (H:Hp) (x:V) (v:Value) (Q:VK),Inv X pins σ H s→RelV x v→r x H Q→
  wpAny (model X.prog X.w) X.A (f v) (EP X pins σ Q) X.xe s
noncomputable def BC(X:Cx)(f:Value)(r:List V→Hp→VK→Prop):Prop:=
 ∀(pins:List (Addr×Obj)) (s:Shared) (σ:St) (H:Hp) (xs:List V) (us:List Value) (Q:VK),Inv X pins σ H s→Vals xs us→r xs H Q→
  wpAny (model X.prog X.w) X.A (call f us) (EP X pins σ Q) X.xe s
noncomputable def dF(X:Cx)(r:V→Hp→(Bool→Hp→Prop)→Prop):Prop:=
 ∀(pins:List (Addr×Obj)) (s:Shared) (σ:St) (H:Hp) (x:V) (v:Value) (Q:Bool→Hp→Prop),Inv X pins σ H s→RelV x v→r x H Q→
  wpAny (model X.prog X.w) X.A (truthy v) (TP X pins σ Q) X.xe s
noncomputable def Zj(r:R2)(ta tb:TE):TE:=fun σ H Q=>ta σ H fun x H1=>tb σ H1 fun y H2=>r x y H2 Q
noncomputable def eZ(r:V→Hp→VK→Prop)(ta:TE):TE:=fun σ H Q=>ta σ H fun x H1=>r x H1 Q
noncomputable def rI(C:Int→Int→Prop)(g:Int→Int→V):R2:=fun x y H Q=>∃i j,x=.int i∧y=.int j∧C i j∧Q (g i j) H
noncomputable def Po(g:Int→Int→V):R2:=fun x y H Q=>∃i j,x=.int i∧y=.int j∧Q (g i j) H
noncomputable def rU(g:Int→V):V→Hp→VK→Prop:=fun x H Q=>∃i,x=.int i∧Q (g i) H
section
variable{X:Cx}{a b c:Expr}{ta tb tc:TE}{pos:Pos}
theorem Wm(ha:PE X a ta)(hb:PE X b tb){pins:List (Addr×Obj)}{s:Shared}{σ:St}{H:Hp}{R:V→V→Hp→Prop}(I:Inv X pins σ H s)
  (h:ta σ H fun x H1=>tb σ H1 fun y H2=>R x y H2) {Q:Value→Shared→Prop} {f:Value→Value→Sem Value}
  (hf:∀v u s2 x y H2,Inv X pins σ H2 s2→RelV x v→RelV y u→R x y H2→wpAny (model X.prog X.w) X.A (f v u) Q X.xe s2):
  wpAny (model X.prog X.w) X.A (eval a X.env) (fun v s₁=>wpAny (model X.prog X.w) X.A (eval b X.env) (fun u s₂=>wpAny (model X.prog X.w) X.A (f v u) Q X.xe s₂) X.xe s₁) X.xe s:=by
 refine An (ha pins s σ H _ I h) fun v s1 ⟨x,H1,I1,r1,q1⟩=>?_
 refine An (hb pins s1 σ H1 _ I1 q1) fun u s2 ⟨y,H2,I2,r2,q2⟩=>?_
 exact hf v u s2 x y H2 I2 r1 r2 q2
theorem Vb{op:pJ}{r:R2}(ho:CO X (jY op) r)(ha:PE X a ta)(hb:PE X b tb):PE X (.BinOp a op b pos) (Zj r ta tb):=by
 intro pins s σ H Q I h
 exact wpAny_BinOp (Wm ha hb I h fun v u s2 x y H2 I2 rx ry q=>ho pins s2 σ H2 x y v u Q I2 rx ry q)
theorem Zk{op:UnaryOp}{r:V→Hp→VK→Prop}(ho:cM X (unaryOp op) r)(ha:PE X a ta):PE X (.UnaryOp op a pos) (eZ r ta):=by
 intro pins s σ H Q I h
 exact UnaryOp_ (An (ha pins s σ H _ I h) fun v s1 ⟨x,H1,I1,r1,q1⟩=>ho pins s1 σ H1 x v Q I1 r1 q1)
theorem ZO{f:Value→Value→Sem Value}{C:Int→Int→Prop}{g:Int→Int→Int}
  (rule:∀(i j:Int) (t u:Tok) (s:Shared) (Q:Value→Shared→Prop) (E:Value→Shared→Prop),C i j→Q (.int (g i j) s.toks) {s with toks:=s.toks+1}→wpAny (model X.prog X.w) X.A (f (.int i t) (.int j u)) Q E s):
  CO X f (rI C fun i j=> .int (g i j)):=by
 intro pins s σ H x y v u Q I rx ry h
 obtain⟨i,j,rfl,rfl,hc,q⟩:=h
 obtain⟨t,rfl⟩:=rx
 obtain⟨t',rfl⟩:=ry
 exact rule i j t t' s _ _ hc ⟨.int (g i j),H,I.tok _,⟨_,rfl⟩,q⟩
theorem Wn{f:Value→Value→Sem Value}{g:Int→Int→Int}
  (rule:∀(i j:Int) (t u:Tok) (s:Shared) (Q:Value→Shared→Prop) (E:Value→Shared→Prop),Q (.int (g i j) s.toks) {s with toks:=s.toks+1}→wpAny (model X.prog X.w) X.A (f (.int i t) (.int j u)) Q E s):
  CO X f (Po fun i j=> .int (g i j)):=by
 intro pins s σ H x y v u Q I rx ry h
 obtain⟨i,j,rfl,rfl,q⟩:=h
 obtain⟨t,rfl⟩:=rx
 obtain⟨t',rfl⟩:=ry
 exact rule i j t t' s _ _ ⟨.int (g i j),H,I.tok _,⟨_,rfl⟩,q⟩
theorem TJ{f:Value→Value→Sem Value}{g:Int→Int→Bool}
  (rule:∀(i j:Int) (t u:Tok) (s:Shared) (Q:Value→Shared→Prop) (E:Value→Shared→Prop),Q (.bool (g i j)) s→wpAny (model X.prog X.w) X.A (f (.int i t) (.int j u)) Q E s):
  CO X f (Po fun i j=> .bl (g i j)):=by
 intro pins s σ H x y v u Q I rx ry h
 obtain⟨i,j,rfl,rfl,q⟩:=h
 obtain⟨t,rfl⟩:=rx
 obtain⟨t',rfl⟩:=ry
 exact rule i j t t' s _ _ ⟨.bl (g i j),H,I,rfl,q⟩
noncomputable def Zl(i j:Int):Prop:=0<j∧j<1073741824
noncomputable def TK(i j:Int):Prop:=0≤j∧j≤1000000∧i.natAbs<2^64
noncomputable def CMul(i j:Int):Prop:=(-(2^64)<i∧i<2^64)∨(-(2^64)<j∧j<2^64)
theorem CMul.ok{i j:Int}(h:CMul i j):IntMulOk i j:=by
 rcases h with⟨h1,h2⟩| ⟨h1,h2⟩
 ·exact .of_left (intBits_le_64 h1 h2)
 ·exact .of_right (intBits_le_64 h1 h2)
theorem LN(k:Nat):(0:Int)≤2^k:=by
 rw[two_pow_cast]
 exact Int.natCast_nonneg _
theorem Dl:CO X (jY .Add) (Po fun i j=> .int (i+j)):=Wn fun _ _ _ _ _ _ _ q=>add_int q
theorem Wo:CO X (jY .Sub) (Po fun i j=> .int (i-j)):=Wn fun _ _ _ _ _ _ _ q=>sub_int q
theorem Wp:CO X (jY .Mult) (rI CMul fun i j=> .int (i*j)):=ZO fun _ _ _ _ _ _ _ hc q=>mul_int q hc.ok
theorem TM:CO X (jY .FloorDiv) (rI Zl fun i j=> .int (i/j)):=ZO fun i j _ _ _ _ _ hc q=>by
 have h1:(0:Int)<j:=hc.1
 have h2:j<1073741824:=hc.2
 exact floordiv_int (by omega) (by rw[Int.fdiv_eq_ediv_of_nonneg i (by omega)];exact q) (.inl (PyProof.noPylong_small (by omega)))
theorem Wq:CO X (jY .Mod) (rI (fun _ j=>0<j) fun i j=> .int (i%j)):=ZO fun i j _ _ _ _ _ hc q=>by
 have h1:(0:Int)<j:=hc
 exact mod_int' (by omega) (by rw[Int.fmod_eq_emod_of_nonneg i (by omega)];exact q)
theorem Ws:CO X (jY .Pow) (rI TK fun i j=> .int (i^j.toNat)):=ZO fun _ _ _ _ _ _ _ hc q=>pow_int_small hc.1 hc.2.1 hc.2.2 q
theorem Wt:CO X (jY .LShift) (rI TK fun i j=> .int (i*2^j.toNat)):=ZO fun _ _ _ _ _ _ _ hc q=>lshift_int_small hc.1 hc.2.1 hc.2.2 q
theorem Wu:CO X (jY .RShift) (rI (fun _ j=>0≤j) fun i j=> .int (i/2^j.toNat)):=ZO fun i j _ _ _ _ _ hc q=>
 rshift_int hc (by rw[Int.fdiv_eq_ediv_of_nonneg i (LN _)];exact q)
theorem Wv:CO X (jY .BitAnd) (Po fun i j=> .int (mW i j)):=Wn fun _ _ _ _ _ _ _ q=>and_int q
theorem fA{f:Value→Sem Value}{g:Int→Int}
  (rule:∀(i:Int) (t:Tok) (s:Shared) (Q:Value→Shared→Prop) (E:Value→Shared→Prop),Q (.int (g i) s.toks) {s with toks:=s.toks+1}→wpAny (model X.prog X.w) X.A (f (.int i t)) Q E s):
  cM X f (rU fun i=> .int (g i)):=by
 intro pins s σ H x v Q I rx h
 obtain⟨i,rfl,q⟩:=h
 obtain⟨t,rfl⟩:=rx
 exact rule i t s _ _ ⟨.int (g i),H,I.tok _,⟨_,rfl⟩,q⟩
theorem Ww:cM X (unaryOp .USub) (rU fun i=> .int (-i)):=fA fun _ _ _ _ _ q=>neg_int q
end
noncomputable def Zm:V→V→Bool
 | .non,.non=>true| .non,.int _=>true| .int _,.non=>true| .non,.bl _=>true| .bl _,.non=>true| .non,.str _=>true| .str _,.non=>true
 | .int _,.int _=>true| .bl _,.bl _=>true| .str _,.str _=>true| .byt _,.byt _=>true
 | .int _,.str _=>true| .str _,.int _=>true| .bl _,.str _=>true| .str _,.bl _=>true
 |_,_=>false
noncomputable def eG:R2:=fun x y H Q=>Zm x y=true∧Q (.bl (decide (x=y))) H
noncomputable def dG:R2:=fun x y H Q=>Zm x y=true∧Q (.bl (!decide (x=y))) H
theorem Mq{i j:Int}:decide (V.int i=V.int j)=(i==j):=by
 rw[kB]
 simp
theorem Pp{i j:Bool}:decide (V.bl i=V.bl j)=(i==j):=by
 rw[kB]
 simp
theorem Mr{i j:Str}:decide (V.str i=V.str j)=(i==j):=by
 rw[kB]
 simp
theorem Ms{i j:Array UInt8}:decide (V.byt i=V.byt j)=(i.toList==j.toList):=by
 rw[kB]
 cases i
 cases j
 simp
section
variable{X:Cx}{a b c:Expr}{ta tb tc:TE}{pos:Pos}
theorem AU{pins:List (Addr×Obj)}{σ:St}{H:Hp}{s:Shared}{Q:VK}{k k':Bool}(I:Inv X pins σ H s)(q:Q (.bl k) H)(e:k=k'):EP X pins σ Q (.bool k') s:=by
 subst e
 exact⟨.bl k,H,I,rfl,q⟩
theorem Zo:CO X (jf .Eq) eG:=by
 intro pins s σ H x y v u Q I rx ry h
 obtain⟨hs,q⟩:=h
 cases x with
 |non=>
  cases rx
  cases y with
  |non=>cases ry;exact PySem.EqNone.eq_none_none (AU I q (by simp))
  |bl j=>cases ry;exact PySem.EqNone.eq_none_bool (AU I q (by simp))
  |int j=>obtain⟨t',rfl⟩:=ry;exact PySem.EqNone.eq_none_int (AU I q (by simp))
  |str j=>obtain⟨t',rfl⟩:=ry;exact PySem.EqNone.eq_none_str (AU I q (by simp))
  |_=>exact absurd (show false=true from hs) c9
 |bl i=>
  cases rx
  cases y with
  |non=>cases ry;exact PySem.EqNone.eq_bool_none (AU I q (by simp))
  |bl j=>cases ry;exact eq_bool (AU I q Pp)
  |str j=>obtain⟨t',rfl⟩:=ry;exact PySem.EqMixed.eq_bool_str (AU I q (by simp))
  |_=>exact absurd (show false=true from hs) c9
 |int i=>
  obtain⟨t,rfl⟩:=rx
  cases y with
  |non=>cases ry;exact PySem.EqNone.eq_int_none (AU I q (by simp))
  |int j=>obtain⟨t',rfl⟩:=ry;exact eq_int (AU I q Mq)
  |str j=>obtain⟨t',rfl⟩:=ry;exact PySem.EqMixed.eq_int_str (AU I q (by simp))
  |_=>exact absurd (show false=true from hs) c9
 |str i=>
  obtain⟨t,rfl⟩:=rx
  cases y with
  |non=>cases ry;exact PySem.EqNone.eq_str_none (AU I q (by simp))
  |bl j=>cases ry;exact PySem.EqMixed.eq_str_bool (AU I q (by simp))
  |int j=>obtain⟨t',rfl⟩:=ry;exact PySem.EqMixed.eq_str_int (AU I q (by simp))
  |str j=>obtain⟨t',rfl⟩:=ry;exact eq_str (AU I q Mr)
  |_=>exact absurd (show false=true from hs) c9
 |byt i=>
  obtain⟨t,rfl⟩:=rx
  cases y with
  |byt j=>obtain⟨t',rfl⟩:=ry;exact PySem.W.eq_bytes (AU I q Ms)
  |_=>exact absurd (show false=true from hs) c9
 |_=>cases y<;>exact absurd (show false=true from hs) c9
theorem Jo:CO X (jf .NotEq) dG:=by
 intro pins s σ H x y v u Q I rx ry h
 obtain⟨hs,q⟩:=h
 cases x with
 |non=>
  cases rx
  cases y with
  |non=>cases ry;exact PySem.EqNone.ne_none_none (AU I q (by simp))
  |bl j=>cases ry;exact PySem.EqNone.ne_none_bool (AU I q (by simp))
  |int j=>obtain⟨t',rfl⟩:=ry;exact PySem.EqNone.ne_none_int (AU I q (by simp))
  |str j=>obtain⟨t',rfl⟩:=ry;exact PySem.EqNone.ne_none_str (AU I q (by simp))
  |_=>exact absurd (show false=true from hs) c9
 |bl i=>
  cases rx
  cases y with
  |non=>cases ry;exact PySem.EqNone.ne_bool_none (AU I q (by simp))
  |bl j=>cases ry;exact ne_bool (AU I q (congrArg not Pp))
  |str j=>obtain⟨t',rfl⟩:=ry;exact PySem.EqMixed.ne_bool_str (AU I q (by simp))
  |_=>exact absurd (show false=true from hs) c9
 |int i=>
  obtain⟨t,rfl⟩:=rx
  cases y with
  |non=>cases ry;exact PySem.EqNone.ne_int_none (AU I q (by simp))
  |int j=>obtain⟨t',rfl⟩:=ry;exact ne_int (AU I q (congrArg not Mq))
  |str j=>obtain⟨t',rfl⟩:=ry;exact PySem.EqMixed.ne_int_str (AU I q (by simp))
  |_=>exact absurd (show false=true from hs) c9
 |str i=>
  obtain⟨t,rfl⟩:=rx
  cases y with
  |non=>cases ry;exact PySem.EqNone.ne_str_none (AU I q (by simp))
  |bl j=>cases ry;exact PySem.EqMixed.ne_str_bool (AU I q (by simp))
  |int j=>obtain⟨t',rfl⟩:=ry;exact PySem.EqMixed.ne_str_int (AU I q (by simp))
  |str j=>obtain⟨t',rfl⟩:=ry;exact ne_str (AU I q (congrArg not Mr))
  |_=>exact absurd (show false=true from hs) c9
 |byt i=>
  obtain⟨t,rfl⟩:=rx
  cases y with
  |byt j=>obtain⟨t',rfl⟩:=ry;exact PySem.W.ne_bytes (AU I q (congrArg not Ms))
  |_=>exact absurd (show false=true from hs) c9
 |_=>cases y<;>exact absurd (show false=true from hs) c9
theorem Vc:CO X (jf .Lt) (Po fun i j=> .bl (decide (i<j))):=TJ fun _ _ _ _ _ _ _ q=>lt_int q
theorem Vd:CO X (jf .LtE) (Po fun i j=> .bl (decide (i≤j))):=TJ fun _ _ _ _ _ _ _ q=>le_int q
theorem Zp:CO X (jf .Gt) (Po fun i j=> .bl (decide (j<i))):=TJ fun _ _ _ _ _ _ _ q=>gt_int q
theorem Zq:CO X (jf .GtE) (Po fun i j=> .bl (decide (j≤i))):=TJ fun _ _ _ _ _ _ _ q=>ge_int q
theorem Pq:CO X (jf .Is) (fun x y H Q=>y=.non∧Q (.bl (decide (x=.non))) H):=by
 intro pins s σ H x y v u Q I rx ry h
 obtain⟨rfl,q⟩:=h
 cases ry
 refine is_none_gen (AU I q ?_)
 cases x<;>first
  | (cases rx;rfl)
  | (obtain⟨t,rfl⟩:=rx;rfl)
theorem Mt:CO X (jf .IsNot) (fun x y H Q=>y=.non∧Q (.bl (!decide (x=.non))) H):=by
 intro pins s σ H x y v u Q I rx ry h
 obtain⟨rfl,q⟩:=h
 cases ry
 refine isnot_none_gen (AU I q ?_)
 cases x<;>first
  | (cases rx;rfl)
  | (obtain⟨t,rfl⟩:=rx;rfl)
theorem Ak(b:Expr){op:CmpOp}(h:op≠.In:=by decide)(h2:op≠.NotIn:=by decide):behindInMarks op b=false:=by
 have e1:(op==CmpOp.In)=false:=by cases op<;>first|rfl|exact absurd rfl h
 have e2:(op==CmpOp.NotIn)=false:=by cases op<;>first|rfl|exact absurd rfl h2
 cases b<;>simp[behindInMarks,e1,e2]
theorem TN{op:CmpOp}{r:R2}(ho:CO X (jf op) r)(ha:PE X a ta)(hb:PE X b tb)(hm:behindInMarks op b=false):PE X (.Compare a [op] [b] pos) (Zj r ta tb):=by
 intro pins s σ H Q I h
 exact wpAny_Compare1 (Wm ha hb I h fun v u s2 x y H2 I2 rx ry q=>ho pins s2 σ H2 x y v u Q I2 rx ry q) hm
noncomputable def Zr(t:TE):TT:=fun σ H Q=>t σ H fun x H'=>∃k,x=.bl k∧Q k H'
theorem IU{op:CmpOp}{r:R2}(ho:CO X (jf op) r)(ha:PE X a ta)(hb:PE X b tb)(hm:behindInMarks op b=false):PT X (.Compare a [op] [b] pos) (Zr (Zj r ta tb)):=by
 intro pins s σ H Q I h
 refine wpAny_isTrue_Compare1 (An (ha pins s σ H _ I h) fun v s1 ⟨x,H1,I1,r1,q1⟩=>An (hb pins s1 σ H1 _ I1 q1) fun u s2 ⟨y,H2,I2,r2,q2⟩=>
  An (ho pins s2 σ H2 x y v u _ I2 r1 r2 q2) fun c s3 ⟨z,H3,I3,r3,k,e,q3⟩=>?_) hm
 subst e
 cases r3
 exact j3 ⟨H3,I3,q3⟩
noncomputable def Wx(r r':R2)(ta tb tc:TE):TE:=fun σ H Q=>ta σ H fun x H1=>tb σ H1 fun y H2=>r x y H2 fun z H3=>∃k,z=.bl k∧
 (if k=true then tc σ H3 fun w' H4=>r' y w' H4 Q else Q (.bl false) H3)
theorem Pt{op op':CmpOp}{r r':R2}(ho:CO X (jf op) r)(ho':CO X (jf op') r')(ha:PE X a ta)(hb:PE X b tb)(hc:PE X c tc)
  (hm:lastMarks [op,op'] [b,c]=false:=by with_unfolding_all rfl):PE X (.Compare a [op,op'] [b,c] pos) (Wx r r' ta tb tc):=by
 intro pins s σ H Q I h
 refine Compare_chain (An (ha pins s σ H _ I h) fun v s1 ⟨x,H1,I1,r1,q1⟩=>chain_link (An (hb pins s1 σ H1 _ I1 q1) fun u s2 ⟨y,H2,I2,r2,q2⟩=>
  An (ho pins s2 σ H2 x y v u _ I2 r1 r2 q2) fun d s3 ⟨z,H3,I3,r3,k,e,q3⟩=>?_)) hm
 subst e
 cases r3
 refine j3 ?_
 cases k with
 |false=>exact ite_ff ⟨.bl false,H3,I3,rfl,q3⟩
 |true=>exact ite_tt (chain_last (An (hc pins s3 σ H3 _ I3 q3) fun w' s4 ⟨z',H4,I4,r4,q4⟩=>ho' pins s4 σ H4 y z' u w' Q I4 r2 r4 q4))
noncomputable def Wy(K:a9)(x:V)(H:Hp)(k:Bool):Prop:=
 match x with
 | .non=>k=false
 | .bl b=>k=b
 | .int i=>k=(i !=0)
 | .str y=>y.length≤sizeLine∧k=((y.length:Int) !=0)
 | .byt y=>y.size≤sizeLine∧k=((y.size:Int) !=0)
 | .ref p=> (∃xs,SqL K H p xs∧k=!xs.isEmpty)∨(∃xs,FV K H p xs∧k=!xs.isEmpty)∨∃kvs,H p=some (.dK kvs)∧k=!kvs.isEmpty
 |_=>False
theorem LO{κ:Type}{kvs:List (κ×V)}{vs:List (κ×Value)}(r:KV kvs vs):(!vs.isEmpty)=!kvs.isEmpty:=by
 cases r<;>rfl
theorem Fw{xs:List V}{its:List Value}(r:Vals xs its):(!its.toArray.isEmpty)=!xs.isEmpty:=by
 cases r<;>simp
theorem En:(sizeLine:Nat)<2^63:=by rw[iH];decide
theorem Wz:dF X (fun x H Q=>∃k,Wy X.K x H k∧Q k H):=by
 intro pins s σ H x v Q I rx h
 obtain⟨k,e,q⟩:=h
 have hl:=En
 have hs:sizeLine=16777216:=iH
 cases x with
 |non=>
  cases rx
  have e':k=false:=e
  subst e'
  exact truthy_none ⟨H,I,q⟩
 |bl b=>
  cases rx
  have e':k=b:=e
  subst e'
  exact j3 ⟨H,I,q⟩
 |int i=>
  obtain⟨t,rfl⟩:=rx
  have e':k=(i !=0):=e
  subst e'
  exact PySem.P.truthy_int ⟨H,I,q⟩
 |str y=>
  obtain⟨t,rfl⟩:=rx
  obtain⟨hy,e'⟩:y.length≤sizeLine∧k=((y.length:Int) !=0):=e
  subst e'
  exact PySem.P.truthy_str (by omega) ⟨H,I.tok _,q⟩
 |byt y=>
  obtain⟨t,rfl⟩:=rx
  obtain⟨hy,e'⟩:y.size≤sizeLine∧k=((y.size:Int) !=0):=e
  subst e'
  exact PySem.W.truthy_bytes (by omega) ⟨H,I.tok _,q⟩
 |ref p=>
  cases rx
  have e':(∃xs,SqL X.K H p xs∧k=!xs.isEmpty)∨(∃xs,FV X.K H p xs∧k=!xs.isEmpty)∨∃kvs,H p=some (.dK kvs)∧k=!kvs.isEmpty:=e
  rcases e' with⟨xs,hx,e'⟩| ⟨xs,hx,e'⟩| ⟨kvs,hx,e'⟩
  ·subst e'
   obtain⟨its,r,pl,hz⟩:=I.list hx
   have hlen:=r.length
   exact wpAny_truthy_list pl.isList (by simp only[gj];omega) ⟨H,I.tok _,by rw[Fw r];exact q⟩
  ·subst e'
   obtain⟨its,r,pl,hz⟩:=I.tuple hx
   have hlen:=r.length
   exact truthy_tuple pl (by simp only[gj];omega) ⟨H,I.tok _,by rw[Fw r];exact q⟩
  ·subst e'
   obtain⟨hz,hS,vs,r,m⟩:kvs.length≤sizeLine∧(p==sysModules)=false∧∃vs,KV kvs vs∧s.heap.DictOf (IQ X.prog X.w) p vs:=I.hok p _ hx
   have hlen:kvs.length=vs.length:=Paired.length r
   exact wpAny_truthy_dict hS m (by omega) ⟨H,I.tok _,by rw[LO r];exact q⟩
 |_=>exact(show False from e).elim
theorem Jp(ha:PE X a ta)(he:∀whole,isTrue a X.env whole=(do let v←whole;standAt a.pos;holding [v] (truthy v))):
  PT X a (fun σ H Q=>ta σ H fun x H'=>∃k,Wy X.K x H' k∧Q k H'):=by
 intro pins s σ H Q I h
 exact isTrue_plain (An (ha pins s σ H _ I h) fun v s1 ⟨x,H1,I1,r1,q1⟩=>Wz pins s1 σ H1 x v Q I1 r1 q1) (he _)
theorem Fy{x:V}{us:List Value}(r:Vals [x] us):∃u,us=[u]∧RelV x u:=by
 cases r with
 |cons r1 r2=>cases r2;exact⟨_,rfl,r1⟩
theorem Pu{x y:V}{us:List Value}(r:Vals [x,y] us):∃u w',us=[u,w']∧RelV x u∧RelV y w':=by
 cases r with
 |cons r1 r2=>
  cases r2 with
  |cons r3 r4=>cases r4;exact⟨_,_,rfl,r1,r3⟩
theorem OK(hc:X.calm=true):BC X (.builtin "max") (fun xs H Q=>∃i j,xs=[.int i,.int j]∧Q (.int (if j>i then j else i)) H):=by
 intro pins s σ H xs us Q I r h
 obtain⟨i,j,rfl,q⟩:=h
 obtain⟨u,w',rfl,⟨t,rfl⟩,⟨t',rfl⟩⟩:=Pu r
 refine max_two_ints (I.ok.hd hc) fun h' tk k=> ⟨_,H,I.kept k,?_,q⟩
 by_cases hj:j>i
 ·rw[if_pos hj,if_pos hj];exact⟨_,rfl⟩
 ·rw[if_neg hj,if_neg hj];exact⟨_,rfl⟩
theorem OL(hc:X.calm=true):BC X (.builtin "min") (fun xs H Q=>∃i j,xs=[.int i,.int j]∧Q (.int (if j<i then j else i)) H):=by
 intro pins s σ H xs us Q I r h
 obtain⟨i,j,rfl,q⟩:=h
 obtain⟨u,w',rfl,⟨t,rfl⟩,⟨t',rfl⟩⟩:=Pu r
 refine min_two_ints (I.ok.hd hc) fun h' tk k=> ⟨_,H,I.kept k,?_,q⟩
 by_cases hj:j<i
 ·rw[if_pos hj,if_pos hj];exact⟨_,rfl⟩
 ·rw[if_neg hj,if_neg hj];exact⟨_,rfl⟩
theorem OM:BC X (.type "int") (fun xs H Q=> (∃i,xs=[.int i]∧Q (.int i) H)∨∃k,xs=[.bl k]∧Q (.int (if k then 1 else 0)) H):=by
 intro pins s σ H xs us Q I r h
 rcases h with⟨i,rfl,q⟩| ⟨k,rfl,q⟩
 ·obtain⟨u,rfl,t,rfl⟩:=Fy r
  exact call_int_int ⟨.int i,H,I,⟨_,rfl⟩,q⟩
 ·obtain⟨u,rfl,r1⟩:=Fy r
  cases r1
  exact call_int_bool ⟨.int (if k then 1 else 0),H,I.tok _,⟨_,rfl⟩,q⟩
end
structure ObjM(h:Heap)(x dx C:Addr)(mA:Str→Option Value):Prop where
 obj:h.get? x=some (o6 C dx)
 ns:h.Ns1 dx mA
 ne:dx≠x
theorem ON{h:Heap}{dx:Addr}{mA:Str→Option Value}(n:h.Ns1 dx mA):∃od,h.get? dx=some od∧∀name,pF name od=some (mA name):=by
 obtain⟨o,es,ep,ho,hd,hk,_,hm⟩:=n
 refine⟨o,ho,fun name=>?_⟩
 have e:=hm name
 unfold nsFind findBy at e
 rw[←Array.find?_toList] at e
 unfold pF
 rw[hd]
 dsimp only
 split
 ·rename_i y q
  rw[q] at e
  exact congrArg some e
 ·rename_i q
  rw[q] at e
  have a:es.toList.any (·.refKey)=false:=by
   rw[List.any_eq_false]
   intro y hy
   obtain⟨z,t,hkey⟩:=hk y (Array.mem_toList_iff.mp hy)
   simp[DictEntry.refKey,hkey]
  have a':¬es.toList.any (·.refKey)=true:=by rw[a];exact c9
  rw[if_neg a']
  exact congrArg some e
theorem ObjM.look{h:Heap}{x dx C:Addr}{mA:Str→Option Value}(I:ObjM h x dx C mA):∃od,PySem.W.InstAt h x (o6 C dx) C (some od)∧∀name,pF name od=some (mA name):=
 let⟨od,ho,hl⟩:=ON I.ns
 ⟨od,⟨I.obj,rfl,rfl,ho⟩,hl⟩
section
variable{prog:Program}{w:World}{A:gx}{E:Value→Shared→Prop}{s:Shared}{K:a9}{x dx C f:Addr}{mA:Str→Option Value}{name:Str}{v:Value}
end
section
variable{P:Program}{w:World}{H H':Hp}{h h':Heap}{a C dx:Addr}{fs fs':List (Str×V)}
theorem TQ(hok:HOk P w H h)(e:H a=some (.ins C dx fs)):∃mA,ObjM h a dx C mA∧(∀f,Sy (fs.lookup f) (mA f))∧qm mA (fs.map (·.1))∧fs.length≤1000∧H dx=some (.own a):=by
 obtain⟨d,z,ne,ob,mA,n,r,q⟩:=(show ObjOk P w H h a (.ins C dx fs) from hok a _ e)
 exact⟨mA,⟨ob,n,ne⟩,r,q,z,d⟩
end
structure Cls(K:a9)(C:Addr):Prop where
 pg:PySem.W.plainGet K C Str.empty=true
 hd:PySem.W.hasDictIn K C=true
 po:PySem.W.plainOver K C=true
 sa:km K (.ref C) "__setattr__" =some (some (.builtin "object.__setattr__"))
theorem Cls.get{K:a9}{C:Addr}(c:Cls K C)(f:Str):PySem.W.plainGet K C f=true:=c.pg
section
variable{X:Cx}{pins:List (Addr×Obj)}{σ:St}{H:Hp}{s:Shared}{a C dx:Addr}{fs:List (Str×V)}{f:Str}{v:V}{A:gx}{E:Value→Shared→Prop}
end
section
variable{X:Cx}{o e value:Expr}{f:Str}{pos pos' tpos:Pos}{ta tv:TE}
end
section
variable{X:Cx}{pins:List (Addr×Obj)}{σ:St}{H:Hp}{s:Shared}{A:gx}{E:Value→Shared→Prop}{Q:Value→Shared→Prop}{c:Value}{b:Bool}
inductive TyOf(K:a9)(H:Hp):V→Value→Prop where
 |non:TyOf K H .non (.type "NoneType")
 |bl (x:Bool):TyOf K H (.bl x) (.type "bool")
 |int (i:Int):TyOf K H (.int i) (.type "int")
 |str (x:Str):TyOf K H (.str x) (.type "str")
 |flt (x:UInt64):TyOf K H (.flt x) (.type "float")
 |lst {a:Addr} {xs:List V} (e:H a=some (.lst xs)):TyOf K H (.ref a) (.type "list")
 |frz {a:Addr} {o:Obj} {xs:List V} (e:H a=some (.frz o (.lst xs))):TyOf K H (.ref a) (.type "list")
 |tup {a:Addr} {xs:List V} (e:H a=some (.tup xs)):TyOf K H (.ref a) (.type "tuple")
 |dK {a:Addr} {kvs:List (Jh×V)} (e:H a=some (.dK kvs)):TyOf K H (.ref a) (.type "dict")
 |dT {a:Addr} {kvs:List (List Jh×V)} (e:H a=some (.dT kvs)):TyOf K H (.ref a) (.type "dict")
 |ins {a C dx:Addr} {fs:List (Str×V)} (e:H a=some (.ins C dx fs)) (cl:Cls K C) (ha:km K (.ref C) "__class__" =some (some (.builtin "object.__class__")))
   (hn:oh K (.builtin "object.__class__") "__get__" =some (some (.builtin "getset_descriptor.__get__"))) (htk:o4 K (.builtin "object.__class__")=some true)
   (hm:jN K C (.type "object")=some true):TyOf K H (.ref a) (.ref C)
theorem OO{x:V}{u t:Value}(I:Inv X pins σ H s)(rx:RelV x u)(ty:TyOf X.K H x t)(e:gz X.K t c=some b)(h:∀tk,Q (.bool b) {s with toks:=tk}):
  wpAny (model X.prog X.w) A (call (.builtin "isinstance") [u,c]) Q E s:=by
 cases ty with
 |non=>cases(show u=lU from rx);exact jj PySem.W.kitx_none I.kIn oP e (fun z=>nomatch z) h
 |bl y=>cases(show u=oO y from rx);exact jj PySem.W.kitx_bool I.kIn oP e (fun z=>nomatch z) h
 |int i=>obtain⟨t,q⟩:=(show∃t,u=Value.int i t from rx);cases q;exact jj PySem.W.kitx_int I.kIn oP e (fun z=>nomatch z) h
 |str y=>obtain⟨t,q⟩:=(show∃t,u=Value.str y t from rx);cases q;exact jj PySem.W.kitx_str I.kIn oP e (fun z=>nomatch z) h
 |flt y=>obtain⟨t,q⟩:=(show∃t,u=Value.float y t from rx);cases q;exact jj PySem.W.kitx_float I.kIn oP e (fun z=>nomatch z) h
 | @lst a xs ea=>
  cases(show u=Value.ref a from rx)
  obtain⟨_,_,n,_,h1⟩:=(show ObjOk X.prog X.w H s.heap a (.lst xs) from I.hok a _ ea)
  exact jj PySem.W.kitx_list I.kIn ⟨_,h1,rfl⟩ e (fun z=>nomatch z) h
 | @frz a ob xs ea=>
  cases(show u=Value.ref a from rx)
  obtain⟨_,_,_,n,_,h1⟩:=(show ObjOk X.prog X.w H s.heap a (.frz ob (.lst xs)) from I.hok a _ ea)
  exact jj PySem.W.kitx_list I.kIn ⟨_,h1,rfl⟩ e (fun z=>nomatch z) h
 | @tup a xs ea=>
  cases(show u=Value.ref a from rx)
  obtain⟨_,_,_,p⟩:=(show ObjOk X.prog X.w H s.heap a (.tup xs) from I.hok a _ ea)
  obtain⟨o,h1,h2,_⟩:=p
  exact jj PySem.W.kitx_tuple I.kIn ⟨o,h1,h2⟩ e (fun z=>nomatch z) h
 | @dK a kvs ea=>
  cases(show u=Value.ref a from rx)
  obtain⟨_,_,vs,_,p⟩:=(show ObjOk X.prog X.w H s.heap a (.dK kvs) from I.hok a _ ea)
  obtain⟨o,es,ep,h1,h2,_⟩:=p
  exact jj PySem.W.kitx_dict I.kIn ⟨o,h1,h2.1⟩ e (fun z=>nomatch z) h
 | @dT a kvs ea=>
  cases(show u=Value.ref a from rx)
  obtain⟨_,_,xs,_,o,es,ep,h1,h2,_⟩:=(show ObjOk X.prog X.w H s.heap a (.dT kvs) from I.hok a _ ea)
  exact jj PySem.W.kitx_dict I.kIn ⟨o,h1,h2.1⟩ e (fun z=>nomatch z) h
 | @ins a C dx fs ea cl ha hn htk hm=>
  cases(show u=Value.ref a from rx)
  obtain⟨mA,O,_⟩:=TQ I.hok ea
  obtain⟨od,J,_⟩:=O.look
  exact jj (PySem.W.kitx_own (cl.get _) cl.hd ha hn htk hm) I.kIn J e (fun z=>nomatch z) h
end
structure Room(k:Nat)(A:gx):Prop where
 hd:A.handled=none
 dp:A.depth+3*k+5<pA
 un:A.units+16*k+200<cLine
 gd:A.guards=some []
theorem Room.mono{j k:Nat}{A:gx}(r:Room k A)(h:j≤k):Room j A:=⟨r.hd,by have:=r.dp;omega,by have:=r.un;omega,r.gd⟩
theorem Room.deeper{k:Nat}{A:gx}(r:Room (k+1) A)(env:Env):Room k (A.deeper env):=
 ⟨r.hd,by have:=r.dp;show A.depth+1+3*k+5<_;omega,by have:=r.un;show A.units+3+16*k+200<_;omega,r.gd⟩
theorem Room.depth{k:Nat}{A:gx}(r:Room k A):A.depth<pA:=by have:=r.dp;omega
noncomputable def dH:TA:=fun _ H Q=>Q [] H
noncomputable def Zs(ta:TE)(tr:TA):TA:=fun σ H Q=>ta σ H fun x H1=>tr σ H1 fun xs H2=>Q (x::xs) H2
section
variable{X:Cx}{e:Expr}{es:List Expr}{te:TE}{t:TA}{pos:Pos}
theorem Ar:PA X [] dH:=fun _ _ _ _ H Q I h=>Calls.spliced_nil ⟨[],H,I,.nil,h⟩
theorem AI(ha:PE X e te)(hr:PA X es t)(hs:fj (e::es) X.env=(false,eval e X.env)::fj es X.env:=by rfl):PA X (e::es) (Zs te t):=by
 intro pos pins s σ H Q I h
 rw[hs]
 show wpAny _ _ (spliced ((false,eval e X.env)::jS pos (fj es X.env))) _ _ s
 refine Calls.spliced_cons (An (ha pins s σ H _ I h) fun u s1 ⟨x,H1,I1,r1,q1⟩=>?_)
 exact An (hr pos pins s1 σ H1 _ I1 q1) fun us s2 ⟨xs,H2,I2,r2,q2⟩=> ⟨x::xs,H2,I2,.cons r1 r2,q2⟩
noncomputable def dI(t:TA):TE:=fun σ H Q=>t σ H fun xs H1=>xs.length≤sizeLine∧∀p,H1 p=none→Q (.ref p) (upd H1 p (.tup xs))
noncomputable def dJ(t:TA):TE:=fun σ H Q=>t σ H fun xs H1=>xs.length≤sizeLine∧∀p,H1 p=none→Q (.ref p) (upd H1 p (.lst xs))
theorem XA{x1}(h:PA X es t):PE X (.Tuple es x1 pos) (dI t):=by
 intro pins s σ H Q I hq
 refine wpAny_Tuple_spliced (An (h pos pins s σ H _ I hq) fun us s1 ⟨xs,H1,I1,r,z,q⟩=> ⟨by rw[←r.length];exact z,?_⟩)
 have hf:H1 s1.heap.objs.size=none:=I1.hok.fresh (fv _)
 refine⟨.ref s1.heap.objs.size,upd H1 s1.heap.objs.size (.tup xs),I1.laid (t':=s1.toks) (fun b u e=>e9 _ e) (fv _) ?_,rfl,q _ hf⟩
 exact⟨z,us,r,⟨_,gJ _ rfl,rfl,_,rfl⟩⟩
theorem Fz(h:PA X es t):PE X (.List es pos) (dJ t):=by
 intro pins s σ H Q I hq
 refine wpAny_List_spliced (An (h pos pins s σ H _ I hq) fun us s1 ⟨xs,H1,I1,r,z,q⟩=> ⟨by rw[←r.length];exact z,?_⟩)
 have hf:H1 s1.heap.objs.size=none:=I1.hok.fresh (fv _)
 refine⟨.ref s1.heap.objs.size,upd H1 s1.heap.objs.size (.lst xs),I1.laid (t':=s1.toks) (fun b u e=>e9 _ e) (fv _) ?_,rfl,q _ hf⟩
 exact⟨z,us,0,r,gJ _ rfl⟩
end
noncomputable abbrev Sp:=List V→Hp→VK→XK→Prop
noncomputable abbrev Pc:=List Env→Hp→Shared→XK→Value→Shared→Prop
structure Env0(P:Program)(w:World)(K:a9)(mg:Str→Option Value)(base:Heap)(A:gx)(outer:List Env)(s:Shared)(H:Hp):Prop where
 frames:A.frames=some outer
 mod:Mod K mg base
 bs:∀b o,base.get? b=some o→s.heap.get? b=some o∧H b=none
 bsz:base.objs.size≤s.heap.objs.size
 funs:s.heap.FunFrames base outer
 frf:∀b∈El outer,H b=none
 hok:HOk P w H s.heap
 bare:nI s.gens
noncomputable def CE(outer:List Env)(P:Program)(w:World)(H:Hp)(s:Shared)(Q:VK)(u:Value)(s':Shared):Prop:=
 ∃v H',s'.os=s.os∧nI s'.gens∧Un (El outer) [] H H' s.heap s'.heap∧HOk P w H' s'.heap∧RelV v u∧Q v H'
noncomputable def CR(CX:Pc)(outer:List Env)(P:Program)(w:World)(H:Hp)(s:Shared)(Q:VK)(E:XK)(r:qz)(s':Shared):Prop:=
 match r with
 | .ok (.ret u)=>CE outer P w H s Q u s'
 | .ok _=>False
 | .error e=>CX outer H s E e s'
structure FnOk(P:Program)(w:World)(K:a9)(mg:Str→Option Value)(base:Heap)(CX:Pc)(k:Nat)(f:Addr)(fd:gE)(ps:List Str)(sp:Sp):Prop where
 len:∀vs H Q E,sp vs H Q E→vs.length=ps.length
 run:∀(A:gx) (outer:List Env) (s:Shared) (H:Hp) (args:Args) (us:List Value) (vs:List V) (Q:VK) (E:XK),Room k A→Env0 P w K mg base A outer s H→pT s fd args (ps.zip us)→Vals vs us→sp vs H Q E→
  lQ (model P w) A (.call (.ref f) args) (CR CX outer P w H s Q E) s
theorem FnOk.mono{P:Program}{w:World}{K:a9}{mg:Str→Option Value}{base:Heap}{CX:Pc}{j k:Nat}{f:Addr}{fd:gE}{ps:List Str}{sp:Sp}(F:FnOk P w K mg base CX j f fd ps sp)(h:j≤k):
  FnOk P w K mg base CX k f fd ps sp:=⟨F.len,fun A outer s H args us vs Q E hr=>F.run A outer s H args us vs Q E (hr.mono h)⟩
section
variable{X:Cx}{pins:List (Addr×Obj)}{σ:St}{H:Hp}{s s':Shared}
theorem Inv.env0(I:Inv X pins σ H s):Env0 X.prog X.w X.K X.mg X.base X.A X.stack s H:=
 ⟨I.ok.frames,I.ok.mod,I.bs,iq I.ok.bsz I.sz,I.stack,I.stkFree,I.hok,I.bare⟩
theorem Inv.after{Q:VK}{u:Value}(I:Inv X pins σ H s)(h:CE X.stack X.prog X.w H s Q u s'):EP X pins σ Q u s':=by
 obtain⟨v,H',os,bare,un,hok,r,q⟩:=h
 obtain⟨hh,g,d,t,os'⟩:=s'
 obtain rfl:os'=s.os:=os
 exact⟨v,H',I.call (h':=hh) (g':=g) (d':=d) (t':=t) (ch:=[]) un hok bare (fun b z=>absurd z (by simp)),r,q⟩
end
noncomputable def Binds(K:a9)(fd:gE)(ps:List Str)(ds:List Value):Prop:=
 ∀(s:Shared) (us:List Value),K.In s.heap→(us++ds).length=ps.length→pT s fd ⟨us,[]⟩ (ps.zip (us++ds))
theorem Binds.all{K:a9}{fd:gE}{ps:List Str}(h:∀us:List Value,us.length=ps.length→bindArgs fd ⟨us,[]⟩=pure (ps.zip us)):Binds K fd ps []:=fun s us _ hl=>by
 rw[i8] at hl ⊢
 exact .of_eq (h us hl)
section
variable{X:Cx}{CX:Pc}{k:Nat}{f C:Addr}{fd:gE}{ps:List Str}{sp:Sp}{dvs:List V}{ds:List Value}{E:XK}{x m:Str}{p pos apos:Pos}{e o:Expr}{es:List Expr}{ta:TE}{t:TA}
end
section
variable{X:Cx}{CX:Pc}{k:Nat}{f C:Addr}{fd:gE}{ps ks:List Str}{sp:Sp}{E:XK}{x m:Str}{p pos apos kpos:Pos}{e o:Expr}{es:List Expr}{kws:List oq}{te ta:TE}{t tk:TA}{nm:Option Str}
variable{g:List Value→List Value→List Value}{gV:List V→List V→List V}
end
structure FnScope(N P:List Str)(sc:Scope):Prop where
 kind:sc.kind=.function
 co:sc.isCoroutine=false
 gen:sc.isGenerator=false
 nd:N.Nodup
 pre:N.take P.length=P
 par:∀x∈P,sc.names.lookup x=some .local∨sc.names.lookup x=some .cell
 nofree:∀y∈sc.names,y.2≠.free
theorem Ha{kindOf:Str→Option NameKind}{x:Str}:∀{binds:List (Str×Value)} {m:Str→Option Value},(∀v,(x,v)∉binds)→bindL kindOf binds m x=m x
 | [],_,_=>rfl
 | (n,v)::r,m,h=>by
  unfold bindL
  rw[Ha fun w hw=>h w (fk _ hw)]
  split
  ·have:x≠n:=by rintro rfl;exact h v gC
   simp[this]
  ·rfl
theorem Hb{kindOf:Str→Option NameKind}{x:Str}:∀{binds:List (Str×Value)} {m:Str→Option Value},(∀v,(x,v)∉binds)→bindC kindOf binds m x=m x
 | [],_,_=>rfl
 | (n,v)::r,m,h=>by
  unfold bindC
  rw[Hb fun w hw=>h w (fk _ hw)]
  split
  ·rfl
  ·have:x≠n:=by rintro rfl;exact h v gC
   simp[this]
theorem Hc{kindOf:Str→Option NameKind}{x:Str}{v:Value}:∀{P:List Str} {vs:List Value} {i:Nat} {m:Str→Option Value},P.Nodup→P[i]?=some x→vs[i]?=some v→kindOf x=some .local→
  bindL kindOf (P.zip vs) m x=some v
 | [],_,_,_,_,h,_,_=>by simp at h
 |_::_,[],_,_,_,_,h,_=>by simp at h
 |p::P,w::vs,0,m,nd,h1,h2,hk=>by
  simp at h1 h2;subst h1;subst h2
  show bindL kindOf ((p,w)::P.zip vs) m p=_
  unfold bindL
  rw[Ha fun v hv=> (gB.mp nd).1 (nz hv).1,if_pos hk]
  simp
 |p::P,w::vs,i+1,m,nd,h1,h2,hk=>by
  show bindL kindOf ((p,w)::P.zip vs) m x=_
  unfold bindL
  exact Hc (i:=i) (gB.mp nd).2 (by simpa using h1) (by simpa using h2) hk
theorem Hf{kindOf:Str→Option NameKind}{x:Str}{v:Value}:∀{P:List Str} {vs:List Value} {i:Nat} {m:Str→Option Value},P.Nodup→P[i]?=some x→vs[i]?=some v→kindOf x≠some .local→
  bindC kindOf (P.zip vs) m x=some v
 | [],_,_,_,_,h,_,_=>by simp at h
 |_::_,[],_,_,_,_,h,_=>by simp at h
 |p::P,w::vs,0,m,nd,h1,h2,hk=>by
  simp at h1 h2;subst h1;subst h2
  show bindC kindOf ((p,w)::P.zip vs) m p=_
  unfold bindC
  rw[Hb fun v hv=> (gB.mp nd).1 (nz hv).1,if_neg hk]
  simp
 |p::P,w::vs,i+1,m,nd,h1,h2,hk=>by
  show bindC kindOf ((p,w)::P.zip vs) m x=_
  unfold bindC
  exact Hf (i:=i) (gB.mp nd).2 (by simpa using h1) (by simpa using h2) hk
noncomputable def start(N:List Str)(vs:List V):St:=vs.map some++gK (N.length-vs.length) none
noncomputable def Bg(CX:Pc)(P:Program)(w:World)(K:a9)(mg:Str→Option Value)(base:Heap)(N:List Str)(qual:Str)(scope:Scope)(f:Addr)(cd:Value)(A:gx)(outer:List Env)(s:Shared)(H:Hp)(E:XK):Cx where
 prog:=P
 w:=w
 K:=K
 mg:=mg
 base:=base
 A:=A.deeper (lz qual scope s.heap.objs.size f cd)
 N:=N
 s₀:=s
 H₀:=H
 env:=lz qual scope s.heap.objs.size f cd
 outer:=outer
 stack:=lz qual scope s.heap.objs.size f cd::outer
 ex:=[]
 calm:=true
 fn:=fun _=>true
 pn:=[]
 xe:=fun e s'=>wpAny (model P w) (A.deeper (lz qual scope s.heap.objs.size f cd)) (leaving (lz qual scope s.heap.objs.size f cd) e) (fun _ s''=>CX outer H s E e s'') (fun e' s''=>CX outer H s E e' s'') s'
theorem Jq{sc:Scope}{n:Nat}{x:Str}(h:sc.names.lookup x=some .cell):∃c,(jt n sc.names []).lookup x=some c:=by
 have q:=mP sc.names n [] (.inl h)
 exact Option.isSome_iff_exists.mp q
theorem Hg{CX:Pc}{P:Program}{w:World}{K:a9}{mg:Str→Option Value}{base:Heap}{N ps:List Str}{qual:Str}{scope:Scope}{f:Addr}{cd:Value}{A:gx}{outer:List Env}{s s1:Shared}{H:Hp}{E:XK}{us:List Value}{vs:List V}
  (S:FnScope N ps scope) (hd:A.handled=none) (e0:Env0 P w K mg base A outer s H) (hl:vs.length=ps.length) (r:Vals vs us)
  (x:InCallC s s.heap.objs.size (bindL (lz qual scope s.heap.objs.size f cd).kindOf (ps.zip us) fun _=>none) (jt (s.heap.objs.size+1) scope.names []) (bindC (lz qual scope s.heap.objs.size f cd).kindOf (ps.zip us) fun _=>none) s1):
  Inv (Bg CX P w K mg base N qual scope f cd A outer s H E) [] (start N vs) H s1:=by
 have hpl:ps.length≤N.length:=by have:=congrArg List.length S.pre;rw[gX] at this;omega
 obtain⟨h1,tk,rfl,hk⟩:=x.done
 have noA:∀b:Addr,b∉(Bg CX P w K mg base N qual scope f cd A outer s H E).ex:=fun b z=>absurd (show b∈([]:List Addr) from z) (by simp)
 refine⟨⟨e0.mod,S.kind,rfl,rfl,fv _,fun y z c h1 h2=>?_,fun y hy=>?_,fun y c _ h=>?_,fun _=>hd,gx.frames_deeper e0.frames,.inr ⟨rfl,rfl⟩,fun b z=>absurd z (noA b),e0.bs,e0.bsz,fun b _ _=>noA b,fun b z=>absurd z (noA b),e0.funs,e0.frf⟩,
  rfl,e0.bare,Un.kept hk,⟨_,x.toInCall.ns,fun i y v h1 h2 h3=>?_⟩,fun y c h=> ⟨_,x.cell y c h⟩,e0.hok.fresh (fv _),fun y c h=>?_,fun p hp=>absurd (show p∈([]:List (Addr×Obj)) from hp) (by simp),e0.hok.kept hk,?_⟩
 ·exact name_of_addr x.apart (kQ h1) (kQ h2)
 ·have hy:scope.names.lookup y=some .cell∨scope.names.lookup y=some .free:=hy
  rcases hy with hy|hy
  ·exact Jq hy
  ·exact absurd rfl (S.nofree _ (kQ hy))
 ·exact mS (x.above y c (kQ h))
 ·have hi:i<vs.length:=by
   unfold start at h2
   by_cases hi:i<vs.length
   ·exact hi
   ·rw[gN (by simpa using hi)] at h2
    rw[jL] at h2
    split at h2<;>cases h2
  have ha:vs[i]?=some v:=by
   unfold start at h2
   rw[ic (by simpa using hi),fq] at h2
   cases e:vs[i]? with
   |none=>rw[e] at h2;cases h2
   |some a=>rw[e] at h2;cases h2;rfl
  obtain⟨u,hu,rv⟩:=r.get ha
  have hp:ps[i]?=some y:=by
   rw[←S.pre,kM (by omega)];exact h1
  have ndP:ps.Nodup:=by rw[←S.pre];exact S.nd.sublist (List.take_sublist _ _)
  refine⟨u,rv,?_⟩
  rcases S.par y (fo hp) with k|k
  ·exact .inl ⟨k,Hc ndP hp hu k⟩
  ·obtain⟨c,e⟩:=Jq (n:=s.heap.objs.size+1) k
   refine .inr ⟨.inl k,c,e,?_⟩
   have q:=x.cell y c e
   rw[Hf ndP hp hu (by show scope.names.lookup y≠_;rw[k];decide)] at q
   exact q
 ·exact e0.hok.fresh (mS (x.above y c (kQ h)))
 ·unfold start
  show _=N.length
  rw[gw,e8,jD]
  omega
theorem Zt{CX:Pc}{P:Program}{w:World}{K:a9}{mg:Str→Option Value}{base:Heap}{k:Nat}{f:Addr}{name qual:Str}{params:Arguments}{body:List Stmt}{scope:Scope}{dV kV doc pm cdv ct oc:Value}{an od:Option Addr}
  {osl:Array (Option Value)} {N ps:List Str} {sp:Sp} (lk:K.lookup f=some ⟨oc,od,.func (l0 name qual params body scope dV kV doc pm an cdv ct),osl⟩) (hcd:pI K cdv qual=true) (S:FnScope N ps scope)
  (len:∀vs H Q E,sp vs H Q E→vs.length=ps.length)
  (hbody:∀(A:gx) (outer:List Env) (s:Shared) (H:Hp) (vs:List V) (Q:VK) (E:XK),Room k (A.deeper (lz qual scope s.heap.objs.size f cdv))→sp vs H Q E→
   ∃t,PSs (Bg CX P w K mg base N qual scope f cdv A outer s H E) body t∧t {nx:=fun _ H'=>Q .non H',rt:=Q} (start N vs) H):
  FnOk P w K mg base CX (k+1) f (l0 name qual params body scope dV kV doc pm an cdv ct) ps sp:=by
 refine⟨len,fun A outer s H args us vs Q E hr e0 hb r hsp=>?_⟩
 have hl:=len _ _ _ _ hsp
 have KX:K.In s.heap:=e0.mod.kin.keeps fun b o e=> (e0.bs b o e).1
 have lim:s.heap.NoLimit:=e0.mod.nolimit.keeps fun b o e=> (e0.bs b o e).1
 have hkind:∀y∈ps.zip us,scope.names.lookup y.1=some .local∨(scope.names.lookup y.1=some .cell∧((jt (s.heap.objs.size+1) scope.names []).lookup y.1).isSome=true):=fun⟨n,v⟩ hy=>by
  rcases S.par n (nz hy).1 with q|q
  ·exact .inl q
  ·exact .inr ⟨q,mP _ _ _ (.inl q)⟩
 refine codeAny_call_function hr.depth (KX _ _ lk) rfl S.co S.gen rfl (PySem.W.codeRec_of KX hcd) (hb _ _ _ _ ?_)
 refine wpAny_newFunctionEnv_cells S.kind hkind fun env he s1 x=>?_
 subst he
 refine⟨lim.keeps x.toInCall.keep,codeAny_func ?_⟩
 obtain⟨t,ht,hq⟩:=hbody A outer s H vs Q E (hr.deeper _) hsp
 have I:Inv (Bg CX P w K mg base N qual scope f cdv A outer s H E) [] (start N vs) H s1:=Hg S hr.hd e0 hl r x
 refine jG (ht [] s1 (start N vs) H _ I hq) (fun fl s' hs=>?_) fun e s' hs=>hs
 have fin:∀{σ':St} {H':Hp} {v:V} {u:Value},Inv (Bg CX P w K mg base N qual scope f cdv A outer s H E) [] σ' H' s'→RelV v u→Q v H'→CE outer P w H s Q u s':=
  fun{σ' H' v u} J rv q=> ⟨v,H',J.os,J.bare,J.base,J.hok,rv,q⟩
 cases fl with
 |ret u=>
  obtain⟨v,σ',H',J,rv,q⟩:=hs
  exact fin J rv q
 |next=>
  obtain⟨σ',H',J,q⟩:=hs
  exact fin (v:=V.non) (u:=lU) J rfl q
 |brk=>
  obtain⟨_,_,_,q⟩:=hs
  exact jn q
 |cont=>
  obtain⟨_,_,_,q⟩:=hs
  exact jn q
section
variable{X:Cx}{x:Str}{p pos:Pos}{e:Expr}{es:List Expr}{t:TA}{id T:String}{r:List V→Hp→VK→Prop}
noncomputable def eH(r:List V→Hp→VK→Prop)(t:TA):TE:=fun σ H Q=>t σ H fun vs H1=>r vs H1 Q
theorem Ap(hc:BC X (.builtin id) r)(hg:Gl X x)(hm:X.mg x=none)(hv:ig x=some (.builtin id))(ha:PA X (e::es) t)(hn:x≠"__name__":=by decide)(hdb:(x==("__debug__" :Str))=false:=by decide)
  (he:fj (e::es) X.env=(false,eval e X.env)::fj es X.env:=by rfl) (hpl:(jS pos (fj es X.env)).any (·.1)=false:=by rfl):PE X (.Call (.Name x p) (e::es) [] pos) (eH r t):=by
 intro pins s σ H Q I h
 refine lu (Em I hg hm hv ?_ hn hdb)
 exact PyProof.Rows.callWith_builtin1 (An (ha pos pins s σ H _ I h) fun us s1 ⟨vs,H1,I1,r1,q1⟩=>hc pins s1 σ H1 vs us Q I1 r1 q1) he hpl
theorem Hi(hc:BC X (.type T) r)(hg:Gl X x)(hm:X.mg x=none)(hv:ig x=some (.type T))(ha:PA X (e::es) t)(hn:x≠"__name__":=by decide)(hdb:(x==("__debug__" :Str))=false:=by decide)
  (he:fj (e::es) X.env=(false,eval e X.env)::fj es X.env:=by rfl) (hpl:(jS pos (fj es X.env)).any (·.1)=false:=by rfl):PE X (.Call (.Name x p) (e::es) [] pos) (eH r t):=by
 intro pins s σ H Q I h
 refine lu (Em I hg hm hv ?_ hn hdb)
 exact lR (An (ha pos pins s σ H _ I h) fun us s1 ⟨vs,H1,I1,r1,q1⟩=>hc pins s1 σ H1 vs us Q I1 r1 q1) he hpl
end
end L2
namespace HT
open PySem PyProof.Rows
noncomputable def BS:List Int→List Int→Bool
 | [],[]=>false
 | [],_::_=>true
 |_::_,[]=>false
 |x::xs,y::ys=>if x=y then BS xs ys else decide (x<y)
theorem LP(x y:Int)(xs ys:List Int):BS (x::xs) (y::ys)=if x=y then BS xs ys else decide (x<y):=rfl
theorem CA:BS [] []=false:=rfl
theorem DG(y:Int)(ys:List Int):BS [] (y::ys)=true:=rfl
theorem DH(x:Int)(xs:List Int):BS (x::xs) []=false:=rfl
theorem Pv(A:gx)(s:Shared)(a:Int)(t:Tok)(c:Int)(u:Tok):∃e,iZ A s (.int a t) (.int c u) e∧(e=true↔a=c):=
 ⟨(a==c),iZ.int_int a t c u,by simp⟩
theorem Pw(A:gx)(s:Shared)(a:Int)(t:Tok)(c:Int)(u:Tok)(prog:Program)(w:World)(E:Value→Shared→Prop)(Q:Value→Shared→Prop)(h:Q (.bool (decide (a<c))) s):
  wpAny (model prog w) A (richCompare .Lt (.int a t) (.int c u)) Q E s:=
 (PyProof.Rows.lt_int h:wpAny (model prog w) A (jf .Lt (.int a t) (.int c u)) Q E s)
section
open PySem.SeqAt
open PySem.AutoSeq1 (wpAny_loadPart')
open PySem.MeetsSeq PySem.MeetsSeq2 PySem.MeetsSeq3
theorem HQ(l b:Addr)(items items2:Array Value)(n n2:Nat)(dd dd2:Option Addr)(sl sl2:Array (Option Value))(ns ms:List Int)(hi:IntsAre items.toList ns)(hj:IntsAre items2.toList ms):
  Meets (Builtin.«tuple.__lt__» ⟨[.ref l,.ref b],[]⟩)
   (fun _ R s=>s.heap.get? l=some {cls:=.type "tuple",dict:=dd,data:=.seq items n,slots:=sl}∧s.heap.get? b=some {cls:=.type "tuple",dict:=dd2,data:=.seq items2 n2,slots:=sl2}∧
    R (.ok (.ret (.bool (BS ns ms)))) s):=
 .of_wp fun prog w A R s h=>by
  obtain⟨hp,g,d,tk,os⟩:=s;obtain⟨hl,hb,h⟩:=h
  have f2:=AutoSeq1.sub_tuple_tuple
  have z1:items.size=ns.length:=by rw[←hi.length];simp
  have z2:items2.size=ms.length:=by rw[←hj.length];simp
  wp_walk using nj hl,nj hb,mX _ (fun rest b s'=>b.1=none∧s'=⟨hp,g,d,tk,os⟩∧∃(vs ws:List Value) (ns' ms':List Int),rest=vs.zip ws∧
   IntsAre vs ns'∧IntsAre ws ms'∧ns'.length+items2.size=ms'.length+items.size∧R (.ok (.ret (.bool (BS ns' ms')))) ⟨hp,g,d,tk,os⟩) _
  case turn=>
   rintro⟨y,x⟩ rest b s' ⟨hb',rfl,vs,ws,ns',ms',hz,hvi,hwi,hlen,hR⟩
   cases hvi with
   |nil=>rw[List.zip_nil_left] at hz;cases hz
   |cons a t hvi'=>
    cases hwi with
    |nil=>rw[List.zip_nil_right] at hz;cases hz
    |cons c u hwi'=>
     rw[nU] at hz
     injection hz with hyx hrest
     injection hyx with hy hx
     subst hy hx
     rw[LP] at hR
     simp only[fz] at hlen
     obtain⟨e,he,hiff⟩:=Pv A.in1 ⟨hp,g,d,tk,os⟩ a t c u
     refine a8 (he prog w _ _ ?_)
     cases e with
     |true=>
      rw[if_pos (hiff.mp rfl)] at hR
      wp_walk
      exact⟨rfl,rfl,_,_,_,_,hrest,hvi',hwi',by omega,hR⟩
     |false=>
      rw[if_neg (fun q=>absurd (hiff.mpr q) c9)] at hR
      have hri:=Pw A.in1 ⟨hp,g,d,tk,os⟩ a t c u prog w
      wp_walk using hri
      exact⟨_,rfl,by simpa using hR⟩
  case fin=>
   rintro⟨b1,b2⟩ s' ⟨hb',rfl,vs,ws,ns',ms',hz,hvi,hwi,hlen,hR⟩
   simp only at hb'
   subst hb'
   have hv:BS ns' ms'=decide (items.size<items2.size):=by
    cases hvi with
    |nil=>
     cases hwi with
     |nil=>
      simp only[js] at hlen
      rw[CA]
      exact(decide_eq_false (by omega)).symm
     |cons c u hw=>
      simp only[js,fz] at hlen
      rw[DG]
      exact(decide_eq_true (by omega)).symm
    |cons a t hv=>
     cases hwi with
     |nil=>
      simp only[js,fz] at hlen
      rw[DH]
      exact(decide_eq_false (by omega)).symm
     |cons c u hw=>
      rw[nU] at hz
      cases hz
   rw[hv] at hR
   wp_walk
   exact⟨_,rfl,by simpa[Builtin.Tuple.tupleCompareSizes] using hR⟩
  case h=>
   exact⟨rfl,rfl,items.toList,items2.toList,ns,ms,rfl,hi,hj,by omega,h⟩
end
section
variable{prog:Program}{w:World}{A:gx}{E:Value→Shared→Prop}{s:Shared}
theorem TR{t b:Addr}{vs ws:List Value}{Q:Value→Shared→Prop}(ht:IsTup s.heap t vs.toArray)(hb:IsTup s.heap b ws.toArray)(hv:vs≠[])
  (h1:ws=[]→Q (.ref t) s) (h2:ws≠[]→Q (.ref s.heap.objs.size) {s with heap:=s.heap.push {cls:=.type "tuple",data:=.seq (vs++ws).toArray}})
  (hsz:vs.length+ws.length≤sizeLine):wpAny (model prog w) A (jY .Add (.ref t) (.ref b)) Q E s:=by
 obtain⟨⟨cls,dd,data,sl⟩,ho,hc,n,hd⟩:=id ht
 obtain⟨⟨cls2,dd2,data2,sl2⟩,ho2,hc2,n2,hd2⟩:=id hb
 simp only at hc hd hc2 hd2
 subst hc hd hc2 hd2
 have e:vs.toArray++ws.toArray=(vs++ws).toArray:=by simp
 by_cases hw:ws=[]
 ·exact qj ⟨_,ho,rfl⟩ ⟨_,ho2,rfl⟩ oC pU mQ mG (mn _ _)
   (tuple_addW1 t b vs.toArray ws.toArray n n2 dd dd2 sl sl2 (by simpa using hv) (by simp[hw])) ⟨ho,ho2,h1 hw⟩
 ·refine qj ⟨_,ho,rfl⟩ ⟨_,ho2,rfl⟩ oC pU mQ mG (mn _ _)
   (tuple_addW2 t b vs.toArray ws.toArray n n2 dd dd2 sl sl2 (by simpa using hv) (by simpa using hw) (by rw[gj,gj];exact hsz)) ⟨ho,ho2,?_⟩
  rw[e]
  exact h2 hw
noncomputable def BK(n d:Nat):Option Int→Nat
 |none=>d
 |some v=>if v<0 then(v+(n:Int)).toNat else min v.toNat n
theorem Px(n d:Nat):BK n d none=d:=rfl
theorem TU(n d k:Nat):BK n d (some (k:Int))=min k n:=by
 show(if(k:Int)<0 then((k:Int)+(n:Int)).toNat else min (k:Int).toNat n)=min k n
 rw[if_neg (by omega),iy]
theorem XB(n d:Nat)(hd:d≤n)(o:Option Int):BK n d o≤n:=by
 cases o with
 |none=>exact hd
 |some v=>
  show(if v<0 then(v+(n:Int)).toNat else min v.toNat n)≤n
  by_cases hv:v<0
  ·rw[if_pos hv];omega
  ·rw[if_neg hv];exact Nat.min_le_right _ _
theorem Mu(v:Int)(n d:Nat):(if v<0 then max (v+(n:Int)) 0 else min v (n:Int))=((BK n d (some v):Nat):Int):=by
 show(if v<0 then max (v+(n:Int)) 0 else min v (n:Int))=(((if v<0 then(v+(n:Int)).toNat else min v.toNat n):Nat):Int)
 by_cases hv:v<0
 ·simp only[if_pos hv];omega
 ·simp only[if_neg hv];omega
theorem LQ(lo hi:Option Int)(n:Nat):md lo hi 1 (n:Int)=(((BK n 0 lo:Nat):Int),((BK n n hi:Nat):Int)):=by
 have h1:¬((1:Int)<0):=by omega
 unfold md
 simp only[h1,if_false]
 refine jd ?_ ?_
 ·cases lo with
  |none=>rfl
  |some v=>exact Mu v n 0
 ·cases hi with
  |none=>rfl
  |some v=>exact Mu v n n
theorem LR(i j:Nat):kv (i:Int) (j:Int) 1=j-i:=by
 unfold kv
 have h1:(1:Int)>0:=by omega
 simp only[h1,if_true,Int.ediv_one]
 split<;>omega
theorem GA{v:Value}{o:Option Int}{Q:Option Int→Shared→Prop}(p:oV v o)(h:Q o s):wpAny (model prog w) A (Builtin.Slice.slicePartIndex v) Q E s:=by
 cases p with
 |none=>exact slicePart_none h
 |int i t=>exact slicePart_int h
theorem CQ{sl:Addr}{vl vu:Value}{lo hi:Option Int}{n:Nat}{Q:Int×Int×Nat→Shared→Prop}(hs:s.heap.IsSliceOf sl vl vu .none)(pl:oV vl lo)(pu:oV vu hi)
  (h:Q (((BK n 0 lo:Nat):Int),1,BK n n hi-BK n 0 lo) s):wpAny (model prog w) A (Builtin.Slice.sliceApplied (.ref sl) (pure (n:Int))) Q E s:=by
 obtain⟨os,hos,hcs,hds⟩:=id hs
 unfold Builtin.Slice.sliceApplied Builtin.Slice.sliceFields
 refine a8 (a8 (qC hos hds (x:=vl) rfl (a8 (qC hos hds (x:=vu) rfl (a8 (qC hos hds (x:=.none) rfl (b8 ?_)))))))
 refine a8 (slicePart_none ?_)
 show wpAny _ _ (if((1:Int)==0)=true then _ else _) _ _ s
 rw[if_neg (by decide)]
 refine a8 (GA pl (a8 (GA pu (a8 (b8 ?_)))))
 show wpAny _ _ (match md lo hi 1 (n:Int) with| (lo,hi)=>pure (lo,(1:Int),kv lo hi 1)) _ _ s
 rw[LQ lo hi n]
 show wpAny _ _ (pure (((BK n 0 lo:Nat):Int),(1:Int),kv ((BK n 0 lo:Nat):Int) ((BK n n hi:Nat):Int) 1)) _ _ s
 rw[LR]
 exact b8 h
theorem Py(xs:Array Value)(i k:Nat):((gF k).filterMap fun(m:Nat)=>xs[((i:Int)+(m:Int)*1).toNat]?).toArray=((xs.toList.drop i).take k).toArray:=by
 have e:(fun(m:Nat)=>xs[((i:Int)+(m:Int)*1).toNat]?)=fun m=>xs[i+m]?:=by
  funext m
  have:((i:Int)+(m:Int)*1).toNat=i+m:=by omega
  rw[this]
 rw[e]
 have:=pick_run xs i k
 rw[List.filterMap_map] at this
 have e2:((fun x=>xs[x]?)∘fun x=>i+x)=fun m=>xs[i+m]?:=rfl
 rw[e2] at this
 rw[this]
theorem EE{t sl:Addr}{items:Array Value}{vl vu:Value}{lo hi:Option Int}{Q:Value→Shared→Prop}(ht:IsTup s.heap t items)(hs:s.heap.IsSliceOf sl vl vu .none)(pl:oV vl lo)(pu:oV vu hi)
  (hw:¬(BK items.size 0 lo=0∧BK items.size items.size hi=items.size))
  (h:Q (.ref s.heap.objs.size) {s with heap:=s.heap.push {cls:=.type "tuple",data:=.seq ((items.toList.drop (BK items.size 0 lo)).take (BK items.size items.size hi-BK items.size 0 lo)).toArray}})
  (hsz:items.size≤sizeLine):wpAny (model prog w) A (pR (.ref t) (.ref sl)) Q E s:=by
 have htake:sizeOk (.seq ((items.toList.drop (BK items.size 0 lo)).take (BK items.size items.size hi-BK items.size 0 lo)).toArray):=by
  show((items.toList.drop (BK items.size 0 lo)).take (BK items.size items.size hi-BK items.size 0 lo)).toArray.size≤sizeLine
  rw[gj,gX,kY,fw]
  omega
 have hj:BK items.size items.size hi≤items.size:=XB _ _ (fv _) hi
 obtain⟨os,hos,hcs,hds⟩:=id hs
 have hTs:s.TypeIs (.ref sl) "slice":=⟨os,hos,hcs⟩
 unfold pR
 try with_reducible refine hZ ?_
 first|refine a8 (b8 ?_)|skip
 refine a8 (wpAny_sequenceKey ht.typeIs (by decide) ?_)
 refine a8 (kU (name:=oT "__getitem__") ht.typeIs i5
  (jJ i5 ht.typeIs entry_tuple_getitem ?_ (args_tuple_getitem _ _)))
 show wpAny _ _ (Builtin.Tuple.tupleItemsOf (.ref t)>>=_) _ _ s
 refine a8 (tupleItemsOf_ ht ?_)
 refine a8 (lY hTs ?_)
 rw[if_pos (by decide)]
 refine a8 (CQ hs pl pu ?_)
 have hno:¬((((BK items.size 0 lo:Nat):Int)==0&&(1:Int)==1&&(BK items.size items.size hi-BK items.size 0 lo)==items.size)=true):=by
  intro q
  rw[iE,iE] at q
  have q1:((BK items.size 0 lo:Nat):Int)=0:=eq_of_beq q.1.1
  have q2:BK items.size items.size hi-BK items.size 0 lo=items.size:=eq_of_beq q.2
  exact hw ⟨by omega,by omega⟩
 show wpAny _ _ (if(((BK items.size 0 lo:Nat):Int)==0&&(1:Int)==1&&(BK items.size items.size hi-BK items.size 0 lo)==items.size)=true then _ else _) _ _ s
 rw[if_neg hno,Py]
 first
  |exact a8 (m:=kO _) (i9 (b8 ⟨_,rfl,b8 h⟩) htake)
  |exact a8 (m:=kO _) (i9 (a8 (b8 (b8 ⟨_,rfl,b8 h⟩))) htake)
  |exact a8 (a8 (m:=kO _) (i9 (b8 (b8 ⟨_,rfl,b8 h⟩)) htake))
  |exact a8 (a8 (m:=kO _) (i9 (b8 ⟨_,rfl,b8 h⟩) htake))
end
end HT
namespace L2
open PySem PySem.Spec PyProof.Rows
noncomputable abbrev TO:=St→Hp→(Option Int→Hp→Prop)→Prop
noncomputable def PO(X:Cx)(e:Option Expr)(t:TO):Prop:=
 ∀(pins:List (Addr×Obj)) (s:Shared) (σ:St) (H:Hp) (Q:Option Int→Hp→Prop),Inv X pins σ H s→t σ H Q→
  wpAny (model X.prog X.w) X.A (evalPart e X.env) (fun u s'=>∃o H',Inv X pins σ H' s'∧oV u o∧Q o H') X.xe s
noncomputable def TV:TO:=fun _ H Q=>Q none H
noncomputable def Zu(t:TE):TO:=fun σ H Q=>t σ H fun x H1=>∃i,x=.int i∧Q (some i) H1
theorem LS{ns:List Int}:∀{us:List Value},Vals (ns.map V.int) us→IntsAre us ns:=by
 induction ns with
 |nil=>intro us r;rw[l8] at r;cases r;exact .nil
 |cons n ns ih=>
  intro us r
  rw[gH] at r
  cases r with
  |cons r1 r2=>
   obtain⟨t,e⟩:=r1
   subst e
   exact .cons n t (ih r2)
section
variable{X:Cx}{e:Expr}{te:TE}{lo hi:Option Expr}{tl th:TO}{pos p2:Pos}
theorem TX:PO X none TV:=by
 intro pins s σ H Q I h
 rw[evalPart_none]
 exact b8 ⟨none,H,I,.none,h⟩
theorem IV(h:PE X e te):PO X (some e) (Zu te):=by
 intro pins s σ H Q I hw
 rw[evalPart_some]
 refine An (h pins s σ H _ I hw) fun u s1 ⟨x,H1,I1,r1,q1⟩=>?_
 obtain⟨i,rfl,q⟩:=q1
 obtain⟨t,rfl⟩:=r1
 exact⟨some i,H1,I1,.int i t,q⟩
noncomputable def cN(X:Cx)(r:V→Option Int→Option Int→Hp→VK→Prop):Prop:=
 ∀(pins:List (Addr×Obj)) (s:Shared) (σ:St) (H:Hp) (x:V) (v vl vu:Value) (lo hi:Option Int) (sl:Addr) (Q:VK),Inv X pins σ H s→RelV x v→s.heap.IsSliceOf sl vl vu .none→oV vl lo→oV vu hi→r x lo hi H Q→
  ∃T id,typeLookup (.type T) "__getitem__" =pure (some (.builtin id))∧s.TypeIs v T∧wpAny (model X.prog X.w) X.A (pR v (.ref sl)) (EP X pins σ Q) X.xe s
noncomputable def fB(r:V→Option Int→Option Int→Hp→VK→Prop)(te:TE)(tl th:TO):TE:=fun σ H Q=>te σ H fun x H1=>tl σ H1 fun l H2=>th σ H2 fun u H3=>r x l u H3 Q
theorem Jr{r:V→Option Int→Option Int→Hp→VK→Prop}(hr:cN X r)(he:PE X e te)(hl:PO X lo tl)(hu:PO X hi th):PE X (.Subscript e (.Slice lo hi none p2) pos) (fB r te tl th):=by
 intro pins s σ H Q I h
 refine Subscript_ (An (he pins s σ H _ I h) fun v s1 ⟨x,H1,I1,r1,q1⟩=>?_)
 refine wpAny_Slice (An (hl pins s1 σ H1 _ I1 q1) fun vl s2 ⟨l,H2,I2,pl,q2⟩=>An (hu pins s2 σ H2 _ I2 q2) fun vu s3 ⟨u,H3,I3,pu,q3⟩=>?_)
 rw[evalPart_none]
 refine b8 ?_
 have I4:Inv X pins σ H3 {s3 with heap:=s3.heap.push {cls:=.type "slice",data:=.fields #[vl,vu,.none]}}:=I3.kept (t':=s3.toks) fun b ob q=>e9 _ q
 obtain⟨T,id,hT,ht,hg⟩:=hr pins {s3 with heap:=s3.heap.push {cls:=.type "slice",data:=.fields #[vl,vu,.none]}} σ H3 x v vl vu l u s3.heap.objs.size Q I4 r1 (Heap.IsSliceOf.new ..) pl pu q3
 show wpAny (model X.prog X.w) X.A (subscriptTail e (.Slice lo hi none p2) v (.ref s3.heap.objs.size)) (EP X pins σ Q) X.xe {s3 with heap:=s3.heap.push {cls:=.type "slice",data:=.fields #[vl,vu,.none]}}
 exact tail_any (ops:=[.ref s3.heap.objs.size,v]) ht hT hg (by with_unfolding_all rfl)
noncomputable def Eo(xs:List V)(lo hi:Option Int):List V:=(xs.drop (HT.BK xs.length 0 lo)).take (HT.BK xs.length xs.length hi-HT.BK xs.length 0 lo)
theorem FQ(xs:List V)(lo hi:Option Int):(Eo xs lo hi).length≤xs.length:=by
 unfold Eo
 rw[gX,kY]
 omega
noncomputable def dM(K:a9):V→Option Int→Option Int→Hp→VK→Prop:=fun x lo hi H Q=>∃a xs,x=.ref a∧FV K H a xs∧
 ¬(HT.BK xs.length 0 lo=0∧HT.BK xs.length xs.length hi=xs.length)∧∀p,H p=none→Q (.ref p) (upd H p (.tup (Eo xs lo hi)))
theorem XC:cN X (dM X.K):=by
 intro pins s σ H x v vl vu lo hi sl Q I rx hs pl pu h
 obtain⟨a,xs,rfl,hx,hw,q⟩:=h
 cases rx
 obtain⟨its,r,ht,hz⟩:=I.tuple hx
 have hlen:its.toArray.size=xs.length:=by rw[gj];exact r.length.symm
 refine⟨"tuple",_,i5.lookup,ht.typeIs,?_⟩
 refine HT.EE ht hs pl pu (by rw[hlen];exact hw) ?_ (by rw[hlen];exact hz)
 rw[hlen]
 refine⟨.ref s.heap.objs.size,_,I.laid (t':=s.toks) (o:=.tup (Eo xs lo hi)) (fun b ob q=>e9 _ q) (fv _) ?_,rfl,q _ (I.hok.fresh (fv _))⟩
 exact⟨iq (FQ xs lo hi) hz,_,(r.drop (HT.BK xs.length 0 lo)).take (HT.BK xs.length xs.length hi-HT.BK xs.length 0 lo),IsTup.new _ _⟩
noncomputable def Zv(K:a9):R2:=fun x y H Q=>∃a b xs ys,x=.ref a∧y=.ref b∧FV K H a xs∧FV K H b ys∧xs≠[]∧xs.length+ys.length≤sizeLine∧
 (ys=[]→Q (.ref a) H)∧(ys≠[]→∀p,H p=none→Q (.ref p) (upd H p (.tup (xs++ys))))
theorem Vals.nil_iff{xs:List V}{us:List Value}(r:Vals xs us):us=[]↔xs=[]:=by
 cases r with
 |nil=>simp
 |cons _ _=>simp
theorem TY:CO X (jY .Add) (Zv X.K):=by
 intro pins s σ H x y v u Q I rx ry h
 obtain⟨a,b,xs,ys,rfl,rfl,ha,hb,hx,hz,q1,q2⟩:=h
 cases rx
 cases ry
 obtain⟨its,r1,p1,_⟩:=I.tuple ha
 obtain⟨its2,r2,p2,_⟩:=I.tuple hb
 refine HT.TR p1 p2 (fun z=>hx (r1.nil_iff.mp z)) (fun z=> ⟨.ref a,H,I,rfl,q1 (r2.nil_iff.mp z)⟩) (fun z=>?_) (by rw[←r1.length,←r2.length];exact hz)
 refine⟨.ref s.heap.objs.size,_,I.laid (t':=s.toks) (o:=.tup (xs++ys)) (fun b ob q=>e9 _ q) (fv _) ?_,rfl,q2 (fun w=>z (r2.nil_iff.mpr w)) _ (I.hok.fresh (fv _))⟩
 exact⟨by rw[gw];exact hz,_,r1.append r2,IsTup.new _ _⟩
end
noncomputable def Pz(n:Nat)(i:Int):Option Nat:=if 0≤i then(if i<n then some i.toNat else none) else if-(n:Int)≤i then some (i+n).toNat else none
noncomputable def atI{α:Type}(xs:List α)(i:Int):Option α:=(Pz xs.length i).bind fun j=>xs[j]?
theorem Mv{n:Nat}{i:Int}{j:Nat}(h:Pz n i=some j):seqIndex? i n=some j∧j<n∧-(n:Int)≤i∧i<n:=by
 unfold Pz at h
 by_cases h0:0≤i
 ·rw[if_pos h0] at h
  by_cases h1:i<n
  ·rw[if_pos h1] at h
   have e:i.toNat=j:=gZ.inj h
   exact⟨by rw[qD h0 h1,e],by omega,by omega,h1⟩
  ·rw[if_neg h1] at h;cases h
 ·rw[if_neg h0] at h
  by_cases h1: -(n:Int)≤i
  ·rw[if_pos h1] at h
   have e:(i+n).toNat=j:=gZ.inj h
   exact⟨by rw[seqIndex_neg (by omega) h1,e],by omega,h1,by omega⟩
  ·rw[if_neg h1] at h;cases h
theorem EF{α:Type}{xs:List α}{i:Int}{v:α}(h:atI xs i=some v):∃j,seqIndex? i xs.length=some j∧xs[j]?=some v∧j<xs.length∧-(xs.length:Int)≤i∧i<xs.length:=by
 unfold atI at h
 cases e:Pz xs.length i with
 |none=>rw[e] at h;cases h
 |some j=>
  rw[e] at h
  obtain⟨h1,h2,h3,h4⟩:=Mv e
  exact⟨j,h1,h,h2,h3,h4⟩
theorem BG{α:Type}{xs:List α}{j:Nat}{v:α}(h:xs[j]?=some v):atI xs (j:Int)=some v:=by
 have hj:j<xs.length:=(gh.mp h).1
 have e:Pz xs.length (j:Int)=some j:=by
  unfold Pz
  rw[if_pos (by omega),if_pos (by omega)];simp
 unfold atI;rw[e];exact h
noncomputable def Da(b:Expr):Prop:=∀o i,subscripted b false o i=operate [o,i] (pR o i)
noncomputable def Zw(X:Cx)(r:R2):Prop:=
 ∀(value slice:Expr) (pins:List (Addr×Obj)) (s:Shared) (σ:St) (H:Hp) (x y:V) (v u:Value) (Q:VK),Inv X pins σ H s→RelV x v→RelV y u→r x y H Q→
  subscripted slice false v u=operate [v,u] (pR v u)→wpAny (model X.prog X.w) X.A (subscriptTail value slice v u) (EP X pins σ Q) X.xe s
noncomputable def eJ(X:Cx)(id:String)(r:V→List V→Hp→VK→Prop):Prop:=
 ∀(pins:List (Addr×Obj)) (s:Shared) (σ:St) (H:Hp) (x:V) (xs:List V) (v:Value) (us:List Value) (Q:VK),Inv X pins σ H s→RelV x v→Vals xs us→r x xs H Q→
  wpAny (model X.prog X.w) X.A (call (.builtin id) (v::us)) (EP X pins σ Q) X.xe s
section
variable{X:Cx}{a b:Expr}{ta tb:TE}{pos:Pos}
theorem QA{r:R2}(hr:Zw X r)(ha:PE X a ta)(hb:PE X b tb)(hs:Da b):PE X (.Subscript a b pos) (Zj r ta tb):=by
 intro pins s σ H Q I h
 exact Subscript_ (Wm ha hb I h fun v u s2 x y H2 I2 rx ry q=>hr a b pins s2 σ H2 x y v u Q I2 rx ry q (hs _ _))
noncomputable def XD(K:a9):R2:=fun x y H Q=>∃p xs i v,x=.ref p∧y=.int i∧SqL K H p xs∧atI xs i=some v∧Q v H
noncomputable def Zy(K:a9):R2:=fun x y H Q=>∃p xs i v,x=.ref p∧y=.int i∧FV K H p xs∧atI xs i=some v∧Q v H
theorem Cc:Zw X (XD X.K):=by
 intro value slice pins s σ H x y v u Q I rx ry h hs
 obtain⟨p,xs,i,z,rfl,rfl,hq,he,q⟩:=h
 cases rx
 obtain⟨t,rfl⟩:=ry
 obtain⟨its,r,pl,hz⟩:=I.list hq
 obtain⟨j,h1,h2,h3,h4,h5⟩:=EF he
 obtain⟨w,ew,rw'⟩:=r.get h2
 have hl:=r.length
 have hn:=En
 have fin:EP X pins σ Q w s:=⟨z,H,I,rw',q⟩
 by_cases h0:0≤i
 ·have hj:i.toNat=j:=by
   rw[qD h0 h5] at h1
   exact gZ.inj h1
  exact item_listR pl.isList h0 (by omega) (by rw[hj];simpa using ew) fin hs
 ·have hj:(i+(its.toArray.size:Int)).toNat=j:=by
   rw[seqIndex_neg (by omega) h4] at h1
   rw[gj,←hl]
   exact gZ.inj h1
  exact subscriptTail_builtinR (x:=w) pl.isList.typeIs slot_list_getitem.lookup
   (wpAny_getItem_list_neg (Q:=fun r s'=>r=w∧EP X pins σ Q r s') pl.isList (by omega) (by rw[gj]<;>omega) (by omega) (by rw[hj];simpa using ew) ⟨rfl,fin⟩) hs
theorem XF:Zw X (Zy X.K):=by
 intro value slice pins s σ H x y v u Q I rx ry h hs
 obtain⟨p,xs,i,z,rfl,rfl,hq,he,q⟩:=h
 cases rx
 obtain⟨t,rfl⟩:=ry
 obtain⟨its,r,pl,hz⟩:=I.tuple hq
 obtain⟨j,h1,h2,h3,h4,h5⟩:=EF he
 obtain⟨w,ew,rw'⟩:=r.get h2
 have hl:=r.length
 have hn:=En
 have fin:EP X pins σ Q w s:=⟨z,H,I,rw',q⟩
 exact subscriptTail_builtinR (x:=w) pl.typeIs slot_tuple_getitem.lookup
  (getItem_tuple (j:=j) (Q:=fun r s'=>r=w∧EP X pins σ Q r s') pl (by omega) (by omega) (by rw[gj,←hl];exact h1) (by simpa using ew) ⟨rfl,fin⟩) hs
theorem LU(its:List Value)(n j:Nat)(u:Value):iN (·.setIfInBounds j u) {cls:=.type "list",data:=.seq its.toArray n}={cls:=.type "list",data:=.seq (its.set j u).toArray n}:=by
 simp[iN]
theorem Inv.lst{pins:List (Addr×Obj)}{σ:St}{H:Hp}{s:Shared}{p:Addr}{xs:List V}(I:Inv X pins σ H s)(h:H p=some (.lst xs)):
  ∃(its:List Value) (n:Nat),Vals xs its∧s.heap.get? p=some {cls:=.type "list",data:=.seq its.toArray n}∧xs.length≤sizeLine:=by
 obtain⟨z,its,n,r,e⟩:=I.hok p _ h
 exact⟨its,n,r,e,z⟩
theorem Inv.lstUpd{pins:List (Addr×Obj)}{σ:St}{H:Hp}{s:Shared}{p:Addr}{xs ys:List V}{its its':List Value}{n n':Nat}{f:Obj→Obj}(I:Inv X pins σ H s)(h:H p=some (.lst xs))
  (ho:s.heap.get? p=some {cls:=.type "list",data:=.seq its.toArray n}) (hf:f {cls:=.type "list",data:=.seq its.toArray n}={cls:=.type "list",data:=.seq its'.toArray n'}) (r:Vals ys its') (hz:ys.length≤sizeLine) (t:Nat):
  Inv X pins σ (upd H p (.lst ys)) {s with heap:=s.heap.update p f,toks:=t}:=by
 have e:(s.heap.update p f).get? p=some {cls:=.type "list",data:=.seq its'.toArray n'}:=by
  rw[lP f ho (by rw[hf]<;>rfl),hf]
 refine I.write (x:=p) (e:=p) (by rw[h];trivial) (.inl rfl) (fun b u hb q=> (ju _ _ (Ne.symm hb)).trans q) ⟨_,e⟩ ?_
 exact⟨hz,its',n',r,e⟩
noncomputable def Zz:V→V→V→Hp→(Hp→Prop)→Prop:=fun o i v H Q=>∃p xs k j,o=.ref p∧i=.int k∧H p=some (.lst xs)∧Pz xs.length k=some j∧Q (upd H p (.lst (xs.set j v)))
theorem QB:Zb X Zz:=by
 intro pins s σ H o i v ov iv u Q I ro ri rv h
 obtain⟨p,xs,k,j,rfl,rfl,hp,hj,q⟩:=h
 cases ro
 obtain⟨t,rfl⟩:=ri
 obtain⟨its,n,r,ho,hz⟩:=I.lst hp
 obtain⟨h1,h2,h3,h4⟩:=Mv hj
 have hl:=r.length
 have hn:=En
 have I':Inv X pins σ (upd H p (.lst (xs.set j v))) {s with heap:=s.heap.update p (iN (·.setIfInBounds j u))}:=
  I.lstUpd hp ho (LU its n j u) (r.set rv j) (by rw[kA];exact hz) s.toks
 by_cases h0:0≤k
 ·have hk:k.toNat=j:=by
   rw[qD h0 h4] at h1
   exact gZ.inj h1
  exact PySem.W.ki_setAt ho h0 (by omega) (by rw[gj,←hl];exact h4) (by rw[hk];exact⟨_,I',q⟩)
 ·have hk:(k+(its.toArray.size:Int)).toNat=j:=by
   rw[seqIndex_neg (by omega) h3] at h1
   rw[gj,←hl]
   exact gZ.inj h1
  exact PySem.W.ki_setBack ho (by omega) (by rw[gj,←hl];exact h3) (by omega) (by rw[hk];exact⟨_,I',q⟩)
theorem IW(lo hi:Option Int)(n:Nat):(mE lo hi none n).1=((HT.BK n 0 lo:Nat):Int)∧(mE lo hi none n).2.1=((HT.BK n n hi:Nat):Int)∧(mE lo hi none n).2.2=1:=by
 refine⟨?_,?_,rfl⟩
 ·cases lo with
  |none=>simp[mE,HT.BK]
  |some i=>
   simp only[mE,HT.BK,Option.getD_none,show(1:Int)>0 by decide,if_true]
   by_cases h:i<0
   ·simp only[h,if_true]<;>omega
   ·simp only[h,if_false]<;>omega
 ·cases hi with
  |none=>simp[mE,HT.BK]
  |some i=>
   simp only[mE,HT.BK,Option.getD_none,show(1:Int)>0 by decide,if_true]
   by_cases h:i<0
   ·simp only[h,if_true]<;>omega
   ·simp only[h,if_false]<;>omega
theorem HR(its:List Value)(lo hi:Option Int):slicePick its.toArray lo hi none=((its.drop (HT.BK its.length 0 lo)).take (HT.BK its.length its.length hi-HT.BK its.length 0 lo)).toArray:=by
 obtain⟨h1,h2,h3⟩:=IW lo hi its.toArray.size
 unfold slicePick
 rw[h1,h2,h3]
 simp only[sliceRange_one,pick_run,gj]<;>rfl
noncomputable def dN(K:a9):V→Option Int→Option Int→Hp→VK→Prop:=fun x lo hi H Q=>∃a xs,x=.ref a∧SqL K H a xs∧∀p,H p=none→Q (.ref p) (upd H p (.lst (Eo xs lo hi)))
theorem TZ:cN X (dN X.K):=by
 intro pins s σ H x v vl vu lo hi sl Q I rx hs pl pu h
 obtain⟨a,xs,rfl,hx,q⟩:=h
 cases rx
 obtain⟨its,r,ht,hz⟩:=I.list hx
 have hlen:=r.length
 refine⟨"list",_,slot_list_getitem.lookup,ht.isList.typeIs,?_⟩
 refine wpAny_getItem_list_slice ht.isList hs pl pu .none (by simp) ?_ (by rw[gj]<;>omega)
 rw[HR,←hlen]
 refine⟨.ref s.heap.objs.size,_,I.laid (t':=s.toks) (o:=.lst (Eo xs lo hi)) (fun b ob q=>e9 _ q) (fv _) ?_,rfl,q _ (I.hok.fresh (fv _))⟩
 exact⟨iq (FQ xs lo hi) hz,_,0,(r.drop (HT.BK xs.length 0 lo)).take (HT.BK xs.length xs.length hi-HT.BK xs.length 0 lo),gJ _ rfl⟩
noncomputable def Dj:V→Bool
 | .non=>true
 | .bl _=>true
 | .int _=>true
 | .str _=>true
 |_=>false
noncomputable def LH:V→V→Bool
 | .non,.non=>true
 | .bl a,.bl b=>a==b
 | .bl a,.int b=> (if a then 1 else 0)==b
 | .int a,.bl b=>a==(if b then 1 else 0)
 | .int a,.int b=>a==b
 | .str a,.str b=>a==b
 |_,_=>false
theorem XG{A:gx}{s:Shared}{y x:V}{u v:Value}(ry:RelV y u)(rx:RelV x v)(fy:Dj y=true)(fx:Dj x=true):iZ A s u v (LH y x):=by
 cases y with
 |non=>
  cases ry
  cases x with
  |non=>cases rx;exact iZ.same _
  |bl b=>cases rx;exact iZ.none_bool b
  |int b=>obtain⟨t,rfl⟩:=rx;exact iZ.none_int b t
  |str b=>obtain⟨t,rfl⟩:=rx;exact iZ.none_str b t
  |_=>exact absurd (show false=true from fx) c9
 |bl a=>
  cases ry
  cases x with
  |non=>cases rx;exact iZ.bool_none a
  |bl b=>cases rx;exact iZ.bool_bool a b
  |int b=>obtain⟨t,rfl⟩:=rx;exact iZ.bool_int a b t
  |str b=>obtain⟨t,rfl⟩:=rx;exact iZ.bool_str a b t
  |_=>exact absurd (show false=true from fx) c9
 |int a=>
  obtain⟨t',rfl⟩:=ry
  cases x with
  |non=>cases rx;exact iZ.int_none a t'
  |bl b=>cases rx;exact iZ.int_bool a t' b
  |int b=>obtain⟨t,rfl⟩:=rx;exact iZ.int_int a t' b t
  |str b=>obtain⟨t,rfl⟩:=rx;exact iZ.int_str a t' b t
  |_=>exact absurd (show false=true from fx) c9
 |str a=>
  obtain⟨t',rfl⟩:=ry
  cases x with
  |non=>cases rx;exact iZ.str_none a t'
  |bl b=>cases rx;exact iZ.str_bool a t' b
  |int b=>obtain⟨t,rfl⟩:=rx;exact iZ.str_int a t' b t
  |str b=>obtain⟨t,rfl⟩:=rx;exact iZ.str_str a t' b t
  |_=>exact absurd (show false=true from fx) c9
 |_=>exact absurd (show false=true from fy) c9
noncomputable def ZP(x:V)(u:Value):Bool:=match u with
 | .none=>LH .non x
 | .bool b=>LH (.bl b) x
 | .int i _=>LH (.int i) x
 | .str z _=>LH (.str z) x
 |_=>false
theorem LW{x y:V}{u:Value}(r:RelV y u)(f:Dj y=true):ZP x u=LH y x:=by
 cases y with
 |non=>cases r;rfl
 |bl b=>cases r;rfl
 |int i=>obtain⟨t,rfl⟩:=r;rfl
 |str z=>obtain⟨t,rfl⟩:=r;rfl
 |_=>exact absurd (show false=true from f) c9
theorem GB{A:gx}{s:Shared}{x:V}{v:Value}(rx:RelV x v)(fx:Dj x=true):∀{xs:List V} {us:List Value},Vals xs us→xs.all Dj=true→∀u∈us,iZ A s u v (ZP x u)
 |_,_,.nil,_=>fun u hu=>by cases hu
 |y::xs,u::us,.cons r t,f=>fun u' hu=>by
  rw[List.all_cons,iE] at f
  rcases fu.mp hu with rfl|hu
  ·rw[LW r f.1];exact XG r rx f.1 fx
  ·exact GB rx fx t f.2 u' hu
theorem Cd:BC X (.builtin "len") (fun xs H Q=>∃p ys,xs=[.ref p]∧(SqL X.K H p ys∨FV X.K H p ys)∧Q (.int ys.length) H):=by
 intro pins s σ H xs us Q I r h
 obtain⟨p,ys,rfl,hq,q⟩:=h
 obtain⟨u,rfl,rx⟩:=Fy r
 cases rx
 have hn:=En
 rcases hq with hq|hq
 ·obtain⟨its,r',pl,hz⟩:=I.list hq
  have hlen:=r'.length
  exact Calls.call_len_list pl.isList (by simp only[gj]<;>omega) ⟨.int ys.length,H,I.tok _,⟨s.toks+1,by rw[gj,hlen]⟩,q⟩
 ·obtain⟨its,r',pl,hz⟩:=I.tuple hq
  have hlen:=r'.length
  exact len_tuple pl (by simp only[gj]<;>omega) ⟨.int ys.length,H,I.tok _,⟨s.toks+1,by rw[gj,hlen]⟩,q⟩
noncomputable def dO(K:a9)(T:String)(x:V)(H:Hp):Prop:=match x with
 | .str _=>T= "str"
 | .int _=>T= "int"
 | .ref p=> (T= "list"∧∃xs,SqL K H p xs)∨(T= "tuple"∧∃o,K.lookup p=some o∧o.cls=.type "tuple"∧o.dict=none)∨
   (T= "dict"∧((∃kvs,H p=some (.dK kvs))∨∃kvs,H p=some (.dT kvs)))∨(T= "set"∧∃S n,H p=some (.set S n))
 |_=>False
theorem XH{pins:List (Addr×Obj)}{σ:St}{H:Hp}{s:Shared}{T:String}{x:V}{v:Value}(I:Inv X pins σ H s)(r:RelV x v)(ty:dO X.K T x H):
  s.TypeIs v T∧∀a,v=.ref a→∃ob,s.heap.get? a=some ob∧ob.dict=none:=by
 cases x with
 |str z=>
  obtain⟨t,rfl⟩:=r
  cases(show T= "str" from ty)
  exact⟨typeIs_str s z t,fun _ e=>nomatch e⟩
 |int i=>
  obtain⟨t,rfl⟩:=r
  cases(show T= "int" from ty)
  exact⟨typeIs_int s i t,fun _ e=>nomatch e⟩
 |ref p=>
  cases r
  rcases ty with⟨rfl,xs,hq⟩| ⟨rfl,o,hk,hc,hd⟩| ⟨rfl,hk⟩| ⟨rfl,S,n,hk⟩
  ·obtain⟨its,_,pl,_⟩:=I.list hq
   refine⟨pl.isList.typeIs,fun a e=>?_⟩
   cases e
   obtain⟨o,n,e,c,hd,_⟩:=pl
   exact⟨o,e,hd⟩
  ·refine⟨⟨o,I.kIn p o hk,hc⟩,fun a e=>?_⟩
   cases e
   exact⟨o,I.kIn _ o hk,hd⟩
  ·have z:∃o,s.heap.get? p=some o∧o.ExactDict:=by
    rcases hk with⟨kvs,hk⟩| ⟨kvs,hk⟩
    ·obtain⟨_,_,_,_,o,_,_,e,ex,_⟩:=I.hok p _ hk
     exact⟨o,e,ex⟩
    ·obtain⟨_,_,_,_,o,_,_,e,ex,_⟩:=I.hok p _ hk
     exact⟨o,e,ex⟩
   obtain⟨o,e,ex⟩:=z
   refine⟨⟨o,e,ex.1⟩,fun a e2=>?_⟩
   cases e2
   exact⟨o,e,ex.2.1⟩
  ·obtain⟨o,_,_,_,e,ex,_⟩:=I.hok p _ hk
   refine⟨⟨o,e,ex.1⟩,fun a e2=>?_⟩
   cases e2
   exact⟨o,e,ex.2.1⟩
 |_=>exact jn ty
noncomputable def fD(K:a9)(T:String)(r:V→List V→Hp→VK→Prop)(to:TE)(t:TA):TE:=fun σ H Q=>to σ H fun x H1=>dO K T x H1∧t σ H1 fun xs H2=>r x xs H2 Q
variable{o e:Expr}{es:List Expr}{to:TE}{t:TA}{name:Str}{apos cpos:Pos}{T id:String}{r:V→List V→Hp→VK→Prop}
theorem QC(pa:PlainAttrs T)(slot:Slot T name id)(hty:typeOf (.builtin id)=pure (.type "method_descriptor"))(hm:eJ X id r)(ho:PE X o to)(ha:PA X (e::es) t)
  (hbase:ou o name X.env (eval o X.env)=eval o X.env:=by rfl)
  (hfew:((jS cpos (fj (e::es) X.env)).all (fun x=>!x.1)&&(qO cpos (pC [] X.env)).all (fun x=>x.1.isSome)
   &&decide ((e::es).length+([]:List oq).length+(if([]:List oq).isEmpty then 0 else 1)<30))=true:=by rfl)
  (hline:(apos.endLine==cpos.line)=true:=by rfl) (hs:fj (e::es) X.env=(false,eval e X.env)::fj es X.env:=by rfl) (hplain:(jS cpos (fj es X.env)).any (·.1)=false:=by rfl):
  PE X (.Call (.Attribute o name apos) (e::es) [] cpos) (fD X.K T r to t):=by
 intro pins s σ H Q I h
 refine wpAny_Call_method_late hbase hfew hline rfl (An (ho pins s σ H _ I h) fun v s1 ⟨x,H1,I1,r1,ty,q1⟩=>?_)
 obtain⟨h1,h2⟩:=XH I1 r1 ty
 refine⟨T,id,pa,slot,hty,h1,h2,?_⟩
 have hA:=ha cpos pins s1 σ H1 _ I1 q1
 rw[hs] at hA ⊢
 refine Calls.callWith_builtin (by show(false|| (jS cpos (fj es X.env)).any (·.1))=false;rw[hplain]<;>rfl) (Calls.evalArgs_plain ?_)
 exact An hA fun us s2 ⟨vs,H2,I2,r2,q2⟩=>hm pins s2 σ H2 x vs v us Q I2 r1 r2 q2
end
noncomputable def cO(X:Cx)(id:String)(r:V→List V→Hp→VK→Prop):Prop:=
 ∀(pins:List (Addr×Obj)) (s:Shared) (σ:St) (H:Hp) (x:V) (xs:List V) (v:Value) (us:List Value) (Q:VK),Inv X pins σ H s→RelV x v→Vals xs us→r x xs H Q→
  wpAny (model X.prog X.w) X.A (call (.builtin id) (v::us)) (EP X pins σ Q) X.xe s
theorem Vals.one:∀{x:V} {us:List Value},Vals [x] us→∃u,us=[u]∧RelV x u
 |_,_,.cons r .nil=> ⟨_,rfl,r⟩
section
variable{X:Cx}{pins:List (Addr×Obj)}{σ:St}{H:Hp}{s:Shared}{l b:Addr}{xs ys zs:List V}
theorem Inv.lset{its its':List Value}{n:Nat}{f:Array Value→Array Value}{t':Nat}(I:Inv X pins σ H s)(hH:H l=some (.lst xs))
  (e:s.heap.get? l=some {cls:=.type "list",data:=.seq its.toArray n}) (hf:f its.toArray=its'.toArray) (hv:Vals ys its') (hz:ys.length≤sizeLine):
  Inv X pins σ (upd H l (.lst ys)) {s with heap:=s.heap.update l (iN f),toks:=t'}:=by
 have q:=PySem.IsL.update e f
 rw[hf] at q
 refine I.write (x:=l) (e:=l) (by rw[hH];exact trivial) (.inl rfl) (fun b' u hb hu=> (ju s.heap (iN f) (Ne.symm hb)).trans hu) ⟨_,q⟩ ?_
 exact⟨hz,its',_,hv,q⟩
theorem Inv.lnew{its:List Value}{t':Nat}(I:Inv X pins σ H s)(hv:Vals ys its)(hz:ys.length≤sizeLine):
  Inv X pins σ (upd H s.heap.objs.size (.lst ys)) {s with heap:=s.heap.push {cls:=.type "list",data:=.seq its.toArray},toks:=t'}:=
 I.laid (fun _ _ q=>e9 _ q) (fv _) ⟨hz,its,0,hv,gJ _ rfl⟩
theorem Inv.fresh(I:Inv X pins σ H s):H s.heap.objs.size=none:=I.hok.fresh (fv _)
theorem Inv.lstM(I:Inv X pins σ H s)(hH:H l=some (.lst xs)):xs.length≤sizeLine∧∃(its:List Value) (n:Nat),Vals xs its∧xs.length=its.length∧s.heap.get? l=some {cls:=.type "list",data:=.seq its.toArray n}:=by
 obtain⟨z,its,n,r,e⟩:=I.hok l _ hH
 exact⟨z,its,n,r,r.length,e⟩
theorem QD{n:Nat}(h:n≤sizeLine):kP n=false:=by
 unfold kP
 exact decide_eq_false (by omega)
end
section
variable{X:Cx}
noncomputable def Mw:V→List V→Hp→VK→Prop:=fun x vs H Q=>∃l xs y,x=.ref l∧vs=[y]∧H l=some (.lst xs)∧xs.length<sizeLine∧Q .non (upd H l (.lst (xs++[y])))
theorem Hj:cO X "list.append" Mw:=by
 intro pins s σ H x vs v us Q I rx rv h
 obtain⟨l,xs,y,rfl,rfl,hH,hz,q⟩:=h
 cases rx
 obtain⟨u,rfl,ru⟩:=rv.one
 obtain⟨z,its,n,r,hl,e⟩:=I.lstM hH
 refine mZ F.slot_list_append ⟨_,e,rfl⟩ F.entry_list_append (F.args_list_append_2 _ _) (PySem.list_append l its.toArray n u (by rw[gj];omega)) ⟨e,?_⟩
 refine⟨.non,_,I.lset (its':=its++[u]) hH e (by simp) (r.append (.cons ru .nil)) ?_,rfl,q⟩
 rw[gw,List.length_singleton]
 omega
noncomputable def Ta:V→List V→Hp→VK→Prop:=fun x vs H Q=>∃l b xs zs,x=.ref l∧vs=[.ref b]∧H l=some (.lst xs)∧H b=some (.lst zs)∧xs.length+zs.length≤sizeLine∧Q .non (upd H l (.lst (xs++zs)))
theorem OP:cO X "list.extend" Ta:=by
 intro pins s σ H x vs v us Q I rx rv h
 obtain⟨l,b,xs,zs,rfl,rfl,hH,hB,hz,q⟩:=h
 cases rx
 obtain⟨u,rfl,ru⟩:=rv.one
 cases ru
 obtain⟨z,its,n,r,hl,e⟩:=I.lstM hH
 obtain⟨z2,its2,n2,r2,hl2,e2⟩:=I.lstM hB
 have hsz:its.toArray.size+its2.toArray.size≤sizeLine:=by rw[gj,gj];omega
 have hlong:¬(!its.toArray.isEmpty&&kP (its.toArray.size+its2.toArray.size))=true:=by
  rw[QD hsz,nZ]
  exact c9
 refine mZ F.slot_list_extend ⟨_,e,rfl⟩ F.entry_list_extend (F.args_list_extend_2 _ _)
  (AutoSeq1.list_extend_list_list_0 l its.toArray n b its2.toArray n2 hlong (by rw[gj];omega) (by omega)) ⟨e,e2,?_⟩
 refine⟨.non,_,I.lset (its':=its++its2) hH e (by simp) (r.append r2) ?_,rfl,q⟩
 rw[gw]
 omega
noncomputable def aA:R2:=fun x y H Q=>∃l b xs zs,x=.ref l∧y=.ref b∧H l=some (.lst xs)∧H b=some (.lst zs)∧xs.length+zs.length≤sizeLine∧∀p,H p=none→Q (.ref p) (upd H p (.lst (xs++zs)))
theorem LX:CO X (jY .Add) aA:=by
 intro pins s σ H x y v u Q I rx ry h
 obtain⟨l,b,xs,zs,rfl,rfl,hH,hB,hz,q⟩:=h
 cases rx
 cases ry
 obtain⟨z,its,n,r,hl,e⟩:=I.lstM hH
 obtain⟨z2,its2,n2,r2,hl2,e2⟩:=I.lstM hB
 refine PySem.P.add_list e e2 ?_ (by rw[gj,gj];omega)
 have ea:its.toArray++its2.toArray=(its++its2).toArray:=by simp
 rw[ea]
 exact⟨.ref _,_,I.lnew (t':=s.toks) (r.append r2) (by rw[gw];omega),rfl,q _ I.fresh⟩
end
section
variable{prog:Program}{w:World}{A:gx}{E:Value→Shared→Prop}{s:Shared}
end
section
variable{X:Cx}
end
end L2
namespace Att
open PySem PySem.W PySem.Calls PyProof.Rows
theorem FW{P:Params}{h:Heap}:∀(ns:List Int) (vs:List Value),WellAll P h vs (ns.map WData.int)→IntsAre vs ns:=by
 intro ns
 induction ns with
 |nil=>
  intro vs w
  rw[l8] at w
  cases w
  exact .nil
 |cons n ns ih=>
  intro vs w
  rw[gH] at w
  cases w with
  |cons a b=>
   cases a
   exact .cons _ _ (ih _ b)
theorem OQ{l:o7}{n:Nat}(hn:l.most=some n){P:Params}{h:Heap}{args:List WData}{vals:List Value}
  (hpre:l.row.toRowW.claim.pre args=true) (hwl:WellAll P h vals args):
  ∃a vs ns,vals=[Value.ref a]∧args=[WData.list (ns.map WData.int)]∧h.get? a=some {cls:=.type "list",data:=.seq vs.toArray}∧IntsAre vs ns∧ns.length≤n:=by
 have hsh:WShape.hasAll [] args [.list .int]=true:=(pre_splitW hpre).1
 have hc:l.pre.holds [] {args:=args}=true:=(pre_splitW hpre).2
 obtain⟨d,r,rfl,h1,h2⟩:=hasAllW_cons hsh
 obtain rfl:=hasAllW_nil h2
 obtain⟨xs,rfl,h3⟩:=hasW_list h1
 obtain⟨ns,rfl⟩:=items_int h3
 have hlen:ns.length≤n:=by
  unfold o7.pre at hc
  have h4:(WTm.not (.lt (.lit (.int (n:Int))) (.len (.arg 0)))).holds [] {args:=[.list (ns.map .int)]}=true:=by
   have h4:=(holds_andW hc).1
   rw[hn] at h4
   exact h4
  have h5:=condW_of h4 (w_not (w_lt w_lit (w_len_list (w_arg rfl))))
  rw[e8] at h5
  refine m8 fun q=>?_
  have q':(n:Int)< ((ns.length:Nat):Int):=by omega
  first
   | (rw[decide_eq_true q'] at h5;exact absurd h5 (by decide))
   | (simp at h5;omega)
 cases hwl with
 |cons w1 w2=>
  cases w2
  cases w1 with
  |list ho hall=>exact⟨_,_,ns,rfl,rfl,ho,FW ns _ hall,hlen⟩
theorem OR(l:o7)(args:List WData):l.row.toRowW.claim.post args (.bool true) args=true:=
 postW_of (r:=l.row.toRowW) (X:=(true==true))
  (show WShape.has [] (.bool true) .bool=true by first|rfl|decide|simp[WShape.has,WShape.arms,WShape.armsAll])
  (show(WTm.eq .res (.lit (.bool true))).value [] {args:=args,res:=some (.bool true),after:=args}=some (.bool (true==true)) from w_eq_bool (w_res rfl) w_lit) rfl
theorem Js{l:o7}{n:Nat}{q:Program}{loose:List Str}{XP:(Str→Option Value)→Heap→Prop}{YP:World→Heap→Prop}{d:DefRec}
  (hn:l.most=some n) (hdf:d.params.defaults=[])
  (call:∀(w:World) (s₀ s₁:Shared) (mg mb:Str→Option Value) (fa:Addr) (o:Obj) (pm cd doc:Value) (a:Addr) (vs:List Value) (ns:List Int),
   Ground q loose [] XP w s₀ mg mb s₁.heap→YP w s₁.heap→
   s₁.heap.get? fa=some o→o.data=.func (docDef d.name d.params d.body d.scope pm cd doc)→s₁.heap.CodeRec cd d.name→mg d.name=some (.ref fa)→
   s₁.heap.get? a=some {cls:=.type "list",data:=.seq vs.toArray}→IntsAre vs ns→ns.length≤n→s₁.gens= #[]→
   lQ (model l.prog w) pS (.call (.ref fa) ⟨[.ref a],[]⟩) (fun r s'=>r=.ok (.ret (.bool true))∧OldK s₁.heap s'.heap∧s'.os=s₁.os∧nI s'.gens) s₁):
  WalkO q loose XP YP l.row.toRowW d [] (fun f vs=>PySem.call f vs):=by
 intro w s₀ s₁ mg mb G Y fa o pm cd doc dV kV ho hd hcd hD hmg hg args vals as hpre hlay hrd hwl hlo
 obtain rfl:dV=.none:=Dflts.none hD hdf
 obtain rfl:kV=.none:=Dflts.noKw hD
 obtain⟨a,vs,ns,rfl,rfl,hobj,hints,hlen⟩:=OQ hn hpre hwl
 refine enter_call (mO (call w s₀ s₁ mg mb fa o pm cd doc a vs ns G Y ho (fd_plain hd) hcd hmg hobj hints hlen hg) fun r s' hq=>?_)
 obtain⟨rfl,h2,h3,h4⟩:=hq
 exact⟨.inl ⟨.bool true,.bool true,[],rfl,fun _=>rfl,.bool true,OR l _,fun _=> ⟨gS.nil,fun _ hm=> (nomatch hm)⟩⟩,h2,h3,h4⟩
section
variable{prog:Program}{w:World}{A:gx}{E:Value→Shared→Prop}{s:Shared}{K:Frag}
end
end Att
namespace L2
open PySem PySem.Spec PyProof.Rows
theorem Hk:∀{vs:List Value} {ns:List Int},IntsAre vs ns→Vals (ns.map V.int) vs
 |_,_,.nil=> .nil
 |_,_,.cons n t h=> .cons ⟨t,rfl⟩ (Hk h)
noncomputable def XI(H:Hp):Prop:=∀b,H b=none∨∃o xs,H b=some (.frz o (.lst xs))
theorem QE{P:Program}{w:World}{K:a9}{mg mb:Str→Option Value}{CX:Pc}{k:Nat}{fa a:Addr}{fd:gE}{x:Str}{sp:Sp}{s₁:Shared}{vs:List Value}{ns:List Int}
  (KX:K.In s₁.heap) (hns:s₁.heap.Ns iP mg) (hb:s₁.heap.Ns qc mb) (hbb:∀x:Str,x≠"__name__"→mb x=ig x) (hlim:s₁.heap.NoLimit) (hg:s₁.gens= #[])
  (ha:s₁.heap.get? a=some {cls:=.type "list",data:=.seq vs.toArray}) (hi:IntsAre vs ns) (hl:ns.length≤sizeLine) (hr:Room k pS)
  (F:∀base:Heap,K.In base→base.Ns iP mg→FnOk P w K mg base CX k fa fd [x] sp) (hbind:∀(s:Shared) (u:Value),pT s fd ⟨[u],[]⟩ [(x,u)])
  (hsp:∀H:Hp,XI H→SqL K H a (ns.map V.int)→sp [.ref a] H (fun v _=>v=.bl true) fun _ _ _=>False)
  (hCX:∀H e s',CX [] H s₁ (fun _ _ _=>False) e s'→False):
  lQ (model P w) pS (.call (.ref fa) ⟨[.ref a],[]⟩) (fun r s'=>r=.ok (.ret (.bool true))∧OldK s₁.heap s'.heap∧s'.os=s₁.os∧nI s'.gens) s₁:=by
 have rv:=Hk hi
 have lenV:=hi.length
 have core:∀H:Hp,XI H→SqL K H a (ns.map V.int)→HOk P w H s₁.heap→(∀b,H b≠none→b=a)→(H a≠none→K.lookup a=none)→
   lQ (model P w) pS (.call (.ref fa) ⟨[.ref a],[]⟩) (fun r s'=>r=.ok (.ret (.bool true))∧OldK s₁.heap s'.heap∧s'.os=s₁.os∧nI s'.gens) s₁:=by
  intro H hO hS hok hA hK
  have base_of:∀{b:Addr} {o:Obj},s₁.heap.get? b=some o→H b=none→(IR s₁.heap H).get? b=some o:=fun e n=>Pd e n
  have noA:∀{b:Addr} {o:Obj} {es:Array DictEntry} {ep:Nat},s₁.heap.get? b=some o→o.data=.dict es ep→H b=none:=fun{b o es ep} e d=>by
   cases q:H b with
   |none=>rfl
   |some u=>
    have e':b=a:=hA b (by rw[q];simp)
    subst e'
    rw[ha] at e;cases e
    have d':Data.seq vs.toArray _=Data.dict es ep:=d
    cases d'
  have nsK:∀{b:Addr} {m:Str→Option Value},s₁.heap.Ns b m→(IR s₁.heap H).Ns b m:=fun{b m} ⟨o,es,ep,e,d,r⟩=> ⟨o,es,ep,base_of e (noA e d),d,r⟩
  have hKb:K.In (IR s₁.heap H):=fun b o e=>base_of (KX b o e) (by
   cases q:H b with
   |none=>rfl
   |some u=>
    have e':b=a:=hA b (by rw[q];simp)
    subst e'
    rw[hK (by rw[q];simp)] at e;cases e)
  have hM:Mod K mg (IR s₁.heap H):=⟨hKb,nsK hns,⟨mb,nsK hb,hbb⟩,let⟨mc,h1,h2⟩:=hlim;⟨mc,nsK h1,h2⟩⟩
  have e0:Env0 P w K mg (IR s₁.heap H) pS [] s₁ H:=⟨rfl,hM,fun b o e=>Sz e,qv (OF _ _),trivial,fun b hb=>absurd (show b∈([]:List Addr) from hb) (by simp),hok,.of_eq hg⟩
  refine mO ((F _ hKb (nsK hns)).run pS [] s₁ H ⟨[.ref a],[]⟩ [.ref a] [.ref a] _ _ hr e0 (hbind s₁ (.ref a)) (.cons rfl .nil) (hsp H hO hS)) fun r s' h=>?_
  cases r with
  |error e=>exact(hCX H e s' h).elim
  |ok fl=>
   cases fl with
   |next=>exact jn h
   |brk=>exact jn h
   |cont=>exact jn h
   |ret u=>
    obtain⟨v,H',os,bare,un,hok',r',q⟩:=h
    have q':v=.bl true:=q
    subst q'
    obtain rfl:u=oO true:=r'
    refine⟨rfl,OldK.of_keep fun b o e=>?_,os,bare⟩
    cases q:H b with
    |none=>exact un.keep b o e q (by intro z;exact absurd (show b∈([]:List Addr) from z) (by simp)) (by simp)
    |some u=>
     rcases hO b with z| ⟨ob,xs,z⟩
     ·rw[q] at z;cases z
     ·have z2:=un.frzs b ob _ z
      obtain⟨e1,_⟩:=hok b _ z
      obtain⟨e2,_⟩:=hok' b _ z2
      rw[e] at e1;cases e1
      exact e2
 cases hk:K.lookup a with
 |some o=>
  have e:=KX a o hk
  rw[ha] at e
  cases e
  refine core (fun _=>none) (fun _=> .inl rfl) (.inr ⟨_,vs.toArray,_,hk,rfl,rfl,rfl,by rw[gj,lenV];exact hl,by simpa using rv⟩) (fun b u z=>by have z':(none:Option HO)=some u:=z;cases z') (fun b z=>absurd rfl z) fun z=>absurd rfl z
 |none=>
  refine core (fun b=>if b=a then some (.frz {cls:=.type "list",data:=.seq vs.toArray} (.lst (ns.map V.int))) else none) (fun b=>?_) (.inl (.inr ⟨{cls:=.type "list",data:=.seq vs.toArray},if_pos rfl⟩)) (fun b u z=>?_) (fun b z=>?_) fun _=>hk
  ·by_cases hb:b=a
   ·exact .inr ⟨_,_,if_pos hb⟩
   ·exact .inl (if_neg hb)
  ·by_cases hb:b=a
   ·have z':=(if_pos hb).symm.trans z
    cases z'
    subst hb
    exact⟨ha,by rw[e8];exact hl,vs,_,rv,ha⟩
   ·have z':=(if_neg hb).symm.trans z
    cases z'
  ·by_cases hb:b=a
   ·exact hb
   ·exact absurd (if_neg hb) z
theorem Tc{l:o7}{n k:Nat}{q:Program}{loose:List Str}{XP:(Str→Option Value)→Heap→Prop}{YP:World→Heap→Prop}{d:DefRec}{K:Params→a9}{CX:World→Pc}{sp:World→Sp}{x:Str}
  (hn:l.most=some n) (hn2:n≤sizeLine) (hdf:d.params.defaults=[]) (hr:Room k pS)
  (hY:∀(w:World) (h:Heap),YP w h→(K w.params).In h)
  (F:∀(w:World) (mg:Str→Option Value) (fa:Addr) (h:Heap),(K w.params).In h→h.Ns iP mg→mg d.name=some (.ref fa)→
   ∃fd:gE,(∀(s:Shared) (u:Value),pT s fd ⟨[u],[]⟩ [(x,u)])∧
    ∀base:Heap,(K w.params).In base→base.Ns iP mg→FnOk l.prog w (K w.params) mg base (CX w) k fa fd [x] (sp w))
  (hsp:∀(w:World) (H:Hp) (a:Addr) (ns:List Int),ns.length≤n→XI H→SqL (K w.params) H a (ns.map V.int)→sp w [.ref a] H (fun v _=>v=.bl true) fun _ _ _=>False)
  (hCX:∀(w:World) (H:Hp) (s:Shared) (e:Value) (s':Shared),CX w [] H s (fun _ _ _=>False) e s'→False):
  PySem.W.WalkO q loose XP YP l.row.toRowW d [] (fun f vs=>PySem.call f vs):=by
 refine Att.Js hn hdf fun w s₀ s₁ mg mb fa o pm cd doc a vs ns G Y ho hd hcd hmg hobj hints hlen hg=>?_
 have KX:=hY w _ Y
 obtain⟨fd,hb,hF⟩:=F w mg fa _ KX G.T.g hmg
 exact QE KX G.T.g G.T.b G.T.builtins G.T.nolimit hg hobj hints (iq hlen hn2) hr hF hb (fun H hO hS=>hsp w H a ns hlen hO hS) fun H e s'=>hCX w H s₁ e s'
noncomputable def EG(s:Stmt):Arguments:=match s with
 | .FunctionDef _ a _ _ _ _ _ _ _ _=>a
 |_=> {posonlyargs:=[],args:=[],vararg:=none,kwonlyargs:=[],kw_defaults:=[],kwarg:=none,defaults:=[]}
noncomputable def Aw(s:Stmt):List Stmt:=match s with
 | .FunctionDef _ _ b _ _ _ _ _ _ _=>b
 |_=> []
noncomputable def AA(s:Stmt):Scope:=match s with
 | .FunctionDef _ _ _ _ _ _ sc _ _ _=>sc
 |_=> {kind:=.function,names:=[],isGenerator:=false,isCoroutine:=false}
noncomputable abbrev dP:Pc:=fun _ _ _ _ _ _=>False
noncomputable abbrev E0:XK:=fun _ _ _=>False
structure Fun(K:a9)(x qual:Str)(st:Stmt)(f:Addr)(fd:gE):Prop where
 ex:∃(oc:Value) (od:Option Addr) (kV doc pm:Value) (an:Option Addr) (cdv ct:Value) (osl:Array (Option Value)),
  fd=l0 x qual (EG st) (Aw st) (AA st) .none kV doc pm an cdv ct∧K.lookup f=some ⟨oc,od,.func fd,osl⟩∧pI K cdv qual=true
 kp:jq K (.ref f)=true
section
variable{P:Program}{w:World}{K:a9}{mg:Str→Option Value}{base:Heap}
theorem Fun.binds{x qual:Str}{st:Stmt}{f:Addr}{fd:gE}{ps:List Str}(F:Fun K x qual st f fd)
  (h:∀(kV doc pm:Value) (an:Option Addr) (cdv ct:Value) (us:List Value),us.length=ps.length→bindArgs (l0 x qual (EG st) (Aw st) (AA st) .none kV doc pm an cdv ct) ⟨us,[]⟩=pure (ps.zip us)):Binds K fd ps []:=by
 obtain⟨oc,od,kV,doc,pm,an,cdv,ct,osl,rfl,lk,hcd⟩:=F.ex
 exact .all (h kV doc pm an cdv ct)
end
section
variable{X:Cx}
theorem pv(i:Nat){x:Str}{pos:Pos}(hN:X.N[i]?=some x:=by rfl)(hv:ZN X.env.scope x:=by first|exact oz rfl|exact oy (oz rfl)|exact oy (oy rfl))(hd:(x==("__debug__" :Str))=false:=by decide)
  (hcd:(x==("__classdict__" :Str))=false:=by decide):PE X (.Name x pos) (ZW i):=Pe hN hv hd hcd
end
theorem OS{A B:Prop}(h:B):if false=true then A else B:=by
 rw[if_neg c9]
 exact h
theorem LY{A B:Prop}(h:A):if true=true then A else B:=by
 rw[if_pos rfl]
 exact h
theorem dQ{c A B:Prop} [Decidable c](h1:c→A)(h2:¬c→B):if c then A else B:=by
 by_cases h:c
 ·rw[if_pos h]
  exact h1 h
 ·rw[if_neg h]
  exact h2 h
noncomputable def Same(H H':Hp):Prop:=∀b o,H b=some o→H' b=some o
theorem Same.refl(H:Hp):Same H H:=fun _ _ h=>h
end L2
set_option maxHeartbeats 4000000
namespace K34
open PySem L2
noncomputable def kE(P:Params)(x:Str)(n:Tok)(v:Value):DictEntry:=⟨iC.keyHash P x,.str x n,v⟩
noncomputable def tp(i:Nat):Stmt:=gM.main.body.getD i (.Pass ⟨0,0,0,0⟩)
noncomputable def kF(x:Str)(i:Nat)(m:Str)(t:Tok)(c:Addr):Obj:=⟨.type "function",none,.func (l0 x x (EG (tp i)) (Aw (tp i)) (AA (tp i)) .none .none .none (.str m t) none (.ref c) .none),#[]⟩
noncomputable def kC(x:Str)(a b c:Tok)(vs:List Value):Obj:=⟨.type "code",none,.fields ((Value.str x a::.str x b::.str "/claim/cut.py" c::vs).toArray),#[]⟩
noncomputable def kD(x:Str)(a b c:Tok)(l n:Int)(r:Addr)(g:Int)(q:Addr)(z:Int)(k:Tok)(vs:List Value):Obj:=kC x a b c (.int l 0::.int n 0::.int 0 0::.int 0 0::.int 3 0::.ref r::.bool true::.int g 0::.ref q::(vs++[.int z 0,.int l 0,.str "/claim/cut.py" k]))
noncomputable def Kk:Params→a9:=fun P=> (nat_lit 3,⟨(.type "dict"),none,(.dict #[kE P "__name__" 165 (.str "law_noshortring_k34_fewest_by_turns" 554),kE P "__doc__" 166 .none,kE P "__package__" 167 .none,kE P "__loader__" 168 (.builtin "__main__.__loader__#opaque"),kE P "__spec__" 169 .none,kE P "__annotations__" 170 (.ref 6),kE P "__builtins__" 171 (.ref 4),kE P "__file__" 173 (.str "/claim/cut.py" 172),kE P "__cached__" 174 .none,kE P "RingError" 206 (.ref 24),kE P "NoPlace" 222 (.ref 37),kE P "NoNumber" 238 (.ref 49),kE P "NoLine" 254 (.ref 61),kE P "NoRing" 270 (.ref 73),kE P "NotEven" 286 (.ref 85),kE P "NoWeb" 311 (.ref 104),kE P "NoText" 336 (.ref 123),kE P "TooGreat" 363 (.ref 142),kE P "is_whole" 374 (.ref 151),kE P "need_number" 383 (.ref 158),kE P "least_told" 389 (.ref 163),kE P "MOST_PLACES" 393 (.int 16 392),kE P "LEAST_RING" 395 (.int 3 394),kE P "ties_of" 401 (.ref 168),kE P "nears_of" 407 (.ref 173),kE P "fars_from" 413 (.ref 178),kE P "even_by" 419 (.ref 183),kE P "ring_by_tie" 425 (.ref 188),kE P "shortest" 431 (.ref 193),kE P "LEAST_TIES" 435 (.int 2 434),kE P "MOST_TIES" 437 (.int 15 436),kE P "MOST_RING" 439 (.int 16 438),kE P "need_ties" 446 (.ref 200),kE P "need_ring" 453 (.ref 207),kE P "need_ties_and_ring" 461 (.ref 214),kE P "sum_of_powers" 472 (.ref 221),kE P "grown_places" 481 (.ref 228),kE P "has_shorter_ring" 490 (.ref 235),kE P "does_fit" 499 (.ref 242),kE P "LEAST_PLACES" 503 (.int 3 502),kE P "need_many" 510 (.ref 249),kE P "web_turned" 516 (.ref 254),kE P "ties_turned" 522 (.ref 259),kE P "all_steps" 528 (.ref 264),kE P "steps_that_fit" 534 (.ref 269),kE P "by_turns" 543 (.ref 276),kE P "least_by_turns" 553 (.ref 283),kE P "_law_cell_at" 563 (.ref 290),kE P "_law_next" 570 (.ref 297),kE P "_law_pen_of" 578 (.ref 304),kE P "_law_draw" 587 (.ref 311),kE P "_law_kind_of" 595 (.ref 318),kE P "_law_turned" 607 (.ref 325),kE P "_law_no_shorter" 613 (.ref 330),kE P "_law_fitting" 619 (.ref 335),kE P "_law_told" 630 (.ref 342),kE P "_law_least" 640 (.ref 349),kE P "law" 658 (.ref 356)] 58),#[]⟩)::
  (nat_lit 23,⟨(.type "dict"),none,(.dict #[kE P "__module__" 196 (.str "noshortring.errors" 187),kE P "__firstlineno__" 200 (.int 2 199),kE P "__static_attributes__" 201 (.ref 22),kE P "__weakref__" 203 (.ref 25),kE P "__doc__" 204 .none] 3),#[]⟩)::
  (nat_lit 24,⟨(.type "type"),none,(.cls ⟨"RingError",[(.type "ValueError")],[(.ref 24),(.type "ValueError"),(.type "Exception"),(.type "BaseException"),(.type "object")],23,"RingError",true,[],[(.ref 37),(.ref 49),(.ref 61),(.ref 73),(.ref 85),(.ref 104),(.ref 123),(.ref 142)],false,none,false⟩),#[(some (.ref 15)),none,(some (.str "RingError" 189)),(some (.str "RingError" 197)),(some (.builtin "ValueError.__new__")),(some (.bool true))]⟩)::
  (nat_lit 37,⟨(.type "type"),none,(.cls ⟨"NoPlace",[(.ref 24)],[(.ref 37),(.ref 24),(.type "ValueError"),(.type "Exception"),(.type "BaseException"),(.type "object")],36,"NoPlace",true,[],[],false,none,false⟩),#[(some (.ref 28)),none,(some (.str "NoPlace" 207)),(some (.str "NoPlace" 215)),(some (.builtin "ValueError.__new__")),(some (.bool true))]⟩)::
  (nat_lit 48,⟨(.type "dict"),none,(.dict #[kE P "__module__" 230 (.str "noshortring.errors" 187),kE P "__firstlineno__" 234 (.int 6 233),kE P "__static_attributes__" 235 (.ref 47),kE P "__doc__" 236 .none] 2),#[]⟩)::
  (nat_lit 49,⟨(.type "type"),none,(.cls ⟨"NoNumber",[(.ref 24)],[(.ref 49),(.ref 24),(.type "ValueError"),(.type "Exception"),(.type "BaseException"),(.type "object")],48,"NoNumber",true,[],[],false,none,false⟩),#[(some (.ref 40)),none,(some (.str "NoNumber" 223)),(some (.str "NoNumber" 231)),(some (.builtin "ValueError.__new__")),(some (.bool true))]⟩)::
  (nat_lit 61,⟨(.type "type"),none,(.cls ⟨"NoLine",[(.ref 24)],[(.ref 61),(.ref 24),(.type "ValueError"),(.type "Exception"),(.type "BaseException"),(.type "object")],60,"NoLine",true,[],[],false,none,false⟩),#[(some (.ref 52)),none,(some (.str "NoLine" 239)),(some (.str "NoLine" 247)),(some (.builtin "ValueError.__new__")),(some (.bool true))]⟩)::
  (nat_lit 73,⟨(.type "type"),none,(.cls ⟨"NoRing",[(.ref 24)],[(.ref 73),(.ref 24),(.type "ValueError"),(.type "Exception"),(.type "BaseException"),(.type "object")],72,"NoRing",true,[],[],false,none,false⟩),#[(some (.ref 64)),none,(some (.str "NoRing" 255)),(some (.str "NoRing" 263)),(some (.builtin "ValueError.__new__")),(some (.bool true))]⟩)::
  (nat_lit 85,⟨(.type "type"),none,(.cls ⟨"NotEven",[(.ref 24)],[(.ref 85),(.ref 24),(.type "ValueError"),(.type "Exception"),(.type "BaseException"),(.type "object")],84,"NotEven",true,[],[],false,none,false⟩),#[(some (.ref 76)),none,(some (.str "NotEven" 271)),(some (.str "NotEven" 279)),(some (.builtin "ValueError.__new__")),(some (.bool true))]⟩)::
  (nat_lit 104,⟨(.type "type"),none,(.cls ⟨"NoWeb",[(.ref 24)],[(.ref 104),(.ref 24),(.type "ValueError"),(.type "Exception"),(.type "BaseException"),(.type "object")],103,"NoWeb",true,[],[],false,none,false⟩),#[(some (.ref 88)),none,(some (.str "NoWeb" 287)),(some (.str "NoWeb" 295)),(some (.builtin "ValueError.__new__")),(some (.bool true))]⟩)::
  (nat_lit 123,⟨(.type "type"),none,(.cls ⟨"NoText",[(.ref 24)],[(.ref 123),(.ref 24),(.type "ValueError"),(.type "Exception"),(.type "BaseException"),(.type "object")],122,"NoText",true,[],[],false,none,false⟩),#[(some (.ref 107)),none,(some (.str "NoText" 312)),(some (.str "NoText" 320)),(some (.builtin "ValueError.__new__")),(some (.bool true))]⟩)::
  (nat_lit 142,⟨(.type "type"),none,(.cls ⟨"TooGreat",[(.ref 24)],[(.ref 142),(.ref 24),(.type "ValueError"),(.type "Exception"),(.type "BaseException"),(.type "object")],141,"TooGreat",true,[],[],false,none,false⟩),#[(some (.ref 126)),none,(some (.str "TooGreat" 337)),(some (.str "TooGreat" 345)),(some (.builtin "ValueError.__new__")),(some (.bool true))]⟩)::
  (nat_lit 150,kD "is_whole" 366 367 368 28 3 145 181 146 372 373 [.none,(.ref 147),(.ref 148),(.ref 149)])::
  (nat_lit 151,kF "is_whole" 11 "noshortring.common" 364 150)::
  (nat_lit 157,kD "need_number" 375 376 377 32 3 152 181 153 381 382 [.none,(.ref 154),(.ref 155),(.ref 156)])::
  (nat_lit 158,kF "need_number" 12 "noshortring.common" 364 157)::
  (nat_lit 162,kD "least_told" 384 385 386 35 1 159 181 160 387 388 [.none,.none,.none,(.ref 161)])::
  (nat_lit 163,kF "least_told" 13 "noshortring.common" 364 162)::
  (nat_lit 167,kD "ties_of" 396 397 398 40 1 164 181 165 399 400 [.none,.none,.none,(.ref 166)])::
  (nat_lit 168,kF "ties_of" 17 "noshortring.webs" 390 167)::
  (nat_lit 172,kD "nears_of" 402 403 404 42 1 169 181 170 405 406 [.none,.none,.none,(.ref 171)])::
  (nat_lit 173,kF "nears_of" 18 "noshortring.webs" 390 172)::
  (nat_lit 177,kD "fars_from" 408 409 410 48 2 174 181 175 411 412 [.none,.none,.none,(.ref 176)])::
  (nat_lit 178,kF "fars_from" 19 "noshortring.webs" 390 177)::
  (nat_lit 182,kD "even_by" 414 415 416 64 1 179 181 180 417 418 [.none,.none,.none,(.ref 181)])::
  (nat_lit 183,kF "even_by" 20 "noshortring.webs" 390 182)::
  (nat_lit 187,kD "ring_by_tie" 420 421 422 67 3 184 181 185 423 424 [.none,.none,.none,(.ref 186)])::
  (nat_lit 188,kF "ring_by_tie" 21 "noshortring.webs" 390 187)::
  (nat_lit 192,kD "shortest" 426 427 428 72 1 189 181 190 429 430 [.none,.none,.none,(.ref 191)])::
  (nat_lit 193,kF "shortest" 22 "noshortring.webs" 390 192)::
  (nat_lit 199,kD "need_ties" 440 441 442 79 1 194 181 195 444 445 [.none,(.ref 196),(.ref 197),(.ref 198)])::
  (nat_lit 200,kF "need_ties" 27 "noshortring.fewest" 432 199)::
  (nat_lit 206,kD "need_ring" 447 448 449 81 1 201 181 202 451 452 [.none,(.ref 203),(.ref 204),(.ref 205)])::
  (nat_lit 207,kF "need_ring" 28 "noshortring.fewest" 432 206)::
  (nat_lit 213,kD "need_ties_and_ring" 454 455 456 83 2 208 181 209 459 460 [.none,(.ref 210),(.ref 211),(.ref 212)])::
  (nat_lit 214,kF "need_ties_and_ring" 29 "noshortring.fewest" 432 213)::
  (nat_lit 220,kD "sum_of_powers" 462 463 464 86 2 215 181 216 470 471 [.none,(.ref 217),(.ref 218),(.ref 219)])::
  (nat_lit 221,kF "sum_of_powers" 30 "noshortring.fewest" 432 220)::
  (nat_lit 227,kD "grown_places" 473 474 475 93 2 222 181 223 479 480 [.none,(.ref 224),(.ref 225),(.ref 226)])::
  (nat_lit 228,kF "grown_places" 31 "noshortring.fewest" 432 227)::
  (nat_lit 234,kD "has_shorter_ring" 482 483 484 96 2 229 181 230 488 489 [.none,(.ref 231),(.ref 232),(.ref 233)])::
  (nat_lit 235,kF "has_shorter_ring" 32 "noshortring.fewest" 432 234)::
  (nat_lit 241,kD "does_fit" 491 492 493 99 3 236 181 237 497 498 [.none,(.ref 238),(.ref 239),(.ref 240)])::
  (nat_lit 242,kF "does_fit" 33 "noshortring.fewest" 432 241)::
  (nat_lit 248,kD "need_many" 504 505 506 103 1 243 181 244 508 509 [.none,(.ref 245),(.ref 246),(.ref 247)])::
  (nat_lit 249,kF "need_many" 36 "noshortring.turning" 500 248)::
  (nat_lit 253,kD "web_turned" 511 512 513 105 2 250 181 251 514 515 [.none,.none,.none,(.ref 252)])::
  (nat_lit 254,kF "web_turned" 37 "noshortring.turning" 500 253)::
  (nat_lit 258,kD "ties_turned" 517 518 519 110 2 255 181 256 520 521 [.none,.none,.none,(.ref 257)])::
  (nat_lit 259,kF "ties_turned" 38 "noshortring.turning" 500 258)::
  (nat_lit 263,kD "all_steps" 523 524 525 112 1 260 181 261 526 527 [.none,.none,.none,(.ref 262)])::
  (nat_lit 264,kF "all_steps" 39 "noshortring.turning" 500 263)::
  (nat_lit 268,kD "steps_that_fit" 529 530 531 117 3 265 181 266 532 533 [.none,.none,.none,(.ref 267)])::
  (nat_lit 269,kF "steps_that_fit" 40 "noshortring.turning" 500 268)::
  (nat_lit 275,kD "by_turns" 535 536 537 122 3 270 181 271 541 542 [.none,(.ref 272),(.ref 273),(.ref 274)])::
  (nat_lit 276,kF "by_turns" 41 "noshortring.turning" 500 275)::
  (nat_lit 282,kD "least_by_turns" 544 545 546 126 2 277 181 278 551 552 [.none,(.ref 279),(.ref 280),(.ref 281)])::
  (nat_lit 283,kF "least_by_turns" 42 "noshortring.turning" 500 282)::
  (nat_lit 289,kD "_law_cell_at" 556 557 558 134 2 284 181 285 561 562 [.none,(.ref 286),(.ref 287),(.ref 288)])::
  (nat_lit 290,kF "_law_cell_at" 44 "law_noshortring_k34_fewest_by_turns" 554 289)::
  (nat_lit 296,kD "_law_next" 564 565 566 138 1 291 181 292 568 569 [.none,(.ref 293),(.ref 294),(.ref 295)])::
  (nat_lit 297,kF "_law_next" 45 "law_noshortring_k34_fewest_by_turns" 554 296)::
  (nat_lit 303,kD "_law_pen_of" 571 572 573 141 1 298 181 299 576 577 [.none,(.ref 300),(.ref 301),(.ref 302)])::
  (nat_lit 304,kF "_law_pen_of" 46 "law_noshortring_k34_fewest_by_turns" 554 303)::
  (nat_lit 310,kD "_law_draw" 579 580 581 144 2 305 181 306 585 586 [.none,(.ref 307),(.ref 308),(.ref 309)])::
  (nat_lit 311,kF "_law_draw" 47 "law_noshortring_k34_fewest_by_turns" 554 310)::
  (nat_lit 317,kD "_law_kind_of" 588 589 590 151 1 312 181 313 593 594 [.none,(.ref 314),(.ref 315),(.ref 316)])::
  (nat_lit 318,kF "_law_kind_of" 48 "law_noshortring_k34_fewest_by_turns" 554 317)::
  (nat_lit 324,kD "_law_turned" 596 597 598 157 2 319 181 320 605 606 [.none,(.ref 321),(.ref 322),(.ref 323)])::
  (nat_lit 325,kF "_law_turned" 49 "law_noshortring_k34_fewest_by_turns" 554 324)::
  (nat_lit 329,kD "_law_no_shorter" 608 609 610 164 2 326 181 327 611 612 [.none,.none,.none,(.ref 328)])::
  (nat_lit 330,kF "_law_no_shorter" 50 "law_noshortring_k34_fewest_by_turns" 554 329)::
  (nat_lit 334,kD "_law_fitting" 614 615 616 179 3 331 181 332 617 618 [.none,.none,.none,(.ref 333)])::
  (nat_lit 335,kF "_law_fitting" 51 "law_noshortring_k34_fewest_by_turns" 554 334)::
  (nat_lit 341,kD "_law_told" 620 621 622 187 4 336 181 337 628 629 [.none,(.ref 338),(.ref 339),(.ref 340)])::
  (nat_lit 342,kF "_law_told" 52 "law_noshortring_k34_fewest_by_turns" 554 341)::
  (nat_lit 348,kD "_law_least" 631 632 633 192 2 343 181 344 638 639 [.none,(.ref 345),(.ref 346),(.ref 347)])::
  (nat_lit 349,kF "_law_least" 53 "law_noshortring_k34_fewest_by_turns" 554 348)::
  (nat_lit 355,kD "law" 641 642 643 198 1 350 181 351 656 657 [.none,(.ref 352),(.ref 353),(.ref 354)])::
  (nat_lit 356,kF "law" 54 "law_noshortring_k34_fewest_by_turns" 554 355)::[]
noncomputable def ka:List Addr:=[3,23,24,37,48,49,61,73,85,104,123,142,150,151,157,158,162,163,167,168,172,173,177,178,182,183,187,188,192,193,199,200,206,207,213,214,220,221,227,228,234,235,241,242,248,249,253,254,258,259,263,264,268,269,275,276,282,283,289,290,296,297,303,304,310,311,317,318,324,325,329,330,334,335,341,342,348,349,355,356]
noncomputable abbrev kq:Program:=PySem.W.view gM [1,2,3,4,5,6,7,8,9,11,12,13,15,16,17,18,19,20,21,22,24,25,26,27,28,29,30,31,32,33,35,36,37,38,39,40,41,42,44,45,46,47,48,49,50,51,52,53,54]
theorem dR:(fun(_:Params→a9) (_:Program)=>true) Kk gM=true:=by k_qdec
noncomputable abbrev oS(s:Shared):=PySem.W.openSeen kq [] (importedModules gM.main.body) (fun s=>qo kq [] s&&pY [] s) true s
noncomputable abbrev oE(w:World):=PySem.W.openEnds treeTable gM w 6308
theorem aB(w:World):(oE w).map (fun s=> ((oS s).1,(oS s).2.2.2.2.1))=some ((iT kq []).1,(iT kq []).2.2.2.2.1):=by
 delta oE oS kq
 rw[PySem.W.Fast.te5371942739007424695,jb,jh]
 delta jg iT
 dsimp only
 kernel_rfl
theorem aC(w:World):(oE w).map (fun s=> ((oS s).2.1,(oS s).2.2.1,(oS s).2.2.2.2.2.2.1,(oS s).2.2.2.2.2.2.2.2))=some ((iT kq []).2.1,(iT kq []).2.2.1,(iT kq []).2.2.2.2.2.2.1,(iT kq []).2.2.2.2.2.2.2.2):=by
 delta oE oS kq
 rw[PySem.W.Fast.te5371942739007424695,jb,jh,PySem.W.Fast.te5923862056798008813]
 delta jg iT
 dsimp only
 kernel_rfl
theorem aD(w:World):(oE w).map (fun s=> ((oS s).2.2.2.1))=some ((iT kq []).2.2.2.1):=by
 delta oE oS kq
 rw[PySem.W.Fast.te5371942739007424695,jb,jh]
 delta jg iT
 dsimp only
 kernel_rfl
theorem aE(w:World):(oE w).map (fun s=> ((oS s).2.2.2.2.2.1))=some ((iT kq []).2.2.2.2.2.1):=by
 delta oE oS kq
 rw[PySem.W.Fast.te5371942739007424695,jb,jh]
 delta jg iT
 dsimp only
 kernel_rfl
theorem aF(w:World):(oE w).map (fun s=> ((oS s).2.2.2.2.2.2.2.1,ka.map s.heap.get?))=some ((iT kq []).2.2.2.2.2.2.2.1,(Kk w.params).map fun(p:Addr×Obj)=>some p.2):=by
 delta oE oS kq
 rw[PySem.W.Fast.te16839913799589087538,PySem.W.Fast.te5371942739007424695,jb,jh]
 delta jg iT
 dsimp only
 kernel_rfl
theorem left:PySem.W.LeftO gM kq [] (fun s=>qo kq [] s&&pY [] s) (fun s=>ka.map s.heap.get?) (fun w=> (Kk w.params).map fun(p:Addr×Obj)=>some p.2) 6308:=by
 intro w
 have h0:=aB w
 have h1:=aC w
 have h2:=aD w
 have h3:=aE w
 have h4:=aF w
 show(oE w).map (fun s=> (oS s,ka.map s.heap.get?))=_
 revert h0 h1 h2 h3 h4
 cases oE w with
 |none=>intro h;cases h
 |some s=>
  intro h0 h1 h2 h3 h4
  have h0:=gZ.inj h0
  simp only[p0] at h0
  have h1:=gZ.inj h1
  simp only[p0] at h1
  have h2:=gZ.inj h2
  have h3:=gZ.inj h3
  have h4:=gZ.inj h4
  simp only[p0] at h4
  exact congrArg some (jd (jd (h0.1) (jd (h1.1) (jd (h1.2.1) (jd (h2) (jd (h0.2) (jd (h3) (jd (h1.2.2.1) (jd (h4.1) (h1.2.2.2))))))))) (h4.2))
end K34
namespace L2
open PySem PySem.Spec PyProof.Rows
theorem IX{env:Env}:∀(l:List (Str×NameKind)) (acc:List (Str×Addr)),(∀y∈l,y.2=.free→∃c,env.cells.lookup y.1=some c)→
  (∀x c,acc.lookup x=some c→env.cells.lookup x=some c)→
  ∃cl,(forIn l acc (fun(x:Str×NameKind) (r:List (Str×Addr))=> (match x with
   | (name,kind)=>if(kind==NameKind.free)=true then(do let a←cellOf env name;pure (jR ((name,a)::r))) else pure (jR r):Sem (ForInStep (List (Str×Addr))))))=(pure cl:Sem _)∧
   (∀x c,cl.lookup x=some c→env.cells.lookup x=some c)∧(∀x,(acc.lookup x).isSome=true→(cl.lookup x).isSome=true)∧∀y∈l,y.2=.free→(cl.lookup y.1).isSome=true
 | [],acc,_,ha=> ⟨acc,rfl,ha,fun _ h=>h,fun _ h=>nomatch h⟩
 | (n,k)::r,acc,h,ha=>by
  have hr:∀y∈r,y.2=.free→∃c,env.cells.lookup y.1=some c:=fun y hy=>h y (fk _ hy)
  by_cases hk:k=.free
  ·subst hk
   obtain⟨c,hc⟩:=h (n,.free) gC rfl
   have hc:env.cells.lookup n=some c:=hc
   have ha':∀x c',((n,c)::acc).lookup x=some c'→env.cells.lookup x=some c':=fun x c' e=>by
    rw[iz] at e
    cases hx:x==n with
    |true=>rw[hx] at e;cases e;rw[beq_iff_eq.mp hx];exact hc
    |false=>rw[hx] at e;exact ha x c' e
   obtain⟨cl,e,h1,h2,h3⟩:=IX r ((n,c)::acc) hr ha'
   refine⟨cl,?_,h1,fun x hx=>h2 x ?_,fun y hy hf=>?_⟩
   ·rw[o8]
    simp only[cellOf,hc,beq_self_eq_true,if_true]
    exact e
   ·rw[iz]
    cases x==n with
    |true=>rfl
    |false=>exact hx
   ·rcases fu.mp hy with rfl|hy
    ·exact h2 n (by rw[iz,beq_self_eq_true];rfl)
    ·exact h3 y hy hf
  ·have hb:(k==NameKind.free)=false:=by simpa using hk
   obtain⟨cl,e,h1,h2,h3⟩:=IX r acc hr ha
   refine⟨cl,?_,h1,h2,fun y hy hf=>?_⟩
   ·rw[o8]
    simp only[hb,gD,if_false]
    exact e
   ·rcases fu.mp hy with rfl|hy
    ·exact absurd hf hk
    ·exact h3 y hy hf
theorem Td{env:Env}{csc:Scope}(h:∀y∈csc.names,y.2=.free→∃c,env.cells.lookup y.1=some c):
  ∃cl,closureFor csc env=pure cl∧(∀x c,cl.lookup x=some c→env.cells.lookup x=some c)∧∀y∈csc.names,y.2=.free→(cl.lookup y.1).isSome=true:=by
 obtain⟨cl,e,h1,_,h3⟩:=IX csc.names [] h (fun x c e=>by cases e)
 refine⟨cl,?_,h1,h3⟩
 unfold closureFor
 have e':=congrArg (fun m:Sem (List (Str×Addr))=>m>>=fun r=>pure r) e
 exact e'
theorem EH{env:Env}:∀{names:List (Str×NameKind)} {x:Str},names.lookup x=some .free→
  (names.map fun(n,k)=>if(k==NameKind.free&&env.scope.kind==.function&&env.kindOf n==some .cell) then(n,lN) else(n,k)).lookup x=some .cell∨
  (names.map fun(n,k)=>if(k==NameKind.free&&env.scope.kind==.function&&env.kindOf n==some .cell) then(n,lN) else(n,k)).lookup x=some .free
 | [],_,h=>by simp at h
 | (n,k)::r,x,h=>by
  have ih:=@EH env r x
  rw[gH]
  show List.lookup x ((if(k==NameKind.free&&env.scope.kind==.function&&env.kindOf n==some .cell)=true then(n,lN) else(n,k))::_)=_∨List.lookup x ((if(k==NameKind.free&&env.scope.kind==.function&&env.kindOf n==some .cell)=true then(n,lN) else(n,k))::_)=_
  cases hx:x==n with
  |true=>
   simp only[iz,hx] at h
   cases h
   split
   ·exact .inl (by rw[iz,hx])
   ·exact .inr (by rw[iz,hx])
  |false=>
   simp only[iz,hx] at h
   split
   ·simp only[iz,hx];exact ih h
   ·simp only[iz,hx];exact ih h
noncomputable def Mx:Option NameKind→Bool
 |some .cell=>true
 |_=>false
theorem Jt{k:Option NameKind}(h:Mx k=true):k=some .cell:=by
 cases k with
 |none=>cases h
 |some k=>cases k<;>first|rfl|cases h
noncomputable def Te(X:Cx)(csc:Scope)(cl:List (Str×Addr))(N':List Str)(s:Shared)(H:Hp)(fp:List Addr):Cx:=
 {X with N:=N',s₀:=s,H₀:=H,env:=qk csc cl s.heap.objs.size X.env,outer:=X.stack,ex:=fp,fn:=fun x=>Mx (csc.names.lookup x),pn:=[],xe:=fun _ _=>False}
structure LcCx(X:Cx)(csc:Scope)(N':List Str)(X':Cx):Prop where
 is:∃cl s H fp,X'=Te X csc cl N' s H fp
noncomputable def Bu(σ:St)(cap:List (Str×Nat)):St:=cap.map fun p=> (σ[p.2]?).join
structure LcOk(X:Cx)(csc:Scope)(nc:List Str)(cap:List (Str×Nat)):Prop where
 kind:csc.kind=.function
 cells:∀y∈csc.names,y.2=.cell→csc.names.lookup y.1=some .cell
 locals:∀y∈csc.names,y.2=.local→csc.names.lookup y.1=some .local
 free:∀y∈csc.names,y.2=.free→X.env.scope.names.lookup y.1=some .cell∨X.env.scope.names.lookup y.1=some .free
 caps:∀p∈cap,X.N[p.2]?=some p.1∧csc.names.lookup p.1=some .free
noncomputable abbrev Ah(nc:List Str)(cap:List (Str×Nat)):List Str:=nc++cap.map (·.1)
noncomputable abbrev HU(nc:List Str)(σ:St)(cap:List (Str×Nat)):St:=gK nc.length none++Bu σ cap
theorem Al{α:Type}:∀{l:List (Str×α)} {x:Str} {v:α},l.lookup x=some v→(x,v)∈l
 | [],_,_,h=>by simp at h
 | (n,k)::r,x,v,h=>by
  rw[iz] at h
  cases hx:x==n with
  |true=>rw[hx] at h;cases h;rw[beq_iff_eq.mp hx];exact gC
  |false=>rw[hx] at h;exact fk _ (Al h)
theorem LZ:∀(names:List (Str×NameKind)) (L:Nat) (a acc:List (Str×Addr)),jt L names (a++acc)=jt L names a++acc
 | [],_,_,_=>rfl
 | (n,k)::r,L,a,acc=>by
  unfold jt
  split
  ·exact LZ r (L+1) ((n,L)::a) acc
  ·exact LZ r L a acc
theorem XJ(names:List (Str×NameKind))(L:Nat)(acc:List (Str×Addr)):jt L names acc=jt L names []++acc:=LZ names L [] acc
theorem La:∀(names:List (Str×NameKind)) (L:Nat) (acc:List (Str×Addr)) (x:Str) (c:Addr),(x,c)∈jt L names acc→(x,.cell)∈names∨(x,c)∈acc
 | [],_,_,_,_,h=> .inr h
 | (n,k)::r,L,acc,x,c,h=>by
  unfold jt at h
  split at h
  ·rename_i hk
   rcases La r (L+1) _ x c h with h|h
   ·exact .inl (fk _ h)
   ·rcases fu.mp h with h|h
    ·cases h
     rw[eq_of_beq hk]
     exact .inl gC
    ·exact .inr h
  ·rcases La r L _ x c h with h|h
   ·exact .inl (fk _ h)
   ·exact .inr h
theorem IY:∀(names:List (Str×NameKind)) (L:Nat) (acc:List (Str×Addr)) (x:Str),((x,.cell)∈names∨(acc.lookup x).isSome=true)→((jt L names acc).lookup x).isSome=true
 | [],_,_,_,h=>h.elim (fun z=>by cases z) id
 | (n,k)::r,L,acc,x,h=>by
  unfold jt
  split
  ·refine IY r (L+1) _ x ?_
   rcases h with h|h
   ·rcases fu.mp h with h|h
    ·cases h
     exact .inr (by rw[iz,beq_self_eq_true];rfl)
    ·exact .inl h
   ·refine .inr ?_
    rw[iz]
    cases x==n with
    |true=>rfl
    |false=>exact h
  ·rename_i hk
   refine IY r L acc x ?_
   rcases h with h|h
   ·rcases fu.mp h with h|h
    ·cases h;exact absurd rfl hk
    ·exact .inl h
   ·exact .inr h
theorem Dm{α:Type}:∀{l m:List (Str×α)} {x:Str},(l++m).lookup x=match l.lookup x with|some v=>some v|none=>m.lookup x
 | [],_,_=>rfl
 | (n,k)::r,m,x=>by
  rw[gY,iz,iz]
  cases x==n with
  |true=>rfl
  |false=>exact Dm
structure LcCells(X:Cx)(csc:Scope)(cs:List (Str×Addr))(s:Shared)(h1:Heap):Prop where
 at_:∀x c,cs.lookup x=some c→(csc.names.lookup x=some .cell∧s.heap.objs.size≤c∧h1.IsCell c none)∨(csc.names.lookup x≠some .cell∧X.env.cells.lookup x=some c)
 has:∀x,csc.names.lookup x=some .free∨csc.names.lookup x=some .cell→∃c,cs.lookup x=some c
 inj:∀x y c,cs.lookup x=some c→cs.lookup y=some c→x=y
theorem Tf{X:Cx}{csc:Scope}{cl:List (Str×Addr)}{nc:List Str}{cap:List (Str×Nat)}{pins:List (Addr×Obj)}{σ:St}{H:Hp}{s:Shared}{o:Obj}
  (ok:LcOk X csc nc cap) (I:Inv X pins σ H s) (hc1:∀x c,cl.lookup x=some c→X.env.cells.lookup x=some c) (hc2:∀y∈csc.names,y.2=.free→(cl.lookup y.1).isSome=true):
  LcCells X csc (jt (s.heap.objs.size+1) csc.names cl) s (pO (s.heap.push o) csc.names):=by
 have nk:=cellsFrom_ok csc.names (s.heap.push o) (s.heap.objs.size+1) [] ⟨fun _ _ hm=> (nomatch hm),gS.nil⟩ (by rw[jE];exact fv _)
 rw[jE] at nk
 rw[XJ]
 have split:∀x c,(jt (s.heap.objs.size+1) csc.names []++cl).lookup x=some c→((x,c)∈jt (s.heap.objs.size+1) csc.names []∧csc.names.lookup x=some .cell)∨(csc.names.lookup x≠some .cell∧cl.lookup x=some c):=fun x c e=>by
  rw[Dm] at e
  cases hx:(jt (s.heap.objs.size+1) csc.names []).lookup x with
  |some v=>
   rw[hx] at e
   cases e
   have m:=Al hx
   refine .inl ⟨m,?_⟩
   rcases La _ _ _ _ _ m with z|z
   ·exact ok.cells _ z rfl
   ·cases z
  |none=>
   rw[hx] at e
   refine .inr ⟨fun z=>?_,e⟩
   have:=IY csc.names (s.heap.objs.size+1) [] x (.inl (Al z))
   rw[hx] at this
   cases this
 refine⟨fun x c e=>?_,fun x hx=>?_,fun x y c e1 e2=>?_⟩
 ·rcases split x c e with⟨m,k⟩| ⟨k,e⟩
  ·exact .inl ⟨k,oj (nk.empty x c m).2,(nk.empty x c m).1⟩
  ·exact .inr ⟨k,hc1 x c e⟩
 ·refine Option.isSome_iff_exists.mp ?_
  rw[Dm]
  cases hn:(jt (s.heap.objs.size+1) csc.names []).lookup x with
  |some v=>rfl
  |none=>
   rcases hx with hx|hx
   ·exact hc2 _ (Al hx) rfl
   ·have:=IY csc.names (s.heap.objs.size+1) [] x (.inl (Al hx))
    rw[hn] at this
    cases this
 ·have old:∀z,cl.lookup z=some c→c<s.heap.objs.size:=fun z e=>by
   obtain⟨v,hv⟩:=I.cell z c (hc1 z c e)
   exact hv.lt
  rcases split x c e1 with⟨m1,_⟩| ⟨_,g1⟩<;>rcases split y c e2 with⟨m2,_⟩| ⟨_,g2⟩
  ·exact name_of_addr nk.apart m1 m2
  ·exact absurd (gy (old y g2) (oj (nk.empty x c m1).2)) (iQ _)
  ·exact absurd (gy (old x g1) (oj (nk.empty y c m2).2)) (iQ _)
  ·exact I.ok.inj x y c (hc1 x c g1) (hc1 y c g2)
section
variable{M:Model}{A:gx}{E:Value→Shared→Prop}{s:Shared}
theorem QF{scope:Scope}{globals:Addr}{closure:List (Str×Addr)}{qual:Str}{env:Env}{Q:Env→Shared→Prop}
  (hQ:Q (newEnv scope s.heap.objs.size globals (jt (s.heap.objs.size+1) scope.names closure) qual none .none (some env) qc) {s with heap:=pO (s.heap.push {cls:=.type "dict",data:=.dict #[]}) scope.names}):
  wpAny M A (pB scope globals closure [] qual none .none (some env)) Q E s:=by
 simp only[pB,Option.isSome_some,if_true]
 refine a8 (wpAny_alloc ?_)
 refine a8 (wpAny_layCells _ (fun name kind cells=>by cases hkc:kind==lN<;>simp[hkc]) _ _ _ _ ?_)
 rw[show({s with heap:=s.heap.push {cls:=.type "dict",data:=.dict #[]}}:Shared).heap.objs.size=s.heap.objs.size+1 from jE ..]
 refine a8 ?_
 rw[List.forIn_nil]
 exact b8 (b8 hQ)
end
theorem XM{X:Cx}{csc:Scope}{cl:List (Str×Addr)}{nc:List Str}{cap:List (Str×Nat)}{pins:List (Addr×Obj)}{σ:St}{H:Hp}{s:Shared}{h1:Heap}{fp:List Addr}
  (ok:LcOk X csc nc cap) (I:Inv X pins σ H s) (C:LcCells X csc cl s h1)
  (hf:∀b∈fp,HP X pins H b) (ho:∀b∈fp,∃o,s.heap.get? b=some o)
  (hn:h1.Ns s.heap.objs.size (fun _=>none)) (kept:∀b o,s.heap.get? b=some o→h1.get? b=some o):
  Inv (Te X csc cl (Ah nc cap) s H fp) [] (HU nc σ cap) H {s with heap:=h1}:=by
 have frel:∀x,csc.names.lookup x=some .free→(qk csc cl s.heap.objs.size X.env).kindOf x=some .cell∨(qk csc cl s.heap.objs.size X.env).kindOf x=some .free:=fun x h=>EH h
 have back:∀{names:List (Str×NameKind)} {x:Str},((names.map fun(n,k)=>if(k==NameKind.free&&X.env.scope.kind==.function&&X.env.kindOf n==some .cell) then(n,lN) else(n,k)).lookup x=some .cell∨
   (names.map fun(n,k)=>if(k==NameKind.free&&X.env.scope.kind==.function&&X.env.kindOf n==some .cell) then(n,lN) else(n,k)).lookup x=some .free)→
   names.lookup x=some .free∨names.lookup x=some .cell:=by
  intro names
  induction names with
  |nil=>intro x h;simp at h
  |cons p r ih=>
   obtain⟨n,k⟩:=p
   intro x h
   rw[gH] at h
   cases hx:x==n with
   |true=>
    rw[iz,hx]
    have e:∀(kk:NameKind) (l:List (Str×NameKind)),((n,kk)::l).lookup x=some kk:=fun kk l=>by rw[iz,hx]
    by_cases hcnd:(k==NameKind.free&&X.env.scope.kind==.function&&X.env.kindOf n==some .cell)=true
    ·left
     have:(k==NameKind.free)=true:=by
      revert hcnd;cases(k==NameKind.free)<;>simp
     show some k=some .free
     rw[eq_of_beq this]
    ·simp only[if_neg hcnd] at h
     rw[e,] at h
     exact h.symm
   |false=>
    have e:∀(kk:NameKind) (l:List (Str×NameKind)),((n,kk)::l).lookup x=l.lookup x:=fun kk l=>by rw[iz,hx]
    by_cases hcnd:(k==NameKind.free&&X.env.scope.kind==.function&&X.env.kindOf n==some .cell)=true
    ·simp only[if_pos hcnd] at h
     rw[e] at h
     rw[e]
     exact ih h
    ·simp only[if_neg hcnd] at h
     rw[e] at h
     rw[e]
     exact ih h
 refine⟨⟨I.ok.mod,ok.kind,I.ok.glob,I.ok.blt,fv _,C.inj,fun x hx=>C.has x (back hx),fun x c e1 e2=>?_,I.ok.hd,I.ok.frames,.inl rfl,fun b hb=> ⟨?_,fun x c e=>?_⟩,
  I.bs,iq I.ok.bsz I.sz,fun b o e hb=>?_,fun b hb z=>?_,I.stack,I.stkFree⟩,rfl,I.bare,⟨fun b o e _ _ _=>kept b o e,fun b o e _ _ _=> ⟨o.slots,kept b o e⟩,fun b o e n _=>n,fun b o e _=> ⟨o,kept b o e⟩,fun _ _ e=>e,fun _ _ _ e=>e,fun b ps e=> ⟨#[],by rw[show H b=some (HO.tbl ps) from e];simp⟩⟩,
  ⟨_,hn,fun i x v e1 e2 e3=>?_⟩,fun x c e=>?_,I.hok.fresh (fv _),fun x c e=> (C.at_ x c e).elim (fun z=>I.hok.fresh z.2.1) (fun z=>I.freeC x c z.2),fun p hp=>absurd (show p∈([]:List (Addr×Obj)) from hp) (by simp),I.hok.kept kept,?_⟩
 ·rcases C.at_ x c e2 with z|z
  ·exact z.2.1
  ·exact absurd (Jt e1) z.1
 ·obtain⟨o,e⟩:=ho b hb
  exact gL (gi e)
 ·rcases C.at_ x c e with z|z
  ·obtain⟨o,e⟩:=ho b hb
   exact nG (gy (gi e) z.2.1)
  ·exact(hf b hb).2.2.2.2.1 x c z.2
 ·have h1:=(hf b hb).2.2.2.1
  rcases h1 with z|z
  ·exact I.ok.noex b o e z
  ·exact absurd (gy (gi e) (iq I.ok.bsz z)) (iQ _)
 ·have h1:=(hf b hb).2.1
  have h2:=(hf b hb).2.2.1
  exact(fu.mp (I.stkSub b z)).elim h1 h2
 ·--the names
  have hlen:nc.length≤i:=by
   by_cases hi:i<nc.length
   ·have e2':(gK nc.length (none:Option V)++Bu σ cap)[i]?=some (some v):=e2
    rw[ic (by simpa using hi),jL] at e2'
    split at e2'<;>cases e2'
   ·omega
  have e1':(nc++cap.map (·.1))[i]?=some x:=e1
  have e2':(gK nc.length (none:Option V)++Bu σ cap)[i]?=some (some v):=e2
  rw[gN hlen,fq] at e1'
  rw[gN (by simpa using hlen)] at e2'
  simp only[jD] at e2'
  unfold Bu at e2'
  rw[fq] at e2'
  cases hp:cap[i-nc.length]? with
  |none=>rw[hp] at e1';cases e1'
  |some p=>
   rw[hp] at e1' e2'
   have e1'':p.1=x:=gZ.inj e1'
   have e2'':(σ[p.2]?).join=some v:=gZ.inj e2'
   subst e1''
   obtain⟨c1,c2⟩:=ok.caps p (fo hp)
   have hσ:σ[p.2]?=some (some v):=by
    cases q:σ[p.2]? with
    |none=>rw[q] at e2'';cases e2''
    |some w'=>rw[q] at e2'';exact congrArg some e2''
   have vis:X.env.scope.names.lookup p.1=some .cell∨X.env.scope.names.lookup p.1=some .free:=ok.free _ (Al c2) rfl
   obtain⟨m,_,hl⟩:=I.loc
   obtain⟨u,r,l⟩:=hl p.2 p.1 v c1 hσ (vis.elim (fun z=> .inr (.inl z)) fun z=> .inr (.inr z))
   refine⟨u,r,.inr ⟨frel p.1 c2,?_⟩⟩
   rcases l with⟨k,_⟩| ⟨_,c,e,z⟩
   ·have k:X.env.scope.names.lookup p.1=some .local:=k
    rcases vis with q|q<;> (rw[q] at k;cases k)
   ·obtain⟨c',e''⟩:=C.has p.1 (.inl c2)
    have q:X.env.cells.lookup p.1=some c':=by
     rcases C.at_ _ _ e'' with z|z
     ·rw[c2] at z;cases z.1
     ·exact z.2
    rw[e] at q;cases q
    obtain⟨o,z1,z2⟩:=z
    exact⟨c,e'',o,kept c o z1,z2⟩
 ·rcases C.at_ x c e with z|z
  ·exact⟨none,z.2.2⟩
  ·obtain⟨v,o,z1,z2⟩:=I.cell x c z.2
   exact⟨v,o,kept c o z1,z2⟩
 ·show(gK nc.length (none:Option V)++Bu σ cap).length=(nc++cap.map (·.1)).length
  unfold Bu
  simp
section
variable{prog:Program}{w:World}{A:gx}{R:qz→Shared→Prop}{s:Shared}
noncomputable abbrev Tg:Value→Shared→Prop:=fun _ _=>False
theorem DI{elt target iter:Expr}{ifs:List Expr}{scope:Scope}{pos:Pos}{it acc:Value}{env:Env}(I:Nat→Shared→Prop)
  (turn:∀n s,I n s→wpAny (model prog w) A (nQ it) (fun r s₁=>match r with
   |none=>R (.ok .next) s₁
   |some v=>wpAny (model prog w) A (nr target it v) (fun _ s₂=>wpAny (model prog w) A (assign target env v) (fun _ s₃=>
     wpAny (model prog w) A (forIn ifs true fun c r=>if r=true then do let ok←isTrue c env (eval c env);pure (jR ok) else pure (jR r)) (fun ok s₄=>
      if ok=true then wpAny (model prog w) A (eval elt env) (fun x s₅=>
       wpAny (model prog w) A (call (.builtin "list.append") [acc,x]) (fun _ s₆=>∃m,m<n∧I m s₆) Tg s₅) Tg s₄
      else∃m,m<n∧I m s₄) Tg s₃) Tg s₂) Tg s₁) Tg s)
  (n:Nat) (h:I n s):
  lQ (model prog w) A (.compLoop (.ListComp elt [⟨target,iter,ifs,0⟩] scope pos) 0 it acc env) R s:=by
 refine codeAny_loop rfl I (fun n s hI=>?_) n h
 show wpAny _ A ((compTurn (.ListComp elt [⟨target,iter,ifs,0⟩] scope pos) 0 it acc env).onRaise (fun x=>do qy x env;theTreesLotGoes x)) _ _ s
 refine wpAny_noted (wpAny_noRaise ?_)
 rw[compTurn_list]
 refine a8 (lH (a8 (An (turn n s hI) fun r s₁ h₁=>?_)))
 cases r with
 |none=>exact b8 h₁
 |some v=>
  refine a8 (An h₁ fun _ s₂ h₂=>a8 (An h₂ fun _ s₃ h₃=>a8 (An h₃ fun ok s₄ h₄=>?_)))
  cases ok with
  |true=>
   rw[if_pos rfl] at h₄ ⊢
   exact a8 (a8 (An h₄ fun x s₅ h₅=>a8 (An h₅ fun _ s₆ h₆=>b8 (b8 ⟨rfl,h₆⟩))))
  |false=>
   rw[if_neg c9] at h₄ ⊢
   exact a8 (b8 (b8 ⟨rfl,h₄⟩))
end
noncomputable def XN(X:Cx)(ifs:List Expr)(t:TT):Prop:=
 ∀(pins:List (Addr×Obj)) (s:Shared) (σ:St) (H:Hp) (Q:Bool→Hp→Prop),Inv X pins σ H s→t σ H Q→
  wpAny (model X.prog X.w) X.A (forIn ifs true fun c r=>if r=true then do let ok←isTrue c X.env (eval c X.env);pure (jR ok) else pure (jR r)) (TP X pins σ Q) X.xe s
noncomputable def aG:TT:=fun _ H Q=>Q true H
theorem Th{X:Cx}:XN X [] aG:=fun _ _ _ H _ I h=>wpAny_tests_nil ⟨H,I,h⟩
theorem Ti{X:Cx}{c:Expr}{t:TT}(h:PT X c t):XN X [c] t:=fun pins s σ H Q I q=>wpAny_tests_one (h pins s σ H Q I q)
noncomputable def Ve(nc:List Str)(cap:List (Str×Nat))(g:TG)(tt:TT)(te:TE)(σ:St)(J:It)(p:Addr)(H:Hp)(Q:Hp→Prop):Prop:=
 ∃W:Nat→Nat→Hp→Prop,(∃m,W 0 m (upd H p (.lst [])))∧∀i m H2,W i m H2→
  (J.stop i H2∧Q H2)∨(J.go i H2∧∃N:Hp→Prop,(∀H',N H'→∃m',m'<m∧W (i+1) m' H')∧∀x H3,J.yld i H2 x H3→g x (HU nc σ cap) H3 fun σ4 H4=> (∃pre:St,pre.length=nc.length∧σ4=pre++Bu σ cap)∧tt σ4 H4 fun b H5=>
   if b=true then te σ4 H5 fun y H6=>∃ys,H6 p=some (.lst ys)∧ys.length<sizeLine∧N (upd H6 p (.lst (ys++[y])))
   else N H5)
noncomputable def cP(wi:TI)(nc:List Str)(cap:List (Str×Nat))(g:TG)(tt:TT)(te:TE):TE:=fun σ H Q=>wi σ H fun J H1=>∀p,H1 p=none→Ve nc cap g tt te σ J p H1 (Q (.ref p))
section
variable{X:Cx}{elt tg iter:Expr}{ifs:List Expr}{csc:Scope}{nc:List Str}{cap:List (Str×Nat)}{wi:TI}{g:TG}{tt:TT}{te:TE}{pos:Pos}
theorem Ju{pins:List (Addr×Obj)}{σ:St}{s2:Shared}{H2:Hp}{it:Addr}{fp:List Addr}{tn:Nat→Heap→Prop}{J:It}{cl:List (Str×Addr)}{Q:Hp→Prop}{RR:Value→Addr→qz→Shared→Prop}{E:Value→Shared→Prop}
  (hc:X.calm=true) (ok:LcOk X csc nc cap) (hg:∀X',LcCx X csc (Ah nc cap) X'→PG X' tg g) (ht:∀X',LcCx X csc (Ah nc cap) X'→XN X' ifs tt) (he:∀X',LcCx X csc (Ah nc cap) X'→PE X' elt te)
  (hc1:∀x c,cl.lookup x=some c→X.env.cells.lookup x=some c) (hc2:∀y∈csc.names,y.2=.free→(cl.lookup y.1).isSome=true)
  (I2:Inv X pins σ H2 s2) (T:Turn X.prog X.w X.K tg J fp it tn) (st2:tn 0 s2.heap) (f2:∀b∈fp,HP X pins H2 b) (run:Ve nc cap g tt te σ J s2.heap.objs.size H2 Q)
  (out:∀(C:Addr) (H':Hp) (s':Shared),Inv X pins σ H' s'→(∃m,s'.heap.Ns C m)→H' C=none→C≠X.env.locals→X.s₀.heap.objs.size≤C→(∀x c,X.env.cells.lookup x=some c→c≠C)→(∀p∈X.pn++pins,p.1≠C)→Q H'→RR (.ref s2.heap.objs.size) C (.ok .next) s'):
  wpAny (model X.prog X.w) X.A (newList []) (fun acc s₃=>wpAny (model X.prog X.w) X.A (pB csc X.env.globals cl [] X.env.qual none .none (some X.env)) (fun cenv s₄=>
   lQ (model X.prog X.w) X.A (.compStart (.ListComp elt [⟨tg,iter,ifs,0⟩] csc pos) 0 (.ref it) acc {cenv with scope:=relabel csc X.env}) (RR acc cenv.locals) s₄) E s₃) E s2:=by
 refine i9 ?_
 have hp:H2 s2.heap.objs.size=none:=I2.hok.fresh (fv _)
 have I3:Inv X pins σ (upd H2 s2.heap.objs.size (.lst [])) {s2 with heap:=s2.heap.push {cls:=.type "list",dict:=none,data:=.seq ([]:List Value).toArray}}:=
  I2.laid (t':=s2.toks) (fun b u e=>e9 _ e) (fv _) ⟨ip _,[],0,.nil,gJ _ rfl⟩
 generalize hs3:({s2 with heap:=s2.heap.push {cls:=.type "list",dict:=none,data:=.seq ([]:List Value).toArray}}:Shared)=s3 at I3
 have hk3:∀b o,s2.heap.get? b=some o→s3.heap.get? b=some o:=fun b o e=>by rw[←hs3];exact e9 _ e
 generalize hp0:s2.heap.objs.size=p at*
 have hlt:∀b∈fp,b<p:=fun b hb=>by
  obtain⟨o,e,_⟩:=T.obj 0 _ st2 b hb
  rw[←hp0];exact gi e
 have f3:∀b∈fp,HP X pins (upd H2 p (.lst [])) b:=fun b hb=> ⟨by rw[AL (gL (hlt b hb))];exact(f2 b hb).1,(f2 b hb).2⟩
 have st3:tn 0 s3.heap:=T.keep 0 _ _ st2 fun b _ o e=>hk3 b o e
 refine QF ?_
 have LC:=Tf (o:={cls:=.type "dict",data:=.dict #[]}) ok I3 hc1 hc2
 have hns:(pO (s3.heap.push {cls:=.type "dict",data:=.dict #[]}) csc.names).Ns s3.heap.objs.size (fun _=>none):=(Heap.Ns.new s3.heap (.type "dict")).keeps (pushCells_keeps _ _)
 have kept4:∀b o,s3.heap.get? b=some o→(pO (s3.heap.push {cls:=.type "dict",data:=.dict #[]}) csc.names).get? b=some o:=fun b o e=>pushCells_keeps _ _ b o (e9 _ e)
 generalize hcs:jt (s3.heap.objs.size+1) csc.names cl=cs at LC ⊢
 generalize hh1:pO (s3.heap.push {cls:=.type "dict",data:=.dict #[]}) csc.names=h₁ at LC hns kept4 ⊢
 have hcc:∀x c,cs.lookup x=some c→X.env.cells.lookup x=some c∨s3.heap.objs.size≤c:=fun x c e=> (LC.at_ x c e).elim (fun z=> .inr z.2.1) (fun z=> .inl z.2)
 have I4:Inv (Te X csc cs (Ah nc cap) s3 (upd H2 p (.lst [])) fp) [] (HU nc σ cap) (upd H2 p (.lst [])) {s3 with heap:=h₁}:=
  XM ok I3 LC f3 (fun b hb=> (T.obj 0 _ st3 b hb).imp fun o q=>q.1) hns kept4
 have st4:tn 0 h₁:=T.keep 0 _ _ st3 fun b _ o e=>kept4 b o e
 generalize hX':Te X csc cs (Ah nc cap) s3 (upd H2 p (.lst [])) fp=X' at I4
 have is':LcCx X csc (Ah nc cap) X':=⟨_,_,_,_,hX'.symm⟩
 have hP:X'.prog=X.prog:=by rw[←hX'];rfl
 have hw:X'.w=X.w:=by rw[←hX'];rfl
 have hK:X'.K=X.K:=by rw[←hX'];rfl
 have hA:X'.A=X.A:=by rw[←hX'];rfl
 have hcal:X'.calm=true:=by rw[←hX'];exact hc
 have hE:X'.env=qk csc cs s3.heap.objs.size X.env:=by rw[←hX'];rfl
 have hxe:X'.xe=Tg:=by rw[←hX'];rfl
 have hfs:X'.fs=El X.stack:=by rw[←hX'];rfl
 have hex:X'.ex=fp:=by rw[←hX'];rfl
 have hs0:X'.s₀=s3:=by rw[←hX'];rfl
 have hH0:X'.H₀=upd H2 p (.lst []):=by rw[←hX'];rfl
 have hpn:X'.pn=[]:=by rw[←hX'];rfl
 have stat:∀{H':Hp},(∀b∈fp,H' b=none)→∀b∈fp,HP X' [] H' b:=fun{H'} hn b hb=>by
  obtain⟨_,q2,q3,q4,q5,q6⟩:=f3 b hb
  obtain⟨o,e,_⟩:=T.obj 0 _ st3 b hb
  refine⟨hn b hb,?_,?_,?_,?_,?_⟩
  ·rw[hE];exact gL (gi e)
  ·rw[hfs];exact fun z=> (fu.mp (I3.stkSub b z)).elim q2 q3
  ·rw[hex];exact .inl hb
  ·rw[hE];exact fun x c e'=> (hcc x c e').elim (fun z=>q5 x c z) fun z=>nG (gy (gi e) z)
  ·rw[hpn];intro p hp;simp at hp
 obtain⟨W,⟨m0,w0⟩,turn⟩:=run
 have loop:∀s4:Shared,s4={s3 with heap:=h₁}→lQ (model X.prog X.w) X.A (.compLoop (.ListComp elt [⟨tg,iter,ifs,0⟩] csc pos) 0 (.ref it) (.ref p) (qk csc cs s3.heap.objs.size X.env)) (RR (.ref p) s3.heap.objs.size) s4:=by
  rintro s4 rfl
  refine DI (fun n s'=>∃i H',Inv X' [] (HU nc σ cap) H' s'∧tn i s'.heap∧(∀b∈fp,H' b=none)∧W i n H') ?_ m0 ⟨0,_,I4,st4,fun b hb=> (f3 b hb).1,w0⟩
  rintro n s5 ⟨i,H5,I5,st5,fr5,w5⟩
  rcases turn i n H5 w5 with⟨stop,qn⟩| ⟨go,N,hN,step⟩
  ·have q:=T.done X' hP hw hK hcal i [] s5 (HU nc σ cap) H5 Tg I5 (stat fr5) st5 stop
   rw[hA] at q
   refine An q fun r s6 ⟨hr,I6⟩=>?_
   subst hr
   have B:=I6.base
   rw[hfs,hex,hs0,hH0] at B
   have I7:Inv X pins σ H5 s6:=by
    refine I3.call' (ch:=fp) (by rw[I6.os,hs0]) B (by have:=I6.hok;rw[hP,hw] at this;exact this) I6.bare fun b hb=>?_
    obtain⟨_,q2,q3,q4,q5,q6⟩:=f3 b hb
    exact⟨q4,q2,q5,q6⟩
   obtain⟨m,hm,_⟩:=I6.loc
   have hCf:=I6.free
   rw[hE] at hm hCf
   refine out _ H5 s6 I7 ⟨m,hm⟩ hCf (nG I3.lt) I3.sz (fun x c e z=>?_) (fun p hp z=>?_) qn
   ·obtain⟨v,hv⟩:=I3.cell x c e
    exact absurd hv.lt (by rw[z];exact iQ _)
   ·exact absurd (gi (I3.pin p hp).1) (by rw[z];exact iQ _)
  ·have q:=T.item X' hP hw hK hcal i [] s5 (HU nc σ cap) H5 Tg I5 (stat fr5) st5 go
   rw[hA] at q
   refine An q fun r s6 ⟨u,hr,h6⟩=>?_
   subst hr
   refine An h6 fun _ s7 ⟨x,H7,I7,r7,y7,st7,fr7⟩=>?_
   have I7':=I7.pinned (stat fr7) (T.obj _ _ st7)
   have q8:=hg X' is' _ s7 _ H7 x u _ I7' r7 (step x H7 y7)
   rw[hP,hw,hA,hE,hxe] at q8
   refine An q8 fun _ s8 ⟨σ8,H8,I8,⟨pre,hpl,hσ8⟩,q8⟩=>?_
   have q9:=ht X' is' _ s8 σ8 H8 _ I8 q8
   rw[hP,hw,hA,hE,hxe] at q9
   have wk:∀{s':Shared} {H':Hp} {pl:List (Addr×Obj)},Inv X' pl σ8 H' s'→Inv X' pl (HU nc σ cap) H' s':=fun{s' H' pl} J'=>by
    refine J'.weak (by rw[J'.len,I4.len]) fun j v e=>?_
    rw[hσ8]
    by_cases hj:j<nc.length
    ·have e:(gK nc.length (none:Option V)++Bu σ cap)[j]?=some (some v):=e
     rw[ic (by simpa using hj),jL] at e
     split at e<;>cases e
    ·have e:(gK nc.length (none:Option V)++Bu σ cap)[j]?=some (some v):=e
     rw[gN (by simpa using hj)] at e
     rw[gN (by omega),hpl]
     simpa using e
   have again:∀{s':Shared} {H':Hp} {m':Nat},Inv X' ([]++Fv fp s7.heap) σ8 H' s'→m'<n→W (i+1) m' H'→
     ∃m,m<n∧∃i H',Inv X' [] (HU nc σ cap) H' s'∧tn i s'.heap∧(∀b∈fp,H' b=none)∧W i m H':=fun{s' H' m'} J' hm hW=>by
    refine⟨m',hm,i+1,H',wk J'.unpinned,T.keep _ _ _ st7 fun b hb o e=> (J'.pin (b,o) (iD _ (iD _ (Cb hb e)))).1,fun b hb=>?_,hW⟩
    obtain⟨o,e,d⟩:=T.obj _ _ st7 b hb
    exact(J'.pin (b,o) (iD _ (iD _ (Cb hb e)))).2.1
   refine An q9 fun b s9 ⟨H9,I9,q9⟩=>?_
   cases b with
   |false=>
    rw[if_neg c9] at q9 ⊢
    obtain⟨m',hm,hW⟩:=hN _ q9
    exact again I9 hm hW
   |true=>
    rw[if_pos rfl] at q9 ⊢
    have qe:=he X' is' _ s9 σ8 H9 _ I9 q9
    rw[hP,hw,hA,hE,hxe] at qe
    refine An qe fun u s10 ⟨y,H10,I10,ry,ys,hys,hlen,hNn⟩=>?_
    obtain⟨m',hm,hW⟩:=hN _ hNn
    have qa:=Hj (X:=X') _ s10 σ8 H10 (.ref p) [y] (.ref p) [u] (fun _ H'=>H'=upd H10 p (.lst (ys++[y]))) I10 rfl (.cons ry .nil) ⟨p,ys,y,rfl,rfl,hys,hlen,rfl⟩
    rw[hP,hw,hA,hxe] at qa
    refine An qa fun _ s11 ⟨_,H11,I11,_,e11⟩=>?_
    subst e11
    exact again I11 hm hW
 have st5:=loop _ rfl
 exact codeAny_compStart_list (loop _ rfl) (T.self X.A 0 _ _ _ st4 (loop _ rfl))
end
section
variable{X:Cx}{elt tg iter:Expr}{ifs:List Expr}{csc:Scope}{nc:List Str}{cap:List (Str×Nat)}{wi:TI}{g:TG}{tt:TT}{te:TE}{pos:Pos}
theorem LcOk.clos{pins:List (Addr×Obj)}{σ:St}{H:Hp}{s:Shared}(ok:LcOk X csc nc cap)(I:Inv X pins σ H s):
  ∃cl,closureFor csc X.env=pure cl∧(∀x c,cl.lookup x=some c→X.env.cells.lookup x=some c)∧∀y∈csc.names,y.2=.free→(cl.lookup y.1).isSome=true:=
 Td fun y hy hf=>I.ok.has y.1 (ok.free y hy hf)
theorem Vf(hc:X.calm=true)(ok:LcOk X csc nc cap)(hi:PI X tg iter wi)(hg:∀X',LcCx X csc (Ah nc cap) X'→PG X' tg g)(ht:∀X',LcCx X csc (Ah nc cap) X'→XN X' ifs tt)(he:∀X',LcCx X csc (Ah nc cap) X'→PE X' elt te)
  (hs:∀x,ja iter X.env x=pure x:=by intro _;rfl):PE X (.ListComp elt [⟨tg,iter,ifs,0⟩] csc pos) (cP wi nc cap g tt te):=by
 intro pins s σ H Q I h
 obtain⟨cl,hcl,hc1,hc2⟩:=ok.clos I
 rw[eval_ListComp]
 refine wpAny_comprehension_free (use:=none) rfl hs hcl ok.kind ok.locals (An (hi pins s σ H _ I h) fun v s1 h1=>An h1 fun itv s2 h2=>?_)
 obtain⟨it,fp,tn,J,H2,e,I2,T,st2,f2,run⟩:=h2
 subst e
 refine Ju (RR:=fun acc C=>compPost (model X.prog X.w) X.A X.xe none (EP X pins σ Q) acc C) hc ok hg ht he hc1 hc2 I2 T st2 f2 (run _ (I2.hok.fresh (fv _))) ?_
 intro C H' s' I' hn h1 h2 h3 h4 h5 q
 obtain⟨m,hn⟩:=hn
 refine⟨m,hn,fun h' sb=> ⟨.ref s2.heap.objs.size,H',?_,rfl,q⟩⟩
 exact I'.turned (t':=s'.toks) (fun b o hb e=> (sb.2 b hb).trans e) h1 h2 (.inr h3) h4 h5
noncomputable def XO(i:Nat)(te:TE):TS:=fun D σ H=>te σ H fun v H1=>D.nx (σ.set i (some v)) H1
theorem Jv{i:Nat}{x:Str}{px spos:Pos}(hN:X.N.Nodup)(hx:X.N[i]?=some x)(hk:X.env.scope.names.lookup x=some .local)(hsw:nJ (.ListComp elt [⟨tg,iter,ifs,0⟩] csc pos) (some (.Name x px)) spos.line X.env=pure true)
  (hc:X.calm=true) (ok:LcOk X csc nc cap) (hi:PI X tg iter wi) (hg:∀X',LcCx X csc (Ah nc cap) X'→PG X' tg g) (ht:∀X',LcCx X csc (Ah nc cap) X'→XN X' ifs tt) (he:∀X',LcCx X csc (Ah nc cap) X'→PE X' elt te)
  (hs:∀x,ja iter X.env x=pure x:=by intro _;rfl):PS X (.Assign [.Name x px] (.ListComp elt [⟨tg,iter,ifs,0⟩] csc pos) spos) (XO i (cP wi nc cap g tt te)):=by
 intro pins s σ H D I h
 obtain⟨cl,hcl,hc1,hc2⟩:=ok.clos I
 rw[exec_Assign_Name_used _ _ _ _ hsw]
 refine a8 (lH (a8 ?_))
 show wpAny _ X.A (do let _←comprehension (.ListComp elt [⟨tg,iter,ifs,0⟩] csc pos) csc X.env _ (newList []) false (eval iter X.env) (some (assign (.Name x px) X.env))) _ _ s
 refine a8 (An (wpAny_comprehension_free (use:=some (assign (.Name x px) X.env)) (Q:=fun _ s'=>SP X pins D .next s') rfl hs hcl ok.kind ok.locals
  (An (hi pins s σ H _ I h) fun v s1 h1=>An h1 fun itv s2 h2=>?_)) fun _ s' hq=>b8 (b8 hq))
 obtain⟨it,fp,tn,J,H2,e,I2,T,st2,f2,run⟩:=h2
 subst e
 refine Ju (RR:=fun acc C=>compPost (model X.prog X.w) X.A X.xe (some (assign (.Name x px) X.env)) (fun _ s'=>SP X pins D .next s') acc C) hc ok hg ht he hc1 hc2 I2 T st2 f2 (run _ (I2.hok.fresh (fv _))) ?_
 intro C H' s' I' hn h1 h2 h3 h4 h5 q
 obtain⟨m,hn⟩:=hn
 show wpAny _ X.A (assign (.Name x px) X.env (.ref s2.heap.objs.size)) _ _ _
 refine wpAny_assign_Name (HZ I' hN hx (.inl hk) (v:=.ref s2.heap.objs.size) rfl (fun s'' I'' ha=>?_) (.inr hk))
 obtain⟨a,sb,ha⟩:=ha
 have hCa:C≠a:=by
  rcases ha with ha|ha
  ·rw[ha];exact h2
  ·exact fun z=>h4 x a ha z.symm
 refine⟨m,hn.sameBut sb hCa,fun h' sb'=> ⟨_,H',?_,q⟩⟩
 exact I''.turned (t':=s''.toks) (fun b o hb e=> (sb'.2 b hb).trans e) h1 h2 (.inr h3) h4 h5
end
section
variable{K:a9}{nc:List Str}{cap:List (Str×Nat)}{g:TG}{tt:TT}{te:TE}{σ:St}{p a:Addr}{H:Hp}{Q:Hp→Prop}
end
noncomputable def DK(h h':Heap):Prop:=h.objs.size≤h'.objs.size∧∀e,e<h.objs.size→(h'.objs[e]?).map (·.dict)=(h.objs[e]?).map (·.dict)
theorem DK.refl(h:Heap):DK h h:=⟨fv _,fun _ _=>rfl⟩
theorem DK.trans{a b c:Heap}(x:DK a b)(y:DK b c):DK a c:=⟨iq x.1 y.1,fun e he=> (y.2 e (gy he x.1)).trans (x.2 e he)⟩
theorem DK.push{h:Heap}{o:Obj}:DK h (h.push o):=by
 refine⟨by rw[jE];omega,fun e he=>?_⟩
 show((h.objs.push o)[e]?).map _=_
 rw[Array.getElem?_push,if_neg (by omega)]
theorem DK.upd{h:Heap}{a:Addr}{f:Obj→Obj}(hf:∀o,(f o).dict=o.dict):DK h (h.update a f):=by
 obtain⟨objs,l⟩:=h
 refine⟨by show objs.size≤(objs.modify a f).size;simp,fun e he=>?_⟩
 show((objs.modify a f)[e]?).map _=_
 rw[Array.getElem?_modify]
 split
 ·cases objs[e]? with
  |none=>rfl
  |some o=>exact congrArg some (hf o)
 ·rfl
theorem My{h:Heap}{e:Addr}{o:Obj}(q:h.get? e=some o):h.objs[e]?=some o:=by
 unfold Heap.get? at q
 split at q
 ·cases q
 ·exact q
theorem DK.at_{h h':Heap}{e:Addr}{o o':Obj}(x:DK h h')(q:h.get? e=some o)(q':h'.get? e=some o'):o'.dict=o.dict:=by
 have z:=x.2 e (gi q)
 rw[My q,My q'] at z
 exact gZ.inj z
inductive KD{α:Type}:Sem α→Prop
 |pure (a:α):KD (.pure a)
 |raise (e:Value):KD (.raise e)
 |unsup (x:String):KD (.unsupported x)
 |load {a:Addr} {p:Option Value} {k:Obj→Sem α}:(∀o,KD (k o))→KD (.load a p k)
 |upd {a:Addr} {p:Option Value} {f:Obj→Obj} {k:Unit→Sem α}:(∀o,(f o).dict=o.dict)→KD (k ())→KD (.update a p f k)
 |alloc {o:Obj} {k:Addr→Sem α}:(∀a,KD (k a))→KD (.alloc o k)
 |stack {k:List (Code×Pos)→Sem α}:(∀l,KD (k l))→KD (.stack k)
theorem KD.bind{α β:Type}{m:Sem α}{f:α→Sem β}(h:KD m)(hf:∀a,KD (f a)):KD (m>>=f):=by
 show KD (Sem.bind m f)
 induction h with
 |pure a=>exact hf a
 |raise e=>exact .raise e
 |unsup x=>exact .unsup x
 |load _ ih=>exact .load ih
 |upd q _ ih=>exact .upd q ih
 |alloc _ ih=>exact .alloc ih
 |stack _ ih=>exact .stack ih
theorem KD.wp{α:Type}{M:Model}{Γ:PySem.Ctx}{Q:α→Pos→Shared→Prop}{E:Value→Pos→Shared→Prop}{h0:Heap}{t:Sem α}(h:KD t):∀{p:Pos} {s:Shared},DK h0 s.heap→Sem.wp M Γ t Q E p s→Sem.wp M Γ t (fun a p' s'=>Q a p' s'∧DK h0 s'.heap) E p s:=by
 induction h with
 |pure a=>intro p s d q;exact⟨q,d⟩
 |raise e=>intro p s d q;exact q
 |unsup x=>intro p s d q;exact q
 |load _ ih=>intro p s d q;obtain⟨o,e,q⟩:=q;exact⟨o,e,ih o d q⟩
 |upd hf _ ih=>intro p s d q;exact⟨q.1,ih (d.trans (.upd hf)) q.2⟩
 |alloc _ ih=>intro p s d q;exact ih _ (d.trans .push) q
 |stack _ ih=>intro p s d q;exact ih _ d q
theorem KD.any{α:Type}{M:Model}{A:gx}{Q:α→Shared→Prop}{E:Value→Shared→Prop}{s:Shared}{t:Sem α}(h:KD t)(q:wpAny M A t Q E s):wpAny M A t (fun a s'=>Q a s'∧DK s.heap s'.heap) E s:=
 fun Γ p g=>h.wp (.refl _) (q Γ p g)
theorem KD.ite{α:Type}{c:Prop} [Decidable c]{a b:Sem α}(ha:KD a)(hb:KD b):KD (if c then a else b):=by split<;>assumption
theorem Jw(v:Value):KD (fieldsOf v):=by
 unfold fieldsOf
 split
 ·refine KD.bind (.load fun o=> .pure o) fun o=>?_
  split
  ·exact .pure _
  ·exact .unsup _
 ·exact .unsup _
theorem EJ(v:Value)(i:Nat):KD (field v i):=by
 unfold field
 refine(Jw v).bind fun vs=>?_
 split
 ·exact .pure _
 ·exact .unsup _
theorem GC(f:Array Value→Array Value)(o:Obj):(Obj.mapFields f o).dict=o.dict:=by
 unfold Obj.mapFields;split<;>rfl
theorem DJ(v:Value)(i:Nat)(x:Value):KD (setField v i x):=by
 unfold setField
 split
 ·unfold updateField
  refine KD.bind (.load fun o=> .pure o) fun o=>?_
  split
  ·exact .ite (.upd (GC _) (.pure _)) (.unsup _)
  ·exact .unsup _
 ·exact .unsup _
theorem Ce(e:Value)(f:Option Addr):KD (setFlight e f):=by
 unfold setFlight
 exact(EJ e 1).bind fun tb=> .ite (DJ _ _ _) (.pure _)
theorem Jx:∀(l:List Env),KD (readyFrames l)
 | []=> .pure _
 |env::outer=>by
  unfold readyFrames
  split
  ·refine KD.bind (.load fun o=> .pure o) fun o=>?_
   refine .ite (.pure _) ?_
   refine KD.bind ?_ fun im=>?_
   ·unfold behindIsImport
    exact .ite (.pure _) (.ite (.pure _) ((EJ _ _).bind fun _=> .pure _))
   refine KD.bind ?_ fun bk=>?_
   ·unfold keptBack
    split
    ·refine .ite (.pure _) (KD.bind ?_ fun _=> .pure _)
     unfold underTheClaimsCaller
     exact KD.bind (.stack fun _=> .pure _) fun _=> .pure _
    ·exact .pure _
   exact KD.bind (.upd (fun _=>rfl) (.pure _)) fun _=>Jx outer
  ·exact .unsup _
theorem Lb(env:Env):KD (pX env):=by
 unfold pX
 refine KD.bind ?_ fun es=>?_
 ·unfold frameEnvs
  exact KD.bind (.stack fun _=> .pure _) fun _=> .pure _
 refine KD.bind ?_ fun r=>?_
 ·cases es.dropWhile (·.frame !=env.frame) with
  |nil=>exact .pure _
  |cons a b=>unfold frameObject;exact(Jx _).bind fun _=> .pure _
 split
 ·exact .pure _
 ·exact .unsup _
theorem QG(f:Addr)(b:Bool):KD (qi f b):=by
 unfold qi
 refine KD.bind (.stack fun _=> .pure _) fun _=>?_
 split<;>exact .pure _
theorem QH(h a l f i:Value)(pl:List Value):KD (nE h a l f i pl):=by
 have z:∀d,KD (newObjAsIs (.type "traceback") d):=fun d=> .alloc fun a=> .pure _
 unfold nE newFields newObj
 dsimp only
 exact .ite (KD.bind (.unsup _) fun _=>z _) (z _)
theorem Mz(e:Value)(env:Env):KD (qy e env):=by
 unfold qy
 split
 ·rename_i f hf
  refine(EJ e 1).bind fun head=>?_
  have fin:KD (do setField e 1 (←nE head (←pX env) .none (oK f) .none (←qi f (head !=.none)))):=
   (Lb env).bind fun a=> (QG _ _).bind fun pl=> (QH _ _ _ _ _ _).bind fun b=>DJ _ _ _
  refine .ite ?_ fin
  exact(EJ _ _).bind fun x=> .ite (.pure _) ((DJ _ _ _).bind fun _=>fin)
 ·exact .unsup _
theorem GD(env:Env)(e:Value):KD (leaving env e):=(Mz e env).bind fun _=>Ce e none
theorem ObjOk.obj{P:Program}{w:World}{H:Hp}{h:Heap}{a:Addr}{o:HO}(x:ObjOk P w H h a o):∃ob,h.get? a=some ob:=by
 cases o with
 |lst xs=>obtain⟨_,_,_,_,e⟩:=x;exact⟨_,e⟩
 |tup xs=>obtain⟨_,_,_,o,e,_⟩:=x;exact⟨_,e⟩
 |dK kvs=>obtain⟨_,_,_,_,o,_,_,e,_⟩:=x;exact⟨_,e⟩
 |dT kvs=>obtain⟨_,_,_,_,o,_,_,e,_⟩:=x;exact⟨_,e⟩
 |set S n=>obtain⟨o,_,_,_,e,_⟩:=x;exact⟨_,e⟩
 |ins C dx fs=>obtain⟨_,_,_,e,_⟩:=x;exact⟨_,e⟩
 |own y=>obtain⟨_,e⟩:=x;exact⟨_,e⟩
 |xd fs=>obtain⟨_,⟨_,_,_,e,_⟩,_⟩:=x;exact⟨_,e⟩
 |rng lo hi=>obtain⟨_,_,_,e⟩:=x;exact⟨_,e⟩
 |frz ob u=>obtain⟨e,_⟩:=x;exact⟨_,e⟩
 |tbl ps=>exact⟨_,(show h.get? a=some _ from x)⟩
 |met f y=>exact⟨_,(show h.get? a=some _ from x)⟩
 |ext φ=>obtain⟨_,⟨_,e⟩,_⟩:=x;exact⟨_,e⟩
theorem HOk.none_of{P:Program}{w:World}{H:Hp}{h:Heap}{a:Addr}(x:HOk P w H h)(e:h.get? a=none):H a=none:=by
 cases q:H a with
 |none=>rfl
 |some u=>
  obtain⟨ob,e'⟩:=(x a u q).obj
  rw[e] at e';cases e'
noncomputable def cQ(n:Nat):Int:=if n%2=0 then((n/2:Nat):Int) else-((n/2:Nat):Int)
noncomputable def fE:List Nat→List (Str×V)
 |0::n::_=> [("number",.int (cQ n))]
 |1::n::_=> [("row",.int (cQ n))]
 |2::n::m::_=> [("many",.int (cQ n)),("most",.int (cQ m))]
 |_=> []
noncomputable def dS(x:Str):List (Str×V):=fE x.cps.toList
noncomputable def Hl:Value→Value
 | .str _ C=> .ref C
 |v=>v
noncomputable def dU(dx:Addr)(fs:List (Str×V))(h:Heap):Prop:=∃mA,h.Ns1 dx mA∧(∀f,Sy (fs.lookup f) (mA f))∧qm mA (fs.map (·.1))
noncomputable def dW(dx:Addr)(fs:List (Str×V)):HO:=.ext (dU dx fs)
noncomputable def DicX(cls:Value)(x:Addr)(H:Hp)(h:Heap):Prop:=∀fs C,cls=.str fs C→∃ox dx,h.get? x=some ox∧ox.dict=some dx∧H dx=some (dW dx (dS fs))
theorem DicX.ref{C x:Addr}{H:Hp}{h:Heap}:DicX (.ref C) x H h:=fun _ _ e=>nomatch e
theorem DicX.dk{cls:Value}{x:Addr}{H:Hp}{h h':Heap}(q:DicX cls x H h)(d:DK h h')(e:∃o',h'.get? x=some o'):DicX cls x H h':=fun fs C z=>by
 obtain⟨ox,dx,e1,e2,e3⟩:=q fs C z
 obtain⟨o',e'⟩:=e
 exact⟨o',dx,e',(d.at_ e1 e').trans e2,e3⟩
structure Fly(P:Program)(w:World)(outer:List Env)(H:Hp)(s:Shared)(H':Hp)(x:Addr)(cls:Value)(s':Shared):Prop where
 os:s'.os=s.os
 bare:nI s'.gens
 un:Un (El outer) [] H H' s.heap s'.heap
 hok:HOk P w H' s'.heap
 fr:H' x=none
 fly:∃B t,(∀b,H' b≠none→∃o,B.get? b=some o)∧(∀b o,s.heap.get? b=some o→b∉El outer→∃o',B.get? b=some o')∧kI B outer x (Hl cls) (.ref t) s'.heap
 dic:DicX cls x H' s'.heap
noncomputable def CXe(P:Program)(w:World):Pc:=fun outer H s E e s'=>∃x cls H',e=.ref x∧Fly P w outer H s H' x cls s'∧E cls none H'
theorem CXe.never{P:Program}{w:World}{outer:List Env}{H:Hp}{s s':Shared}{e:Value}(h:CXe P w outer H s E0 e s'):False:=by
 obtain⟨_,_,_,_,_,q⟩:=h
 exact q
structure XFly(X:Cx)(W:St→XK):Prop where
 fly:∀(pins:List (Addr×Obj)) (σ:St) (H:Hp) (s:Shared) (e:Value) (s':Shared),Inv X pins σ H s→CXe X.prog X.w X.stack H s (W σ) e s'→X.xe e s'
structure XOk(X:Cx)(W:St→XK):Prop where
 made:∀(pins:List (Addr×Obj)) (σ:St) (H:Hp) (s:Shared) (h':Heap) (x C:Addr),Inv X pins σ H s→Heap.MadeExcOf s.heap h' x (.ref C) []→W σ (.ref C) none H→X.xe (.ref x) {s with heap:=h'}
 fly:∀(pins:List (Addr×Obj)) (σ:St) (H:Hp) (s:Shared) (e:Value) (s':Shared),Inv X pins σ H s→CXe X.prog X.w X.stack H s (W σ) e s'→X.xe e s'
 own:nL (model X.prog X.w) X.A X.env X.xe
 madeF:∀(pins:List (Addr×Obj)) (σ:St) (H:Hp) (s:Shared) (x C t dx:Addr) (fs:Str),Inv X pins σ H s→H x=none→X.s₀.heap.get? x=none→s.heap.get? x=some ⟨.ref C,some dx,.fields #[.ref t,.none,.none,.none,.bool false,.none],#[]⟩→H dx=some (dW dx (dS fs))→W σ (.str fs C) none H→X.xe (.ref x) s
theorem HOk.by_keep{P:Program}{w:World}{H:Hp}{h h':Heap}(x:HOk P w H h)(k:∀b o,H b≠none→h.get? b=some o→h'.get? b=some o):HOk P w H h':=fun a o e=>
 (x a o e).stay (fun b u hb q=>k b u (by
  rcases hb with rfl|hb
  ·rw[e];exact fun z=>nomatch z
  ·rw[hb];exact fun z=>nomatch z) q) (fun _ q=>q) fun _ _ q=>q
section
variable{P:Program}{w:World}{K:a9}{mg:Str→Option Value}{base:Heap}{N:List Str}{qual:Str}{scope:Scope}{f:Addr}{cd:Value}{A:gx}{outer:List Env}{s:Shared}{H:Hp}{E:XK}
theorem IZ{X:Cx}{pins:List (Addr×Obj)}{σ:St}{H1:Hp}{s2:Shared}{h':Heap}{x:Addr}{cls:Value}{B:Heap}{t:Addr}(hst:X.stack=X.env::X.outer)(hex:X.ex=[])(hfr:X.env.frame=some X.env.locals)(I:Inv X pins σ H1 s2)
  (hB1:∀b,H1 b≠none→∃o,B.get? b=some o) (hB2:∀b o,X.s₀.heap.get? b=some o→b∉El X.outer→∃o',B.get? b=some o') (hx:H1 x=none) (hs2:B.StaysIn s2.heap) (fl:kI B X.outer x (Hl cls) (.ref t) h') (up:s2.heap.UpToSlots h') (dq:DicX cls x H1 h'):
  Fly X.prog X.w X.outer X.H₀ X.s₀ H1 x cls {s2 with heap:=h'}:=by
 have fsm:∀b o,b∈X.fs→s2.heap.get? b=some o→∃sl,h'.get? b=some {o with slots:=sl}:=fun b o hb e=>by
  obtain⟨_,o',e',hd⟩:=I.funs.mem hb
  rw[e] at e';cases e'
  exact up b o e hd
 have same:∀b o o',B.get? b=some o'→s2.heap.get? b=some o→h'.get? b=some o:=fun b o o' e1 e2=>by
  have q:=hs2 b o' e1
  rw[e2] at q;cases q
  exact fl.1 b o e1
 refine⟨I.os,I.bare,⟨fun b o e n hb _=>?_,fun b o e n hb _=>?_,fun b o e n _=>?_,fun b o e _=>?_,I.base.tups,I.base.frzs,I.base.tbls⟩,I.hok.by_keep fun b o hb e=>?_,hx,⟨B,t,hB1,hB2,fl⟩,dq⟩
 ·obtain⟨o',e'⟩:=hB2 b o e hb
  exact same b o o' e' (I.base.keep b o e n hb (by rw[hex];simp))
 ·obtain⟨sl,e1⟩:=I.base.slot b o e n hb (by rw[hex];simp)
  obtain⟨sl',e2⟩:=fsm b _ hb e1
  exact⟨sl',e2⟩
 ·exact I.base.free b o e n (by rw[hex];simp)
 ·obtain⟨o1,e1⟩:=I.base.there b o e (by rw[hex];simp)
  by_cases hb:b∈X.fs
  ·obtain⟨sl,e2⟩:=fsm b o1 hb e1
   exact⟨_,e2⟩
  ·obtain⟨o',e'⟩:=hB2 b o e hb
   exact⟨o',fl.1 b o' e'⟩
 ·obtain⟨o',e'⟩:=hB1 b hb
  exact same b o o' e' e
theorem AY:XOk (Bg (CXe P w) P w K mg base N qual scope f cd A outer s H E) (fun _=>E) where
 made:=by
  intro pins σ H1 s1 h' x C I hx q
  have hin:∀env∈(Bg (CXe P w) P w K mg base N qual scope f cd A outer s H E).stack,∀b,env.frame=some b→b∈El (Bg (CXe P w) P w K mg base N qual scope f cd A outer s H E).stack:=fun env he b hb=>jX.mpr ⟨env,he,hb⟩
  have hxn:H1 x=none:=I.hok.none_of hx.new
  have I':Inv (Bg (CXe P w) P w K mg base N qual scope f cd A outer s H E) pins σ H1 {s1 with heap:=h'}:=I.kept (t':=s1.toks) hx.keeps
  refine wpAny_leaves_madeW (base:=mx s1.heap (El (Bg (CXe P w) P w K mg base N qual scope f cd A outer s H E).stack)) (h:=s1.heap) I.ok.frames rfl (fun b o q=>mB _ q) (PySem.W.funFrames_hide I.stack hin) hx fun h2 t x1 x2 x3 x4=>?_
  refine⟨x,.ref C,H1,rfl,?_,q⟩
  refine IZ (X:=Bg (CXe P w) P w K mg base N qual scope f cd A outer s H E) rfl rfl rfl I' (fun b hb=>?_) (fun b o e hb=>?_) hxn (fun b o e=>hx.keeps b o (mB _ e)) x1 x4 .ref
  ·cases e:H1 b with
   |none=>exact absurd e hb
   |some u=>
    obtain⟨o,eo⟩:=(I.hok b u e).obj
    exact⟨o,kS _ eo fun z=>hb (I.stkFree b z)⟩
  ·obtain⟨o1,e1⟩:=I.base.there b o e (fun z=>nomatch z)
   refine⟨o1,kS _ e1 fun z=>?_⟩
   rcases fu.mp (I.stkSub b z) with z|z
   ·exact absurd z (gL (gy (gi e) I.ok.above))
   ·exact hb z
 fly:=by
  rintro pins σ H1 s1 e s2 I ⟨x,cls,H2,rfl,F,q⟩
  obtain⟨B,t,b1,b2,fl⟩:=F.fly
  have I2:Inv (Bg (CXe P w) P w K mg base N qual scope f cd A outer s H E) pins σ H2 s2:=I.call' (ch:=[]) F.os F.un F.hok F.bare (fun b z=>absurd z (by simp))
  refine jG (KD.any (GD _ _) (wpAny_leaves_onW (E:=fun _ _=>False) (Q:=fun _ s3=>kI B outer x (Hl cls) (.ref t) s3.heap∧s2.heap.UpToSlots s3.heap∧s3={s2 with heap:=s3.heap}) I.ok.frames rfl fl fun h' x1 x2=> ⟨x1,x2,rfl⟩)) ?_ fun _ _ z=>jn z
  rintro _ s3 ⟨⟨x1,x2,e3⟩,dk⟩
  refine⟨x,cls,H2,rfl,?_,q⟩
  rw[e3]
  refine IZ (X:=Bg (CXe P w) P w K mg base N qual scope f cd A outer s H E) rfl rfl rfl I2 b1 (fun b o e hb=>?_) F.fr fl.1 x1 x2 (F.dic.dk dk (let⟨o,e,_⟩:=x1.there;⟨o,e⟩))
  obtain⟨o1,e1⟩:=I.base.there b o e (fun z=>nomatch z)
  refine b2 b o1 e1 fun z=>?_
  rcases fu.mp (I.stkSub b z) with z|z
  ·exact absurd z (gL (gy (gi e) I.ok.above))
  ·exact hb z
 own:=nL.leaving
 madeF:=by
  intro pins σ H1 s1 x C t dx fs I hxn hs0 ex hdx q
  have hin:∀env∈(Bg (CXe P w) P w K mg base N qual scope f cd A outer s H E).stack,∀b,env.frame=some b→b∈x::El (Bg (CXe P w) P w K mg base N qual scope f cd A outer s H E).stack:=fun env he b hb=>fk _ (jX.mpr ⟨env,he,hb⟩)
  have hkb:Heap.StaysIn (mx s1.heap (x::El (Bg (CXe P w) P w K mg base N qual scope f cd A outer s H E).stack)) s1.heap:=fun b o q=>mB _ q
  have hen:(mx s1.heap (x::El (Bg (CXe P w) P w K mg base N qual scope f cd A outer s H E).stack)).get? x=none:=by
   exact PySem.W.hideAll_none _ (gC ..)
  refine jG (KD.any (GD _ _) (wpAny_leaving_firstW (E:=fun _ _=>False) (Q:=fun _ s3=>Heap.LeftW (mx s1.heap (x::El (Bg (CXe P w) P w K mg base N qual scope f cd A outer s H E).stack)) _ x (.ref C) (.ref t) s1.heap s3.heap∧s3={s1 with heap:=s3.heap}) I.ok.frames (PySem.W.funFrames_hide I.stack hin) rfl ex hkb hen rfl rfl rfl fun h' hL=> ⟨hL,rfl⟩)) ?_ fun _ _ z=>jn z
  rintro _ s3 ⟨⟨⟨x1,⟨_,_,x2⟩,x3,x4⟩,e3⟩,dk⟩
  refine⟨x,.str fs C,H1,rfl,?_,q⟩
  rw[e3]
  have hth:∃o,s3.heap.get? x=some o:=by
   obtain⟨oe,_,_,_,_,he,_⟩:=x3
   exact⟨oe,he⟩
  refine IZ (X:=Bg (CXe P w) P w K mg base N qual scope f cd A outer s H E) rfl rfl rfl I (fun b hb=>?_) (fun b o e hb=>?_) hxn hkb ⟨x1,hen,x2,x3⟩ x4 ?_
  ·cases e:H1 b with
   |none=>exact absurd e hb
   |some u=>
    obtain⟨o,eo⟩:=(I.hok b u e).obj
    refine⟨o,kS _ eo fun z=>?_⟩
    rcases fu.mp z with z|z
    ·rw[z] at e;rw[hxn] at e;cases e
    ·exact hb (I.stkFree b z)
  ·obtain⟨o1,e1⟩:=I.base.there b o e (fun z=>nomatch z)
   refine⟨o1,kS _ e1 fun z=>?_⟩
   rcases fu.mp z with z|z
   ·rw[z] at e;rw[hs0] at e;cases e
   rcases fu.mp (I.stkSub b z) with z|z
   ·exact absurd z (gL (gy (gi e) I.ok.above))
   ·exact hb z
  ·exact DicX.dk (h:=s1.heap) (fun fs' C' z=>by cases z;exact⟨_,dx,ex,rfl,hdx⟩) dk hth
end
section
variable{X:Cx}{W:St→XK}
noncomputable def XQ(W:St→XK)(C:Addr):TS:=fun _ σ H=>W σ (.ref C) none H
noncomputable def QI(sp:Sp)(W:St→XK)(t:TA):TE:=fun σ H Q=>t σ H fun vs H1=>sp vs H1 Q (W σ)
theorem XOk.f(x:XOk X W):XFly X W:=⟨x.fly⟩
theorem GE{k:Nat}{f:Addr}{fd:gE}{ps:List Str}{sp:Sp}{x:Str}{p pos:Pos}{e:Expr}{es:List Expr}{t:TA}(xo:XFly X W)(F:FnOk X.prog X.w X.K X.mg X.base (CXe X.prog X.w) k f fd ps sp)(hr:Room k X.A)(hg:Gl X x)(hm:X.mg x=some (.ref f))(hk:jq X.K (.ref f)=true)(hb:Binds X.K fd ps [])
  (ha:PA X (e::es) t) (hdb:(x==("__debug__" :Str))=false:=by decide) (he:fj (e::es) X.env=(false,eval e X.env)::fj es X.env:=by rfl) (hpl:(jS pos (fj es X.env)).any (·.1)=false:=by rfl):
  PE X (.Call (.Name x p) (e::es) [] pos) (QI sp W t):=by
 intro pins s σ H Q I h
 refine lu (EC I hg hm ?_ hdb)
 refine PySem.W.callWith_K (h₀:=X.base) I.ok.mod.kin hk (An (ha pos pins s σ H _ I h) fun us s1 ⟨vs,H1,I1,r,q⟩=> ⟨I1.kIn,?_⟩) he hpl
 have r2:Vals vs (us++[]):=by rw[i8];exact r
 have hl:(us++[]).length=ps.length:=by rw[←r2.length];exact F.len _ _ _ _ q
 refine nO (mO (F.run X.A X.stack s1 H1 ⟨us,[]⟩ (us++[]) vs Q (W σ) hr I1.env0 (hb s1 us I1.kIn hl) r2 q) fun r s' hq=>?_)
 cases r with
 |error e=>exact xo.fly pins σ H1 s1 e s' I1 hq
 |ok fl=>
  cases fl with
  |ret u=>exact I1.after hq
  |next=>exact jn hq
  |brk=>exact jn hq
  |cont=>exact jn hq
end
open PySem.Calls
section
variable{prog:Program}{w:World}{A:gx}{E:Value→Shared→Prop}{s:Shared}{K:a9}{x D:Addr}{ox:Obj}{od:Option Obj}{name:Str}
structure ExcCls(K:a9)(D:Addr):Prop where
 ga:km K (.ref D) "__getattribute__" =some (some (.builtin "BaseException.__getattribute__"))
 gn:km K (.ref D) "__getattr__" =some none
 be:jN K D (.type "BaseException")=some true
 ob:jN K D (.type "object")=some true
 cl:km K (.ref D) "__class__" =some (some (.builtin "object.__class__"))
 gt:oh K (.builtin "object.__class__") "__get__" =some (some (.builtin "getset_descriptor.__get__"))
 tk:o4 K (.builtin "object.__class__")=some true
noncomputable def TyAt(D x:Addr)(h:Heap):Prop:=∃ox,h.get? x=some ox∧ox.cls=.ref D
theorem TyAt.looks{M:Model}{h:Heap}(p:TyAt D x h):lM M h (typeOf (.ref x)) (.ref D):=by
 obtain⟨o,h1,h2⟩:=p
 exact h2▸(lM.ld h1).andThen .now
open PySem.W Builtin Builtin.ObjectAttr Builtin.Getset_descriptor in
theorem Lc {R:qz→Shared→Prop} {tp:Value} (X:K.In s.heap) (I:TyAt D x s.heap) (hm:jN K D (.type "object")=some true) (h:R (.ok (.ret (.ref D))) s):
  lQ (model prog w) A (.call (.builtin "getset_descriptor.__get__") ⟨[.builtin "object.__class__",.ref x,tp],[]⟩) R s:=by
 obtain⟨hh,gg,dd,tt,oo⟩:=s
 have L0:=I.looks (M:=model prog w)
 have L1:=nA (M:=model prog w) X hm
 refine lT
  KF.slot_gs.plain KF.entry_gs (KF.slot_gs.check _ _ _ _ _ _ _ _
   KF.type_class (KF.args_gs _ _ _) ?_)
 unfold Builtin.«getset_descriptor.__get__»
  descrGet
 rw[dga_obj]
 refine a8 (b8 ?_)
 unfold descrGetter descrCheckInstance
  descrNameAndClass isInstance
 simp only[KF.owner_class]
 repeat lk
 refine⟨Code.quiet_builtin _
  (by decide+kernel),j6 KF.entry_class ?_⟩
 unfold Builtin.«object.__class__» shownTypeOf
 repeat lk
 exact h
theorem ExcCls.find{M:Model}{h:Heap}(c:ExcCls K D)(X:K.In h):lM M h (Builtin.ObjectAttr.find (.ref x) (.ref D) "__class__") (.bind (.builtin "getset_descriptor.__get__") (.builtin "object.__class__")):=by
 have L1:=ni (M:=M) X c.cl
 have L2:lM M h (Builtin.ObjectAttr.getOf (some (.builtin "object.__class__"))) (some (.builtin "getset_descriptor.__get__")):=PySem.W.looks_specialIn X c.gt
 have L3:=PySem.W.looks_takesIn (M:=M) X c.tk
 refine L1.andThen (L2.andThen ?_)
 exact(show lM M h (Builtin.ObjectAttr.dataDescriptor? (some (.builtin "object.__class__")) (some (.builtin "getset_descriptor.__get__"))) (some (.builtin "getset_descriptor.__get__",.builtin "object.__class__"))
  from L3.andThen .now).andThen (lM.tag .now)
theorem OT{Q:Option Value→Shared→Prop}(c:ExcCls K D)(X:K.In s.heap)(I:TyAt D x s.heap)(h:Q (some (.ref D)) {s with toks:=s.toks+1}):wpAny (model prog w) A (getAttr? (.ref x) "__class__") Q E s:=by
 obtain⟨hh,g,d,t,os⟩:=s
 have L0:=I.looks (M:=model prog w)
 have L1:=ni (M:=model prog w) X c.ga
 have L2:=ni (M:=model prog w) X c.gn
 have L3:=nA (M:=model prog w) X c.be
 have L4:=c.find (x:=x) (M:=model prog w) X
 have hb:bindSpecial (.builtin "BaseException.__getattribute__") (.ref x)=pure (.builtin "BaseException.__getattribute__",[.ref x]):=PySem.F.excAttr_ValueError.ga.bind _
 have hk:builtinKind "BaseException.__getattribute__" =some .slot:=by decide+kernel
 have hsplit:splitId "BaseException.__getattribute__" =some ("BaseException","__getattribute__"):=by decide+kernel
 have hx2:(Value.builtin "BaseException.__getattribute__" ==Value.builtin "object.__getattribute__")=false:=by decide+kernel
 unfold getAttr? getAttrBy? getAttrBy
 refine a8 (wpAny_mkText (a8 (lI (hZ (a8 (L0.at (a8 (L1.at ?_))))))))
 dsimp only
 rw[hx2,nZ,if_neg c9]
 unfold getAttrByItsOwn hookBefore
 refine a8 (L2.at ?_)
 refine a8 (lI (hZ ?_))
 unfold callGetattribute boundAndCalled
 rw[hb]
 show wpAny _ _ (call (.builtin "BaseException.__getattribute__") [.ref x,.str "__class__" t]) _ _ _
 refine nO (lT PySem.F.excAttr_ValueError.ga.plain PySem.F.entry_bexc_ga ?_)
 have ha:=PySem.F.args_bexc_ga (.ref x) (.str "__class__" t)
 simp only[oD,hk,hsplit]
 refine a8 ?_
 unfold isInstance
 refine a8 (L0.at (L3.at ?_))
 rw[if_neg (by decide)]
 refine n9 ha ?_
 show wpAny _ _ (typeOf (.ref x)>>=fun tp=>Builtin.ObjectAttr.find (.ref x) tp "__class__" >>=_) _ _ _
 refine a8 (L0.at (a8 (L4.at ?_)))
 show wpAny _ _ ((holding [.builtin "object.__class__"] (call (.builtin "getset_descriptor.__get__") [.builtin "object.__class__",.ref x,.ref D]))>>=ret) _ _ _
 refine a8 (hZ (nO (Lc (s:=⟨hh,g,d,t+1,os⟩) X I c.ob ?_)))
 exact b8 (b8 (b8 h))
theorem ExcCls.isTy{M:Model}{h:Heap}(c:ExcCls K D)(X:K.In h):lM M h (isType (.ref D)) true:=by
 obtain⟨cd,hc,_⟩:=Option.bind_eq_some_iff.mp (show(ow K D).bind _=some true from c.be)
 unfold ow at hc
 split at hc
 ·rename_i c' d' cd' sl' ho
  intro A' Q' E' s' k q
  unfold isType loadHead
  exact a8 (wpAny_loadPart (k _ _ (X _ _ ho)) (b8 q))
 ·cases hc
theorem QJ(c:ExcCls K D):PySem.W.KitX K (.ref x) (.ref D) (TyAt D x) where
 ty:=fun _ _ _ I=>I.looks
 it:=fun _ _ X _=>c.isTy X
 ne:=fun h tp dd its n sl X htp=>by
  refine Bool.eq_false_iff.mpr fun q=>?_
  have e:D=tp:=Value.ref.inj (beq_iff_eq.mp q)
  subst e
  obtain⟨cd,hc,_⟩:=Option.bind_eq_some_iff.mp (show(ow K D).bind _=some true from c.be)
  unfold ow at hc
  split at hc
  ·rename_i c' d' cd' sl' ho
   have z:=(X _ _ ho).symm.trans htp
   cases z
  ·cases hc
 ca:=fun X I k=>OT c X I k
end
noncomputable def FX(D x:Addr):HO:=.ext (TyAt D x)
theorem NA{P:Program}{w:World}{H:Hp}{h:Heap}{D x:Addr}(p:TyAt D x h):ObjOk P w H h x (FX D x):=by
 refine⟨p,?_,fun h1 h2 q k=>?_⟩
 ·obtain⟨o,e,_⟩:=p
  exact⟨o,e⟩
 ·obtain⟨o,e,c⟩:=q
  exact⟨o,k o e,c⟩
theorem Ld{X:Cx}{pins:List (Addr×Obj)}{σ:St}{H:Hp}{s:Shared}{A:gx}{E:Value→Shared→Prop}{Q:Value→Shared→Prop}{c:Value}{b:Bool}{D x:Addr}(I:Inv X pins σ H s)(hx:Rd H x (FX D x))(k:ExcCls X.K D)
  (e:gz X.K (.ref D) c=some b) (h:∀tk,Q (.bool b) {s with toks:=tk}):wpAny (model X.prog X.w) A (call (.builtin "isinstance") [.ref x,c]) Q E s:=by
 obtain⟨p,_,_⟩:=(show ObjOk X.prog X.w H s.heap x (FX D x) from hx.ok I.hok)
 exact jj (QJ k) I.kIn p e (fun z=>nomatch z) h
abbrev Tj:List Value:=[.type "ValueError",.type "Exception",.type "BaseException",.type "object"]
theorem Tn{K:a9}{h:Heap}{C:Addr}{bmB:List Value}{newId:String}(X:K.In h)(q:mj K C bmB newId=true):
  ∃bm N nm qn bs hdct sn sub ab col dd k0 k1 k2 k3 k5 mN,h.get? C=some (excClassObj nm qn C N bs bm hdct sn sub ab col dd k0 k1 k2 k3 k5 newId)∧h.Ns N mN∧mN "__init__" =none∧OwnTail h bmB bm:=by
 unfold mj at q
 split at q
 ·rename_i dd cd sl ho
  split at q
  ·rename_i C' bm k0 k1 k2 k3 n k5 hm hs
   simp only[iE,beq_iff_eq,
    jc] at q
   obtain⟨⟨⟨⟨⟨e1,e2⟩,hdel⟩,ht⟩,hok⟩,hni⟩:=q
   subst e1 e2
   obtain⟨nm,bs,mro,ns,qn,hd,sn,sub,ab,col,del⟩:=cd
   dsimp only at hm hdel hok hni
   subst hm hdel
   have hsl:sl= #[k0,k1,k2,k3,some (.builtin n),k5]:=by
    obtain⟨l⟩:=sl
    simp only at hs
    rw[hs]
   subst hsl
   exact⟨bm,ns,nm,qn,bs,hd,sn,sub,ab,col,dd,k0,k1,k2,k3,k5,_,X _ _ ho,
    .of_isNs (PySem.W.isNs_of_in X hok),PySem.W.nsMap_none_of_in X hok hni,PySem.W.tail_of_in X ht⟩
  ·cases q
 ·cases q
theorem OU{X:Cx}{W:St→XK}{x:Str}{C:Addr}{np cpos pos:Pos}(xo:XOk X W)(hc:X.calm=true)(hg:Gl X x)(hm:X.mg x=some (.ref C))(q:mj X.K C Tj "ValueError.__new__" =true)
  (hd:(x==("__debug__" :Str))=false:=by decide):PS X (.Raise (some (.Call (.Name x np) [] [] cpos)) none pos) (XQ W C):=by
 intro pins s σ H D I h
 obtain⟨bm,N,nm,qn,bs,hdct,sn,sub,ab,col,dd,k0,k1,k2,k3,k5,mN,hC,hN,hni,T⟩:=Tn I.kIn q
 refine wpAny_Raise_call_subT (C:=C) (nm:=nm) (q:=qn) (N:=N) (bs:=bs) (bm:=bm) (hdct:=hdct) (sn:=sn) (sub:=sub) (ab:=ab) (col:=col) (dd:=dd) (k0:=k0) (k1:=k1) (k2:=k2) (k3:=k3) (k5:=k5)
  PySem.F.excBase_ValueError (mN:=mN) (T.hasType PySem.F.excBase_ValueError.hasBase) (I.ok.hd hc) rfl hni (EC I hg hm ⟨rfl,?_⟩ hd)
 exact evalArgs_empty ⟨rfl,ip _,hC,hN,T,fun h' e hx=>xo.made pins σ H s h' e C I hx h⟩
theorem Jy{M:Model}{A:gx}{E:Value→Shared→Prop}{s:Shared}{K:a9}{C B x:Addr}{b:Bool}{Q:Bool→Shared→Prop}(X:K.In s.heap)(p:TyAt C x s.heap)(k:ji K (.ref C) (.ref B)=some b)
  (hb:jN K B (.type "BaseException")=some true) (h:Q b s):wpAny M A (excMatches (.ref x) (.ref B)) Q E s:=by
 obtain⟨L1,L2,L3⟩:=PySem.W.kit_cls (M:=M) X k
 have L4:=nA (M:=M) X hb
 have L0:=p.looks (M:=M)
 have f:=tc_notTuple
 obtain⟨hh,g,d,t,os⟩:=s
 unfold excMatches isInstance isExcClass
 refine a8 (a8 (L1.at ?_))
 rw[f]
 refine b8 ?_
 rw[if_neg c9]
 refine a8 (b8 ?_)
 simp only[o8,List.forIn_nil]
 refine a8 (a8 (a8 (a8 (L2.at ?_))))
 rw[if_pos rfl]
 refine L4.at ?_
 rw[if_neg (by decide)]
 refine b8 (b8 (a8 (L0.at (a8 (a8 (a8 (L3.at ?_)))))))
 cases b with
 |true=>
  rw[if_pos rfl]
  exact b8 (b8 (b8 h))
 |false=>
  rw[if_neg c9]
  exact b8 (b8 (b8 h))
section
variable{X:Cx}{pins:List (Addr×Obj)}{σ:St}{H:Hp}{s:Shared}
theorem Inv.track{x:Addr}{o:HO}{vs:Array Value}(I:Inv X pins σ H s)(hx:H x=none)(hf:∃ob,s.heap.get? x=some ob∧ob.data=.fields vs)(hs0:X.s₀.heap.get? x=none)(hp:∀p∈X.pn++pins,p.1≠x)
  (ok:ObjOk X.prog X.w (upd H x o) s.heap x o):Inv X pins σ (upd H x o) s:=by
 obtain⟨ob,eob,dob⟩:=hf
 have ne:∀b u,H b=some u→b≠x:=fun b u e z=>by rw[z,hx] at e;cases e
 have hL:X.env.locals≠x:=fun z=>by
  obtain⟨m,⟨o',es,ep,ho',hd',_⟩,_⟩:=I.loc
  rw[z,eob] at ho';cases ho';rw[dob] at hd';cases hd'
 have hC:∀y c,X.env.cells.lookup y=some c→c≠x:=fun y c e z=>by
  obtain⟨v,o',ho',hd'⟩:=I.cell y c e
  rw[z,eob] at ho';cases ho';rw[dob] at hd';cases hd'
 refine⟨I.ok,I.os,I.bare,⟨I.base.keep,I.base.slot,fun b o e n hb=>?_,I.base.there,fun b xs e=>?_,fun b o u e=>?_,fun b ps e=>?_⟩,I.loc,I.cell,?_,fun y c e=>?_,fun p hp'=>?_,fun b u e=>?_,I.len⟩
 ·have nb:b≠x:=fun z=>by rw[z,hs0] at e;cases e
  rw[AL nb]
  exact I.base.free b o e n hb
 ·have q:=I.base.tups b xs e
  rw[AL (ne b _ q)]
  exact q
 ·have q:=I.base.frzs b o u e
  rw[AL (ne b _ q)]
  exact q
 ·obtain⟨more,q⟩:=I.base.tbls b ps e
  exact⟨more,by rw[AL (ne b _ q)];exact q⟩
 ·rw[AL hL];exact I.free
 ·rw[AL (hC y c e)];exact I.freeC y c e
 ·obtain⟨e,n,r⟩:=I.pin p hp'
  exact⟨e,by rw[AL (hp p hp')];exact n,r⟩
 ·by_cases hb:b=x
  ·subst hb
   rw[AM] at e;cases e
   exact ok
  ·rw[AL hb] at e
   exact(I.hok b u e).stay (fun _ _ _ q=>q) (fun c q=>by rw[AL (ne c _ q)];exact q) fun c xs q=>by rw[AL (ne c _ q)];exact q
theorem Inv.gone{i:Nat}{n:Str}{pos:Pos}{M:Model}{A:gx}{E:Value→Shared→Prop}{Q:Unit→Shared→Prop}(I:Inv X pins σ H s)(hN:X.N.Nodup)(hi:X.N[i]?=some n)(hk:X.env.scope.names.lookup n=some .local)
  (h:∀s',Inv X pins (σ.set i none) H s'→Q () s'):wpAny M A (do bindName X.env n .none;unbindBehindTheSuite X.env n pos) Q E s:=by
 obtain⟨m,hn,hl⟩:=id I.loc
 have hcls:(X.env.scope.kind==.class|| (X.env.scope.kind==.module&&X.env.locals !=X.env.globals))=false:=by rw[I.ok.kind];rfl
 have cne:=I.cne
 refine wpAny_nameGoes_keeps hk hn hcls fun h' v hn' hs=>?_
 obtain⟨oL,_,_,hoL,_⟩:=id hn
 have old:∀b o,X.s₀.heap.get? b=some o→b≠X.env.locals:=fun b o e=>gL (gy (gi e) I.ok.above)
 refine h _ ⟨I.ok,I.os,I.bare,⟨fun b o e n hb hx=>?_,fun b o e n hb hx=>?_,I.base.free,fun b o e hx=>?_,I.base.tups,I.base.frzs,I.base.tbls⟩,⟨_,hn',fun j y v' e1 e2 e3=>?_⟩,fun y c e=>?_,I.free,I.freeC,fun p hp=>?_,fun b u e=>?_,by simpa using I.len⟩
 ·exact(hs.2 b (old b o e)).trans (I.base.keep b o e n hb hx)
 ·obtain⟨sl,e1⟩:=I.base.slot b o e n hb hx
  exact⟨sl,(hs.2 b (old b o e)).trans e1⟩
 ·obtain⟨o',e1⟩:=I.base.there b o e hx
  exact⟨o',(hs.2 b (old b o e)).trans e1⟩
 ·by_cases hj:j=i
  ·subst hj
   have hiσ:j<σ.length:=by rw[I.len];exact(gh.mp hi).1
   rw[gW hiσ] at e2
   cases e2
  ·rw[gQ (Ne.symm hj)] at e2
   obtain⟨u',r',q⟩:=hl j y v' e1 e2 e3
   refine⟨u',r',?_⟩
   rcases q with⟨k,e⟩| ⟨k,c,e,z⟩
   ·refine .inl ⟨k,?_⟩
    have:y≠n:=fun e=>hj (Ft hN e1 (e▸hi))
    simp[this,e]
   ·exact .inr ⟨k,c,e,z.sameBut hs (cne y c e)⟩
 ·obtain⟨w',z⟩:=I.cell y c e
  exact⟨w',z.sameBut hs (cne y c e)⟩
 ·obtain⟨e,n,ne,nf,d⟩:=I.pin p hp
  exact⟨(hs.2 p.1 ne).trans e,n,ne,nf,d⟩
 ·refine(I.hok b u e).stay (fun c w' hc q=> (hs.2 c ?_).trans q) (fun _ q=>q) fun _ _ q=>q
  rintro rfl
  rcases hc with rfl|hc
  ·rw[I.free] at e;cases e
  ·rw[I.free] at hc;cases hc
end
theorem Fly.un'{P:Program}{w:World}{outer:List Env}{H H':Hp}{s s':Shared}{x t:Addr}{cls:Value}{B h':Heap}(F:Fly P w outer H s H' x cls s')(b1:∀b,H' b≠none→∃o,B.get? b=some o)(b2:∀b o,s.heap.get? b=some o→b∉El outer→∃o',B.get? b=some o')
  (fl:kI B outer x (Hl cls) (.ref t) s'.heap) (st:B.StaysIn h') (up:s'.heap.UpToSlots h'):Un (El outer) [] H H' s.heap h'∧HOk P w H' h':=by
 have same:∀b o o',B.get? b=some o'→s'.heap.get? b=some o→h'.get? b=some o:=fun b o o' e1 e2=>by
  have q:=fl.1 b o' e1
  rw[e2] at q;cases q
  exact st b o e1
 have fsm:∀b o,b∈El outer→s'.heap.get? b=some o→∃sl,h'.get? b=some {o with slots:=sl}:=fun b o hb e=>by
  obtain⟨_,o',e',hd⟩:=fl.2.2.1.mem hb
  rw[e] at e';cases e'
  exact up b o e hd
 refine⟨⟨fun b o e n hb hx=>?_,fun b o e n hb hx=>?_,F.un.free,fun b o e hx=>?_,F.un.tups,F.un.frzs,F.un.tbls⟩,F.hok.by_keep fun b o hb e=>?_⟩
 ·obtain⟨o',e'⟩:=b2 b o e hb
  exact same b o o' e' (F.un.keep b o e n hb hx)
 ·obtain⟨sl,e1⟩:=F.un.slot b o e n hb hx
  obtain⟨sl',e2⟩:=fsm b _ hb e1
  exact⟨sl',e2⟩
 ·obtain⟨o1,e1⟩:=F.un.there b o e hx
  by_cases hb:b∈El outer
  ·obtain⟨sl,e2⟩:=fsm b o1 hb e1
   exact⟨_,e2⟩
  ·obtain⟨o',e'⟩:=b2 b o e hb
   exact⟨o',st b o' e'⟩
 ·obtain⟨o',e'⟩:=b1 b hb
  exact same b o o' e' e
noncomputable def Bh(X:Cx)(pins:List (Addr×Obj))(E':Value→Shared→Prop):Cx:={X with pn:=X.pn++pins,xe:=E'}
structure TryIs(X X':Cx):Prop where
 is:∃pins E',X'=Bh X pins E'
noncomputable def Vg(X:Cx)(x:Addr):Cx:={X with A:=X.A.mark (some (.ref x)),calm:=false,xe:=fun _ _=>False}
section
variable{X:Cx}{pins pins':List (Addr×Obj)}{σ:St}{H:Hp}{s:Shared}{E':Value→Shared→Prop}{x:Addr}
theorem Cx.Ok.toTry(ok:X.Ok):(Bh X pins E').Ok:=
 ⟨ok.mod,ok.kind,ok.glob,ok.blt,ok.above,ok.inj,ok.has,ok.cab,ok.hd,ok.frames,ok.stk,ok.exf,ok.bs,ok.bsz,ok.noex,ok.exfs,ok.funs,ok.frf⟩
theorem Cx.Ok.ofTry(ok:(Bh X pins E').Ok):X.Ok:=
 ⟨ok.mod,ok.kind,ok.glob,ok.blt,ok.above,ok.inj,ok.has,ok.cab,ok.hd,ok.frames,ok.stk,ok.exf,ok.bs,ok.bsz,ok.noex,ok.exfs,ok.funs,ok.frf⟩
theorem Cx.Ok.toH(ok:X.Ok):(Vg X x).Ok:=
 ⟨ok.mod,ok.kind,ok.glob,ok.blt,ok.above,ok.inj,ok.has,ok.cab,fun(e:false=true)=> (c9 e).elim,ok.frames,ok.stk,ok.exf,ok.bs,ok.bsz,ok.noex,ok.exfs,ok.funs,ok.frf⟩
theorem Inv.toTry(I:Inv X pins σ H s):Inv (Bh X pins E') [] σ H s:=
 ⟨I.ok.toTry,I.os,I.bare,I.base,I.loc,I.cell,I.free,I.freeC,fun p hp=>I.pin p (by rw[i8] at hp;exact hp),I.hok,I.len⟩
theorem Inv.ofTry(I:Inv (Bh X pins E') pins' σ H s):Inv X pins σ H s:=
 ⟨I.ok.ofTry,I.os,I.bare,I.base,I.loc,I.cell,I.free,I.freeC,fun p hp=>I.pin p (iR _ hp),I.hok,I.len⟩
theorem Inv.toH(I:Inv X pins σ H s):Inv (Vg X x) pins σ H s:=⟨I.ok.toH,I.os,I.bare,I.base,I.loc,I.cell,I.free,I.freeC,I.pin,I.hok,I.len⟩
theorem Inv.ofH(ok:X.Ok)(I:Inv (Vg X x) pins σ H s):Inv X pins σ H s:=⟨ok,I.os,I.bare,I.base,I.loc,I.cell,I.free,I.freeC,I.pin,I.hok,I.len⟩
theorem SP.ofTry{D:Ends}{f:Flow}{s':Shared}(h:SP (Bh X pins E') [] D f s'):SP X pins D f s':=by
 cases f with
 |next=>obtain⟨σ',H',I,q⟩:=h;exact⟨σ',H',I.ofTry,q⟩
 |brk=>obtain⟨σ',H',I,q⟩:=h;exact⟨σ',H',I.ofTry,q⟩
 |cont=>obtain⟨σ',H',I,q⟩:=h;exact⟨σ',H',I.ofTry,q⟩
 |ret u=>obtain⟨v,σ',H',I,r,q⟩:=h;exact⟨v,σ',H',I.ofTry,r,q⟩
end
noncomputable def Vh(i:Nat)(D:Ends):Ends:={nx:=fun σ H=>D.nx (σ.set i none) H,rt:=D.rt,bk:=fun σ H=>D.bk (σ.set i none) H,ct:=fun σ H=>D.ct (σ.set i none) H}
theorem KD.heap{M:Model}{A:gx}{Q:Unit→Shared→Prop}{E:Value→Shared→Prop}{s:Shared}{t:Sem Unit}{R:Heap→Prop}(h:KD t)(q:wpAny M A t (fun _ s'=>R s'.heap∧s'={s with heap:=s'.heap}) E s)(k:∀h',R h'→DK s.heap h'→Q () {s with heap:=h'}):wpAny M A t Q E s:=
 jG (h.any q) (fun _ s' ⟨⟨r,e⟩,d⟩=>by rw[e];exact k _ r d) fun _ _ z=>z
noncomputable def HK(cls:Value)(C x:Addr)(H:Hp)(o:HO):Prop:=(cls=.ref C∧o=FX C x)∨∃fs ox dx vs,cls=.str fs C∧o=.frz ox (FX C x)∧ox=⟨.ref C,some dx,.fields vs,ox.slots⟩∧H dx=some (dW dx (dS fs))
noncomputable def WT(K:a9)(B:Addr)(i:Nat)(th:TS)(D:Ends):St→XK:=fun σ cls _ H=>∃C,(cls=.ref C∨∃fs,cls=.str fs C)∧ji K (.ref C) (.ref B)=some true∧∀x o,H x=none→HK cls C x H o→th (Vh i D) (σ.set i (some (.ref x))) (upd H x o)
noncomputable def dX(tb:(St→XK)→TS)(K:a9)(B:Addr)(i:Nat)(th:TS):TS:=fun D σ H=>tb (WT K B i th D) D σ H
theorem QK{X:Cx}{body suite:List Stmt}{b₀:Stmt}{n x:Str}{i:Nat}{B:Addr}{np hpos pos:Pos}{tb:(St→XK)→TS}{th:TS}(hst:X.stack=X.env::X.outer)(hex:X.ex=[])(hfr:X.env.frame=some X.env.locals)(hN:X.N.Nodup)(hi:X.N[i]?=some n)
  (hk:X.env.scope.names.lookup n=some .local) (hg:Gl X x) (hm:X.mg x=some (.ref B)) (hbe:jN X.K B (.type "BaseException")=some true)
  (hb:∀(W:St→XK) (X':Cx),TryIs X X'→XFly X' W→PSs X' body (tb W)) (hh:∀y,PSs (Vg X y) (b₀::suite) th) (hd:(x==("__debug__" :Str))=false:=by decide):
  PS X (.Try body [.ExceptHandler (some (.Name x np)) (some n) (b₀::suite) hpos] [] [] pos) (dX tb X.K B i th):=by
 intro pins s σ H D I h
 refine wpAny_Try_except ?_
 generalize hXE:(fun(e:Value) (s₁:Shared)=>wpAny (model X.prog X.w) X.A (qy e X.env) (fun _ s₂=>wpAny (model X.prog X.w) X.A (setFlight e none) (fun _ s₃=>wpAny (model X.prog X.w) X.A (handleBy e X.env [.ExceptHandler (some (.Name x np)) (some n) (b₀::suite) hpos]) (SP X pins D) X.xe s₃) X.xe s₂) X.xe s₁)=XE
 have xf:XFly (Bh X pins XE) (WT X.K B i th D):=by
  refine⟨fun pins' σ1 H1 s1 e s2 I1 c=>?_⟩
  obtain⟨y,cls,H2,rfl,F,C,hcls,kc,hq⟩:=c
  have hco:Hl cls=.ref C:=by rcases hcls with rfl| ⟨fs,rfl⟩<;>rfl
  obtain⟨B',t,b1,b2,fl⟩:=F.fly
  rw[hco] at fl
  have flx:kI B' (Bh X pins XE).stack y (Hl cls) (.ref t) s2.heap:=by rw[hco];exact fl
  have fl':kI B' (X.env::X.outer) y (.ref C) (.ref t) s2.heap:=hst▸(show kI B' X.stack y (.ref C) (.ref t) s2.heap from fl)
  have frA:X.A.frames=some (X.env::X.outer):=hst▸I.ok.frames
  have inv_at:∀hp:Heap,B'.StaysIn hp→s2.heap.UpToSlots hp→Inv X pins σ1 H2 {s2 with heap:=hp}:=fun hp st up=>by
   obtain⟨u,ho⟩:=F.un' b1 b2 flx st up
   exact Inv.ofTry (I1.call' (s':={s2 with heap:=hp}) (ch:=[]) F.os u ho F.bare fun b z=>absurd z (by simp))
  show XE (.ref y) s2
  rw[←hXE]
  refine KD.heap (Mz _ _) (R:=fun h4=>Heap.HeldW B' (X.env::X.outer) y (.ref C) (.ref t) X.env.locals h4∧s2.heap.UpToSlots h4) (wpAny_looks_onW frA hfr fl' fun h4 a b=> ⟨⟨a,b⟩,rfl⟩) fun h4 ⟨held4,up4⟩ dk4=>?_
  refine KD.heap (Ce _ _) (R:=fun h5=>kI B' (X.env::X.outer) y (.ref C) (.ref t) h5∧h4.UpToSlots h5) (wpAny_landsW held4 fun h5 a b=> ⟨⟨a,b⟩,rfl⟩) fun h5 ⟨fl5,up5⟩ dk5=>?_
  have up5':=up4.trans up5
  have I5:=inv_at h5 fl5.1 up5'
  refine wpAny_handleBy_cons (codeAny_handlers_test ?_) (by intro q;cases q)
  refine EC (X:=Vg X y) I5.toH hg hm ?_ hd
  refine Jy (K:=X.K) I5.kIn fl5.there kc hbe ?_
  refine codeAny_handlers_suite_as ?_
  refine KD.heap (Ce _ _) (R:=fun h6=>kI B' (X.env::X.outer) y (.ref C) (.ref t) h6∧h5.UpToSlots h6) (lands_againW fl5 fun h6 a b=> ⟨⟨a,b⟩,rfl⟩) fun h6 ⟨fl6,up6⟩ dk6=>?_
  have I6:=inv_at h6 fl6.1 (up5'.trans up6)
  have hyB:B'.get? y=none:=fl.2.1
  have nofr:∀b o,s1.heap.get? b=some o→b∉El X.stack→b≠y:=fun b o e hb z=>by
   obtain⟨o',e'⟩:=b2 b o e hb
   rw[z,hyB] at e';cases e'
  obtain⟨oe,vs,eoe,_,doe,_⟩:=fl.first
  have yfr:y∉El X.stack:=fun z=>by
   obtain⟨_,o',e',hd'⟩:=fl.2.2.1.mem (show y∈(Bh X pins XE).stack.filterMap (·.frame) from z)
   rw[eoe] at e';cases e'
   exact hd' vs doe
  have hs0:X.s₀.heap.get? y=none:=by
   cases e:X.s₀.heap.get? y with
   |none=>rfl
   |some o=>
    have exf:y∉X.ex:=by rw[hex];simp
    obtain⟨o1,e1⟩:=I1.base.there y o e exf
    exact absurd rfl (nofr y o1 e1 yfr)
  obtain⟨oe6,vs6,eoe6,coe6,doe6,_⟩:=fl6.first
  have hk:∃o,HK cls C y H2 o∧ObjOk X.prog X.w (upd H2 y o) h6 y o:=by
   rcases hcls with rfl| ⟨fs,rfl⟩
   ·exact⟨_,.inl ⟨rfl,rfl⟩,NA fl6.there⟩
   ·obtain⟨ox,dx,e1,e2,e3⟩:=F.dic fs C rfl
    have z:=(DK.trans dk4 (DK.trans dk5 dk6)).at_ e1 eoe6
    refine⟨.frz oe6 (FX C y),.inr ⟨fs,oe6,dx,vs6,rfl,rfl,?_,e3⟩,eoe6,NA fl6.there⟩
    obtain⟨c6,d6,da6,sl6⟩:=oe6
    rw[show d6=some dx from z.trans e2,show c6=.ref C from coe6,show da6=.fields vs6 from doe6]
  obtain⟨o,hk1,hk2⟩:=hk
  have I7:Inv X pins σ1 (upd H2 y o) {s2 with heap:=h6}:=I6.track F.fr ⟨oe6,eoe6,doe6⟩ hs0 (fun p hp=>by
   obtain⟨e,_,nl,nf,_⟩:=I1.pin p (iR _ hp)
   exact nofr p.1 p.2 e fun z=> (fu.mp (I1.stkSub p.1 z)).elim nl nf) hk2
  refine BL (X:=Vg X y) I7.toH hN hi (.inl hk) (v:=.ref y) rfl (fun s8 I8=>?_) (.inr hk)
  refine jG (hh y _ s8 _ _ (Vh i D) I8 (hq y o F.fr hk1)) (fun f s9 hf=>?_) fun _ _ z=>jn z
  cases f with
  |next=>obtain⟨σ9,H9,I9,q9⟩:=hf;exact(I9.ofH I.ok).gone hN hi hk fun s10 I10=> ⟨_,_,I10,q9⟩
  |brk=>obtain⟨σ9,H9,I9,q9⟩:=hf;exact(I9.ofH I.ok).gone hN hi hk fun s10 I10=> ⟨_,_,I10,q9⟩
  |cont=>obtain⟨σ9,H9,I9,q9⟩:=hf;exact(I9.ofH I.ok).gone hN hi hk fun s10 I10=> ⟨_,_,I10,q9⟩
  |ret u=>obtain⟨v,σ9,H9,I9,r,q9⟩:=hf;exact(I9.ofH I.ok).gone hN hi hk fun s10 I10=> ⟨v,_,_,I10,r,q9⟩
 have q:=hb _ (Bh X pins XE) ⟨_,_,rfl⟩ xf [] s σ H D I.toTry h
 refine jG q (fun f s1 hf=>?_) fun e s1 he=>he
 cases f with
 |next=>exact mw (SP.ofTry (f:=.next) hf)
 |brk=>exact SP.ofTry (f:=.brk) hf
 |cont=>exact SP.ofTry (f:=.cont) hf
 |ret u=>exact SP.ofTry (f:=.ret u) hf
structure RoomH(k:Nat)(A:gx):Prop where
 dp:A.depth+3*k+5<pA
 un:A.units+16*k+200<cLine
theorem Room.toH{k:Nat}{A:gx}{x:Value}(r:Room k A):RoomH k (A.mark (some x)):=⟨r.dp,r.un⟩
structure FnH(P:Program)(w:World)(K:a9)(mg:Str→Option Value)(base:Heap)(k:Nat)(f:Addr)(fd:gE)(ps:List Str)(sp:Sp):Prop where
 len:∀vs H Q E,sp vs H Q E→vs.length=ps.length
 run:∀(A:gx) (outer:List Env) (s:Shared) (H:Hp) (args:Args) (us:List Value) (vs:List V) (Q:VK),RoomH k A→Env0 P w K mg base A outer s H→pT s fd args (ps.zip us)→Vals vs us→sp vs H Q E0→
  lQ (model P w) A (.call (.ref f) args) (CR dP outer P w H s Q E0) s
noncomputable def XR(P:Program)(w:World)(K:a9)(mg:Str→Option Value)(base:Heap)(N:List Str)(qual:Str)(scope:Scope)(f:Addr)(cd:Value)(A:gx)(outer:List Env)(s:Shared)(H:Hp):Cx:=
 {Bg dP P w K mg base N qual scope f cd A outer s H E0 with calm:=false,xe:=fun _ _=>False}
theorem Fun.okH{P:Program}{w:World}{K:a9}{mg:Str→Option Value}{base:Heap}{x qual:Str}{st:Stmt}{f:Addr}{fd:gE}{N ps:List Str}{k:Nat}{sp:Sp}(F:Fun K x qual st f fd)(S:FnScope N ps (AA st))
  (len:∀vs H Q E,sp vs H Q E→vs.length=ps.length)
  (hbody:∀(cdv:Value) (A:gx) (outer:List Env) (s:Shared) (H:Hp) (vs:List V) (Q:VK),RoomH k (A.deeper (lz qual (AA st) s.heap.objs.size f cdv))→sp vs H Q E0→
   ∃t,PSs (XR P w K mg base N qual (AA st) f cdv A outer s H) (Aw st) t∧t {nx:=fun _ H'=>Q .non H',rt:=Q} (start N vs) H):FnH P w K mg base (k+1) f fd ps sp:=by
 obtain⟨oc,od,kV,doc,pm,an,cdv,ct,osl,rfl,lk,hcd⟩:=F.ex
 refine⟨len,fun A outer s H args us vs Q hr e0 hb r hsp=>?_⟩
 have hl:=len _ _ _ _ hsp
 have KX:K.In s.heap:=e0.mod.kin.keeps fun b o e=> (e0.bs b o e).1
 have lim:s.heap.NoLimit:=e0.mod.nolimit.keeps fun b o e=> (e0.bs b o e).1
 have hkind:∀y∈ps.zip us,(AA st).names.lookup y.1=some .local∨((AA st).names.lookup y.1=some .cell∧((jt (s.heap.objs.size+1) (AA st).names []).lookup y.1).isSome=true):=fun⟨n,v⟩ hy=>by
  rcases S.par n (nz hy).1 with q|q
  ·exact .inl q
  ·exact .inr ⟨q,mP _ _ _ (.inl q)⟩
 refine codeAny_call_function (by have:=hr.dp;omega) (KX _ _ lk) rfl S.co S.gen rfl (PySem.W.codeRec_of KX hcd) (hb _ _ _ _ ?_)
 refine wpAny_newFunctionEnv_cells S.kind hkind fun env he s1 x=>?_
 subst he
 refine⟨lim.keeps x.toInCall.keep,codeAny_func ?_⟩
 obtain⟨t,ht,hq⟩:=hbody cdv A outer s H vs Q ⟨by have:=hr.dp;show A.depth+1+3*k+5<_;omega,by have:=hr.un;show A.units+3+16*k+200<_;omega⟩ hsp
 have I0:Inv (Bg dP P w K mg base N qual (AA st) f cdv {A with handled:=none} outer s H E0) [] (start N vs) H s1:=
  Hg S rfl (⟨e0.frames,e0.mod,e0.bs,e0.bsz,e0.funs,e0.frf,e0.hok,e0.bare⟩:Env0 P w K mg base {A with handled:=none} outer s H) hl r x
 have I:Inv (XR P w K mg base N qual (AA st) f cdv A outer s H) [] (start N vs) H s1:=by
  have ok:=I0.ok
  exact⟨⟨ok.mod,ok.kind,ok.glob,ok.blt,ok.above,ok.inj,ok.has,ok.cab,fun(e:false=true)=> (c9 e).elim,ok.frames,ok.stk,ok.exf,ok.bs,ok.bsz,ok.noex,ok.exfs,ok.funs,ok.frf⟩,I0.os,I0.bare,I0.base,I0.loc,I0.cell,I0.free,I0.freeC,I0.pin,I0.hok,I0.len⟩
 refine jG (ht [] s1 (start N vs) H _ I hq) (fun fl s' hs=>?_) fun e s' hs=>jn hs
 have fin:∀{σ':St} {H':Hp} {v:V} {u:Value},Inv (XR P w K mg base N qual (AA st) f cdv A outer s H) [] σ' H' s'→RelV v u→Q v H'→CE outer P w H s Q u s':=
  fun{σ' H' v u} J rv q=> ⟨v,H',J.os,J.bare,J.base,J.hok,rv,q⟩
 cases fl with
 |ret u=>
  obtain⟨v,σ',H',J,rv,q⟩:=hs
  exact fin J rv q
 |next=>
  obtain⟨σ',H',J,q⟩:=hs
  exact fin (v:=V.non) (u:=lU) J rfl q
 |brk=>
  obtain⟨_,_,_,q⟩:=hs
  exact jn q
 |cont=>
  obtain⟨_,_,_,q⟩:=hs
  exact jn q
theorem QL{X:Cx}{k:Nat}{f:Addr}{fd:gE}{ps:List Str}{sp:Sp}{x:Str}{p pos:Pos}{e:Expr}{es:List Expr}{t:TA}(F:FnH X.prog X.w X.K X.mg X.base k f fd ps sp)(hr:RoomH k X.A)(hg:Gl X x)(hm:X.mg x=some (.ref f))(hk:jq X.K (.ref f)=true)(hb:Binds X.K fd ps [])
  (ha:PA X (e::es) t) (hdb:(x==("__debug__" :Str))=false:=by decide) (he:fj (e::es) X.env=(false,eval e X.env)::fj es X.env:=by rfl) (hpl:(jS pos (fj es X.env)).any (·.1)=false:=by rfl):
  PE X (.Call (.Name x p) (e::es) [] pos) (QI sp (fun _=>E0) t):=by
 intro pins s σ H Q I h
 refine lu (EC I hg hm ?_ hdb)
 refine PySem.W.callWith_K (h₀:=X.base) I.ok.mod.kin hk (An (ha pos pins s σ H _ I h) fun us s1 ⟨vs,H1,I1,r,q⟩=> ⟨I1.kIn,?_⟩) he hpl
 have r2:Vals vs (us++[]):=by rw[i8];exact r
 have hl:(us++[]).length=ps.length:=by rw[←r2.length];exact F.len _ _ _ _ q
 refine nO (mO (F.run X.A X.stack s1 H1 ⟨us,[]⟩ (us++[]) vs Q hr I1.env0 (hb s1 us I1.kIn hl) r2 q) fun r s' hq=>?_)
 cases r with
 |error e=>exact jn hq
 |ok fl=>
  cases fl with
  |ret u=>exact I1.after hq
  |next=>exact jn hq
  |brk=>exact jn hq
  |cont=>exact jn hq
theorem Fun.okX{P:Program}{w:World}{K:a9}{mg:Str→Option Value}{base:Heap}{x qual:Str}{st:Stmt}{f:Addr}{fd:gE}{N ps:List Str}{k:Nat}{sp:Sp}(F:Fun K x qual st f fd)(S:FnScope N ps (AA st))(len:∀vs H Q E,sp vs H Q E→vs.length=ps.length)
  (hbody:∀(cdv:Value) (A:gx) (outer:List Env) (s:Shared) (H:Hp) (vs:List V) (Q:VK) (E:XK),Room k (A.deeper (lz qual (AA st) s.heap.objs.size f cdv))→sp vs H Q E→
   ∃t,PSs (Bg (CXe P w) P w K mg base N qual (AA st) f cdv A outer s H E) (Aw st) t∧t {nx:=fun _ H'=>Q .non H',rt:=Q} (start N vs) H):FnOk P w K mg base (CXe P w) (k+1) f fd ps sp:=by
 obtain⟨oc,od,kV,doc,pm,an,cdv,ct,osl,rfl,lk,hcd⟩:=F.ex
 exact Zt lk hcd S len fun A outer s H vs Q E hr hsp=>hbody cdv A outer s H vs Q E hr hsp
section
variable{X:Cx}
noncomputable def fF(K:a9)(H:Hp)(x:V)(t:Value):Prop:=TyOf K H x t∨∃a D,x=.ref a∧t=.ref D∧Rd H a (FX D a)∧ExcCls K D
noncomputable def aH(K:a9):List V→Hp→VK→Prop:=fun vs H Q=>∃x c t cv b,vs=[x,c]∧RelV c cv∧fF K H x t∧gz K t cv=some b∧Q (.bl b) H
theorem BD:BC X (.builtin "isinstance") (aH X.K):=by
 intro pins s σ H xs us Q I r h
 obtain⟨x,c,t,cv,b,rfl,rc,ty,e,q⟩:=h
 obtain⟨u,w',rfl,rx,rw'⟩:=Pu r
 have e2:w'=cv:=by
  cases c with
  |ty n=>exact(show w'=jO n from rw').trans (show cv=jO n from rc).symm
  |ref a=>exact(show w'=Value.ref a from rw').trans (show cv=Value.ref a from rc).symm
  |non=>exact(show w'=lU from rw').trans (show cv=lU from rc).symm
  |bl b=>exact(show w'=oO b from rw').trans (show cv=oO b from rc).symm
  |int i=>exact absurd e (by obtain⟨k,rfl⟩:=rc;unfold gz;rcases ty with ty| ⟨_,_,_,rfl,_⟩<;>first| (cases ty<;> (intro z;simp[ji] at z))| (intro z;simp[ji] at z))
  |str i=>exact absurd e (by obtain⟨k,rfl⟩:=rc;unfold gz;rcases ty with ty| ⟨_,_,_,rfl,_⟩<;>first| (cases ty<;> (intro z;simp[ji] at z))| (intro z;simp[ji] at z))
  |byt i=>exact absurd e (by obtain⟨k,rfl⟩:=rc;unfold gz;rcases ty with ty| ⟨_,_,_,rfl,_⟩<;>first| (cases ty<;> (intro z;simp[ji] at z))| (intro z;simp[ji] at z))
  |flt i=>exact absurd e (by obtain⟨k,rfl⟩:=rc;unfold gz;rcases ty with ty| ⟨_,_,_,rfl,_⟩<;>first| (cases ty<;> (intro z;simp[ji] at z))| (intro z;simp[ji] at z))
 subst e2
 rcases ty with ty| ⟨a,D,rfl,rfl,hx,k⟩
 ·exact OO I rx ty e fun tk=> ⟨.bl b,H,I.tok tk,rfl,q⟩
 ·cases(show u=Value.ref a from rx)
  exact Ld I hx k e fun tk=> ⟨.bl b,H,I.tok tk,rfl,q⟩
theorem XS:cL X .Mult (fun x y H Q=>∃i j,x=.int i∧y=.int j∧CMul i j∧Q (.int (i*j)) H):=by
 intro pins s σ H x y v u Q I r1 r2 h
 obtain⟨i,j,e1,e2,hc,q⟩:=h
 subst e1;subst e2
 obtain⟨t,rfl⟩:=r1
 obtain⟨t',rfl⟩:=r2
 exact PyProof.Rows.imul_int ⟨.int _,H,I.tok _,⟨_,rfl⟩,q⟩ hc.ok
noncomputable def XT(K:a9):V→List V→Hp→VK→Prop:=fun x vs H Q=>∃l xs y,x=.ref l∧vs=[y]∧SqL K H l xs∧Dj y=true∧xs.all Dj=true∧Q (.int (xs.countP fun z=>LH z y)) H
theorem GF{x:V}:∀{xs:List V} {us:List Value},Vals xs us→xs.all Dj=true→us.countP (ZP x)=xs.countP fun y=>LH y x
 |_,_,.nil,_=>rfl
 |y::xs,u::us,.cons r t,f=>by
  rw[List.all_cons,iE] at f
  rw[List.countP_cons,List.countP_cons,LW r f.1,GF t f.2]
theorem QM:cO X "list.count" (XT X.K):=by
 intro pins s σ H x vs v us Q I rx rv h
 obtain⟨l,xs,y,rfl,rfl,hl,fy,fx,q⟩:=h
 cases rx
 obtain⟨u,rfl,ru⟩:=rv.one
 obtain⟨its,r,p,hz⟩:=I.list hl
 obtain⟨⟨cls,dd,data,sl⟩,n,ho,hc,hdd,hd⟩:=id p
 simp only at hc hd
 subst hc hd
 refine mZ F.slot_list_count ⟨_,ho,rfl⟩ F.entry_list_count (F.args_list_count_2 _ _) (SeqAt.list_countAt l its.toArray n dd sl u (ZP y)) ⟨ho,fun z hz=>GB ru fy r fx z (by simpa using hz),?_⟩
 rw[show its.toArray.toList=its from rfl,GF r fx]
 exact⟨.int _,H,I.tok _,⟨_,rfl⟩,q⟩
noncomputable def XU(K:a9):V→List V→Hp→VK→Prop:=fun x vs H Q=>∃l xs y j,x=.ref l∧vs=[y]∧SqL K H l xs∧Dj y=true∧xs.all Dj=true∧(∃z,xs[j]?=some z∧LH z y=true)∧(∀m z,m<j→xs[m]?=some z→LH z y=false)∧Q (.int (j:Nat)) H
theorem QN:cO X "list.index" (XU X.K):=by
 intro pins s σ H x vs v us Q I rx rv h
 obtain⟨l,xs,y,j,rfl,rfl,hl,fy,fx,⟨z,ez,hit⟩,hno,q⟩:=h
 cases rx
 obtain⟨u,rfl,ru⟩:=rv.one
 obtain⟨its,r,p,hz⟩:=I.list hl
 obtain⟨⟨cls,dd,data,sl⟩,n,ho,hc,hdd,hd⟩:=id p
 simp only at hc hd
 subst hc hd
 have hlen:=r.length
 have hj:j<xs.length:=(gh.mp ez).1
 have at_:∀m (hm:m<its.toArray.size) z,xs[m]?=some z→ZP y its.toArray[m]=LH z y:=fun m hm z e=>by
  obtain⟨w',e',rw'⟩:=r.get e
  have:its.toArray[m]=w':=by
   have:its[m]'(by simpa using hm)=w':=gZ.inj (by rw[←e'];simp)
   simpa using this
  rw[this]
  exact LW rw' (jm.mp fx z (fo e))
 refine mZ F.slot_list_index ⟨_,ho,rfl⟩ F.entry_list_index (F.args_list_index_2 _ _)
  (SeqAt.list_indexAt l its.toArray n dd sl u (ZP y) j (by simpa[←hlen] using hj) (by have:=En;omega) ?_ ?_) ⟨ho,fun z hz=>GB ru fy r fx z (by simpa using hz),⟨.int _,H,I.tok _,⟨_,rfl⟩,q⟩⟩
 ·rw[at_ j _ z ez];exact hit
 ·intro m hm hlt
  have hmx:m<xs.length:=by omega
  rw[at_ m hm xs[m] (by simp[hmx])]
  exact hno m _ hlt (by simp[hmx])
end
end L2
namespace StT
local macro_rules | `(tactic| omega) => `(tactic| first | lia | omega)
open PySem PySem.SetTable
theorem Le:∀(m:Nat) (l:List Nat),(∀e,e<m→e∈l)→m≤l.length
 |0,_,_=>ip _
 |m+1,l,h=>by
  have hm:m∈l:=h m (kX m)
  have ih:=Le m (l.erase m) fun e he=>by
   rw[List.mem_erase_of_ne (gL he)]
   exact h e (j4 he)
  rw[mq hm] at ih
  have:0<l.length:=lC hm
  omega
theorem CS:∀(n:Nat) (l:List Nat),l.Nodup→(∀x∈l,x<n)→l.length≤n
 |0,[],_,_=>fv _
 |0,x::_,_,h=>absurd (h x gC) (my _)
 |n+1,l,nd,h=>by
  have ih:=CS n (l.erase n) (nd.erase n) fun x hx=>by
   have h1:=h x (List.mem_of_mem_erase hx)
   have h2:x≠n:=fun e=>by
    subst e
    exact absurd hx (List.Nodup.not_mem_erase nd)
   omega
  by_cases hn:n∈l
  ·rw[mq hn] at ih
   omega
  ·rw[List.erase_of_not_mem hn] at ih
   omega
noncomputable def QO(xs:Array Nat):Prop:=xs.toList.Pairwise (· < ·)
theorem GG{xs:Array Nat}(r:QO xs){i j:Nat}{x y:Nat}(hi:xs[i]?=some x)(hj:xs[j]?=some y)(h:i<j):x<y:=by
 obtain⟨h1,rfl⟩:=iJ.mp hi
 obtain⟨h2,rfl⟩:=iJ.mp hj
 have:=iO.mp r i j (by simpa using h1) (by simpa using h2) h
 simpa using this
theorem Ia{xs:Array Nat}{j:Nat}:∀(fuel lo hi:Nat),hi-lo≤fuel→lo≤hi→hi≤xs.size→(∀i x,i<lo→xs[i]?=some x→x<j)→(∀i x,hi≤i→xs[i]?=some x→j≤x)→QO xs→
  (qN xs j fuel lo hi≤xs.size)∧(∀i x,i<qN xs j fuel lo hi→xs[i]?=some x→x<j)∧∀i x,qN xs j fuel lo hi≤i→xs[i]?=some x→j≤x
 |0,lo,hi,hf,hlo,hhi,h1,h2,r=>by
  have:lo=hi:=by omega
  subst this
  exact⟨hhi,h1,h2⟩
 |fuel+1,lo,hi,hf,hlo,hhi,h1,h2,r=>by
  unfold qN
  by_cases hl:lo<hi
  ·rw[if_pos hl]
   have hm:(lo+hi)/2<xs.size:=by omega
   have em:xs[(lo+hi)/2]?=some xs[(lo+hi)/2]:=by simp[hm]
   have eg:xs.getD ((lo+hi)/2) j=xs[(lo+hi)/2]:=by simp[n6,hm]
   dsimp only
   rw[eg]
   by_cases hc:xs[(lo+hi)/2]<j
   ·rw[if_pos hc]
    refine Ia fuel _ _ (by omega) (by omega) hhi (fun i x hi' e=>?_) h2 r
    by_cases hx:i=(lo+hi)/2
    ·subst hx
     rw[em] at e;cases e
     exact hc
    ·exact qu (GG r e em (by omega)) hc
   ·rw[if_neg hc]
    refine Ia fuel _ _ (by omega) (by omega) (by omega) h1 (fun i x hi' e=>?_) r
    by_cases hx:i=(lo+hi)/2
    ·subst hx
     rw[em] at e;cases e
     omega
    ·have:=GG r em e (by omega)
     omega
  ·rw[if_neg hl]
   have:lo=hi:=by omega
   subst this
   exact⟨hhi,h1,h2⟩
theorem Cf{xs:Array Nat}{j:Nat}(r:QO xs):(below xs j≤xs.size)∧(∀i x,i<below xs j→xs[i]?=some x→x<j)∧∀i x,below xs j≤i→xs[i]?=some x→j≤x:=
 Ia _ _ _ (by omega) (by omega) (fv _) (fun i x h=>absurd h (my _)) (fun i x h e=>by
  have:=(iJ.mp e).1
  omega) r
theorem Bj{xs:Array Nat}{i j:Nat}(r:QO xs)(h:xs[i]?=some j):below xs j=i:=by
 obtain⟨b1,b2,b3⟩:=Cf (j:=j) r
 have hi:i<xs.size:=(iJ.mp h).1
 apply Nat.le_antisymm
 ·apply m8
  intro hc
  exact absurd (b2 i j hc h) (iQ _)
 ·apply m8
  intro hc
  have e:xs[below xs j]?=some xs[below xs j]:=by simp[qu hc hi]
  have h1:=b3 _ _ (fv _) e
  have h2:=GG r e h hc
  omega
theorem BH{α:Type}(xs:Array α)(p:Nat)(x:α):(jT xs p x).toList=xs.toList.take p++x::xs.toList.drop p:=by
 unfold jT
 simp
 rw[lB (by simp)]
theorem getElem?_insertAt{α:Type}(xs:Array α)(p:Nat)(x:α)(hp:p≤xs.size)(i:Nat):(jT xs p x)[i]?=if i<p then xs[i]? else if i=p then some x else xs[i-1]?:=by
 have e:(jT xs p x)[i]?=(jT xs p x).toList[i]?:=by simp
 rw[e,BH]
 have hl:(xs.toList.take p).length=p:=by simp[hp]
 by_cases h1:i<p
 ·rw[if_pos h1,ic (by omega),kM h1]
  simp
 ·rw[if_neg h1,gN (by omega),hl]
  by_cases h2:i=p
  ·subst h2
   simp
  ·rw[if_neg h2]
   have:i-p=(i-p-1)+1:=by omega
   rw[this,kZ,jI]
   have:p+(i-p-1)=i-1:=by omega
   rw[this]
   simp
theorem Dk{α:Type}(xs:Array α)(p:Nat)(x:α)(hp:p≤xs.size):(jT xs p x).size=xs.size+1:=by
 rw[←fw,BH]
 simp
 omega
theorem Lf{xs:Array Nat}{j:Nat}(r:QO xs)(hj:∀i:Nat,xs[i]?≠some j):QO (jT xs (below xs j) j):=by
 obtain⟨b1,b2,b3⟩:=Cf (j:=j) r
 unfold QO
 rw[BH]
 have lt:∀y∈xs.toList.take (below xs j),y<j:=fun y hy=>by
  obtain⟨i,hi⟩:=iA hy
  have hlt:i<below xs j:=by
   have:=(gh.mp hi).1
   simp at this;omega
  rw[kM hlt] at hi
  exact b2 i y hlt (by simpa using hi)
 have gt:∀y∈xs.toList.drop (below xs j),j<y:=fun y hy=>by
  obtain⟨i,hi⟩:=iA hy
  rw[jI] at hi
  have hi':xs[below xs j+i]?=some y:=by simpa using hi
  have h1:=b3 _ y (Nat.le_add_right _ _) hi'
  have h2:y≠j:=fun e=>hj _ (e▸hi')
  omega
 refine kH.mpr ⟨gS.sublist (List.take_sublist _ _) r,jH.mpr ⟨gt,gS.sublist (List.drop_sublist _ _) r⟩,fun a ha b hb=>?_⟩
 rcases fu.mp hb with rfl|hb
 ·exact lt a ha
 ·exact qu (lt a ha) (gt b hb)
noncomputable def adv(m:Nat)(p:Probe):Probe:=(iX.mk m #[] #[] 0 false 0 false).advance p
theorem GH(t:iX)(p:Probe):t.advance p=adv t.mask p:=rfl
theorem GI{m:Nat}{p:Probe}(h:0<p.more):adv m p=⟨p.j+1,p.more-1,p.i,p.perturb,p.dummy⟩:=by
 unfold adv advance
 exact if_pos h
theorem GJ{m:Nat}{p:Probe}(h:¬0<p.more):adv m p=⟨(leap m p.i p.perturb).1,lS m (leap m p.i p.perturb).1- (leap m p.i p.perturb).1,(leap m p.i p.perturb).1,(leap m p.i p.perturb).2,p.dummy⟩:=by
 unfold adv advance
 exact if_neg h
noncomputable def advN(m:Nat):Nat→Probe→Probe
 |0,p=>p
 |n+1,p=>advN m n (adv m p)
theorem Bl(m:Nat):∀(a b:Nat) (p:Probe),advN m (a+b) p=advN m b (advN m a p)
 |0,b,p=>by rw[kG];rfl
 |a+1,b,p=>by
  rw[qq]
  exact Bl m a b (adv m p)
theorem Hm(m n:Nat)(p:Probe):advN m (n+1) p=adv m (advN m n p):=Bl m n 1 p
noncomputable def st(m:Nat)(x:Nat×Nat)(d:Option Nat):Probe:={j:=x.1,more:=lS m x.1-x.1,i:=x.1,perturb:=x.2,dummy:=d}
theorem QP(t:iX)(h:Int):t.probeStart h=st t.mask (bits h%(t.mask+1),bits h) none:=rfl
noncomputable def Lg(m:Nat):Nat→Nat×Nat→Nat×Nat
 |0,x=>x
 |n+1,x=>Lg m n (leap m x.1 x.2)
theorem Ep(m i:Nat)(h:i≤m):i+(lS m i-i)≤m∧lS m i-i≤9:=by
 unfold lS
 split<;>omega
theorem Ib(m:Nat):∀(k:Nat) (p:Probe),k≤p.more→advN m k p={p with j:=p.j+k,more:=p.more-k}
 |0,p,_=>rfl
 |k+1,p,h=>by
  show advN m k (adv m p)=_
  have e:adv m p={p with j:=p.j+1,more:=p.more-1}:=GI (by omega)
  rw[e,Ib m k _ (by show k≤p.more-1;omega)]
  show({p with j:=p.j+1+k,more:=p.more-1-k}:Probe)={p with j:=p.j+(k+1),more:=p.more- (k+1)}
  rw[show p.j+1+k=p.j+(k+1) by omega,show p.more-1-k=p.more- (k+1) by omega]
theorem GK(m:Nat)(p:Probe):advN m (p.more+1) p=st m (leap m p.i p.perturb) p.dummy:=by
 rw[Hm,Ib m p.more p (fv _)]
 rw[GJ (by show¬0<p.more-p.more;omega)]
 rfl
theorem GL(m:Nat):∀(L:Nat) (x:Nat×Nat),x.1≤m→(Lg m L x).1≤m
 |0,_,h=>h
 |L+1,x,_=>GL m L _ (by show(x.1*5+1+x.2/32)%(m+1)≤m;have:=qd (x.1*5+1+x.2/32) (show 0<m+1 by omega);omega)
theorem QQ(m:Nat):∀(L:Nat) (x:Nat×Nat) (d:Option Nat),x.1≤m→∃n,n≤10*L∧advN m n (st m x d)=st m (Lg m L x) d
 |0,x,d,_=> ⟨0,by omega,rfl⟩
 |L+1,x,d,h=>by
  have hl:(leap m x.1 x.2).1≤m:=GL m 1 x h
  obtain⟨n,hn,e⟩:=QQ m L (leap m x.1 x.2) d hl
  have h9:=(Ep m x.1 h).2
  refine⟨(st m x d).more+1+n,?_,?_⟩
  ·show lS m x.1-x.1+1+n≤_;omega
  ·rw[Bl,GK]
   exact e
theorem NB(m:Nat):∀(a b:Nat) (x:Nat×Nat),Lg m (a+b) x=Lg m b (Lg m a x)
 |0,b,x=>by rw[kG];rfl
 |a+1,b,x=>by rw[qq];exact NB m a b _
theorem NC(m:Nat):∀(L:Nat) (x:Nat×Nat),(Lg m L x).2=x.2/32^L
 |0,x=>by simp[Lg]
 |L+1,x=>by
  show(Lg m L (leap m x.1 x.2)).2=_
  rw[NC m L]
  show x.2/32/32^L=x.2/32^(L+1)
  rw[Nat.div_div_eq_div_mul,nF,qt]
noncomputable def ZQ(m:Nat):Nat→Nat→List Nat
 |0,_=> []
 |n+1,i=>i::ZQ m n ((i*5+1)%(m+1))
noncomputable def fN(m:Nat):Nat→Nat→Nat
 |0,i=>i
 |n+1,i=>fN m n ((i*5+1)%(m+1))
theorem aI(m:Nat):∀(L i:Nat),Lg m L (i,0)=(fN m L i,0)
 |0,_=>rfl
 |L+1,i=>by
  show Lg m L ((i*5+1+0/32)%(m+1),0/32)=_
  rw[Nat.zero_div,Nat.add_zero]
  exact aI m L _
theorem Ic(m:Nat):∀(a b x:Nat),fN m (a+b) x=fN m b (fN m a x)
 |0,b,x=>by rw[kG];rfl
 |a+1,b,x=>by rw[qq];exact Ic m a b _
theorem Ie(m:Nat):∀(n i e:Nat),e∈ZQ m n i→∃k,k<n∧fN m k i=e
 |0,_,_,h=>by simp[ZQ] at h
 |n+1,i,e,h=>by
  rcases fu.mp h with rfl|h
  ·exact⟨0,qp _,rfl⟩
  ·obtain⟨k,hk,hf⟩:=Ie m n _ e h
   exact⟨k+1,by omega,hf⟩
noncomputable def Bm(m:Nat):Prop:=m=7∨m=31∨m=127∨m=511
theorem dY{m:Nat}(h:Bm m):fN m (m+1) 0=0∧∀e,e≤m→e∈ZQ m (m+1) 0:=by
 have all:∀k,((gF (k+1)).all fun e=> (ZQ k (k+1) 0).contains e)=true→∀e,e≤k→e∈ZQ k (k+1) 0:=fun k hk e he=>by
  have:=jm.mp hk e (gG.mpr (Nat.lt_succ_of_le he))
  exact List.contains_iff_mem.mp this
 rcases h with rfl|rfl|rfl|rfl
 ·exact⟨by decide+kernel,all 7 (by decide+kernel)⟩
 ·exact⟨by decide+kernel,all 31 (by decide+kernel)⟩
 ·exact⟨by decide+kernel,all 127 (by decide+kernel)⟩
 ·exact⟨by decide+kernel,all 511 (by decide+kernel)⟩
theorem fG{m:Nat}(h:Bm m){i e:Nat}(hi:i≤m)(he:e≤m):∃k,k≤m∧fN m k i=e:=by
 obtain⟨c0,call⟩:=dY h
 obtain⟨a,ha,ea⟩:=Ie m _ _ _ (call i hi)
 obtain⟨b,hb,eb⟩:=Ie m _ _ _ (call e he)
 by_cases hab:a≤b
 ·refine⟨b-a,by omega,?_⟩
  rw[←ea,←Ic,show a+(b-a)=b by omega]
  exact eb
 ·refine⟨m+1-a+b,by omega,?_⟩
  rw[←ea,←Ic,show a+(m+1-a+b)=(m+1)+b by omega,Ic,c0]
  exact eb
structure Pr(m:Nat)(p:Probe):Prop where
 ij:p.j+p.more≤m
 more:p.more≤9
 i:p.i≤m
 pert:p.perturb<2^64
theorem Pr.st{m:Nat}{x:Nat×Nat}{d:Option Nat}(h1:x.1≤m)(h2:x.2<2^64):Pr m (st m x d):=⟨(Ep m x.1 h1).1,(Ep m x.1 h1).2,h1,h2⟩
theorem Pr.adv{m:Nat}{p:Probe}(h:Pr m p):Pr m (adv m p):=by
 by_cases hm:0<p.more
 ·rw[GI hm]
  exact⟨by have:=h.ij;show p.j+1+(p.more-1)≤m;omega,by have:=h.more;show p.more-1≤9;omega,h.i,h.pert⟩
 ·rw[GJ hm]
  have hl:(leap m p.i p.perturb).1≤m:=GL m 1 (p.i,p.perturb) h.i
  exact⟨(Ep m _ hl).1,(Ep m _ hl).2,hl,nT (Nat.div_le_self _ _) h.pert⟩
theorem Pr.advN{m:Nat}:∀{n:Nat} {p:Probe},Pr m p→Pr m (advN m n p)
 |0,_,h=>h
 |n+1,_,h=>Pr.advN (n:=n) h.adv
theorem Pr.j{m:Nat}{p:Probe}(h:Pr m p):p.j≤m:=by have:=h.ij;omega
theorem ND(h:Int):bits h<2^64:=by
 unfold bits
 have h1:=lG h (show(2^64:Int)≠0 by decide)
 have h2:=ko h (show(0:Int)<2^64 by decide)
 have h3:((2:Nat)^64:Nat)=18446744073709551616:=by decide
 omega
noncomputable def start(m:Nat)(h:Int):Probe:=st m (bits h%(m+1),bits h) none
theorem Pr.start(m:Nat)(h:Int):Pr m (start m h):=Pr.st (by show bits h%(m+1)≤m;have:=qd (bits h) (show 0<m+1 by omega);omega) (ND h)
theorem aJ{q:Nat}(h:q<2^64):q/32^13=0:=Nat.div_eq_of_lt (gy h (by decide))
theorem Vi{m:Nat}(hm:Bm m){x:Nat×Nat}(h1:x.1≤m)(h2:x.2<2^64){e:Nat}(he:e≤m):∃L,L≤m+13∧(Lg m L x).1=e:=by
 have e13:Lg m 13 x=((Lg m 13 x).1,0):=by
  have:=NC m 13 x
  rw[aJ h2] at this
  rw[←this]
 obtain⟨k,hk,ek⟩:=fG hm (GL m 13 x h1) he
 refine⟨13+k,by omega,?_⟩
 rw[NB,e13,aI]
 exact ek
theorem Vj{m:Nat}(hm:Bm m){p:Probe}(h:Pr m p){e:Nat}(he:e≤m):∃n,n<10*(m+15)∧(advN m n p).j=e:=by
 have hl:(leap m p.i p.perturb).1≤m:=GL m 1 (p.i,p.perturb) h.i
 obtain⟨L,hL,eL⟩:=Vi hm (x:=leap m p.i p.perturb) hl (nT (Nat.div_le_self _ _) h.pert) he
 obtain⟨n,hn,en⟩:=QQ m L (leap m p.i p.perturb) p.dummy hl
 refine⟨p.more+1+n,by have:=h.more;omega,?_⟩
 rw[Bl,GK,en]
 exact eL
theorem OV(m:Nat)(p:Probe):(adv m p).dummy=p.dummy:=by
 by_cases h:0<p.more
 ·rw[GI h]
 ·rw[GJ h]
theorem Dn(m:Nat):∀(n:Nat) (p:Probe),(advN m n p).dummy=p.dummy
 |0,_=>rfl
 |n+1,p=> (Dn m n _).trans (OV m p)
end StT
namespace StT
local macro_rules | `(tactic| omega) => `(tactic| first | lia | omega)
open PySem PySem.SetTable
noncomputable def Jz(t:iX)(j:Nat):Prop:=∃i:Nat,t.place[i]?=some j
structure Tb(t:iX)(hs:List Int):Prop where
 mask:Bm t.mask
 dum:t.dummies= #[]
 ris:QO t.place
 le:∀i j:Nat,t.place[i]?=some j→j≤t.mask
 size:t.place.size=hs.length
 fnd:∀(i j:Nat) (h:Int),t.place[i]?=some j→hs[i]?=some h→∃n,(advN t.mask n (start t.mask h)).j=j∧∀k,k<n→Jz t (advN t.mask k (start t.mask h)).j
section
variable{t:iX}{hs:List Int}
theorem Tb.odd(T:Tb t hs):t.mask%2=1:=by rcases T.mask with h|h|h|h<;>rw[h]
theorem Tb.low(T:Tb t hs):7≤t.mask:=by rcases T.mask with h|h|h|h<;>omega
theorem Tb.live(T:Tb t hs){i j:Nat}(h:t.place[i]?=some j):t.slot j=.live i:=by
 unfold slot
 rw[Bj T.ris h]
 simp only[h,beq_self_eq_true,if_true]
theorem Tb.empty(T:Tb t hs){j:Nat}(h:¬Jz t j):t.slot j=.empty:=by
 unfold slot
 have h1:(t.place[below t.place j]?==some j)=false:=by
  rw[beq_eq_false_iff_ne]
  exact fun e=>h ⟨_,e⟩
 have h2:has t.dummies j=false:=by
  unfold has
  rw[T.dum]
  rfl
 simp only[h1,h2,gD,if_false]
theorem Tb.room(T:Tb t hs)(h:hs.length≤t.mask):∃e,e≤t.mask∧¬Jz t e:=by
 apply jy
 intro hn
 have:=Le (t.mask+1) t.place.toList fun e he=>by
  have:Jz t e:=jy fun hc=>hn ⟨e,by omega,hc⟩
  obtain⟨i,hi⟩:=this
  exact fo (i:=i) (by simpa using hi)
 rw[fw,T.size] at this
 omega
theorem To(T:Tb t hs){hashAt:Nat→Int}{h:Int}{p:Probe}{i:Nat}(fuel:Nat)(h1:t.place[i]?=some p.j)(h2:hashAt i≠h):nh t hashAt h (fuel+1) p=nh t hashAt h fuel (adv t.mask p):=by
 rw[nh,T.live h1]
 simp only[beq_iff_eq,if_neg h2,GH]
theorem KA(T:Tb t hs){hashAt:Nat→Int}{h:Int}:∀(n fuel:Nat) (p:Probe),(∀k,k<n→∃i,t.place[i]?=some (advN t.mask k p).j∧hashAt i≠h)→nh t hashAt h (fuel+n) p=nh t hashAt h fuel (advN t.mask n p)
 |0,_,_,_=>rfl
 |n+1,fuel,p,hk=>by
  obtain⟨i,h1,h2⟩:=hk 0 (qp _)
  have h1:t.place[i]?=some p.j:=h1
  rw[←p7,To T _ h1 h2]
  exact KA T n fuel _ fun k hk'=>hk (k+1) (Nat.succ_lt_succ hk')
theorem QR(T:Tb t hs){hashAt:Nat→Int}{h:Int}{p:Probe}{fuel:Nat}(h1:¬Jz t p.j):nh t hashAt h (fuel+1) p=some (.empty p.j p.dummy):=by
 rw[nh,T.empty h1]
theorem XW(T:Tb t hs){hashAt:Nat→Int}{h:Int}{p:Probe}{fuel i:Nat}(h1:t.place[i]?=some p.j)(h2:hashAt i=h):nh t hashAt h (fuel+1) p=some (.candidate p.j i (adv t.mask p)):=by
 rw[nh,T.live h1]
 simp only[beq_iff_eq,if_pos h2,GH]
theorem least{S:Nat→Prop}:∀(n:Nat),S n→∃m,m≤n∧S m∧∀k,k<m→¬S k:=by
 intro n
 induction n using nu with
 |ind n ih=>
  intro hn
  by_cases h:∃k,k<n∧S k
  ·obtain⟨k,hk,sk⟩:=h
   obtain⟨m,h1,h2,h3⟩:=ih k hk sk
   exact⟨m,by omega,h2,h3⟩
  ·exact⟨n,fv _,hn,fun k hk sk=>h ⟨k,hk,sk⟩⟩
theorem KB(T:Tb t hs)(hl:hs.length≤t.mask){p:Probe}(pr:Pr t.mask p)(hashAt:Nat→Int)(h:Int):∃n,(∀k,k<n→∃i,t.place[i]?=some (advN t.mask k p).j∧hashAt i≠h)∧
  ((¬Jz t (advN t.mask n p).j∧t.probe hashAt h p=some (.empty (advN t.mask n p).j p.dummy))∨∃i,t.place[i]?=some (advN t.mask n p).j∧hashAt i=h∧t.probe hashAt h p=some (.candidate (advN t.mask n p).j i (advN t.mask (n+1) p))):=by
 obtain⟨e,he,hne⟩:=T.room hl
 obtain⟨n0,hn0,en0⟩:=Vj T.mask pr he
 obtain⟨n,hn,sn,ln⟩:=least (S:=fun n=>¬Jz t (advN t.mask n p).j∨∃i,t.place[i]?=some (advN t.mask n p).j∧hashAt i=h) n0 (.inl (by rw[en0];exact hne))
 have pre:∀k,k<n→∃i,t.place[i]?=some (advN t.mask k p).j∧hashAt i≠h:=fun k hk=>by
  have:=ln k hk
  have ho:Jz t (advN t.mask k p).j:=jy fun hc=>this (.inl hc)
  obtain⟨i,hi⟩:=ho
  exact⟨i,hi,fun z=>this (.inr ⟨i,hi,z⟩)⟩
 have hfuel:10*turns t.mask=(10*(t.mask+15)-n-1+1)+n:=by unfold turns;omega
 refine⟨n,pre,?_⟩
 unfold probe
 rw[hfuel,KA T n _ p pre]
 rcases sn with sn| ⟨i,h1,h2⟩
 ·exact .inl ⟨sn,by rw[QR T sn,Dn]⟩
 ·exact .inr ⟨i,h1,h2,by rw[XW T h1 h2,Hm]⟩
theorem Tb.put(T:Tb t hs){h:Int}{n:Nat}(hfree:¬Jz t (advN t.mask n (start t.mask h)).j)(hway:∀k,k<n→Jz t (advN t.mask k (start t.mask h)).j):
  Tb (t.put (advN t.mask n (start t.mask h)).j).1 (hs.take (t.put (advN t.mask n (start t.mask h)).j).2++h::hs.drop (t.put (advN t.mask n (start t.mask h)).j).2)∧(t.put (advN t.mask n (start t.mask h)).j).2≤hs.length∧
   (t.put (advN t.mask n (start t.mask h)).j).1.mask=t.mask∧(t.put (advN t.mask n (start t.mask h)).j).1.plain=t.plain∧(t.put (advN t.mask n (start t.mask h)).j).1.led=t.led∧(t.put (advN t.mask n (start t.mask h)).j).1.moves=t.moves:=by
 have hj:(advN t.mask n (start t.mask h)).j≤t.mask:=(Pr.start t.mask h).advN.j
 generalize hJ:(advN t.mask n (start t.mask h)).j=J at*
 have hd:has t.dummies J=false:=by
  unfold has
  rw[T.dum]
  rfl
 have hnot:∀i:Nat,t.place[i]?≠some J:=fun i e=>hfree ⟨i,e⟩
 have hb:=(Cf (j:=J) T.ris).1
 have e1:(t.put J).1={t with place:=jT t.place (below t.place J) J}:=by
  unfold iX.put
  simp only[hd,gD,if_false]
 have e2:(t.put J).2=below t.place J:=rfl
 rw[e1,e2]
 have ix:=getElem?_insertAt t.place (below t.place J) J hb
 have hl:(hs.take (below t.place J)).length=below t.place J:=by rw[gX,←T.size];omega
 have ih:∀i:Nat,(hs.take (below t.place J)++h::hs.drop (below t.place J))[i]?=if i<below t.place J then hs[i]? else if i=below t.place J then some h else hs[i-1]?:=fun i=>by
  by_cases h1:i<below t.place J
  ·rw[if_pos h1,ic (by omega),kM h1]
  ·rw[if_neg h1,gN (by omega),hl]
   by_cases h2:i=below t.place J
   ·subst h2;simp
   ·rw[if_neg h2,show i-below t.place J=(i-below t.place J-1)+1 by omega,kZ,jI]
    rw[show below t.place J+(i-below t.place J-1)=i-1 by omega]
 have occ:∀x,Jz t x→Jz {t with place:=jT t.place (below t.place J) J} x:=fun x ⟨i,hi⟩=>by
  by_cases h1:i<below t.place J
  ·exact⟨i,by show(jT t.place (below t.place J) J)[i]?=some x;rw[ix,if_pos h1];exact hi⟩
  ·exact⟨i+1,by show(jT t.place (below t.place J) J)[i+1]?=some x;rw[ix,if_neg (by omega),if_neg (by omega)];exact hi⟩
 refine⟨⟨T.mask,T.dum,Lf T.ris hnot,fun i j e=>?_,?_,fun i j h' e eh=>?_⟩,by rw[←T.size];exact hb,rfl,rfl,rfl,rfl⟩
 ·have e:(jT t.place (below t.place J) J)[i]?=some j:=e
  rw[ix] at e
  by_cases h1:i<below t.place J
  ·rw[if_pos h1] at e;exact T.le i j e
  ·rw[if_neg h1] at e
   by_cases h2:i=below t.place J
   ·rw[if_pos h2] at e;cases e;exact hj
   ·rw[if_neg h2] at e;exact T.le _ j e
 ·show(jT t.place (below t.place J) J).size=_
  rw[Dk _ _ _ hb,T.size]
  have hb':below t.place J≤hs.length:=by rw[←T.size];exact hb
  rw[gw,hl,fz,kY]
  omega
 ·have e:(jT t.place (below t.place J) J)[i]?=some j:=e
  rw[ix] at e
  rw[ih] at eh
  by_cases h1:i<below t.place J
  ·rw[if_pos h1] at e eh
   obtain⟨k,ek,wk⟩:=T.fnd i j h' e eh
   exact⟨k,ek,fun k' hk=>occ _ (wk k' hk)⟩
  ·rw[if_neg h1] at e eh
   by_cases h2:i=below t.place J
   ·rw[if_pos h2] at e eh
    cases e;cases eh
    exact⟨n,hJ,fun k hk=>occ _ (hway k hk)⟩
   ·rw[if_neg h2] at e eh
    obtain⟨k,ek,wk⟩:=T.fnd _ j h' e eh
    exact⟨k,ek,fun k' hk=>occ _ (wk k' hk)⟩
theorem Tb.fresh(f mv:Nat)(led:Bool):Tb (iX.fresh f mv led) []:=by
 refine⟨.inl rfl,rfl,gS.nil,fun i j e=>?_,rfl,fun i j h e=>?_⟩
 ·have e:(#[]:Array Nat)[i]?=some j:=e
  simp at e
 ·have e:(#[]:Array Nat)[i]?=some j:=e
  simp at e
end
end StT
namespace StT
local macro_rules | `(tactic| omega) => `(tactic| first | lia | omega)
open PySem PySem.SetTable
structure LC(m:Nat)(owner:Array (Option Nat))(hs:List Int):Prop where
 size:owner.size=m+1
 put:∀(r:Nat) (h:Int),hs[r]?=some h→∃j,j≤m∧owner[j]?=some (some r)∧∃n,(advN m n (start m h)).j=j∧∀k,k<n→∃r',owner[(advN m k (start m h)).j]?=some (some r')
 lt:∀j r:Nat,owner[j]?=some (some r)→r<hs.length
 inj:∀j j' r:Nat,owner[j]?=some (some r)→owner[j']?=some (some r)→j=j'
section
variable{m:Nat}{owner:Array (Option Nat)}{hs:List Int}
theorem Ig(hz:owner.size=m+1){x:Nat}(hx:x≤m):owner.getD x (some 0)=owner[x]'(by omega)∧owner[x]?=some (owner[x]'(by omega)):=by
 have hx':x<owner.size:=by omega
 exact⟨by simp[n6,hx'],by simp[hx']⟩
theorem Vk(hz:owner.size=m+1){x:Nat}(hx:x≤m)(h:(owner.getD x (some 0)).isNone=false):∃r,owner[x]?=some (some r):=by
 obtain⟨h1,h2⟩:=Ig hz hx
 rw[h1] at h
 cases e:owner[x]'(by omega) with
 |none=>rw[e] at h;cases h
 |some r=>exact⟨r,by rw[h2,e]⟩
theorem Tp(hz:owner.size=m+1){x:Nat}(hx:x≤m)(h:(owner.getD x (some 0)).isNone=true):owner[x]?=some none:=by
 obtain⟨h1,h2⟩:=Ig hz hx
 rw[h1] at h
 cases e:owner[x]'(by omega) with
 |none=>rw[h2,e]
 |some r=>rw[e] at h;cases h
theorem Lh{i q k:Nat}(hk:k≤lS m i-i):(advN m k (st m (i,q) none)).j=i+k:=by
 rw[Ib m k _ hk]
 rfl
theorem Hn(m i:Nat):i≤lS m i:=by
 unfold lS
 split<;>omega
theorem Ho(hz:owner.size=m+1){j:Nat}:∀(fuel i q:Nat),i≤m→layClean.free m owner fuel i q=some j→
  ∃n,(advN m n (st m (i,q) none)).j=j∧(∀k,k<n→∃r,owner[(advN m k (st m (i,q) none)).j]?=some (some r))∧owner[j]?=some none∧j≤m
 |0,i,q,_,e=>by simp[layClean.free] at e
 |fuel+1,i,q,hi,e=>by
  have hr:=Ep m i hi
  have hge:=Hn m i
  rw[layClean.free] at e
  cases hf:(gF (lS m i+1-i)).find? fun k=> (owner.getD (i+k) (some 0)).isNone with
  |some k=>
   rw[hf] at e
   cases e
   have hk1:(owner.getD (i+k) (some 0)).isNone=true:=by simpa using List.find?_some hf
   have hkm:k<lS m i+1-i:=gG.mp (List.mem_of_find?_eq_some hf)
   refine⟨k,Lh (by omega),fun k' hk'=>?_,Tp hz (by omega) hk1,by omega⟩
   rw[Lh (by omega)]
   refine Vk hz (by omega) ?_
   have:=List.find?_range_eq_some.mp hf
   have h3:=this.2.2 k' hk'
   simpa using h3
  |none=>
   rw[hf] at e
   have hl:(leap m i q).1≤m:=GL m 1 (i,q) hi
   obtain⟨n,h1,h2,h3⟩:=Ho hz fuel _ _ hl e
   have all:∀k,k≤lS m i-i→∃r,owner[(advN m k (st m (i,q) none)).j]?=some (some r):=fun k hk=>by
    rw[Lh hk]
    refine Vk hz (by omega) ?_
    have:=List.find?_eq_none.mp hf k (gG.mpr (by omega))
    exact Bool.eq_false_iff.mpr this
   have hleap:advN m (lS m i-i+1) (st m (i,q) none)=st m (leap m i q) none:=GK m (st m (i,q) none)
   refine⟨(lS m i-i+1)+n,?_,fun k hk=>?_,h3⟩
   ·rw[Bl,hleap]
    exact h1
   ·by_cases hk':k≤lS m i-i
    ·exact all k hk'
    ·have e2:k=(lS m i-i+1)+(k- (lS m i-i+1)):=by omega
     rw[e2,Bl,hleap]
     exact h2 _ (by omega)
theorem Hq(hz:owner.size=m+1){e:Nat}(he:owner[e]?=some none)(hem:e≤m):∀(fuel L i q:Nat),i≤m→L<fuel→(Lg m L (i,q)).1=e→layClean.free m owner fuel i q≠none
 |0,L,_,_,_,h,_=>absurd h (my _)
 |fuel+1,L,i,q,hi,hL,eL=>by
  rw[layClean.free]
  have hge:=Hn m i
  cases hf:(gF (lS m i+1-i)).find? fun k=> (owner.getD (i+k) (some 0)).isNone with
  |some k=>simp
  |none=>
   cases L with
   |zero=>
    have eL:i=e:=eL
    subst eL
    have:=List.find?_eq_none.mp hf 0 (gG.mpr (by omega))
    obtain⟨h1,h2⟩:=Ig hz hem
    rw[he] at h2
    have h2:=gZ.inj h2
    rw[Nat.add_zero,h1,←h2] at this
    exact absurd rfl this
   |succ L=>
    exact Hq hz he hem fuel L _ _ (GL m 1 (i,q) hi) (by omega) eL
noncomputable def EK(m:Nat)(acc:Option (Array (Option Nat)×Nat))(h:Int):Option (Array (Option Nat)×Nat):=do
 let(owner,k)←acc
 let j←layClean.free m owner (turns m) (bits h%(m+1)) (bits h)
 pure (owner.setIfInBounds j (some k),k+1)
theorem KC(m:Nat)(hs:Array Int):layClean m hs=(hs.toList.foldl (EK m) (some (ph (m+1) none,0))).map (·.1):=by
 unfold layClean
 rw[Array.foldl_toList]
 rfl
theorem LC.room(c:LC m owner hs)(h:hs.length≤m):∃e,e≤m∧owner[e]?=some none:=by
 apply jy
 intro hn
 have all:∀e,e≤m→∃r,owner[e]?=some (some r):=fun e he=>by
  have hz:=c.size
  cases q:owner[e]'(by omega) with
  |none=>exact absurd ⟨e,he,by rw[←q];simp[show e<owner.size by omega]⟩ hn
  |some r=>exact⟨r,by rw[←q];simp[show e<owner.size by omega]⟩
 have hf:∀e,∃r,e≤m→owner[e]?=some (some r):=fun e=>by
  by_cases he:e≤m
  ·obtain⟨r,hr⟩:=all e he;exact⟨r,fun _=>hr⟩
  ·exact⟨0,fun z=>absurd z he⟩
 obtain⟨f,hf⟩:=Classical.axiomOfChoice hf
 have hl:=CS hs.length ((gF (m+1)).map f) (by
  refine om f (R:=fun a b=>a≠b∧a≤m∧b≤m) (fun a b hab e=>?_) ?_
  ·have h1:=hf a hab.2.1
   have h2:=hf b hab.2.2
   rw[e] at h1
   exact hab.1 (c.inj a b _ h1 h2)
  ·refine iG (fun{a b} ha hb h=> ⟨gL h,?_,?_⟩) (ke (n:=m+1))
   ·have:=gG.mp ha;omega
   ·have:=gG.mp hb;omega) (fun x hx=>by
  obtain⟨e,he,rfl⟩:=gc.mp hx
  exact c.lt e _ (hf e (by have:=gG.mp he;omega)))
 rw[e8,iL] at hl
 omega
theorem LC.step(hm:Bm m)(c:LC m owner hs)(hl:hs.length≤m)(h:Int):∃o',EK m (some (owner,hs.length)) h=some (o',hs.length+1)∧LC m o' (hs++[h]):=by
 obtain⟨e,he,hne⟩:=c.room hl
 have hb:bits h%(m+1)≤m:=by have:=qd (bits h) (show 0<m+1 by omega);omega
 obtain⟨L,hL,eL⟩:=Vi hm (x:=(bits h%(m+1),bits h)) hb (ND h) he
 have hs':=Hq c.size hne he (turns m) L _ _ hb (by unfold turns;omega) eL
 cases hf:layClean.free m owner (turns m) (bits h%(m+1)) (bits h) with
 |none=>exact absurd hf hs'
 |some j=>
  obtain⟨n,h1,h2,h3,h4⟩:=Ho c.size _ _ _ hb hf
  have hj:j<owner.size:=by rw[c.size];omega
  refine⟨owner.setIfInBounds j (some hs.length),?_,?_⟩
  ·unfold EK
   show(layClean.free m owner (turns m) (bits h%(m+1)) (bits h)>>=_)=_
   rw[hf]
   rfl
  ·have at_:∀x:Nat,(owner.setIfInBounds j (some hs.length))[x]?=if x=j then some (some hs.length) else owner[x]?:=fun x=>by
    rw[Array.getElem?_setIfInBounds]
    by_cases hx:x=j
    ·subst hx;simp[hj]
    ·rw[if_neg (Ne.symm hx),if_neg hx]
   have occ:∀x r:Nat,owner[x]?=some (some r)→∃r',(owner.setIfInBounds j (some hs.length))[x]?=some (some r'):=fun x r hr=>by
    rw[at_]
    by_cases hx:x=j
    ·exact⟨_,if_pos hx⟩
    ·exact⟨r,by rw[if_neg hx];exact hr⟩
   refine⟨by simpa using c.size,fun r h' e'=>?_,fun x r hr=>?_,fun x y r hx hy=>?_⟩
   ·by_cases hr:r<hs.length
    ·rw[ic hr] at e'
     obtain⟨x,q1,q2,n',q3,q4⟩:=c.put r h' e'
     refine⟨x,q1,?_,n',q3,fun k hk=>?_⟩
     ·rw[at_,if_neg];exact q2
      rintro rfl
      rw[h3] at q2;cases q2
     ·obtain⟨r',hr'⟩:=q4 k hk
      exact occ _ r' hr'
    ·rw[gN (by omega)] at e'
     have hr0:r-hs.length=0:=by
      have:=(gh.mp e').1
      simp at this;omega
     rw[hr0] at e'
     cases e'
     have:r=hs.length:=by omega
     subst this
     refine⟨j,h4,by rw[at_,if_pos rfl],n,h1,fun k hk=>?_⟩
     obtain⟨r',hr'⟩:=h2 k hk
     exact occ _ r' hr'
   ·rw[at_] at hr
    rw[gw]
    by_cases hx:x=j
    ·rw[if_pos hx] at hr;cases hr;simp
    ·rw[if_neg hx] at hr
     have:=c.lt x r hr
     omega
   ·rw[at_] at hx hy
    by_cases h1:x=j
    ·rw[if_pos h1] at hx
     cases hx
     by_cases h2:y=j
     ·rw[h1,h2]
     ·rw[if_neg h2] at hy
      exact absurd (c.lt y _ hy) (iQ _)
    ·rw[if_neg h1] at hx
     by_cases h2:y=j
     ·rw[if_pos h2] at hy
      cases hy
      exact absurd (c.lt x _ hx) (iQ _)
     ·rw[if_neg h2] at hy
      exact c.inj x y r hx hy
theorem LC.steps(hm:Bm m):∀(rest hs:List Int) (owner:Array (Option Nat)),LC m owner hs→hs.length+rest.length≤m+1→∃o',rest.foldl (EK m) (some (owner,hs.length))=some (o',hs.length+rest.length)∧LC m o' (hs++rest)
 | [],hs,owner,c,_=> ⟨owner,rfl,by rw[i8];exact c⟩
 |h::rest,hs,owner,c,hl=>by
  simp only[fz] at hl
  obtain⟨o1,e1,c1⟩:=c.step hm (by omega) h
  obtain⟨o2,e2,c2⟩:=LC.steps hm rest (hs++[h]) o1 c1 (by rw[gw];simp;omega)
  refine⟨o2,?_,by rw[jB] at c2;exact c2⟩
  rw[List.foldl_cons,e1]
  have:(hs++[h]).length=hs.length+1:=by simp
  rw[this] at e2
  rw[e2]
  simp only[fz]
  congr 2
  omega
theorem KE(hm:Bm m)(hs:Array Int)(hl:hs.size≤m+1):∃owner,layClean m hs=some owner∧LC m owner hs.toList:=by
 have c0:LC m (ph (m+1) none) []:=⟨by simp,fun r h e=>by simp at e,fun j r e=>by
  rw[Array.getElem?_replicate] at e;split at e<;>simp at e,fun j j' r e=>by
  rw[Array.getElem?_replicate] at e;split at e<;>simp at e⟩
 obtain⟨o,e,c⟩:=LC.steps hm hs.toList [] _ c0 (by simpa using hl)
 refine⟨o,?_,by simpa using c⟩
 rw[KC]
 have e':hs.toList.foldl (EK m) (some (ph (m+1) none,0))=_:=e
 rw[e']
 rfl
end
end StT
namespace StT
open PySem PySem.SetTable
section
variable{m:Nat}
theorem Tq(hm:Bm m)(hs:Array Int)(hl:hs.size≤m+1)(f mv:Nat)(led plain:Bool):∃t' order,laid m f mv led plain hs=some (t',order)∧t'.mask=m∧t'.led=led∧t'.plain=plain∧t'.moves=mv∧order.size=hs.size∧
  (∀i r:Nat,order[i]?=some r→r<hs.size)∧(∀i i' r:Nat,order[i]?=some r→order[i']?=some r→i=i')∧(∀r,r<hs.size→∃i:Nat,order[i]?=some r)∧Tb t' (order.toList.map fun r=>hs.getD r 0):=by
 obtain⟨owner,e,c⟩:=KE hm hs hl
 generalize hlive:(gF (m+1)).filterMap (fun j=> (owner.getD j none).map (j,·))=live
 have mem:∀j r,(j,r)∈live↔j≤m∧owner[j]?=some (some r):=fun j r=>by
  rw[←hlive,jX]
  constructor
  ·rintro⟨x,hx,ex⟩
   have hx:=gG.mp hx
   have hxo:x<owner.size:=by rw[c.size];exact hx
   have eg:owner.getD x none=owner[x]:=by simp[n6,hxo]
   rw[eg] at ex
   cases q:owner[x] with
   |none=>rw[q] at ex;cases ex
   |some r'=>
    rw[q] at ex
    cases ex
    exact⟨by omega,by rw[←q];simp[hxo]⟩
  ·rintro⟨h1,h2⟩
   obtain⟨hxo,q⟩:=iJ.mp h2
   refine⟨j,gG.mpr (by omega),?_⟩
   have eg:owner.getD j none=owner[j]:=by simp[n6,hxo]
   rw[eg,q]
   rfl
 have pw:live.Pairwise fun a b=>a.1<b.1:=by
  rw[←hlive,List.pairwise_filterMap]
  refine gS.imp (fun{a b} h x hx y hy=>?_) (ke (n:=m+1))
  cases q1:owner.getD a none with
  |none=>rw[q1] at hx;cases hx
  |some r1=>
   cases q2:owner.getD b none with
   |none=>rw[q2] at hy;cases hy
   |some r2=>
    rw[q1] at hx;rw[q2] at hy
    cases hx;cases hy
    exact h
 have lt:∀j r,(j,r)∈live→r<hs.size:=fun j r h=>by have:=c.lt j r ((mem j r).mp h).2;simpa using this
 have pwr:live.Pairwise fun a b=>a.2≠b.2:=by
  refine iG (fun{a b} ha hb h e=>?_) pw
  obtain⟨a1,a2⟩:=a
  obtain⟨b1,b2⟩:=b
  have h1:=(mem _ _).mp ha
  have h2:=(mem _ _).mp hb
  have e:a2=b2:=e
  subst e
  have:=c.inj _ _ _ h1.2 h2.2
  have h:a1<b1:=h
  omega
 have nd:(live.map (·.2)).Nodup:=om _ (fun _ _ h=>h) pwr
 have all:∀r,r<hs.size→∃j,(j,r)∈live:=fun r hr=>by
  obtain⟨j,h1,h2,_⟩:=c.put r (hs[r]) (by simp[hr])
  exact⟨j,(mem j r).mpr ⟨h1,h2⟩⟩
 have len:live.length=hs.size:=by
  apply Nat.le_antisymm
  ·have:=CS hs.size (live.map (·.2)) nd fun x hx=>by
    obtain⟨⟨j,r⟩,h1,rfl⟩:=gc.mp hx
    exact lt j r h1
   simpa using this
  ·have:=Le hs.size (live.map (·.2)) fun r hr=>by
    obtain⟨j,hj⟩:=all r hr
    exact gc.mpr ⟨_,hj,rfl⟩
   simpa using this
 refine⟨{mask:=m,place:=(live.map (·.1)).toArray,dummies:=#[],finger:=f,led:=led,moves:=mv,plain:=plain},(live.map (·.2)).toArray,?_,rfl,rfl,rfl,rfl,by simpa using len,fun i r h=>?_,fun i i' r h h'=>?_,fun r hr=>?_,?_⟩
 ·unfold laid
  rw[e]
  show some _=some _
  rw[hlive]
 ·have h:(live.map (·.2))[i]?=some r:=by simpa using h
  rw[fq] at h
  cases q:live[i]? with
  |none=>rw[q] at h;cases h
  |some x=>rw[q] at h;cases h;exact lt x.1 x.2 (fo q)
 ·have h:(live.map (·.2))[i]?=some r:=by simpa using h
  have h':(live.map (·.2))[i']?=some r:=by simpa using h'
  obtain⟨l1,e1⟩:=gh.mp h
  obtain⟨l2,e2⟩:=gh.mp h'
  rcases jQ i i' with hlt|heq|hgt
  ·exact absurd (e1.trans e2.symm) (iO.mp nd i i' l1 l2 hlt)
  ·exact heq
  ·exact absurd (e2.trans e1.symm) (iO.mp nd i' i l2 l1 hgt)
 ·obtain⟨j,hj⟩:=all r hr
  obtain⟨i,hi⟩:=iA hj
  exact⟨i,by simp[hi]⟩
 ·have at_:∀i j:Nat,(live.map (·.1)).toArray[i]?=some j→∃r,live[i]?=some (j,r):=fun i j h=>by
   have h:(live.map (·.1))[i]?=some j:=by simpa using h
   rw[fq] at h
   cases q:live[i]? with
   |none=>rw[q] at h;cases h
   |some x=>
    rw[q] at h
    cases h
    exact⟨x.2,rfl⟩
  refine⟨hm,rfl,?_,fun i j h=>?_,by simp,fun i j h e1 e2=>?_⟩
  ·show(live.map (·.1)).toArray.toList.Pairwise (· < ·)
   exact om _ (fun _ _ h=>h) pw
  ·obtain⟨r,hr⟩:=at_ i j h
   exact((mem j r).mp (fo hr)).1
  ·obtain⟨r,hr⟩:=at_ i j e1
   have hrlt:=lt j r (fo hr)
   have e2:((live.map (·.2)).map fun r=>hs.getD r 0)[i]?=some h:=by simpa using e2
   rw[fq,fq,hr] at e2
   have e2:hs.getD r 0=h:=gZ.inj e2
   have eh:hs.toList[r]?=some h:=by
    rw[←e2]
    simp[n6,hrlt]
   obtain⟨j2,q1,q2,n,q3,q4⟩:=c.put r h eh
   have ej:=c.inj j2 j r q2 ((mem j r).mp (fo hr)).2
   subst ej
   refine⟨n,q3,fun k hk=>?_⟩
   obtain⟨r',hr'⟩:=q4 k hk
   have hk':(advN m k (start m h)).j≤m:=(Pr.start m h).advN.j
   obtain⟨i',hi'⟩:=iA ((mem _ r').mpr ⟨hk',hr'⟩)
   refine⟨i',?_⟩
   show(live.map (·.1)).toArray[i']?=_
   simp[hi']
theorem OW{n:Nat}(h:Bm m)(h1:n*5<m*3)(h2:m*3≤(n+1)*5)(h3:n<300):Bm (pN (grown (n+1))-1)∧n+1≤pN (grown (n+1))-1∧(n+1)*5< (pN (grown (n+1))-1)*3∧pN (grown (n+1))≤512:=by
 rcases h with rfl|rfl|rfl|rfl
 ·have:n=4:=by omega
  subst this
  refine⟨.inr (.inl (by decide)),by decide,by decide,by decide⟩
 ·have:n=18:=by omega
  subst this
  refine⟨.inr (.inr (.inl (by decide))),by decide,by decide,by decide⟩
 ·have:n=76:=by omega
  subst this
  refine⟨.inr (.inr (.inr (by decide))),by decide,by decide,by decide⟩
 ·omega
theorem Cg{α:Type}(es:Array α):∀(l:List Nat),(∀r∈l,r<es.size)→∀i:Nat,(l.filterMap fun r=>es[r]?)[i]?=(l[i]?).bind fun r=>es[r]?
 | [],_,i=>by simp
 |r::l,h,i=>by
  have hr:=h r gC
  have e:es[r]?=some es[r]:=by simp[hr]
  rw[i7,e]
  cases i with
  |zero=>simp
  |succ i=>
   simp only[kZ]
   exact Cg es l (fun x hx=>h x (fk _ hx)) i
theorem CB{α:Type}(es:Array α):∀(l:List Nat),(∀r∈l,r<es.size)→(l.filterMap fun r=>es[r]?).length=l.length
 | [],_=>rfl
 |r::l,h=>by
  have hr:=h r gC
  have e:es[r]?=some es[r]:=by simp[hr]
  rw[i7,e]
  simp[CB es l (fun x hx=>h x (fk _ hx))]
end
open PyProof.Rows
section
variable{prog:Program}{w:World}{A:gx}{E:Value→Shared→Prop}{s:Shared}
noncomputable abbrev IK(prog:Program)(w:World)(h:Heap)(k:List Int)(a:Addr):Prop:=IsTupleKey (intKind prog w) h k a
noncomputable abbrev tk(prog:Program)(w:World):HeapKind prog w (List Int):=tupleKind (intKind prog w)
theorem Er{n:Int}{v:Value}(h:(intKind prog w).is n v=true):∃t,v=.int n t:=by
 cases v with
 |int m t=>
  have h2:(intKind prog w).is m (.int m t)=true:=intKind_is _ _ _ _
  have e:=(intKind prog w).inj _ _ _ h h2
  subst e
  exact⟨t,rfl⟩
 |_=>exact absurd h (by simp[intKind,Value.isInt])
theorem GM{ks:List Int}{vs:List Value}(h:ItemsAre (intKind prog w) ks vs):∀v∈vs,∃n t,v=.int n t:=by
 induction h with
 |nil=>intro v hv;simp at hv
 |cons h1 _ ih=>
  intro v hv
  rcases fu.mp hv with rfl|hv
  ·obtain⟨t,e⟩:=Er h1
   exact⟨_,t,e⟩
  ·exact ih v hv
theorem aK{k:List Int}{a:Addr}{Q:Bool→Shared→Prop}(hk:IK prog w s.heap k a)(h:Q true s):wpAny (model prog w) A (hashByValue 8 (.ref a)) Q E s:=by
 have hT:=hk.typeIs
 obtain⟨o,items,n,ho,_,hd,hi⟩:=hk
 have hints:=GM hi
 unfold hashByValue
 refine a8 (wpAny_specialOf hT PySem.F.slot_tuple_hash.lookup ?_)
 dsimp only
 refine a8 (mL ho hd ?_)
 show wpAny _ _ ((forIn items _ _)>>=_) _ _ s
 rw[←Array.forIn_toList]
 refine a8 (mX _ (fun rest r s'=>r.1=none∧s'=s∧∀v∈rest,∃n t,v=Value.int n t) _ ?_ ?_ _ _ ⟨rfl,rfl,hints⟩)
 ·rintro v rest r s' ⟨hr,rfl,hall⟩
  obtain⟨n,t,rfl⟩:=hall v gC
  refine a8 (b8 ?_)
  simp only[lO,gD,if_false]
  exact b8 ⟨rfl,rfl,fun u hu'=>hall u (fk _ hu')⟩
 ·rintro⟨r1,r2⟩ s' ⟨hr,rfl,_⟩
  simp only at hr
  subst hr
  exact b8 h
theorem NF{k:List Int}{a:Addr}{Q:Bool→Shared→Prop}(hk:IK prog w s.heap k a)(h:Q false s):wpAny (model prog w) A (oa 8 (.ref a)) Q E s:=by
 have hT:=hk.typeIs
 obtain⟨o,items,n,ho,hc,hd,hi⟩:=hk
 have hints:=GM hi
 unfold oa
 refine a8 (lY hT ?_)
 dsimp only
 rw[if_pos (by decide)]
 refine a8 (b8 ?_)
 simp only[lO,gD,if_false]
 refine a8 (mL ho hd ?_)
 show wpAny _ _ ((forIn items _ _)>>=_) _ _ s
 rw[←Array.forIn_toList]
 refine a8 (mX _ (fun rest r s'=>r.1=none∧s'=s∧∀v∈rest,∃n t,v=Value.int n t) _ ?_ ?_ _ _ ⟨rfl,rfl,hints⟩)
 ·rintro v rest r s' ⟨hr,rfl,hall⟩
  obtain⟨n,t,rfl⟩:=hall v gC
  unfold oa
  refine a8 (b8 ?_)
  simp only[gD,if_false]
  exact b8 ⟨rfl,rfl,fun u hu'=>hall u (fk _ hu')⟩
 ·rintro⟨r1,r2⟩ s' ⟨hr,rfl,_⟩
  simp only at hr
  subst hr
  exact b8 h
theorem Tr{k:List Int}{a:Addr}{Q:Bool→Shared→Prop}{l:List Value}(hk:IK prog w s.heap k a)(hl:∀v∈l,∃k' b,v=.ref b∧IK prog w s.heap k' b)(h:Q false s):wpAny (model prog w) A (searchCouldBeSeen (.ref a) l) Q E s:=by
 unfold searchCouldBeSeen
 refine a8 (mX _ (fun rest r s'=>r.1=none∧s'=s∧∀v∈rest,∃k' b,v=Value.ref b∧IK prog w s.heap k' b) _ ?_ ?_ _ _ ⟨rfl,rfl,hl⟩)
 ·rintro v rest r s' ⟨hr,rfl,hall⟩
  obtain⟨k',b,rfl,hb⟩:=hall v gC
  have go:∀u∈rest,∃k' b,u=Value.ref b∧IK prog w s'.heap k' b:=fun u hu'=>hall u (fk _ hu')
  dsimp only
  split
  ·exact b8 ⟨rfl,rfl,go⟩
  ·refine a8 (wpAny_eqIsQuiet_tuple hk ?_)
   simp only[lO,gD,if_false]
   refine a8 (wpAny_eqIsQuiet_tuple hb ?_)
   simp only[lO,gD,if_false]
   refine a8 (NF hk ?_)
   simp only[gD,if_false]
   refine a8 (NF hb ?_)
   simp only[gD,if_false]
   exact b8 ⟨rfl,rfl,go⟩
 ·rintro⟨r1,r2⟩ s' ⟨hr,rfl,_⟩
  simp only at hr
  subst hr
  exact b8 h
end
local macro_rules | `(tactic| omega) => `(tactic| first | lia | omega)
open PySem PySem.SetTable PyProof.Rows
section
variable{prog:Program}{w:World}{A:gx}{E:Value→Shared→Prop}{s:Shared}
noncomputable def OX(xs:List (List Int×Addr))(prog:Program)(w:World):List (Int×Value):=xs.map fun p=> ((tk prog w).hash p.1,Value.ref p.2)
structure SetD(prog:Program)(w:World)(h:Heap)(a:Addr)(xs:List (List Int×Addr))(o:Obj)(es:Array (Int×Value))(ep:Nat)(t:iX):Prop where
 get:h.get? a=some o
 ex:o.ExactSet
 dat:o.data=.set es ep t
 es:es.toList=OX xs prog w
 key:∀(i:Nat) (k:List Int) (x:Addr),xs[i]?=some (k,x)→IK prog w h k x
 nd:(xs.map (·.1)).Nodup
 tb:Tb t (xs.map fun p=> (tk prog w).hash p.1)
 pl:t.plain=true
 room:xs.length*5<t.mask*3
 led:t.led=!w.params.followText "set-order"
variable{a:Addr}{xs:List (List Int×Addr)}{o:Obj}{es:Array (Int×Value)}{ep:Nat}{t:iX}
theorem SetD.size(S:SetD prog w s.heap a xs o es ep t):es.size=xs.length:=by
 rw[←fw,S.es];simp[OX]
theorem SetD.fits(S:SetD prog w s.heap a xs o es ep t):t.fits es.size=true:=by
 have h1:=S.tb.size
 have h2:=S.room
 have h3:t.fill=t.place.size:=by unfold pW;rw[S.tb.dum];rfl
 rw[e8] at h1
 unfold iX.fits
 rw[h3,S.size,h1]
 simp only[beq_self_eq_true,p8,decide_eq_true_eq]
 omega
theorem SetD.len(S:SetD prog w s.heap a xs o es ep t):(xs.map fun p=> (tk prog w).hash p.1).length≤t.mask:=by
 have:=S.room
 rw[e8];omega
theorem SetD.at(S:SetD prog w s.heap a xs o es ep t){i:Nat}{k:List Int}{x:Addr}(h:xs[i]?=some (k,x)):es[i]?=some ((tk prog w).hash k,.ref x):=by
 have:es[i]?=es.toList[i]?:=by simp
 rw[this,S.es,OX,fq,h]
 rfl
theorem SetD.of_at(S:SetD prog w s.heap a xs o es ep t){i:Nat}(h:i<xs.length):∃k x,xs[i]?=some (k,x):=⟨_,_,by simp[h];rfl⟩
noncomputable abbrev Ff:Array (Int×Value)→Nat→Int:=PySem.W.hashAt
theorem SetD.hash(S:SetD prog w s.heap a xs o es ep t){i:Nat}{k:List Int}{x:Addr}(h:xs[i]?=some (k,x)):Ff es i=(tk prog w).hash k:=by
 show((es[i]?).map jw).getD 0=_
 rw[S.at h]
 rfl
theorem KG(S:SetD prog w s.heap a xs o es ep t)(hu:A.units<cLine){k:List Int}{x:Addr}(hk:IK prog w s.heap k x){Q:SetFound→Shared→Prop}
  (hT:∀(i:Nat) (y:Addr),xs[i]?=some (k,y)→Q (.there none) s)
  (hF:(∀(i:Nat) (y:Addr),xs[i]?≠some (k,y))→∀n,¬Jz t (advN t.mask n (start t.mask ((tk prog w).hash k))).j→(∀c,c<n→Jz t (advN t.mask c (start t.mask ((tk prog w).hash k))).j)→Q (.free (advN t.mask n (start t.mask ((tk prog w).hash k))).j false) s):
  ∀(fuel c:Nat) (stand:Option Probe),stand.getD (t.probeStart ((tk prog w).hash k))=advN t.mask c (start t.mask ((tk prog w).hash k))→
   (∀c',c'<c→Jz t (advN t.mask c' (start t.mask ((tk prog w).hash k))).j∧∀(i:Nat) (y:Addr),t.place[i]?=some (advN t.mask c' (start t.mask ((tk prog w).hash k))).j→xs[i]?≠some (k,y))→
   (∃N,c≤N∧¬Jz t (advN t.mask N (start t.mask ((tk prog w).hash k))).j∧N-c<fuel)→
   wpAny (model prog w) A (setSearchFrom a (.ref x) ((tk prog w).hash k) true fuel stand) Q E s:=by
 intro fuel
 induction fuel with
 |zero=>rintro c stand _ _ ⟨N,_,_,h⟩;exact absurd h (my _)
 |succ fuel ih=>
  rintro c stand hst hpre ⟨N,hcN,hN,hfu⟩
  have hsz:t.place.size=xs.length:=by have:=S.tb.size;rwa[e8] at this
  unfold setSearchFrom
  refine a8 (jo S.get S.dat S.fits ?_)
  dsimp only
  have hgw:t.gaveWay=false:=by unfold iX.gaveWay;rw[S.tb.odd];rfl
  rw[hgw]
  simp only[gD,if_false]
  obtain⟨n,hn,hstop⟩:=KB S.tb S.len (p:=advN t.mask c (start t.mask ((tk prog w).hash k))) (Pr.start _ _).advN (Ff es) ((tk prog w).hash k)
  rw[hst]
  have hadd:∀m,advN t.mask m (advN t.mask c (start t.mask ((tk prog w).hash k)))=advN t.mask (c+m) (start t.mask ((tk prog w).hash k)):=fun m=> (Bl _ _ _ _).symm
  have pre2:∀c',c'<c+n→Jz t (advN t.mask c' (start t.mask ((tk prog w).hash k))).j∧∀(i:Nat) (y:Addr),t.place[i]?=some (advN t.mask c' (start t.mask ((tk prog w).hash k))).j→xs[i]?≠some (k,y):=fun c' hc'=>by
   by_cases hlt:c'<c
   ·exact hpre c' hlt
   ·obtain⟨i,h1,h2⟩:=hn (c'-c) (by omega)
    rw[hadd,show c+(c'-c)=c' by omega] at h1
    refine⟨⟨i,h1⟩,fun i' y h1' e=>?_⟩
    have:i'=i:=by
     rw[←Bj S.tb.ris h1',←Bj S.tb.ris h1]
    subst this
    exact h2 (S.hash e)
  obtain⟨met,hmet⟩:∃met,t.probe (Ff es) ((tk prog w).hash k) (advN t.mask c (start t.mask ((tk prog w).hash k)))=some met:=by
   rcases hstop with⟨_,hp⟩| ⟨_,_,_,hp⟩<;>exact⟨_,hp⟩
  split
  case h_2 heq=>exact absurd hmet (heq met)
  rename_i met' heq
  have heq:t.probe (Ff es) ((tk prog w).hash k) (advN t.mask c (start t.mask ((tk prog w).hash k)))=some met':=heq
  rcases hstop with⟨hf,hp⟩| ⟨i,h1,h2,hp⟩
  ·rw[hp] at heq
   cases heq
   dsimp only
   rw[Dn]
   show wpAny _ _ (pure _) _ _ s
   rw[hadd] at hf ⊢
   refine b8 (hF (fun i y e=>?_) (c+n) hf fun c' hc'=> (pre2 c' hc').1)
   have hi:i<xs.length:=(gh.mp e).1
   have hpl:t.place[i]?=some (t.place[i]'(by omega)):=by simp[show i<t.place.size by omega]
   obtain⟨n',e1,w1⟩:=S.tb.fnd i _ ((tk prog w).hash k) hpl (by rw[fq,e];rfl)
   by_cases hlt:n'<c+n
   ·exact(pre2 n' hlt).2 i y (by rw[e1];exact hpl) e
   ·by_cases heq:n'=c+n
    ·subst heq
     exact hf ⟨i,by rw[e1];exact hpl⟩
    ·exact hf (w1 (c+n) (by omega))
  ·rw[hp] at heq
   cases heq
   dsimp only
   rw[hadd] at h1
   have hi:i<xs.length:=by rw[←hsz];exact(iJ.mp h1).1
   obtain⟨k',y,ek⟩:=S.of_at hi
   have hky:=S.key i k' y ek
   have seen:∀v,v∈(es.filter fun e=>e.1==(tk prog w).hash k).toList.map (·.2)→∃k' b,v=Value.ref b∧IK prog w s.heap k' b:=fun v hv=>by
    obtain⟨⟨h',v'⟩,hm,rfl⟩:=gc.mp hv
    have hm:(h',v')∈es.toList:=by
     have:=hm
     simp only[Array.toList_filter] at this
     exact(gq.mp this).1
    rw[S.es,OX] at hm
    obtain⟨⟨k2,b⟩,hb,eb⟩:=gc.mp hm
    cases eb
    obtain⟨j,hj⟩:=iA hb
    exact⟨k2,b,rfl,S.key j k2 b hj⟩
   cases hled:t.led with
   |true=>
    simp only[lO,gD,if_false]
    rw[S.at ek]
    dsimp only
    refine a8 (hZ (wpAny_eqBool_tuple hu hky hk ?_))
    refine a8 (jo S.get S.dat S.fits ?_)
    dsimp only
    by_cases hkk:k'=k
    ·subst hkk
     rw[decide_eq_true rfl]
     exact b8 (hT i y ek)
    ·rw[decide_eq_false hkk]
     have hsm:t.sameMemory t.moves t.mask=some true:=by unfold iX.sameMemory;rw[if_pos (by simp)]
     rw[hsm]
     simp only[nZ,gD,if_false,if_true]
     rw[hadd,S.tb.live h1]
     dsimp only
     rw[S.at ek]
     dsimp only
     have hss:isSame (Value.ref y) (Value.ref y)=pure true:=by
      show(if(y==y)=true then _ else _)=_
      rw[if_pos (beq_self_eq_true y)]
     rw[hss]
     refine a8 (b8 ?_)
     simp only[if_true]
     refine a8 (b8 ?_)
     dsimp only
     rw[hadd]
     refine ih (c+n+1) _ rfl (fun c' hc'=>?_) ?_
     ·by_cases hlt:c'<c+n
      ·exact pre2 c' hlt
      ·have:c'=c+n:=by omega
       subst this
       refine⟨⟨i,h1⟩,fun i' y' h1' e=>?_⟩
       have:i'=i:=by
        rw[←Bj S.tb.ris h1',←Bj S.tb.ris h1]
       subst this
       rw[ek] at e
       exact hkk (congrArg jw (gZ.inj e))
     ·have hle:c+n<N:=by
       rcases jQ (c+n) N with hlt|heq|hgt
       ·exact hlt
       ·exact absurd ⟨i,by rw[←heq];exact h1⟩ hN
       ·exact absurd (pre2 N hgt).1 hN
      exact⟨N,by omega,hN,by omega⟩
   |false=>
    simp only[nX,if_true]
    refine a8 (Tr hk seen ?_)
    simp only[gD,if_false]
    rw[S.at ek]
    dsimp only
    refine a8 (hZ (wpAny_eqBool_tuple hu hky hk ?_))
    refine a8 (jo S.get S.dat S.fits ?_)
    dsimp only
    by_cases hkk:k'=k
    ·subst hkk
     rw[decide_eq_true rfl]
     exact b8 (hT i y ek)
    ·rw[decide_eq_false hkk]
     have hsm:t.sameMemory t.moves t.mask=some true:=by unfold iX.sameMemory;rw[if_pos (by simp)]
     rw[hsm]
     simp only[nZ,gD,if_false,if_true]
     rw[hadd,S.tb.live h1]
     dsimp only
     rw[S.at ek]
     dsimp only
     have hss:isSame (Value.ref y) (Value.ref y)=pure true:=by
      show(if(y==y)=true then _ else _)=_
      rw[if_pos (beq_self_eq_true y)]
     rw[hss]
     refine a8 (b8 ?_)
     simp only[if_true]
     refine a8 (b8 ?_)
     dsimp only
     rw[hadd]
     refine ih (c+n+1) _ rfl (fun c' hc'=>?_) ?_
     ·by_cases hlt:c'<c+n
      ·exact pre2 c' hlt
      ·have:c'=c+n:=by omega
       subst this
       refine⟨⟨i,h1⟩,fun i' y' h1' e=>?_⟩
       have:i'=i:=by
        rw[←Bj S.tb.ris h1',←Bj S.tb.ris h1]
       subst this
       rw[ek] at e
       exact hkk (congrArg jw (gZ.inj e))
     ·have hle:c+n<N:=by
       rcases jQ (c+n) N with hlt|heq|hgt
       ·exact hlt
       ·exact absurd ⟨i,by rw[←heq];exact h1⟩ hN
       ·exact absurd (pre2 N hgt).1 hN
      exact⟨N,by omega,hN,by omega⟩
end
end StT
namespace StT
local macro_rules | `(tactic| omega) => `(tactic| first | lia | omega)
open PySem PySem.SetTable PyProof.Rows
section
variable{prog:Program}{w:World}{A:gx}{E:Value→Shared→Prop}{s:Shared}
variable{a:Addr}{xs:List (List Int×Addr)}{o:Obj}{es:Array (Int×Value)}{ep:Nat}{t:iX}
noncomputable def SetX(prog:Program)(w:World)(h:Heap)(a:Addr)(xs:List (List Int×Addr)):Prop:=∃o es ep t,SetD prog w h a xs o es ep t
theorem QS{h:Heap}{k:List Int}{x:Addr}(hk:IK prog w h k x)(hg:h.get? a=some o)(he:o.ExactSet):x≠a:=by
 rintro rfl
 obtain⟨o',items,n,ho,hc,_⟩:=hk
 rw[hg] at ho
 cases ho
 rw[he.1] at hc
 exact absurd hc (by decide)
theorem Ci{h h':Heap}{k:List Int}{x:Addr}(hk:IK prog w h k x)(hs:∀u,h.get? x=some u→h'.get? x=some u):IK prog w h' k x:=by
 obtain⟨o',items,n,ho,hc,hd,hi⟩:=hk
 exact⟨o',items,n,hs _ ho,hc,hd,hi⟩
theorem Hr(hg:s.heap.get? a=some o)(hd:o.data=.set es ep t)(es':Array (Int×Value))(t':iX):(s.heap.update a (nS es' t')).get? a=some {o with data:=.set es' (ep+1) t'}:=by
 have:=lP (nS es' t') hg (by rw[putSet_of es' t' hd];rfl)
 rw[putSet_of es' t' hd] at this;exact this
theorem Li:(OX xs prog w).length=xs.length:=by simp[OX]
theorem QT{n:Nat}(hg:s.heap.get? a=some o)(he:o.ExactSet)(hd:o.data=.set es ep t)(hes:es.toList=OX xs prog w)(hkey:∀(i:Nat) (k:List Int) (x:Addr),xs[i]?=some (k,x)→IK prog w s.heap k x)
  (hnd:(xs.map (·.1)).Nodup) (htb:Tb t (xs.map fun p=> (tk prog w).hash p.1)) (hpl:t.plain=true) (hled:t.led=!w.params.followText "set-order") (hn:xs.length=n+1) (h1:n*5<t.mask*3) (h2:t.mask*3≤(n+1)*5) (h3:n<300) {Q:Unit→Shared→Prop}
  (h:∀h' xs',lD a s.heap h'→SetX prog w h' a xs'→(∀p,p∈xs'↔p∈xs)→xs'.length=xs.length→Q () {s with heap:=h'}):wpAny (model prog w) A (setRelay a (grown (n+1))) Q E s:=by
 obtain⟨m1,m2,m3,m4⟩:=OW htb.mask h1 h2 h3
 have hsz:es.size=n+1:=by rw[←fw,hes,Li,hn]
 have hfill:t.fill=t.place.size:=by unfold pW;rw[htb.dum];rfl
 have hps:t.place.size=n+1:=by have:=htb.size;rw[e8,hn] at this;exact this
 have hlow:=htb.low
 have hfit:t.fits es.size=true:=by
  unfold iX.fits
  rw[hfill,hsz,hps]
  simp only[beq_self_eq_true,p8,decide_eq_true_eq]
  omega
 unfold setRelay
 refine a8 (jo hg hd hfit ?_)
 dsimp only
 rw[if_neg (by rw[iH];omega)]
 refine a8 ?_
 obtain⟨t',order,el,q1,q2,q3,q4,q5,q6,q7,q8,q9⟩:=Tq m1 (es.map (·.1)) (by rw[Array.size_map,hsz];omega) t.finger (t.movedTo (pN (grown (n+1))-1)) t.led t.plain
 rw[Array.size_map] at q5 q6 q8
 have el':t.relaid (es.map (·.1)) (grown (n+1))=some (t',order):=el
 rw[el']
 have hfm:(order.filterMap (es[·]?)).toList=order.toList.filterMap fun r=>es[r]?:=by simp
 have hmem:∀r∈order.toList,r<es.size:=fun r hr=>by
  obtain⟨i,hi⟩:=iA hr
  exact q6 i r (by simpa using hi)
 have hes':(order.filterMap (es[·]?)).size=es.size:=by
  rw[←fw,hfm,CB es _ hmem,fw,q5]
 show wpAny _ _ (if((order.filterMap fun r=>es[r]?).size !=es.size)=true then _ else pure (order.filterMap fun r=>es[r]?,t')) _ _ s
 rw[if_neg (by rw[hes'];simp)]
 refine b8 ?_
 dsimp only
 refine wpAny_storeSet_of hg hd ?_ (by rw[hes',hsz,iH];omega)
 generalize hE:order.filterMap (es[·]?)=es' at*
 have hxs:∀r,r<es.size→∃p,xs[r]?=some p:=fun r hr=> ⟨_,by simp[show r<xs.length by rw[hn];omega];rfl⟩
 have hfx:(order.toList.filterMap fun r=>xs[r]?).length=es.size:=by
  have:=CB xs.toArray order.toList (fun r hr=>by rw[gj,hn];have:=hmem r hr;omega)
  simp only[List.getElem?_toArray] at this
  rw[this,fw,q5]
 have at_:∀i:Nat,(order.toList.filterMap fun r=>xs[r]?)[i]?=(order.toList[i]?).bind fun r=>xs[r]?:=fun i=>by
  have:=Cg xs.toArray order.toList (fun r hr=>by rw[gj,hn];have:=hmem r hr;omega) i
  simpa only[List.getElem?_toArray] using this
 have mem:∀p,p∈(order.toList.filterMap fun r=>xs[r]?)↔p∈xs:=fun p=>by
  rw[jX]
  constructor
  ·rintro⟨r,_,e⟩;exact fo e
  ·intro hp
   obtain⟨r,hr⟩:=iA hp
   have hrl:r<es.size:=by rw[hsz,←hn];exact(gh.mp hr).1
   obtain⟨i,hi⟩:=q8 r hrl
   exact⟨r,fo (i:=i) (by simpa using hi),hr⟩
 have hesx:∀i:Nat,es[i]?=(xs[i]?).map fun p=> ((tk prog w).hash p.1,Value.ref p.2):=fun i=>by
  have:es[i]?=es.toList[i]?:=by simp
  rw[this,hes,OX,fq]
 refine h _ (order.toList.filterMap fun r=>xs[r]?) (nD ..) ⟨_,es',ep+1,t',⟨Hr hg hd es' t',he,rfl,?_,fun i k x e=>?_,?_,?_,?_,?_,?_⟩⟩ mem (by rw[hfx,hsz,hn])
 ·apply jA
  intro i
  rw[hfm,Cg es _ hmem,OX,fq,at_]
  cases order.toList[i]? with
  |none=>rfl
  |some r=>exact hesx r
 ·have hp:(k,x)∈xs:=(mem _).mp (fo e)
  obtain⟨r,hr⟩:=iA hp
  have ik:=hkey r k x hr
  exact Ci ik fun u hu=> ((nD s.heap a (nS es' t')).2 x (QS ik hg he)).trans hu
 ·rw[iI]
  refine iO.mpr fun i j hi hj hij e=>?_
  rw[e8] at hi hj
  have e1:=at_ i
  have e2:=at_ j
  rw[gm hi] at e1
  rw[gm hj] at e2
  rw[m9,m9] at e
  cases r1:order.toList[i]? with
  |none=>rw[r1] at e1;cases e1
  |some r=>
   cases r2:order.toList[j]? with
   |none=>rw[r2] at e2;cases e2
   |some r'=>
    rw[r1] at e1
    rw[r2] at e2
    have e1:xs[r]?=some _:=e1.symm
    have e2:xs[r']?=some _:=e2.symm
    obtain⟨l1,g1⟩:=gh.mp e1
    obtain⟨l2,g2⟩:=gh.mp e2
    have ee:(xs.map (·.1))[r]'(by simpa using l1)=(xs.map (·.1))[r']'(by simpa using l2):=by rw[m9,m9,g1,g2];exact e
    have nd:=iI.mp hnd
    have:r=r':=by
     rcases jQ r r' with hlt|heq|hgt
     ·exact absurd ee (iO.mp nd r r' _ _ hlt)
     ·exact heq
     ·exact absurd ee.symm (iO.mp nd r' r _ _ hgt)
    subst this
    have:=q7 i j r (by simpa using r1) (by simpa using r2)
    omega
 ·have:(order.toList.filterMap fun r=>xs[r]?).map (fun p=> (tk prog w).hash p.1)=order.toList.map fun r=> (es.map (·.1)).getD r 0:=by
   apply jA
   intro i
   rw[fq,at_,fq]
   cases hr:order.toList[i]? with
   |none=>rfl
   |some r=>
    have hrl:=hmem r (fo hr)
    obtain⟨p,hp⟩:=hxs r hrl
    show(xs[r]?).map _=some ((es.map (·.1)).getD r 0)
    rw[hp]
    have e3:=hesx r
    rw[hp] at e3
    obtain⟨l,g⟩:=iJ.mp e3
    simp[n6,hrl,g]
  rw[this]
  exact q9
 ·rw[q3];exact hpl
 ·rw[hfx,hsz,q1];exact m3
 ·rw[q2];exact hled
end
end StT
namespace StT
local macro_rules | `(tactic| omega) => `(tactic| first | lia | omega)
open PySem PySem.SetTable PyProof.Rows
section
variable{prog:Program}{w:World}{A:gx}{E:Value→Shared→Prop}{s:Shared}
variable{a:Addr}{xs:List (List Int×Addr)}{o:Obj}{es:Array (Int×Value)}{ep:Nat}{t:iX}
theorem XX(S:SetX prog w s.heap a xs)(hu:A.units<cLine){k:List Int}{x:Addr}(hk:IK prog w s.heap k x)(hl:xs.length<300){Q:Bool→Shared→Prop}
  (hT:∀y,(k,y)∈xs→Q false s)
  (hF:(∀y,(k,y)∉xs)→∀h' xs',lD a s.heap h'→SetX prog w h' a xs'→(∀p,p∈xs'↔p∈xs∨p=(k,x))→xs'.length=xs.length+1→Q true {s with heap:=h'}):
  wpAny (model prog w) A (setAddHashed a (.ref x) ((tk prog w).hash k)) Q E s:=by
 obtain⟨o,es,ep,t,S⟩:=S
 unfold setAddHashed setAddHashedIn
 refine hZ (a8 (jo S.get S.dat S.fits ?_))
 dsimp only
 have hbs:byScan (.ref x) es=false:=rfl
 rw[hbs]
 simp only[gD,if_false]
 obtain⟨e,he,hne⟩:=S.tb.room S.len
 obtain⟨N,hN,eN⟩:=Vj S.tb.mask (Pr.start t.mask ((tk prog w).hash k)) he
 have hm511:t.mask≤511:=by rcases S.tb.mask with h|h|h|h<;>omega
 refine a8 (KG S hu hk (fun i y e=>?_) (fun hno n hf hw=>?_) 100000 0 none (QP t _) (fun c hc=>absurd hc (my _)) ⟨N,ip _,by rw[eN];exact hne,by omega⟩)
 ·dsimp only
  exact b8 (hT y (fo e))
 ·dsimp only
  refine a8 (jo S.get S.dat S.fits ?_)
  dsimp only
  obtain⟨p1,p2,p3,p4,p5,p6⟩:=S.tb.put hf hw
  generalize hJ:(advN t.mask n (start t.mask ((tk prog w).hash k))).j=J at*
  generalize hput:t.put J=tp at*
  obtain⟨t1,q⟩:=tp
  dsimp only at p1 p2 p3 p4 p5 p6 ⊢
  rw[e8] at p2
  rw[p4,S.pl]
  simp only[if_true]
  refine a8 (aK hk ?_)
  simp only[if_true]
  refine a8 (wpAny_storeSet_of S.get S.dat ?_ (by
   rw[Dk _ _ _ (by rw[S.size];exact p2),S.size,iH];omega))
  have hes1:(jT es q ((tk prog w).hash k,.ref x)).toList=OX (xs.take q++(k,x)::xs.drop q) prog w:=by
   rw[BH,S.es]
   simp[OX]
  have hmem:∀p,p∈xs.take q++(k,x)::xs.drop q↔p∈xs∨p=(k,x):=fun p=>by
   rw[gu,fu]
   constructor
   ·rintro(h|h|h)
    ·exact .inl (lV h)
    ·exact .inr h
    ·exact .inl (List.mem_of_mem_drop h)
   ·rintro(h|h)
    ·rw[←jC q xs] at h
     rcases gu.mp h with h|h
     ·exact .inl h
     ·exact .inr (.inr h)
    ·exact .inr (.inl h)
  have hlen:(xs.take q++(k,x)::xs.drop q).length=xs.length+1:=by
   rw[gw,fz,gX,kY];omega
  have hnod:((xs.take q++(k,x)::xs.drop q).map (·.1)).Nodup:=by
   have hxs:(xs.take q).map (·.1)++(xs.drop q).map (·.1)=xs.map (·.1):=by rw[←il,jC]
   have nd:=S.nd
   rw[←hxs] at nd
   rw[il,gH]
   have hkn:k∉(xs.take q).map (·.1)++(xs.drop q).map (·.1):=by
    rw[hxs]
    intro hm
    obtain⟨⟨k',y⟩,hp,rfl⟩:=gc.mp hm
    obtain⟨i,hi⟩:=iA hp
    exact hno i y hi
   rw[gu,not_or] at hkn
   obtain⟨n1,n2,n3⟩:=gU.mp nd
   refine gU.mpr ⟨n1,gB.mpr ⟨hkn.2,n2⟩,fun b hb c hc=>?_⟩
   rcases fu.mp hc with rfl|hc
   ·rintro rfl;exact hkn.1 hb
   ·exact n3 b hb c hc
  have hsb:=nD s.heap a (nS (jT es q ((tk prog w).hash k,.ref x)) t1)
  have hg1:=Hr (s:=s) S.get S.dat (jT es q ((tk prog w).hash k,.ref x)) t1
  have hkey1:∀(i:Nat) (k':List Int) (x':Addr),(xs.take q++(k,x)::xs.drop q)[i]?=some (k',x')→IK prog w (s.heap.update a (nS (jT es q ((tk prog w).hash k,.ref x)) t1)) k' x':=fun i k' x' e=>by
   have ik:IK prog w s.heap k' x':=by
    rcases(hmem _).mp (fo e) with h|h
    ·obtain⟨j,hj⟩:=iA h
     exact S.key j k' x' hj
    ·cases h;exact hk
   exact Ci ik fun u hu=> (hsb.2 x' (QS ik S.get S.ex)).trans hu
  have htb1:Tb t1 ((xs.take q++(k,x)::xs.drop q).map fun p=> (tk prog w).hash p.1):=by
   simpa using p1
  have hno':∀y,(k,y)∉xs:=fun y hy=>by
   obtain⟨i,hi⟩:=iA hy
   exact hno i y hi
  have hfill:t1.fill=xs.length+1:=by
   unfold pW
   rw[htb1.dum]
   have:=htb1.size
   rw[e8,hlen] at this
   rw[this];rfl
  have hroom:=S.room
  simp only[nX,p8]
  cases htf:t1.tooFull with
  |true=>
   simp only[if_true]
   have htf':t1.mask*3≤(xs.length+1)*5:=by
    unfold iX.tooFull at htf
    rw[hfill] at htf
    simpa using htf
   rw[S.size]
   refine a8 (QT (s:={s with heap:=s.heap.update a (nS (jT es q ((tk prog w).hash k,.ref x)) t1)}) hg1 S.ex rfl hes1 hkey1 hnod htb1 (by rw[p4];exact S.pl) (by rw[p5];exact S.led) hlen (by rw[p3];exact hroom) htf' hl fun h' xs' sb sx mm ll=>?_)
   refine b8 (hF hno' h' xs' (hsb.trans sb) sx (fun p=> (mm p).trans (hmem p)) (ll.trans hlen))
  |false=>
   simp only[gD,if_false]
   refine b8 (hF hno' _ _ hsb ⟨_,_,_,t1,hg1,S.ex,rfl,hes1,hkey1,hnod,htb1,by rw[p4];exact S.pl,?_,by rw[p5];exact S.led⟩ hmem hlen)
   unfold iX.tooFull at htf
   rw[hfill] at htf
   rw[hlen]
   simpa using htf
noncomputable def Ih(ks:List (List Int×Addr))(xs:List (List Int×Addr)):Prop:=(∀p,p∈xs→p∈ks)∧(∀k y,(k,y)∈ks→∃y',(k,y')∈xs)∧xs.length≤ks.length
theorem SetX.keep'{h h':Heap}(S:SetX prog w h a xs)(ha:∀u,h.get? a=some u→h'.get? a=some u)(hk:∀k x,(k,x)∈xs→∀u,h.get? x=some u→h'.get? x=some u):SetX prog w h' a xs:=by
 obtain⟨o,es,ep,t,S⟩:=S
 exact⟨o,es,ep,t,ha _ S.get,S.ex,S.dat,S.es,fun i k x e=>Ci (S.key i k x e) (hk k x (fo e)),S.nd,S.tb,S.pl,S.room,S.led⟩
theorem Ts{I l:Addr}{items:Array Value}{ps:List (List Int×Addr)}(hh:A.in1.handled=none)(hne:l≠I)(hI:a≠I)(hla:a≠l)(hps:items.toList=ps.map fun p=>Value.ref p.2)(hz:ps.length≤300)(hu:A.units+1<cLine)
  {R:qz→Shared→Prop}:∀(n i:Nat) (s:Shared) (xs:List (List Int×Addr)),n=ps.length-i→i≤ps.length→s.heap.IsListIter I l i→s.heap.IsList l items→(∀k x,(k,x)∈ps→IK prog w s.heap k x∧x≠I)→SetX prog w s.heap a xs→Ih (ps.take i) xs→
   (∀h' tk' xs',(∀b u,b≠a→b≠I→s.heap.get? b=some u→h'.get? b=some u)→SetX prog w h' a xs'→Ih ps xs'→R (.ok (.ret .none)) {s with heap:=h',toks:=tk'})→
   lQ (model prog w) A (.builtin "set.update.loop" ⟨[.ref a,.ref I],[]⟩) R s:=by
 have W:=Walks.list (A:=A.in1) (prog:=prog) (w:=w) hh I l hne items
 have hsz:items.size=ps.length:=by rw[←fw,hps,e8]
 intro n
 induction n with
 |zero=>
  intro i s xs hn hi hit hl hp hX hS hR
  have:i=ps.length:=by omega
  subst this
  rw[iK] at hS
  refine j6 PyProof.Rows.F.entry_set_update_loop ?_
  rw[jZ jz _]
  show wpAny _ A.in1 (nQ (.ref I)>>=_) _ _ s
  refine a8 (wpAny_pyNext_list_end hh hit hl (by simp[hsz]) fun h' hk=>?_)
  show wpAny _ A.in1 (ret lU) _ _ _
  refine b8 (hR h' s.toks xs (fun b u _ hb e=>hk b u hb e) (hX.keep' (fun u e=>hk a u hI e) fun k x hx u e=>hk x u (hp k x (hS.1 _ hx)).2 e) hS)
 |succ n ih=>
  intro i s xs hn hi hit hl hp hX hS hR
  have hlt:i<ps.length:=by omega
  obtain⟨⟨k,x⟩,hkx⟩:∃p,ps[i]?=some p:=⟨_,by simp[hlt];rfl⟩
  have hitem:items[i]?=some (.ref x):=by
   have:items[i]?=items.toList[i]?:=by simp
   rw[this,hps,fq,hkx];rfl
  refine j6 PyProof.Rows.F.entry_set_update_loop ?_
  rw[jZ jz _]
  show wpAny _ A.in1 (nQ (.ref I)>>=_) _ _ s
  refine a8 (wpAny_pyNext_list_item hit hl hitem fun h1 hit1 sb1=>?_)
  have hk1:∀b u,b≠I→s.heap.get? b=some u→h1.get? b=some u:=fun b u hb e=> (sb1.2 b hb).trans e
  have kx:=hp k x (fo hkx)
  have hX1:SetX prog w h1 a xs:=hX.keep' (fun u e=>hk1 a u hI e) fun k x hx u e=>hk1 x u (hp k x (lV (hS.1 _ hx))).2 e
  have ik1:∀k x,(k,x)∈ps→IK prog w h1 k x∧x≠I:=fun k x hx=> ⟨Ci (hp k x hx).1 fun u e=>hk1 x u (hp k x hx).2 e,(hp k x hx).2⟩
  have hl1:h1.IsList l items:=hl.at fun o e=>hk1 l o hne e
  show wpAny _ A.in1 (holding [Value.ref x] (setAdd a (.ref x))>>=_) _ _ _
  refine a8 (hZ ?_)
  unfold setAdd
  refine hZ ?_
  refine a8 ((tk prog w).pyHash (s:={s with heap:=h1}) hu (ik1 k x (fo hkx)).1 ?_)
  have htake:ps.take (i+1)=ps.take i++[(k,x)]:=by rw[iV,hkx];rfl
  have hlen:xs.length≤i:=by have:=hS.2.2;rw[gX] at this;omega
  refine XX (s:={s with heap:=h1,toks:=s.toks+(tk prog w).draws k}) hX1 hu (ik1 k x (fo hkx)).1 (by omega) (fun y hy=>?_) (fun hno h2 xs' sb sx mm ll=>?_)
  ·refine b8 ⟨lL jz _,ih (i+1) _ xs (by omega) (by omega) hit1 hl1 ik1 hX1 ⟨fun p hp'=>by rw[htake];exact iR _ (hS.1 p hp'),fun k' y' hm=>?_,by rw[htake,gw];have:=hS.2.2;omega⟩ fun h' tk' xs' kp sx so=>hR h' tk' xs' (fun b u h1' h2' e=>kp b u h1' h2' (hk1 b u h2' e)) sx so⟩
   rw[htake] at hm
   rcases gu.mp hm with hm|hm
   ·exact hS.2.1 k' y' hm
   ·cases b9.mp hm
    exact⟨y,hy⟩
  ·have keep2:∀b u,b≠a→h1.get? b=some u→h2.get? b=some u:=fun b u hb e=> (sb.2 b hb).trans e
   have nea:∀k x,(k,x)∈ps→x≠a:=fun k x hx=>by
    obtain⟨o,es,ep,t,S⟩:=hX1
    exact QS (ik1 k x hx).1 S.get S.ex
   refine b8 ⟨lL jz _,ih (i+1) {s with heap:=h2,toks:=s.toks+(tk prog w).draws k} xs' (by omega) (by omega) (hit1.at fun o e=>keep2 I o (Ne.symm hI) e) (hl1.at fun o e=>keep2 l o (Ne.symm hla) e)
    (fun k x hx=> ⟨Ci (ik1 k x hx).1 fun u e=>keep2 x u (nea k x hx) e,(hp k x hx).2⟩) sx ⟨fun p hp'=>?_,fun k' y' hm=>?_,by rw[htake,gw,ll];have:=hS.2.2;simp;omega⟩ fun h' tk' xs2 kp sx so=>hR h' tk' xs2 (fun b u h1' h2' e=>kp b u h1' h2' (keep2 b u h1' (hk1 b u h2' e))) sx so⟩
   ·rw[htake]
    rcases(mm p).mp hp' with h|h
    ·exact iR _ (hS.1 p h)
    ·exact iD _ (b9.mpr h)
   ·rw[htake] at hm
    rcases gu.mp hm with hm|hm
    ·obtain⟨y2,hy2⟩:=hS.2.1 k' y' hm
     exact⟨y2,(mm _).mpr (.inl hy2)⟩
    ·cases b9.mp hm
     exact⟨x,(mm _).mpr (.inr rfl)⟩
end
end StT
namespace StT
open PySem PySem.SetTable PyProof.Rows
theorem Ac:Slot "set_iterator" "__next__" "set_iterator.__next__" :=
 .of (owner:="set_iterator") (n:="__next__") (by rw[typeLookup_type,builtinLookup_eq_fast];kernel_rfl) (by decide+kernel) (by decide+kernel) (by decide+kernel)
  (by first|exact .inl (by decide+kernel)|exact .inr (by decide+kernel)) (by rw[pD];kernel_rfl)
theorem DC:Slot "set_iterator" "__iter__" "set_iterator.__iter__" :=
 .of (owner:="set_iterator") (n:="__iter__") (by rw[typeLookup_type,builtinLookup_eq_fast];kernel_rfl) (by decide+kernel) (by decide+kernel) (by decide+kernel)
  (by first|exact .inl (by decide+kernel)|exact .inr (by decide+kernel)) (by rw[pD];kernel_rfl)
theorem CU:entryFor table "set_iterator.__next__" =some Builtin.«set_iterator.__next__»:=entryFor_of_tree (by kernel_rfl)
theorem Et:entryFor table "set_iterator.__iter__" =some Builtin.«dict_keyiterator.__iter__»:=
 entryFor_alias (id':="dict_keyiterator.__iter__") (by kernel_rfl) (by first|rfl|decide+kernel| (unfold String.splitOn;simp+decide [String.splitOnAux])) (by decide+kernel) (by kernel_rfl)
theorem GN:entryFor table "set.__iter__" =some Builtin.«frozenset.__iter__»:=
 entryFor_alias (id':="frozenset.__iter__") (by kernel_rfl) (by first|rfl|decide+kernel| (unfold String.splitOn;simp+decide [String.splitOnAux])) (by decide+kernel) (by kernel_rfl)
theorem FR:Manifest.owners.lookup (String.ofList ['r','o','t','a','r','e','t','i','_','t','e','s'].reverse)=some Manifest.sig_set_iterator:=by kernel_rfl
theorem DD(a:Value):argsOk "set_iterator.__next__" ⟨[a],[]⟩:=by
 unfold argsOk;rw[signature?_of (id:="set_iterator.__next__") (n:=['_','_','t','x','e','n','_','_']) (o:=['r','o','t','a','r','e','t','i','_','t','e','s']) (by kernel_rfl) FR];kernel_rfl
theorem FY(a:Value):argsOk "set_iterator.__iter__" ⟨[a],[]⟩:=by
 unfold argsOk;rw[signature?_of (id:="set_iterator.__iter__") (n:=['_','_','r','e','t','i','_','_']) (o:=['r','o','t','a','r','e','t','i','_','t','e','s']) (by kernel_rfl) FR];kernel_rfl
theorem NG{α:Type}:∀(l:List α) (i:Nat) (h:i<l.length),(l[i]::l.eraseIdx i).Perm l
 |x::l,0,_=>k9.refl _
 |x::l,i+1,h=>by
  have ih:=NG l i (by simpa using h)
  simp only[List.getElem_cons_succ,List.eraseIdx_cons_succ]
  exact(k9.swap _ _ _).trans (ih.cons x)
theorem NH{α:Type}(next:Nat→Nat):∀(n k:Nat) (left:List α) (out:Array α),left.length=n→(qg next n k left out).toList.Perm (out.toList++left)
 |0,k,left,out,h=>by
  have:left=[]:=mH.mp h
  subst this
  simp[qg]
 |n+1,k,left,out,h=>by
  have hlt:next k%left.length<left.length:=qd _ (by omega)
  have e:left[next k%left.length]?=some left[next k%left.length]:=by simp[hlt]
  rw[qg,e]
  have ih:=NH next n (k+1) (left.eraseIdx (next k%left.length)) (out.push left[next k%left.length]) (by rw[List.length_eraseIdx_of_lt hlt];omega)
  refine ih.trans ?_
  rw[kJ,jB]
  exact k9.append_left _ (NG left _ hlt)
theorem OY{α:Type}(next:Nat→Nat)(xs:Array α):(nK next xs).toList.Perm xs.toList:=by
 have:=NH next xs.size 0 xs.toList #[] (by simp)
 simp only[List.nil_append] at this
 exact this
noncomputable def Do(w:World)(a:Addr)(ep:Nat)(es:Array (Int×Value)):Array (Int×Value):=if w.params.followText "set-order" =true then nK (w.params.setOrder a ep) es else es
theorem Hs(w:World)(a:Addr)(ep:Nat)(es:Array (Int×Value)):(Do w a ep es).toList.Perm es.toList:=by
 unfold Do
 split
 ·exact OY _ _
 ·exact k9.refl _
theorem Eu(w:World)(a:Addr)(ep:Nat)(es:Array (Int×Value)):(Do w a ep es).size=es.size:=by
 rw[←fw,←fw];exact(Hs w a ep es).length_eq
theorem Lj{xs:Array Nat}(r:QO xs){i:Nat}(hi:i≤xs.size){slot:Nat}(hs:(i=0∧slot=0)∨(0<i∧∃j,xs[i-1]?=some j∧slot=j+1)):below xs slot=i:=by
 obtain⟨b1,b2,b3⟩:=Cf (j:=slot) r
 rcases hs with⟨rfl,rfl⟩| ⟨h0,j,hj,rfl⟩
 ·apply jy
  intro hne
  have h0:0<xs.size:=by omega
  have:=b2 0 xs[0] (by omega) (by simp[h0])
  omega
 ·have hlt:i-1<xs.size:=(iJ.mp hj).1
  rcases jQ (below xs (j+1)) i with hl|he|hg
  ·have hx:xs[below xs (j+1)]?=some xs[below xs (j+1)]:=by simp[show below xs (j+1)<xs.size by omega]
   have h1:=b3 _ _ (fv _) hx
   by_cases hq:below xs (j+1)=i-1
   ·have hx2:xs[below xs (j+1)]?=some j:=by rw[hq];exact hj
    have:=gZ.inj (hx.symm.trans hx2)
    omega
   ·have:=GG r hx hj (by omega)
    omega
  ·exact he
  ·have hx:xs[i]?=some xs[i]:=by simp[show i<xs.size by omega]
   have h1:=b2 i _ hg hx
   have:=GG r hj hx (by omega)
   omega
section
variable{prog:Program}{w:World}{A:gx}{E:Value→Shared→Prop}{s:Shared}
variable{a:Addr}{xs:List (List Int×Addr)}{o:Obj}{es:Array (Int×Value)}{ep:Nat}{t:iX}
noncomputable def CV(w:World)(h:Heap)(I a:Addr)(t:iX)(ep n i:Nat):Prop:=∃slot:Nat,h.get? I=some {cls:=.type "set_iterator",dict:=none,data:=.fields #[oK slot,oK i,.ref a,oK n,oK ep],slots:=#[]}∧
 (w.params.followText "set-order" =false→(i=0∧slot=0)∨(0<i∧∃j,t.place[i-1]?=some j∧slot=j+1))
theorem GO(hg:s.heap.get? a=some o)(hd:o.data=.set es ep t)(hf:t.fits es.size=true)(hr:QO t.place)(hpl:t.plain=true)(hled:t.led=!w.params.followText "set-order"){i slot:Nat}(hi:i≤es.size)
  (hs:w.params.followText "set-order" =false→(i=0∧slot=0)∨(0<i∧∃j,t.place[i-1]?=some j∧slot=j+1)) {Q:Option (Value×Nat)→Shared→Prop}
  (hsome:∀e slot',(Do w a ep es)[i]?=some e→(w.params.followText "set-order" =false→∃j,t.place[i]?=some j∧slot'=j+1)→Q (some (e.2,slot')) s) (hnone:i=es.size→Q none s):wpAny (model prog w) A (setNext a slot i ep) Q E s:=by
 have hps:t.place.size=es.size:=by
  simp only[iX.fits,iE,beq_iff_eq] at hf
  exact hf.1
 have ask:∀{R:Bool→Shared→Prop},R (w.params.followText "set-order") s→wpAny (model prog w) A setsByText R E s:=fun h=>a8 (mY (b8 h))
 unfold setNext
 refine a8 (jo hg hd hf ?_)
 dsimp only
 refine a8 (ask ?_)
 cases hb:w.params.followText "set-order" with
 |true=>
  simp only[if_true]
  rw[if_neg (by simp)]
  refine a8 ?_
  unfold setWalk
  refine a8 (jo hg hd hf ?_)
  dsimp only
  refine a8 (ask ?_)
  rw[hb]
  simp only[if_true]
  refine a8 (mY (b8 ?_))
  refine b8 ?_
  have ho:Do w a ep es=nK (w.params.setOrder a ep) es:=by unfold Do;rw[if_pos hb]
  show Q (((nK (w.params.setOrder a ep) es)[i]?).map fun e=> (e.2,slot)) s
  rw[←ho]
  cases he:(Do w a ep es)[i]? with
  |some e=>exact hsome e slot he fun z=>by rw[hb] at z;cases z
  |none=>
   refine hnone ?_
   have:=Array.getElem?_eq_none_iff.mp he
   rw[Eu] at this
   omega
 |false=>
  rw[hb] at hled
  simp only[gD,if_false]
  have hdr:(!t.plain&&decide (es.size>1))=false:=by rw[hpl];rfl
  show wpAny _ _ (if(!t.plain&&decide (es.size>1))=true then _ else _) _ _ s
  rw[hdr]
  simp only[gD,if_false]
  refine a8 ?_
  show wpAny _ _ (if(!t.led&&!es.isEmpty)=true then _ else pure ()) _ _ s
  rw[hled]
  simp only[nX,lO,Bool.false_and,gD,if_false]
  refine b8 ?_
  rw[Lj hr (by omega) (hs hb)]
  have ho:Do w a ep es=es:=by unfold Do;rw[if_neg (by rw[hb];decide)]
  by_cases hlt:i<es.size
  ·have e1:es[i]?=some es[i]:=by simp[hlt]
   have e2:t.place[i]?=some (t.place[i]'(by omega)):=by simp[show i<t.place.size by omega]
   rw[e1,e2]
   exact b8 (hsome es[i] _ (by rw[ho];exact e1) fun _=> ⟨_,e2,rfl⟩)
  ·have e1:es[i]?=none:=by simp;omega
   rw[e1]
   exact b8 (hnone (by omega))
end
section
variable{prog:Program}{w:World}{A:gx}{E:Value→Shared→Prop}{s:Shared}
variable{a I:Addr}{xs:List (List Int×Addr)}{o:Obj}{es:Array (Int×Value)}{ep:Nat}{t:iX}
structure Wk(w:World)(o:Obj)(es:Array (Int×Value))(ep:Nat)(t:iX):Prop where
 cls:o.cls=.type "set"
 dat:o.data=.set es ep t
 fits:t.fits es.size=true
 ris:QO t.place
 pl:t.plain=true
 led:t.led=!w.params.followText "set-order"
theorem SetD.wk(S:SetD prog w s.heap a xs o es ep t):Wk w o es ep t:=⟨S.ex.1,S.dat,S.fits,S.tb.ris,S.pl,S.led⟩
theorem CC(K:Wk w o es ep t)(hg:s.heap.get? a=some o){Q:Array (Int×Value)→Shared→Prop}(h:Q es s):wpAny (model prog w) A (p9 a) Q E s:=by
 unfold p9
 exact a8 (jo hg K.dat K.fits (b8 h))
theorem OZ(K:Wk w o es ep t)(hg:s.heap.get? a=some o)(hne:a≠I){i:Nat}(hi:i<es.size)(it:CV w s.heap I a t ep es.size i){Q:Option Value→Shared→Prop}
  (hQ:∀e h',(Do w a ep es)[i]?=some e→CV w h' I a t ep es.size (i+1)→lD I s.heap h'→Q (some e.2) {s with heap:=h'}):wpAny (model prog w) A (nQ (.ref I)) Q E s:=by
 obtain⟨slot,ho,hsl⟩:=it
 have hT:s.TypeIs (.ref I) "set_iterator":=⟨_,ho,rfl⟩
 unfold nQ
 refine a8 (lI (kU (name:=oT "__next__") hT Ac (jJ Ac hT CU ?_ (DD _))))
 refine a8 (b8 ?_)
 refine a8 (wpAny_fieldsOf ho rfl ?_)
 show wpAny _ _ (p9 a>>=_) _ _ s
 refine a8 (CC K hg ?_)
 rw[if_neg (by simp)]
 show wpAny _ _ (setNext a ((slot:Int).toNat) ((i:Int).toNat) ((ep:Int).toNat)>>=_) _ _ s
 simp only[iy]
 refine a8 (GO hg K.dat K.fits K.ris K.pl K.led (mS hi) hsl (fun e slot' he hs'=>?_) fun z=>by omega)
 dsimp only
 refine a8 (nM ho (by simp) fun h1 ho1 hs1=>?_)
 refine a8 (nM (s:={s with heap:=h1}) ho1 (by simp) fun h2 ho2 hs2=>?_)
 refine b8 ⟨_,rfl,b8 (hQ e h2 he ⟨slot',?_,fun hb=> .inr ⟨qp _,?_⟩⟩ (hs1.trans hs2))⟩
 ·simpa using ho2
 ·simpa using hs' hb
theorem QU(K:Wk w o es ep t)(hh:A.handled=none)(hg:s.heap.get? a=some o)(hne:a≠I)(it:CV w s.heap I a t ep es.size es.size){Q:Option Value→Shared→Prop}
  (hQ:∀h',Heap.ExtBut I s.heap h'→Q none {s with heap:=h'}):wpAny (model prog w) A (nQ (.ref I)) Q E s:=by
 obtain⟨slot,ho,hsl⟩:=it
 have hT:s.TypeIs (.ref I) "set_iterator":=⟨_,ho,rfl⟩
 unfold nQ
 refine a8 (lI (kU (name:=oT "__next__") hT Ac (jJ Ac hT CU ?_ (DD _))))
 refine a8 (b8 ?_)
 refine a8 (wpAny_fieldsOf ho rfl ?_)
 show wpAny _ _ (p9 a>>=_) _ _ s
 refine a8 (CC K hg ?_)
 rw[if_neg (by simp)]
 show wpAny _ _ (setNext a ((slot:Int).toNat) ((es.size:Int).toNat) ((ep:Int).toNat)>>=_) _ _ s
 simp only[iy]
 refine a8 (GO hg K.dat K.fits K.ris K.pl K.led (fv _) hsl (fun e slot' he hs'=>?_) fun z=>?_)
 ·have:=(iJ.mp he).1
  rw[Eu] at this
  omega
 dsimp only
 refine a8 (nM ho (by simp) fun h1 ho1 hs1=>?_)
 show wpAny _ _ (newExc (.type "StopIteration") []>>=_) _ _ _
 refine a8 ?_
 simp only[newExc,newTuple]
 refine a8 (i9 ?_ (by size_fits))
 refine a8 (m:=firstArgMember _ _) (n9 (a:=lU) (by first|rfl| (simp only[firstArgMember];rfl)) ?_)
 refine i9 ?_ (by size_fits)
 simp only[raiseNew]
 refine a8 (wpAny_handled ?_)
 rw[show A.in1.handled=none from hh]
 refine a8 (b8 (wpAny_throw ?_))
 refine a8 (wpAny_isInstance (T:="StopIteration") (b:=true) ⟨_,gJ _ rfl,rfl⟩ isSubtype_stop ?_)
 exact b8 (hQ _ ((hs1.extBut.push _).push _))
theorem Oa{n i:Nat}(it:CV w s.heap I a t ep n i){Q:Value→Shared→Prop}(h:Q (.ref I) s):wpAny (model prog w) A (qb (.ref I)) Q E s:=by
 obtain⟨slot,ho,_⟩:=it
 have hT:s.TypeIs (.ref I) "set_iterator":=⟨_,ho,rfl⟩
 refine wpAny_pyIter_slot hT DC (jJ DC hT Et ?_ (FY _))
 show wpAny _ _ (ret (.ref I)) _ _ s
 exact b8 ⟨_,rfl,"set_iterator",_,hT,Ac.lookup,h⟩
theorem QV(K:Wk w o es ep t)(hg:s.heap.get? a=some o){Q:Value→Shared→Prop}
  (h:Q (.ref s.heap.objs.size) {s with heap:=s.heap.push {cls:=.type "set_iterator",data:=.fields #[oK 0,oK 0,.ref a,oK es.size,oK ep]}}):wpAny (model prog w) A (qb (.ref a)) Q E s:=by
 have hT:s.TypeIs (.ref a) "set":=⟨_,hg,K.cls⟩
 have ask:∀{A:gx} {E:Value→Shared→Prop} {R:Bool→Shared→Prop},R (w.params.followText "set-order") s→wpAny (model prog w) A setsByText R E s:=fun h=>a8 (mY (b8 h))
 refine wpAny_pyIter_slot hT PySem.F.slot_set_iter (jJ PySem.F.slot_set_iter hT GN ?_ (PySem.F.args_set_iter_1 _))
 unfold Builtin.«frozenset.__iter__»
 refine a8 (a8 (b8 (b8 ?_)))
 refine a8 (a8 (CC K hg (b8 ?_)))
 refine a8 ?_
 unfold setDrawn
 refine a8 (jo hg K.dat K.fits ?_)
 dsimp only
 refine a8 (ask (b8 ?_))
 have hdr:(!w.params.followText "set-order" &&(!t.plain&&decide (es.size>1)))=false:=by rw[K.pl];simp
 show wpAny _ _ (if(!w.params.followText "set-order" &&(!t.plain&&decide (es.size>1)))=true then _ else _) _ _ s
 rw[hdr]
 simp only[gD,if_false]
 refine a8 (b8 ?_)
 refine a8 (wpAny_setEpoch_of hg K.dat K.fits ?_)
 refine a8 ?_
 unfold newFields
 refine i9 ?_
 refine b8 ⟨_,rfl,"set_iterator",_,⟨_,gJ _ rfl,rfl⟩,Ac.lookup,h⟩
theorem Ob(K:Wk w o es ep t)(hh:A.handled=none)(hne:a≠I):Walks prog w A I [I,a] [I] es.size (fun i v=>∃h,(Do w a ep es)[i]?=some (h,v)) (fun i h=>CV w h I a t ep es.size i∧h.get? a=some o) where
 sub:=fun b hb=>by simp at hb;simp[hb]
 frame:=fun i h h' st hk=>by
  obtain⟨⟨slot,h1,h2⟩,h3⟩:=st
  exact⟨⟨slot,hk I (by simp) _ h1,h2⟩,hk a (by simp) _ h3⟩
 item:=fun i s Q E hi st hQ=>OZ K st.2 hne hi st.1 fun e h' he it' sb=>hQ e.2 h' s.toks ⟨e.1,he⟩ ⟨it',(sb.2 a hne).trans st.2⟩ fun b o hb e=> (sb.2 b (fun z=>hb (by simp[z]))).trans e
 done:=fun s Q E st hQ=>QU K hh st.2 hne st.1 fun h' he=>hQ h' s.toks fun b o hb e=>he b o (fun z=>hb (by simp[z])) e
 self:=fun i s Q E st hQ=>Oa st.1 hQ
theorem QW{r:Addr}{Q:Bool→Shared→Prop}(hT:s.TypeIs (.ref r) "set")(h:Q false s):wpAny (model prog w) A (Builtin.List.listLengthHint (.ref r)) Q E s:=by
 unfold Builtin.List.listLengthHint
 refine a8 (wpAny_specialOf hT PySem.F.slot_set_len.lookup ?_)
 generalize hid:("set.__len__" :String)=id0
 wp_delta
 rw[show splitId id0=some ("set","__len__") from by subst hid;decide+kernel]
 subst hid
 refine a8 (wpAny_isInstance (T:="set") (b:=true) hT (by rw[pD];kernel_rfl) ?_)
 refine wpAny_ite_split (fun hab=>absurd hab (by decide)) (fun _=>?_)
 refine wpAny_ite_split (fun _=>?_) (fun hab=>absurd (by decide+kernel) hab)
 refine a8 (lY hT ?_)
 exact b8 h
theorem Tt(K:Wk w o es ep t):PySem.W.KdlSrc prog w "set" a a es.size (fun i v=>∃h,(Do w a ep es)[i]?=some (h,v)) (fun h=>h.get? a=some o) where
 type:=fun _ hm=> ⟨_,hm,K.cls⟩
 there:=fun _ hm=> ⟨gi hm,gi hm⟩
 keep:=fun _ _ hm hk=>hk a (.inl rfl) _ hm
 notList:=by decide
 notTuple:=by decide
 hint:=fun _ _ _ _ hm hq=>QW ⟨_,hm,K.cls⟩ hq
 iter:=fun A s hh hm=> ⟨_,_,(fun _ _ hq=>QV K hm hq),Ob K hh (gL (gi hm)),⟨⟨0,gJ _ rfl,fun _=> .inl ⟨rfl,rfl⟩⟩,e9 _ hm⟩⟩
end
end StT
namespace SrtG
open PySem PyProof.Rows
noncomputable def NI:Bool→Keyed→Array Keyed→Nat→Nat→Nat→StateT SortSt Sem (Option Nat):=sortPriv%PySem.Builtin.gallop
noncomputable def Az(left:Bool)(key:Keyed)(arr:Array Keyed)(base i:Nat):StateT hV Sem (Option Bool):=do
 let x←elem' arr (base+i)
 if left then lt' x key else return(←lt' key x).map (!·)
section
variable{prog:Program}{w:World}{A:gx}{E:Value→Shared→Prop}{s:Shared}
noncomputable def Oc(prog:Program)(w:World)(A:gx)(E:Value→Shared→Prop)(s:Shared)(kd:j7)(U:Keyed→Prop)(rk:Keyed→Int):Prop:=
 ∀(st:hV) (x y:Keyed) (Q:Option Bool→hV→Prop),kindOf st=kd→U x→U y→Q (some (decide (rk x<rk y))) st→wpS (model prog w) A E s (lt' x y) Q st
variable{kd:j7}{U:Keyed→Prop}{rk:Keyed→Int}
noncomputable def RK(rk:Keyed→Int)(xs:Array Keyed)(i:Nat):Int:=match xs[i]? with
 |some p=>rk p
 |none=>0
noncomputable def AllU(U:Keyed→Prop)(xs:Array Keyed):Prop:=∀(i:Nat) (p:Keyed),xs[i]?=some p→U p
noncomputable def bt(left:Bool)(rk:Keyed→Int)(key:Keyed)(arr:Array Keyed)(base i:Nat):Bool:=if left then decide (RK rk arr (base+i)<rk key) else !decide (rk key<RK rk arr (base+i))
theorem Tu{left:Bool}{key:Keyed}{arr:Array Keyed}{base i:Nat}{st:hV}{Q:Option Bool→hV→Prop}(C:Oc prog w A E s kd U rk)(hk:kindOf st=kd)(hK:U key)(hU:AllU U arr)(hi:base+i<arr.size)
  (h:Q (some (bt left rk key arr base i)) st):wpS (model prog w) A E s (Az left key arr base i) Q st:=by
 unfold Az
 have e:arr[base+i]?=some arr[base+i]:=getElem?_pos arr (base+i) hi
 rw[elem'_eq,e]
 refine fh (fm ?_)
 have eR:RK rk arr (base+i)=rk arr[base+i]:=by unfold RK;rw[e]
 unfold bt at h
 rw[eR] at h
 cases left with
 |true=>
  rw[if_pos rfl] at h ⊢
  exact C st _ _ _ hk (hU _ _ e) hK h
 |false=>
  rw[if_neg c9] at h ⊢
  exact fh (C st _ _ _ hk hK (hU _ _ e) (fm h))
noncomputable def Vl(P:Nat→Bool)(n r:Nat):Prop:=r≤n∧(∀i,i<r→P i=true)∧∀i,r≤i→i<n→P i=false
theorem QX{α:Type}{P:Nat→Bool}{b:Nat→StateT hV Sem (Option Bool)}{n l h:Nat}{st:hV}(hb:∀i (Q:Option Bool→hV→Prop),i<n→Q (some (P i)) st→wpS (model prog w) A E s (b i) Q st)
  (mono:∀i j,i≤j→j<n→P j=true→P i=true) (hl:l≤h) (hn:h≤n) (h1:∀i,i<l→P i=true) (h2:∀i,h≤i→i<n→P i=false):
  wpS (model prog w) A E s (forIn [:n] ((none:Option (Option Nat)),l,h) fun x __s=>
   if __s.snd.fst≥__s.snd.snd then pure (ForInStep.done (none,__s.snd.fst,__s.snd.snd))
   else do
    let __x←b (__s.snd.fst+(__s.snd.snd-__s.snd.fst)/2)
    match __x with
     |some mr=>
      if mr=true then pure (jR (none,__s.snd.fst+(__s.snd.snd-__s.snd.fst)/2+1,__s.snd.snd))
      else pure (jR (none,__s.snd.fst,__s.snd.fst+(__s.snd.snd-__s.snd.fst)/2))
     |x=>pure (ForInStep.done (some none,__s.snd.fst,__s.snd.snd))) (fun c st'=>st'=st∧c.1=none∧Vl P n c.2.2) st:=by
 refine iF (I:=fun x c st'=>st'=st∧∃l h,c=(none,l,h)∧l≤h∧h≤n∧(∀i,i<l→P i=true)∧(∀i,h≤i→i<n→P i=false)∧h-l≤n-x) ?_ ?_ ⟨rfl,l,h,rfl,hl,hn,h1,h2,by omega⟩
 ·rintro x c st' _ hx ⟨rfl,l,h,rfl,hl,hn,h1,h2,hm⟩
  dsimp only
  by_cases hlh:l≥h
  ·rw[if_pos hlh]
   have e:l=h:=by omega
   subst e
   exact fm ⟨rfl,rfl,hn,h1,h2⟩
  ·rw[if_neg hlh]
   refine fh (hb _ _ (by omega) ?_)
   dsimp only
   cases hP:P (l+(h-l)/2) with
   |true=>
    rw[if_pos rfl]
    exact fm ⟨rfl,_,_,rfl,by omega,hn,fun i hi=>mono i _ (by omega) (by omega) hP,h2,by omega⟩
   |false=>
    rw[if_neg c9]
    refine fm ⟨rfl,_,_,rfl,by omega,by omega,h1,fun i hi hin=>?_,by omega⟩
    cases q:P i with
    |false=>rfl
    |true=>rw[mono _ i hi hin q] at hP;cases hP
 ·rintro c st' ⟨rfl,l,h,rfl,hl,hn,h1,h2,hm⟩
  have e:l=h:=by
   have:max 0 n=n:=by omega
   rw[this] at hm
   omega
  subst e
  exact⟨rfl,rfl,hn,h1,h2⟩
theorem As {left : Bool} {key : Keyed} {arr : Array Keyed} {base n hint : Nat} {st : hV} {Q : Option Nat → hV → Prop} (C : Oc prog w A E s kd U rk) (hk : kindOf st = kd) (hK : U key) (hU : AllU U arr) (hb : base + n ≤ arr.size) (hh : hint < n)
    (mono : ∀ i j, i ≤ j → j < n → bt left rk key arr base j = true → bt left rk key arr base i = true)
    (h : ∀ r, Vl (bt left rk key arr base) n r → Q (some r) st) : wpS (model prog w) A E s (NI left key arr base n hint) Q st := by
  delta NI
  have hbey : ∀ i (Q : Option Bool → hV → Prop), i < n → Q (some (bt left rk key arr base i)) st → wpS (model prog w) A E s (Az left key arr base i) Q st := fun i Q hi q => Tu C hk hK hU (by omega) q
  have fals : ∀ i j, i ≤ j → j < n → bt left rk key arr base i = false → bt left rk key arr base j = false := fun i j hij hj e => by
    cases q : bt left rk key arr base j with
    | false => rfl
    | true => rw [mono i j hij hj q] at e; cases e
  refine fh (hbey _ _ hh ?_)
  dsimp only
  cases hP : bt left rk key arr base hint with
  | true =>
    rw [if_pos rfl]
    refine fh (jv (iF (I := fun x c st' => st' = st ∧ ∃ la o, c = (none, la, o) ∧ la < o ∧ x + 1 ≤ o ∧ hint + la < n ∧ bt left rk key arr base (hint + la) = true)
      (Q := fun c st' => st' = st ∧ ∃ la o, c = (none, la, o) ∧ la < o ∧ hint + la < n ∧ bt left rk key arr base (hint + la) = true ∧ (n - hint ≤ o ∨ bt left rk key arr base (hint + o) = false)) ?_ ?_ ⟨rfl, 0, 1, rfl, by omega, by omega, hh, hP⟩) ?_)
    · rintro x c st' _ hx ⟨rfl, la, o, rfl, h1, h2, h3, h4⟩
      dsimp only
      by_cases ho : o ≥ n - hint
      · rw [if_pos ho]
        exact fm ⟨rfl, la, o, rfl, h1, h3, h4, .inl ho⟩
      · rw [if_neg ho]
        refine fh (hbey _ _ (by omega) ?_)
        dsimp only
        cases hq : bt left rk key arr base (hint + o) with
        | false =>
          rw [if_pos (by decide)]
          exact fm ⟨rfl, la, o, rfl, h1, h3, h4, .inr hq⟩
        | true =>
          rw [if_neg (by decide)]
          exact fm ⟨rfl, o, _, rfl, by omega, by omega, by omega, hq⟩
    · rintro c st' ⟨rfl, la, o, rfl, h1, h2, h3, h4⟩
      exact ⟨rfl, la, o, rfl, h1, h3, h4, .inl (by have : max 0 n = n := by omega
                                                   omega)⟩
    · rintro c st' ⟨rfl, la, o, rfl, h1, h3, h4, h5⟩
      dsimp only
      refine fh (jv (QX (α := Unit) hbey mono (by omega) (by omega) (fun i hi => mono i (hint + la) (by omega) h3 h4) (fun i hi hin => ?_)) ?_)
      · rcases h5 with h5 | h5
        · omega
        · exact fals (hint + o) i (by omega) hin h5
      · rintro ⟨c1, c2, c3⟩ st'' ⟨rfl, e, pt⟩
        cases e
        exact fm (h _ pt)
  | false =>
    rw [if_neg c9]
    refine fh (jv (iF (I := fun x c st' => st' = st ∧ ∃ la o, c = (none, la, o) ∧ la < o ∧ x + 1 ≤ o ∧ la ≤ hint ∧ bt left rk key arr base (hint - la) = false)
      (Q := fun c st' => st' = st ∧ ∃ la o, c = (none, la, o) ∧ la < o ∧ la ≤ hint ∧ bt left rk key arr base (hint - la) = false ∧ (hint + 1 ≤ o ∨ bt left rk key arr base (hint - o) = true)) ?_ ?_ ⟨rfl, 0, 1, rfl, by omega, by omega, by omega, hP⟩) ?_)
    · rintro x c st' _ hx ⟨rfl, la, o, rfl, h1, h2, h3, h4⟩
      dsimp only
      by_cases ho : o ≥ hint + 1
      · rw [if_pos ho]
        exact fm ⟨rfl, la, o, rfl, h1, h3, h4, .inl ho⟩
      · rw [if_neg ho]
        refine fh (hbey _ _ (by omega) ?_)
        dsimp only
        cases hq : bt left rk key arr base (hint - o) with
        | true =>
          rw [if_pos rfl]
          exact fm ⟨rfl, la, o, rfl, h1, h3, h4, .inr hq⟩
        | false =>
          rw [if_neg c9]
          exact fm ⟨rfl, o, _, rfl, by omega, by omega, by omega, hq⟩
    · rintro c st' ⟨rfl, la, o, rfl, h1, h2, h3, h4⟩
      exact ⟨rfl, la, o, rfl, h1, h3, h4, .inl (by have : max 0 n = n := by omega
                                                   omega)⟩
    · rintro c st' ⟨rfl, la, o, rfl, h1, h3, h4, h5⟩
      dsimp only
      refine fh (jv (QX (α := Unit) hbey mono (by omega) (by omega) (fun i hi => ?_) (fun i hi hin => fals (hint - la) i hi hin h4)) ?_)
      · rcases h5 with h5 | h5
        · omega
        · exact mono i (hint - o) (by omega) (by omega) h5
      · rintro ⟨c1, c2, c3⟩ st'' ⟨rfl, e, pt⟩
        cases e
        exact fm (h _ pt)
end
local macro_rules | `(tactic| omega) => `(tactic| first | lia | omega)
open PySem PyProof.Rows
variable{rk:Keyed→Int}
noncomputable def Ew(rk:Keyed→Int)(a:Array Keyed):Prop:=∀i j,i≤j→j<a.size→RK rk a i≤RK rk a j
structure Mrg(rk:Keyed→Int)(a b out:Array Keyed)(i j:Nat):Prop where
 hi:i≤a.size
 hj:j≤b.size
 perm:out.toList.Perm (a.toList.take i++b.toList.take j)
 srt:out.toList.Pairwise fun x y=>rk x≤rk y
 ha:∀x,x∈out.toList→∀y,i≤y→y<a.size→rk x≤RK rk a y
 hb:∀x,x∈out.toList→∀y,j≤y→y<b.size→rk x≤RK rk b y
structure Fin2(rk:Keyed→Int)(a b r:Array Keyed):Prop where
 perm:r.toList.Perm (a.toList++b.toList)
 srt:r.toList.Pairwise fun x y=>rk x≤rk y
theorem Ai{a:Array Keyed}{i:Nat}(h:i<a.size):RK rk a i=rk a[i]:=by
 unfold RK
 rw[getElem?_pos a i h]
theorem Mrg.sym{a b out:Array Keyed}{i j:Nat}(m:Mrg rk a b out i j):Mrg rk b a out j i:=
 ⟨m.hj,m.hi,m.perm.trans jU,m.srt,m.hb,m.ha⟩
theorem Mrg.pushA{a b out:Array Keyed}{i j:Nat}(m:Mrg rk a b out i j)(sa:Ew rk a)(h:i<a.size)(hb:∀y,j≤y→y<b.size→rk a[i]≤RK rk b y):Mrg rk a b (out.push a[i]) (i+1) j:=by
 have e:(out.push a[i]).toList=out.toList++[a[i]]:=kJ ..
 have t:a.toList.take (i+1)=a.toList.take i++[a[i]]:=by
  rw[List.take_succ]
  have:a.toList[i]?=some a[i]:=by rw[gT];exact getElem?_pos a i h
  rw[this];rfl
 refine⟨h,m.hj,?_,?_,?_,?_⟩
 ·rw[e,t]
  have p1:=m.perm.append_right [a[i]]
  refine p1.trans ?_
  rw[jB,jB]
  exact k9.append_left _ jU
 ·rw[e,kH]
  refine⟨m.srt,j5 _ _,fun x hx y hy=>?_⟩
  cases b9.mp hy
  have:=m.ha x hx i (fv _) h
  rwa[Ai h] at this
 ·intro x hx y hy hys
  rw[e] at hx
  rcases gu.mp hx with hx|hx
  ·exact m.ha x hx y (by omega) hys
  ·cases b9.mp hx
   have:=sa i y (by omega) hys
   rwa[Ai h] at this
 ·intro x hx y hy hys
  rw[e] at hx
  rcases gu.mp hx with hx|hx
  ·exact m.hb x hx y hy hys
  ·cases b9.mp hx
   exact hb y hy hys
theorem Mrg.pushB{a b out:Array Keyed}{i j:Nat}(m:Mrg rk a b out i j)(sb:Ew rk b)(h:j<b.size)(ha:∀y,i≤y→y<a.size→rk b[j]≤RK rk a y):Mrg rk a b (out.push b[j]) i (j+1):=(m.sym.pushA sb h ha).sym
theorem Ii(a:Array Keyed)(i k:Nat)(h:i+k<a.size):a.extract i (i+(k+1))=(a.extract i (i+k)).push a[i+k]:=by
 apply lE
 rw[kJ,iS,iS,ie,ie]
 have e1:i+(k+1)-i=k+1:=by omega
 have e2:i+k-i=k:=by omega
 rw[e1,e2,List.take_succ,jI,gT,getElem?_pos a (i+k) h]
 rfl
theorem Mrg.appA{a b:Array Keyed}{i j:Nat}:∀(k:Nat) {out:Array Keyed},Mrg rk a b out i j→Ew rk a→i+k≤a.size→(∀x,x<k→∀y,j≤y→y<b.size→RK rk a (i+x)≤RK rk b y)→Mrg rk a b (out++a.extract i (i+k)) (i+k) j
 |0,out,m,_,_,_=>by
  have:out++a.extract i (i+0)=out:=by
   apply lE
   rw[kb,iS,ie]
   have:i+0-i=0:=by omega
   rw[this,pK,i8]
  rw[this];exact m
 |k+1,out,m,sa,h,hb=>by
  have m':=Mrg.appA k m sa (by omega) fun x hx=>hb x (by omega)
  have hk:i+k<a.size:=by omega
  rw[Ii a i k hk,Array.append_push]
  exact m'.pushA sa hk fun y h1 h2=>by
   have:=hb k (by omega) y h1 h2
   rwa[Ai hk] at this
theorem Mrg.appB{a b:Array Keyed}{i j:Nat}(k:Nat){out:Array Keyed}(m:Mrg rk a b out i j)(sb:Ew rk b)(h:j+k≤b.size)(ha:∀x,x<k→∀y,i≤y→y<a.size→RK rk b (j+x)≤RK rk a y):Mrg rk a b (out++b.extract j (j+k)) i (j+k):=(Mrg.appA k m.sym sb h ha).sym
theorem Mrg.fin{a b out:Array Keyed}(m:Mrg rk a b out a.size b.size):Fin2 rk a b out:=by
 have p:=m.perm
 rw[←fw,←fw,iK,iK] at p
 exact⟨p,m.srt⟩
theorem Mrg.restAB{a b out:Array Keyed}{i j:Nat}(m:Mrg rk a b out i j)(sa:Ew rk a)(sb:Ew rk b)(h:∀x y,i≤x→x<a.size→j≤y→y<b.size→RK rk a x≤RK rk b y):Fin2 rk a b (out++a.extract i a.size++b.extract j b.size):=by
 have hi:=m.hi
 have hj:=m.hj
 have m1:=m.appA (a.size-i) sa (by omega) fun x hx y h1 h2=>h _ _ (by omega) (by omega) h1 h2
 have e1:i+(a.size-i)=a.size:=by omega
 rw[e1] at m1
 have m2:=m1.appB (b.size-j) sb (by omega) fun x hx y h1 h2=>by omega
 have e2:j+(b.size-j)=b.size:=by omega
 rw[e2] at m2
 exact m2.fin
theorem Mrg.restBA{a b out:Array Keyed}{i j:Nat}(m:Mrg rk a b out i j)(sa:Ew rk a)(sb:Ew rk b)(h:∀x y,i≤x→x<a.size→j≤y→y<b.size→RK rk b y≤RK rk a x):Fin2 rk a b (out++b.extract j b.size++a.extract i a.size):=by
 have f:=m.sym.restAB sb sa fun x y h1 h2 h3 h4=>h y x h3 h4 h1 h2
 exact⟨f.perm.trans jU,f.srt⟩
end SrtG
namespace SrtG
local macro_rules | `(tactic| omega) => `(tactic| first | lia | omega)
open PySem PyProof.Rows
noncomputable def KH:Array Keyed→Array Keyed→StateT SortSt Sem (Array Keyed):=sortPriv%PySem.Builtin.mergeLo
noncomputable def NJ:Nat→StateT SortSt Sem Unit:=sortPriv%PySem.Builtin.setMinGallop
theorem Lk(g:Nat):NJ g=modify fun s=>mz (kindOf s) (arrOf s) (pendingOf s) g (kj s):=rfl
noncomputable abbrev dn(a b out:Array Keyed)(ia ib:Nat):Array Keyed:=out++a.extract ia a.size++b.extract ib b.size
noncomputable abbrev la(a b out:Array Keyed)(ia ib:Nat):Array Keyed:=out++b.extract ib b.size++a.extract ia a.size
section
variable{prog:Program}{w:World}{A:gx}{E:Value→Shared→Prop}{s:Shared}{kd:j7}{U:Keyed→Prop}{rk:Keyed→Int}
structure Like(st st':hV):Prop where
 kd:kindOf st'=kindOf st
 arr:arrOf st'=arrOf st
 pd:pendingOf st'=pendingOf st
 fl:kj st'=kj st
theorem Like.refl(st:hV):Like st st:=⟨rfl,rfl,rfl,rfl⟩
theorem Cj{g:Nat}{st0 st:hV}{Q:Unit→hV→Prop}(l:Like st0 st)(h:∀st',Like st0 st'→Q () st'):wpS (model prog w) A E s (NJ g) Q st:=by
 rw[Lk]
 exact lj (h _ ⟨l.kd,l.arr,l.pd,l.fl⟩)
theorem AJ{arr:Array Keyed}{i:Nat}{st:hV}{Q:Keyed→hV→Prop}(hi:i<arr.size)(h:Q arr[i] st):wpS (model prog w) A E s (elem' arr i) Q st:=by
 rw[elem'_eq,getElem?_pos arr i hi]
 exact fm h
structure Hd(rk:Keyed→Int)(a b out:Array Keyed)(i j n:Nat):Prop where
 m:Mrg rk a b out i j
 hi:i+1<a.size
 hj:j<b.size
 hn:n≤i+j
theorem KI{a b:Array Keyed}{st:hV}{Q:Array Keyed→hV→Prop}(C:Oc prog w A E s kd U rk)(hk:kindOf st=kd)(uA:AllU U a)(uB:AllU U b)(sa:Ew rk a)(sb:Ew rk b)(ha0:0<a.size)(hb0:0<b.size)
  (hfst:RK rk b 0≤RK rk a 0) (hlst:RK rk b (b.size-1)≤RK rk a (a.size-1))
  (h:∀r st',Like st st'→Fin2 rk a b r→Q r st'):wpS (model prog w) A E s (KH a b) Q st:=by
 have Udn:∀{out i j},Mrg rk a b out i j→i=a.size∨j=b.size→Fin2 rk a b (dn a b out i j):=fun m hh=>m.restAB sa sb fun x y _ _ _ _=>by omega
 have Ula:∀{out i j},Mrg rk a b out i j→i+1=a.size→Fin2 rk a b (la a b out i j):=fun{out i j} m hh=>m.restBA sa sb fun x y h1 h2 h3 h4=>by
  have e1:=sb y (b.size-1) (by omega) (by omega)
  have e:x=a.size-1:=by omega
  subst e
  omega
 have uAt:∀{i} (hi:i<a.size),U a[i]:=fun hi=>uA _ _ (getElem?_pos a _ hi)
 have uBt:∀{i} (hi:i<b.size),U b[i]:=fun hi=>uB _ _ (getElem?_pos b _ hi)
 delta KH
 refine fh (mJ (kK ⟨rfl,?_⟩))
 refine fh (AJ hb0 ?_)
 have m0:Mrg rk a b #[] 0 0:=⟨by omega,by omega,k9.nil,gS.nil,(fun x hx=>by cases hx),(fun x hx=>by cases hx)⟩
 have m1:Mrg rk a b #[b[0]] 0 1:=m0.pushB sb hb0 fun y _ hy=>by
  have e1:=sa 0 y (by omega) hy
  rw[←Ai (rk:=rk) hb0]
  omega
 dsimp only
 by_cases c1:1=b.size
 ·rw[if_pos (beq_iff_eq.mpr c1)]
  exact fm (h _ _ (Like.refl _) (Udn m1 (.inr c1)))
 rw[if_neg (fun q=>c1 (beq_iff_eq.mp q))]
 by_cases c2:0+1=a.size
 ·rw[if_pos (beq_iff_eq.mpr c2)]
  exact fm (h _ _ (Like.refl _) (Ula m1 c2))
 rw[if_neg (fun q=>c2 (beq_iff_eq.mp q))]
 refine fh (lX ?_)
 refine fh (jv (iF (I:=fun x c st'=>Like st st'∧∃out i j mg,c=(none,out,i,j,mg)∧Hd rk a b out i j (x+1))
  (Q:=fun c st'=>Like st st'∧∃r,c.1=some r∧Fin2 rk a b r) ?_ ?_ ⟨Like.refl _,_,_,_,_,rfl,m1,by omega,by omega,by omega⟩) ?_)
 ·rintro x c st1 _ hx ⟨lk,out,i,j,mg,rfl,hd⟩
  dsimp only
  refine fh (jv (iF (I:=fun _ c st'=>Like st st'∧∃out i j ac bc,c=(none,out,i,j,ac,bc)∧Hd rk a b out i j (x+1))
   (Q:=fun c st'=>Like st st'∧((∃r,c.1=some r∧Fin2 rk a b r)∨∃out i j ac bc,c=(none,out,i,j,ac,bc)∧Hd rk a b out i j (x+1))) ?_ ?_ ⟨lk,_,_,_,_,_,rfl,hd⟩) ?_)
  ·rintro x1 c st2 _ hx1 ⟨lk,out,i,j,ac,bc,rfl,hd⟩
   have hia:i<a.size:=by have:=hd.hi;omega
   have hjb:=hd.hj
   have hin:=hd.hn
   dsimp only
   refine fh (AJ hd.hj ?_)
   refine fh (AJ hia ?_)
   refine fh (C _ _ _ _ (lk.kd.trans hk) (uBt hd.hj) (uAt hia) ?_)
   dsimp only
   by_cases hlt:rk b[j]<rk a[i]
   ·rw[if_pos (by exact decide_eq_true hlt)]
    have m:=hd.m.pushB sb hd.hj fun y h1 h2=>by
     have:=sa i y h1 h2
     rw[Ai hia] at this
     omega
    refine fh (AJ hd.hj ?_)
    by_cases c3:j+1=b.size
    ·rw[if_pos (beq_iff_eq.mpr c3)]
     exact fm ⟨lk,.inl ⟨_,rfl,Udn m (.inr c3)⟩⟩
    rw[if_neg (fun q=>c3 (beq_iff_eq.mp q))]
    have hd':Hd rk a b (out.push b[j]) i (j+1) (x+1):=⟨m,hd.hi,by have:=hd.hj;omega,by omega⟩
    split
    ·exact fm ⟨lk,.inr ⟨_,_,_,_,_,rfl,hd'⟩⟩
    ·exact fm ⟨lk,_,_,_,_,_,rfl,hd'⟩
   ·rw[if_neg (fun q=>hlt (of_decide_eq_true q))]
    have m:=hd.m.pushA sa hia fun y h1 h2=>by
     have:=sb j y h1 h2
     rw[Ai hd.hj] at this
     omega
    refine fh (AJ hia ?_)
    by_cases c3:i+1+1=a.size
    ·rw[if_pos (beq_iff_eq.mpr c3)]
     exact fm ⟨lk,.inl ⟨_,rfl,Ula m c3⟩⟩
    rw[if_neg (fun q=>c3 (beq_iff_eq.mp q))]
    have hd':Hd rk a b (out.push a[i]) (i+1) j (x+1):=⟨m,by have:=hd.hi;omega,hd.hj,by omega⟩
    split
    ·exact fm ⟨lk,.inr ⟨_,_,_,_,_,rfl,hd'⟩⟩
    ·exact fm ⟨lk,_,_,_,_,_,rfl,hd'⟩
  ·rintro c st2 ⟨lk,hh⟩
   exact⟨lk,.inr hh⟩
  rintro c st2 ⟨lk,⟨r,e,f⟩| ⟨out,i,j,ac,bc,rfl,hd⟩⟩
  ·obtain⟨c1,c2⟩:=c
   cases e
   exact fm ⟨lk,_,rfl,f⟩
  dsimp only
  refine fh (mJ (kK ⟨rfl,?_⟩))
  refine fh (jv (iF (I:=fun y c st'=>Like st st'∧∃out i j mg ac bc,c=(none,out,i,j,mg,ac,bc)∧Hd rk a b out i j (x+1+y))
   (Q:=fun c st'=>Like st st'∧((∃r,c.1=some r∧Fin2 rk a b r)∨∃out i j mg ac bc,c=(none,out,i,j,mg,ac,bc)∧Hd rk a b out i j (x+1+1))) ?_ ?_ ⟨lk,_,_,_,_,_,_,rfl,hd⟩) ?_)
  ·rintro x1 c st2 _ hx1 ⟨lk,out,i,j,mg,ac,bc,rfl,hd⟩
   have hia:i<a.size:=by have:=hd.hi;omega
   have hjb:=hd.hj
   have hin:=hd.hn
   dsimp only
   refine dite (mg>1) (fun hmg=>?_) (fun hmg=>?_)
   all_goals first|rw[if_pos hmg]|rw[if_neg hmg]
   all_goals
    refine fh (Cj lk fun st3 lk=>?_)
    refine fh (AJ hjb ?_)
    refine fh (As C (lk.kd.trans hk) (uBt hjb) uA (by omega) (by omega) ?_ ?_)
    ·intro p q hpq hq e
     unfold bt at e ⊢
     rw[if_neg c9] at e ⊢
     have e':=of_decide_eq_false (jc _|>.mp e)
     have:=sa (i+p) (i+q) (by omega) (by omega)
     exact(jc _).mpr (decide_eq_false (by omega))
    rintro k ⟨kn,kt,kf⟩
    have kt':∀x,x<k→RK rk a (i+x)≤RK rk b j:=fun x hx=>by
     have e:=kt x hx
     unfold bt at e
     rw[if_neg c9] at e
     have e':=of_decide_eq_false (jc _|>.mp e)
     rw[Ai hjb]
     omega
    have kf':∀y,i+k≤y→y<a.size→rk b[j]≤RK rk a y:=fun y h1 h2=>by
     have e:=kf (y-i) (by omega) (by omega)
     unfold bt at e
     rw[if_neg c9] at e
     have e':=of_decide_eq_true (nY _|>.mp e)
     have ey:i+(y-i)=y:=by omega
     rw[ey] at e'
     omega
    have m:=hd.m.appA k sa (by omega) fun x hx y h1 h2=>by
     have:=sb j y h1 h2
     have:=kt' x hx
     omega
    dsimp only
    by_cases k0:k>0
    ·rw[if_pos k0]
     by_cases c3:i+k+1=a.size
     ·rw[if_pos (beq_iff_eq.mpr c3)]
      exact fm ⟨lk,.inl ⟨_,rfl,Ula m c3⟩⟩
     rw[if_neg (fun q=>c3 (beq_iff_eq.mp q))]
     by_cases c4:i+k=a.size
     ·rw[if_pos (beq_iff_eq.mpr c4)]
      exact fm ⟨lk,.inl ⟨_,rfl,Udn m (.inl c4)⟩⟩
     rw[if_neg (fun q=>c4 (beq_iff_eq.mp q))]
     have hi':i+k<a.size:=by omega
     have hi2:i+k+1<a.size:=by omega
     have hn':x+1+x1≤i+k+j:=by omega
     refine fh (AJ hjb ?_)
     have m2:=m.pushB sb hjb kf'
     by_cases c5:j+1=b.size
     ·rw[if_pos (beq_iff_eq.mpr c5)]
      exact fm ⟨lk,.inl ⟨_,rfl,Udn m2 (.inr c5)⟩⟩
     rw[if_neg (fun q=>c5 (beq_iff_eq.mp q))]
     refine fh (AJ hi' ?_)
     refine fh (As C (lk.kd.trans hk) (uAt hi') uB (by omega) (by omega) ?_ ?_)
     ·intro p q hpq hq e
      unfold bt at e ⊢
      rw[if_pos rfl] at e ⊢
      have e':=of_decide_eq_true e
      have:=sb (j+1+p) (j+1+q) (by omega) (by omega)
      exact decide_eq_true (by omega)
     rintro k2 ⟨k2n,k2t,k2f⟩
     have k2t':∀x,x<k2→∀y,_≤y→y<a.size→RK rk b (j+1+x)≤RK rk a y:=fun x hx y h1 h2=>by
      have e:=k2t x hx
      unfold bt at e
      rw[if_pos rfl] at e
      have e':=of_decide_eq_true e
      have:=sa _ y h1 h2
      rw[Ai hi'] at this
      omega
     have k2f':∀y,j+1+k2≤y→y<b.size→rk (a[i+k]'hi')≤RK rk b y:=fun y h1 h2=>by
      have e:=k2f (y- (j+1)) (by omega) (by omega)
      unfold bt at e
      rw[if_pos rfl] at e
      have e':=of_decide_eq_false e
      have ey:j+1+(y- (j+1))=y:=by omega
      rw[ey] at e'
      omega
     dsimp only
     by_cases k20:k2>0
     ·rw[if_pos k20]
      have m3:=m2.appB k2 sb (by omega) k2t'
      by_cases c6:j+1+k2=b.size
      ·rw[if_pos (beq_iff_eq.mpr c6)]
       exact fm ⟨lk,.inl ⟨_,rfl,Udn m3 (.inr c6)⟩⟩
      rw[if_neg (fun q=>c6 (beq_iff_eq.mp q))]
      have m4:=m3.pushA sa hi' k2f'
      refine fh (AJ hi' ?_)
      split
      ·rename_i c7
       exact fm ⟨lk,.inl ⟨_,rfl,Ula m4 (beq_iff_eq.mp c7)⟩⟩
      ·rename_i c7
       have c7':¬_=_:=fun q=>c7 (beq_iff_eq.mpr q)
       split
       ·exact fm ⟨lk,.inr ⟨_,_,_,_,_,_,rfl,m4,by omega,by omega,by omega⟩⟩
       ·exact fm ⟨lk,_,_,_,_,_,_,rfl,m4,by omega,by omega,by omega⟩
     ·rw[if_neg k20]
      have e2:j+1+k2=j+1:=by omega
      rw[e2] at k2f'
      have m4:=m2.pushA sa hi' k2f'
      refine fh (AJ hi' ?_)
      split
      ·rename_i c7
       exact fm ⟨lk,.inl ⟨_,rfl,Ula m4 (beq_iff_eq.mp c7)⟩⟩
      ·rename_i c7
       have c7':¬_=_:=fun q=>c7 (beq_iff_eq.mpr q)
       split
       ·exact fm ⟨lk,.inr ⟨_,_,_,_,_,_,rfl,m4,by omega,by omega,by omega⟩⟩
       ·exact fm ⟨lk,_,_,_,_,_,_,rfl,m4,by omega,by omega,by omega⟩
    ·rw[if_neg k0]
     have e0:i+k=i:=by omega
     rw[e0] at kf'
     clear m
     have m:=hd.m
     have hi2:=hd.hi
     have hi':=hia
     have hn':=hin
     refine fh (AJ hjb ?_)
     have m2:=m.pushB sb hjb kf'
     by_cases c5:j+1=b.size
     ·rw[if_pos (beq_iff_eq.mpr c5)]
      exact fm ⟨lk,.inl ⟨_,rfl,Udn m2 (.inr c5)⟩⟩
     rw[if_neg (fun q=>c5 (beq_iff_eq.mp q))]
     refine fh (AJ hi' ?_)
     refine fh (As C (lk.kd.trans hk) (uAt hi') uB (by omega) (by omega) ?_ ?_)
     ·intro p q hpq hq e
      unfold bt at e ⊢
      rw[if_pos rfl] at e ⊢
      have e':=of_decide_eq_true e
      have:=sb (j+1+p) (j+1+q) (by omega) (by omega)
      exact decide_eq_true (by omega)
     rintro k2 ⟨k2n,k2t,k2f⟩
     have k2t':∀x,x<k2→∀y,_≤y→y<a.size→RK rk b (j+1+x)≤RK rk a y:=fun x hx y h1 h2=>by
      have e:=k2t x hx
      unfold bt at e
      rw[if_pos rfl] at e
      have e':=of_decide_eq_true e
      have:=sa _ y h1 h2
      rw[Ai hi'] at this
      omega
     have k2f':∀y,j+1+k2≤y→y<b.size→rk (a[i]'hi')≤RK rk b y:=fun y h1 h2=>by
      have e:=k2f (y- (j+1)) (by omega) (by omega)
      unfold bt at e
      rw[if_pos rfl] at e
      have e':=of_decide_eq_false e
      have ey:j+1+(y- (j+1))=y:=by omega
      rw[ey] at e'
      omega
     dsimp only
     by_cases k20:k2>0
     ·rw[if_pos k20]
      have m3:=m2.appB k2 sb (by omega) k2t'
      by_cases c6:j+1+k2=b.size
      ·rw[if_pos (beq_iff_eq.mpr c6)]
       exact fm ⟨lk,.inl ⟨_,rfl,Udn m3 (.inr c6)⟩⟩
      rw[if_neg (fun q=>c6 (beq_iff_eq.mp q))]
      have m4:=m3.pushA sa hi' k2f'
      refine fh (AJ hi' ?_)
      split
      ·rename_i c7
       exact fm ⟨lk,.inl ⟨_,rfl,Ula m4 (beq_iff_eq.mp c7)⟩⟩
      ·rename_i c7
       have c7':¬_=_:=fun q=>c7 (beq_iff_eq.mpr q)
       split
       ·exact fm ⟨lk,.inr ⟨_,_,_,_,_,_,rfl,m4,by omega,by omega,by omega⟩⟩
       ·exact fm ⟨lk,_,_,_,_,_,_,rfl,m4,by omega,by omega,by omega⟩
     ·rw[if_neg k20]
      have e2:j+1+k2=j+1:=by omega
      rw[e2] at k2f'
      have m4:=m2.pushA sa hi' k2f'
      refine fh (AJ hi' ?_)
      split
      ·rename_i c7
       exact fm ⟨lk,.inl ⟨_,rfl,Ula m4 (beq_iff_eq.mp c7)⟩⟩
      ·rename_i c7
       have c7':¬_=_:=fun q=>c7 (beq_iff_eq.mpr q)
       split
       ·exact fm ⟨lk,.inr ⟨_,_,_,_,_,_,rfl,m4,by omega,by omega,by omega⟩⟩
       ·exact fm ⟨lk,_,_,_,_,_,_,rfl,m4,by omega,by omega,by omega⟩
  ·rintro c st2 ⟨lk,out,i,j,mg,ac,bc,rfl,hd⟩
   have e:max 0 (a.size+b.size)=a.size+b.size:=by omega
   rw[e] at hd
   exact⟨lk,.inr ⟨_,_,_,_,_,_,rfl,hd.m,hd.hi,hd.hj,by have:=hd.hn;omega⟩⟩
  rintro c st2 ⟨lk,⟨r,e,f⟩| ⟨out,i,j,mg,ac,bc,rfl,hd⟩⟩
  ·obtain⟨c1,c2⟩:=c
   cases e
   exact fm ⟨lk,_,rfl,f⟩
  dsimp only
  refine fh (Cj lk fun st3 lk=>?_)
  exact fm ⟨lk,_,_,_,_,rfl,hd⟩
 ·rintro c st1 ⟨lk,out,i,j,mg,rfl,hd⟩
  have e:max 0 (a.size+b.size)=a.size+b.size:=by omega
  rw[e] at hd
  have:=hd.hn
  have:=hd.hi
  have:=hd.hj
  omega
 ·rintro c st1 ⟨lk,r,e,f⟩
  obtain⟨c1,c2⟩:=c
  cases e
  exact fm (h _ _ lk f)
end
end SrtG
namespace SrtG
local macro_rules | `(tactic| omega) => `(tactic| first | lia | omega)
open PySem PyProof.Rows
variable{rk:Keyed→Int}
structure Mrh(rk:Keyed→Int)(a b out:Array Keyed)(i j:Nat):Prop where
 hi:i≤a.size
 hj:j≤b.size
 perm:out.toList.Perm (a.toList.drop i++b.toList.drop j)
 srt:out.toList.Pairwise fun x y=>rk y≤rk x
 ha:∀x,x∈out.toList→∀y,y<i→RK rk a y≤rk x
 hb:∀x,x∈out.toList→∀y,y<j→RK rk b y≤rk x
theorem Mrh.sym{a b out:Array Keyed}{i j:Nat}(m:Mrh rk a b out i j):Mrh rk b a out j i:=
 ⟨m.hj,m.hi,m.perm.trans jU,m.srt,m.hb,m.ha⟩
theorem Mrh.pushA{a b out:Array Keyed}{i j:Nat}(m:Mrh rk a b out (i+1) j)(sa:Ew rk a)(h:i<a.size)(hb:∀y,y<j→RK rk b y≤rk a[i]):Mrh rk a b (out.push a[i]) i j:=by
 have e:(out.push a[i]).toList=out.toList++[a[i]]:=kJ ..
 have t:a.toList.drop i=a[i]::a.toList.drop (i+1):=by
  have hl:i<a.toList.length:=by rw[fw];exact h
  rw[ku hl]
  rfl
 refine⟨by omega,m.hj,?_,?_,?_,?_⟩
 ·rw[e,t]
  exact jU.trans (m.perm.cons a[i])
 ·rw[e,kH]
  refine⟨m.srt,j5 _ _,fun x hx y hy=>?_⟩
  cases b9.mp hy
  have:=m.ha x hx i (kX _)
  rwa[Ai h] at this
 ·intro x hx y hy
  rw[e] at hx
  rcases gu.mp hx with hx|hx
  ·exact m.ha x hx y (by omega)
  ·cases b9.mp hx
   have:=sa y i (by omega) h
   rwa[Ai h] at this
 ·intro x hx y hy
  rw[e] at hx
  rcases gu.mp hx with hx|hx
  ·exact m.hb x hx y hy
  ·cases b9.mp hx
   exact hb y hy
theorem Mrh.pushB{a b out:Array Keyed}{i j:Nat}(m:Mrh rk a b out i (j+1))(sb:Ew rk b)(h:j<b.size)(ha:∀y,y<i→RK rk a y≤rk b[j]):Mrh rk a b (out.push b[j]) i j:=(m.sym.pushA sb h ha).sym
theorem Ij(a:Array Keyed)(l h:Nat)(hl:l<h)(hh:h≤a.size):(a.extract l h).reverse=(a.extract (l+1) h).reverse.push (a[l]'(by omega)):=by
 apply lE
 rw[kJ,je,je,iS,iS,ie,ie]
 have hln:l<a.toList.length:=by rw[fw];omega
 have e1:h-l=(h- (l+1))+1:=by omega
 rw[ku hln,e1,List.take_succ_cons,mT]
 rfl
theorem Mrh.appA{a b:Array Keyed}{i j:Nat}:∀(k:Nat) {out:Array Keyed},Mrh rk a b out i j→Ew rk a→k≤i→(∀x,i-k≤x→x<i→∀y,y<j→RK rk b y≤RK rk a x)→Mrh rk a b (out++(a.extract (i-k) i).reverse) (i-k) j
 |0,out,m,_,_,_=>by
  have:out++(a.extract (i-0) i).reverse=out:=by
   apply lE
   rw[kb,je,iS,ie]
   have:i- (i-0)=0:=by omega
   rw[this,pK,List.reverse_nil,i8]
  rw[this];exact m
 |k+1,out,m,sa,h,hb=>by
  have hi:=m.hi
  have m':=Mrh.appA k m sa (by omega) fun x hx=>hb x (by omega)
  have hk:i- (k+1)<a.size:=by omega
  have e:i- (k+1)+1=i-k:=by omega
  rw[Ij a (i- (k+1)) i (by omega) hi,Array.append_push,e]
  rw[←e] at m'
  have q:=m'.pushA sa hk fun y h1=>by
   have:=hb (i- (k+1)) (by omega) (by omega) y h1
   rwa[Ai hk] at this
  rw[e] at q
  exact q
theorem Mrh.appA'{a b out:Array Keyed}{i j l:Nat}(m:Mrh rk a b out i j)(sa:Ew rk a)(h:l≤i)(hb:∀x,l≤x→x<i→∀y,y<j→RK rk b y≤RK rk a x):Mrh rk a b (out++(a.extract l i).reverse) l j:=by
 have e:i- (i-l)=l:=by omega
 have q:=m.appA (i-l) sa (by omega) (by rw[e];exact hb)
 rwa[e] at q
theorem Mrh.appB'{a b out:Array Keyed}{i j l:Nat}(m:Mrh rk a b out i j)(sb:Ew rk b)(h:l≤j)(ha:∀x,l≤x→x<j→∀y,y<i→RK rk a y≤RK rk b x):Mrh rk a b (out++(b.extract l j).reverse) i l:=(m.sym.appA' sb h ha).sym
theorem Mrh.fin{a b out:Array Keyed}(m:Mrh rk a b out 0 0):Fin2 rk a b out.reverse:=by
 have p:=m.perm
 rw[pL,pL] at p
 constructor
 ·rw[je]
  exact(List.reverse_perm _).trans p
 ·rw[je,List.pairwise_reverse]
  exact m.srt
theorem Mrh.restAB{a b out:Array Keyed}{i j:Nat}(m:Mrh rk a b out i j)(sa:Ew rk a)(sb:Ew rk b)(h:∀x y,x<i→y<j→RK rk a x≤RK rk b y):Fin2 rk a b (a.extract 0 i++b.extract 0 j++out.reverse):=by
 have m1:=m.appB' (l:=0) sb (by omega) fun x _ hx y hy=>h y x hy hx
 have m2:=m1.appA' (l:=0) sa (by omega) fun x _ _ y hy=>by omega
 have f:=m2.fin
 have e:(out++(b.extract 0 j).reverse++(a.extract 0 i).reverse).reverse=a.extract 0 i++b.extract 0 j++out.reverse:=by
  apply lE
  rw[je,kb,kb,kb,kb,je,je,je,nB,nB,List.reverse_reverse,List.reverse_reverse,jB]
 rwa[e] at f
theorem Mrh.restBA{a b out:Array Keyed}{i j:Nat}(m:Mrh rk a b out i j)(sa:Ew rk a)(sb:Ew rk b)(h:∀x y,x<i→y<j→RK rk b y≤RK rk a x):Fin2 rk a b (b.extract 0 j++a.extract 0 i++out.reverse):=by
 have f:=m.sym.restAB sb sa fun x y h1 h2=>h y x h2 h1
 exact⟨f.perm.trans jU,f.srt⟩
noncomputable def KJ:Array Keyed→Array Keyed→StateT SortSt Sem (Array Keyed):=sortPriv%PySem.Builtin.mergeHi
noncomputable abbrev fH(a b out:Array Keyed)(i j:Nat):Array Keyed:=a.extract 0 i++b.extract 0 j++out.reverse
noncomputable abbrev fI(a b out:Array Keyed)(i j:Nat):Array Keyed:=b.extract 0 j++a.extract 0 i++out.reverse
end SrtG
namespace SrtG
local macro_rules | `(tactic| omega) => `(tactic| first | lia | omega)
open PySem PyProof.Rows
variable{prog:Program}{w:World}{A:gx}{E:Value→Shared→Prop}{s:Shared}{kd:j7}{U:Keyed→Prop}{rk:Keyed→Int}
theorem Mrh.pushA1{a b out:Array Keyed}{i j:Nat}(m:Mrh rk a b out i j)(sa:Ew rk a)(h0:0<i)(h:i-1<a.size)(hb:∀y,y<j→RK rk b y≤rk a[i-1]):Mrh rk a b (out.push a[i-1]) (i-1) j:=by
 cases i with
 |zero=>omega
 |succ i=>exact m.pushA sa h hb
structure Hh(rk:Keyed→Int)(a b out:Array Keyed)(i j n:Nat):Prop where
 m:Mrh rk a b out i j
 hi:0<i
 hj:1<j
 hn:i+j+n≤a.size+b.size
theorem KL{a b:Array Keyed}{st:hV}{Q:Array Keyed→hV→Prop}(C:Oc prog w A E s kd U rk)(hk:kindOf st=kd)(uA:AllU U a)(uB:AllU U b)(sa:Ew rk a)(sb:Ew rk b)(ha0:0<a.size)(hb0:0<b.size)
  (hfst:RK rk b 0≤RK rk a 0) (hlst:RK rk b (b.size-1)≤RK rk a (a.size-1))
  (h:∀r st',Like st st'→Fin2 rk a b r→Q r st'):wpS (model prog w) A E s (KJ a b) Q st:=by
 have Udn:∀{out i j},Mrh rk a b out i j→i=0∨j=0→Fin2 rk a b (fH a b out i j):=fun m hh=>m.restAB sa sb fun x y _ _=>by omega
 have Ula:∀{out i j},Mrh rk a b out i j→j=1→Fin2 rk a b (fI a b out i j):=fun{out i j} m hh=>m.restBA sa sb fun x y h1 h2=>by
  have hi:=m.hi
  have e1:=sa 0 x (by omega) (by omega)
  have e:y=0:=by omega
  subst e
  omega
 have uAt:∀{i} (hi:i<a.size),U a[i]:=fun hi=>uA _ _ (getElem?_pos a _ hi)
 have uBt:∀{i} (hi:i<b.size),U b[i]:=fun hi=>uB _ _ (getElem?_pos b _ hi)
 have hal:a.size-1<a.size:=by omega
 delta KJ
 refine fh (mJ (kK ⟨rfl,?_⟩))
 refine fh (AJ hal ?_)
 have m0:Mrh rk a b #[] (a.size-1+1) b.size:=by
  have e:a.size-1+1=a.size:=by omega
  rw[e]
  refine⟨by omega,by omega,?_,gS.nil,(fun x hx=>by cases hx),(fun x hx=>by cases hx)⟩
  rw[←fw,←fw,List.drop_length,List.drop_length]
  exact k9.nil
 have m1:Mrh rk a b #[a[a.size-1]] (a.size-1) b.size:=m0.pushA sa hal fun y hy=>by
  have e1:=sb y (b.size-1) (by omega) (by omega)
  rw[←Ai (rk:=rk) hal]
  omega
 dsimp only
 by_cases c1:a.size-1=0
 ·rw[if_pos (beq_iff_eq.mpr c1)]
  exact fm (h _ _ (Like.refl _) (Udn m1 (.inl c1)))
 rw[if_neg (fun q=>c1 (beq_iff_eq.mp q))]
 by_cases c2:b.size=1
 ·rw[if_pos (beq_iff_eq.mpr c2)]
  exact fm (h _ _ (Like.refl _) (Ula m1 c2))
 rw[if_neg (fun q=>c2 (beq_iff_eq.mp q))]
 refine fh (lX ?_)
 refine fh (jv (iF (I:=fun x c st'=>Like st st'∧∃out i j mg,c=(none,i,j,out,mg)∧Hh rk a b out i j (x+1))
  (Q:=fun c st'=>Like st st'∧∃r,c.1=some r∧Fin2 rk a b r) ?_ ?_ ⟨Like.refl _,_,_,_,_,rfl,m1,by omega,by omega,by omega⟩) ?_)
 ·rintro x c st1 _ hx ⟨lk,out,i,j,mg,rfl,hd⟩
  dsimp only
  refine fh (jv (iF (I:=fun _ c st'=>Like st st'∧∃out i j ac bc,c=(none,i,j,out,ac,bc)∧Hh rk a b out i j (x+1))
   (Q:=fun c st'=>Like st st'∧((∃r,c.1=some r∧Fin2 rk a b r)∨∃out i j ac bc,c=(none,i,j,out,ac,bc)∧Hh rk a b out i j (x+1))) ?_ ?_ ⟨lk,_,_,_,_,_,rfl,hd⟩) ?_)
  ·rintro x1 c st2 _ hx1 ⟨lk,out,i,j,ac,bc,rfl,hd⟩
   have hi0:=hd.hi
   have hj0:=hd.hj
   have hin:=hd.hn
   have hia:i-1<a.size:=by have:=hd.m.hi;omega
   have hjb:j-1<b.size:=by have:=hd.m.hj;omega
   have ei:i-1+1=i:=by omega
   have ej:j-1+1=j:=by omega
   have m:=hd.m
   dsimp only
   refine fh (AJ hjb ?_)
   refine fh (AJ hia ?_)
   refine fh (C _ _ _ _ (lk.kd.trans hk) (uBt hjb) (uAt hia) ?_)
   dsimp only
   by_cases hlt:rk b[j-1]<rk a[i-1]
   ·rw[if_pos (by exact decide_eq_true hlt)]
    rw[←ei] at m
    have m:=m.pushA sa hia fun y h1=>by
     have:=sb y (j-1) (by omega) hjb
     rw[Ai hjb] at this
     omega
    refine fh (AJ hia ?_)
    by_cases c3:i-1=0
    ·rw[if_pos (beq_iff_eq.mpr c3)]
     exact fm ⟨lk,.inl ⟨_,rfl,Udn m (.inl c3)⟩⟩
    rw[if_neg (fun q=>c3 (beq_iff_eq.mp q))]
    have hd':Hh rk a b (out.push a[i-1]) (i-1) j (x+1):=⟨m,by omega,by omega,by omega⟩
    split
    ·exact fm ⟨lk,.inr ⟨_,_,_,_,_,rfl,hd'⟩⟩
    ·exact fm ⟨lk,_,_,_,_,_,rfl,hd'⟩
   ·rw[if_neg (fun q=>hlt (of_decide_eq_true q))]
    rw[←ej] at m
    have m:=m.pushB sb hjb fun y h1=>by
     have:=sa y (i-1) (by omega) hia
     rw[Ai hia] at this
     omega
    refine fh (AJ hjb ?_)
    by_cases c3:j-1=1
    ·rw[if_pos (beq_iff_eq.mpr c3)]
     exact fm ⟨lk,.inl ⟨_,rfl,Ula m c3⟩⟩
    rw[if_neg (fun q=>c3 (beq_iff_eq.mp q))]
    have hd':Hh rk a b (out.push b[j-1]) i (j-1) (x+1):=⟨m,by omega,by omega,by omega⟩
    split
    ·exact fm ⟨lk,.inr ⟨_,_,_,_,_,rfl,hd'⟩⟩
    ·exact fm ⟨lk,_,_,_,_,_,rfl,hd'⟩
  ·rintro c st2 ⟨lk,hh⟩
   exact⟨lk,.inr hh⟩
  rintro c st2 ⟨lk,⟨r,e,f⟩| ⟨out,i,j,ac,bc,rfl,hd⟩⟩
  ·obtain⟨c1,c2⟩:=c
   cases e
   exact fm ⟨lk,_,rfl,f⟩
  dsimp only
  refine fh (mJ (kK ⟨rfl,?_⟩))
  refine fh (jv (iF (I:=fun y c st'=>Like st st'∧∃out i j mg ac bc,c=(none,i,j,out,mg,ac,bc)∧Hh rk a b out i j (x+1+y))
   (Q:=fun c st'=>Like st st'∧((∃r,c.1=some r∧Fin2 rk a b r)∨∃out i j mg ac bc,c=(none,i,j,out,mg,ac,bc)∧Hh rk a b out i j (x+1+1))) ?_ ?_ ⟨lk,_,_,_,_,_,_,rfl,hd⟩) ?_)
  ·rintro x1 c st2 _ hx1 ⟨lk,out,i,j,mg,ac,bc,rfl,hd⟩
   have hi0:=hd.hi
   have hj0:=hd.hj
   have hin:=hd.hn
   have hia:=hd.m.hi
   have hjl:=hd.m.hj
   have hjb:j-1<b.size:=by omega
   dsimp only
   refine dite (mg>1) (fun hmg=>?_) (fun hmg=>?_)
   all_goals first|rw[if_pos hmg]|rw[if_neg hmg]
   all_goals
    refine fh (Cj lk fun st3 lk=>?_)
    refine fh (AJ hjb ?_)
    refine fh (As C (lk.kd.trans hk) (uBt hjb) uA (by omega) (by omega) ?_ ?_)
    ·intro p q hpq hq e
     unfold bt at e ⊢
     rw[if_neg c9] at e ⊢
     have e':=of_decide_eq_false (jc _|>.mp e)
     have:=sa (0+p) (0+q) (by omega) (by omega)
     exact(jc _).mpr (decide_eq_false (by omega))
    rintro p ⟨kn,kt,kf⟩
    have kf':∀y,y<p→RK rk a y≤rk b[j-1]:=fun y hy=>by
     have e:=kt y hy
     unfold bt at e
     rw[if_neg c9] at e
     have e':=of_decide_eq_false (jc _|>.mp e)
     rw[kG] at e'
     omega
    have kt':∀x,p≤x→x<i→∀y,y<j→RK rk b y≤RK rk a x:=fun x h1 h2 y h3=>by
     have e:=kf x h1 h2
     unfold bt at e
     rw[if_neg c9] at e
     have e':=of_decide_eq_true (nY _|>.mp e)
     rw[kG] at e'
     have:=sb y (j-1) (by omega) hjb
     rw[Ai hjb] at this
     omega
    have m:=hd.m.appA' sa kn kt'
    dsimp only
    by_cases k0:i-p>0
    ·rw[if_pos k0]
     by_cases c3:p=0
     ·rw[if_pos (beq_iff_eq.mpr c3)]
      exact fm ⟨lk,.inl ⟨_,rfl,Udn m (.inl c3)⟩⟩
     rw[if_neg (fun q=>c3 (beq_iff_eq.mp q))]
     have hI:0<p:=by omega
     have ej:j-1+1=j:=by omega
     rw[←ej] at m
     have m2:=m.pushB sb hjb kf'
     refine fh (AJ hjb ?_)
     by_cases c5:j-1=1
     ·rw[if_pos (beq_iff_eq.mpr c5)]
      exact fm ⟨lk,.inl ⟨_,rfl,Ula m2 (by omega)⟩⟩
     rw[if_neg (fun q=>c5 (beq_iff_eq.mp q))]
     have hI1:p-1<a.size:=by omega
     refine fh (AJ hI1 ?_)
     refine fh (As C (lk.kd.trans hk) (uAt hI1) uB (by omega) (by omega) ?_ ?_)
     ·intro p q hpq hq e
      unfold bt at e ⊢
      rw[if_pos rfl] at e ⊢
      have e':=of_decide_eq_true e
      have:=sb (0+p) (0+q) (by omega) (by omega)
      exact decide_eq_true (by omega)
     rintro q ⟨k2n,k2t,k2f⟩
     have k2t':∀y,y<q→RK rk b y≤rk (a[p-1]'hI1):=fun y hx=>by
      have e:=k2t y hx
      unfold bt at e
      rw[if_pos rfl] at e
      have e':=of_decide_eq_true e
      rw[kG] at e'
      omega
     have k2f':∀x,q≤x→x<j-1→∀y,y<p→RK rk a y≤RK rk b x:=fun x h1 h2 y h3=>by
      have e:=k2f x h1 h2
      unfold bt at e
      rw[if_pos rfl] at e
      have e':=of_decide_eq_false e
      rw[kG] at e'
      have:=sa y (p-1) (by omega) hI1
      rw[Ai hI1] at this
      omega
     have eI:p-1+1=p:=by omega
     dsimp only
     by_cases k20:j-1-q>0
     ·rw[if_pos k20]
      have m3:=m2.appB' sb k2n k2f'
      by_cases c6:q=1
      ·rw[if_pos (beq_iff_eq.mpr c6)]
       exact fm ⟨lk,.inl ⟨_,rfl,Ula m3 (by omega)⟩⟩
      rw[if_neg (fun q=>c6 (beq_iff_eq.mp q))]
      by_cases c8:q=0
      ·rw[if_pos (beq_iff_eq.mpr c8)]
       exact fm ⟨lk,.inl ⟨_,rfl,Udn m3 (.inr c8)⟩⟩
      rw[if_neg (fun q=>c8 (beq_iff_eq.mp q))]
      have m4:=m3.pushA1 sa hI hI1 k2t'
      refine fh (AJ hI1 ?_)
      by_cases c7:p-1=0
      ·rw[if_pos (beq_iff_eq.mpr c7)]
       exact fm ⟨lk,.inl ⟨_,rfl,Udn m4 (.inl c7)⟩⟩
      rw[if_neg (fun q=>c7 (beq_iff_eq.mp q))]
      split
      ·exact fm ⟨lk,.inr ⟨_,_,_,_,_,_,rfl,m4,by omega,by omega,by omega⟩⟩
      ·exact fm ⟨lk,_,_,_,_,_,_,rfl,m4,by omega,by omega,by omega⟩
     ·rw[if_neg k20]
      have e2:q=j-1:=by omega
      rw[e2] at k2t'
      have m4:=m2.pushA1 sa hI hI1 k2t'
      refine fh (AJ hI1 ?_)
      by_cases c7:p-1=0
      ·rw[if_pos (beq_iff_eq.mpr c7)]
       exact fm ⟨lk,.inl ⟨_,rfl,Udn m4 (.inl c7)⟩⟩
      rw[if_neg (fun q=>c7 (beq_iff_eq.mp q))]
      split
      ·exact fm ⟨lk,.inr ⟨_,_,_,_,_,_,rfl,m4,by omega,by omega,by omega⟩⟩
      ·exact fm ⟨lk,_,_,_,_,_,_,rfl,m4,by omega,by omega,by omega⟩
    ·rw[if_neg k0]
     have e0:p=i:=by omega
     rw[e0] at kf'
     clear m
     have m:=hd.m
     have hI:=hi0
     have ej:j-1+1=j:=by omega
     rw[←ej] at m
     have m2:=m.pushB sb hjb kf'
     refine fh (AJ hjb ?_)
     by_cases c5:j-1=1
     ·rw[if_pos (beq_iff_eq.mpr c5)]
      exact fm ⟨lk,.inl ⟨_,rfl,Ula m2 (by omega)⟩⟩
     rw[if_neg (fun q=>c5 (beq_iff_eq.mp q))]
     have hI1:i-1<a.size:=by omega
     refine fh (AJ hI1 ?_)
     refine fh (As C (lk.kd.trans hk) (uAt hI1) uB (by omega) (by omega) ?_ ?_)
     ·intro p q hpq hq e
      unfold bt at e ⊢
      rw[if_pos rfl] at e ⊢
      have e':=of_decide_eq_true e
      have:=sb (0+p) (0+q) (by omega) (by omega)
      exact decide_eq_true (by omega)
     rintro q ⟨k2n,k2t,k2f⟩
     have k2t':∀y,y<q→RK rk b y≤rk (a[i-1]'hI1):=fun y hx=>by
      have e:=k2t y hx
      unfold bt at e
      rw[if_pos rfl] at e
      have e':=of_decide_eq_true e
      rw[kG] at e'
      omega
     have k2f':∀x,q≤x→x<j-1→∀y,y<i→RK rk a y≤RK rk b x:=fun x h1 h2 y h3=>by
      have e:=k2f x h1 h2
      unfold bt at e
      rw[if_pos rfl] at e
      have e':=of_decide_eq_false e
      rw[kG] at e'
      have:=sa y (i-1) (by omega) hI1
      rw[Ai hI1] at this
      omega
     have eI:i-1+1=i:=by omega
     dsimp only
     by_cases k20:j-1-q>0
     ·rw[if_pos k20]
      have m3:=m2.appB' sb k2n k2f'
      by_cases c6:q=1
      ·rw[if_pos (beq_iff_eq.mpr c6)]
       exact fm ⟨lk,.inl ⟨_,rfl,Ula m3 (by omega)⟩⟩
      rw[if_neg (fun q=>c6 (beq_iff_eq.mp q))]
      by_cases c8:q=0
      ·rw[if_pos (beq_iff_eq.mpr c8)]
       exact fm ⟨lk,.inl ⟨_,rfl,Udn m3 (.inr c8)⟩⟩
      rw[if_neg (fun q=>c8 (beq_iff_eq.mp q))]
      have m4:=m3.pushA1 sa hI hI1 k2t'
      refine fh (AJ hI1 ?_)
      by_cases c7:i-1=0
      ·rw[if_pos (beq_iff_eq.mpr c7)]
       exact fm ⟨lk,.inl ⟨_,rfl,Udn m4 (.inl c7)⟩⟩
      rw[if_neg (fun q=>c7 (beq_iff_eq.mp q))]
      split
      ·exact fm ⟨lk,.inr ⟨_,_,_,_,_,_,rfl,m4,by omega,by omega,by omega⟩⟩
      ·exact fm ⟨lk,_,_,_,_,_,_,rfl,m4,by omega,by omega,by omega⟩
     ·rw[if_neg k20]
      have e2:q=j-1:=by omega
      rw[e2] at k2t'
      have m4:=m2.pushA1 sa hI hI1 k2t'
      refine fh (AJ hI1 ?_)
      by_cases c7:i-1=0
      ·rw[if_pos (beq_iff_eq.mpr c7)]
       exact fm ⟨lk,.inl ⟨_,rfl,Udn m4 (.inl c7)⟩⟩
      rw[if_neg (fun q=>c7 (beq_iff_eq.mp q))]
      split
      ·exact fm ⟨lk,.inr ⟨_,_,_,_,_,_,rfl,m4,by omega,by omega,by omega⟩⟩
      ·exact fm ⟨lk,_,_,_,_,_,_,rfl,m4,by omega,by omega,by omega⟩
  ·rintro c st2 ⟨lk,out,i,j,mg,ac,bc,rfl,hd⟩
   have e:max 0 (a.size+b.size)=a.size+b.size:=by omega
   rw[e] at hd
   exact⟨lk,.inr ⟨_,_,_,_,_,_,rfl,hd.m,hd.hi,hd.hj,by have:=hd.hn;omega⟩⟩
  rintro c st2 ⟨lk,⟨r,e,f⟩| ⟨out,i,j,mg,ac,bc,rfl,hd⟩⟩
  ·obtain⟨c1,c2⟩:=c
   cases e
   exact fm ⟨lk,_,rfl,f⟩
  dsimp only
  refine fh (Cj lk fun st3 lk=>?_)
  exact fm ⟨lk,_,_,_,_,rfl,hd⟩
 ·rintro c st1 ⟨lk,out,i,j,mg,rfl,hd⟩
  have e:max 0 (a.size+b.size)=a.size+b.size:=by omega
  rw[e] at hd
  have:=hd.hn
  have:=hd.hi
  have:=hd.hj
  omega
 ·rintro c st1 ⟨lk,r,e,f⟩
  obtain⟨c1,c2⟩:=c
  cases e
  exact fm (h _ _ lk f)
end SrtG
namespace SrtG
local macro_rules | `(tactic| omega) => `(tactic| first | lia | omega)
open PySem PyProof.Rows
variable{rk:Keyed→Int}
noncomputable def Seg(rk:Keyed→Int)(arr:Array Keyed)(lo hi:Nat):Prop:=∀x y,lo≤x→x≤y→y<hi→RK rk arr x≤RK rk arr y
structure Upd(rk:Keyed→Int)(arr arr':Array Keyed)(lo hi:Nat):Prop where
 perm:arr'.toList.Perm arr.toList
 out:∀x,x<lo∨hi≤x→arr'[x]?=arr[x]?
 seg:Seg rk arr' lo hi
theorem CD{arr arr':Array Keyed}{x:Nat}(h:arr'[x]?=arr[x]?):RK rk arr' x=RK rk arr x:=by unfold RK;rw[h]
noncomputable abbrev back(l:List (Keyed×Nat))(lo:Nat)(arr:Array Keyed):Array Keyed:=l.foldl (fun a (p,j)=>a.setIfInBounds (lo+j) p) arr
theorem GP(lo:Nat):∀(l:List Keyed) (n:Nat) (arr:Array Keyed),lo+n+l.length≤arr.size→∀x,(back (l.zipIdx n) lo arr)[x]?=if lo+n≤x∧x<lo+n+l.length then l[x- (lo+n)]? else arr[x]?
 | [],n,arr,_,x=>by
  rw[if_neg (by rintro⟨h1,h2⟩;simp only[js] at h2;omega)]
  rfl
 |p::l,n,arr,h,x=>by
  rw[fz] at h
  have e:back ((p::l).zipIdx n) lo arr=back (l.zipIdx (n+1)) lo (arr.setIfInBounds (lo+n) p):=by rw[List.zipIdx_cons];rfl
  rw[e,GP lo l (n+1) _ (by rw[Array.size_setIfInBounds];omega) x,fz]
  by_cases c:lo+(n+1)≤x∧x<lo+(n+1)+l.length
  ·rw[if_pos c,if_pos (by omega)]
   have e2:x- (lo+n)=(x- (lo+(n+1)))+1:=by omega
   rw[e2,kZ]
  ·rw[if_neg c,Array.getElem?_setIfInBounds]
   by_cases c2:lo+n=x
   ·rw[if_pos c2,if_pos (by omega),if_pos (by omega)]
    have e2:x- (lo+n)=0:=by omega
    rw[e2];rfl
   ·rw[if_neg c2,if_neg (by omega)]
theorem Od{arr:Array Keyed}{l:List Keyed}{lo:Nat}(h:lo+l.length≤arr.size):(back l.zipIdx lo arr).toList=arr.toList.take lo++l++arr.toList.drop (lo+l.length):=by
 apply jA
 intro x
 rw[gT,GP lo l 0 arr (by omega) x]
 have hlen:arr.toList.length=arr.size:=fw
 by_cases c1:x<lo
 ·rw[if_neg (by omega),jB,ic (by rw[gX];omega),nW,if_pos c1,gT]
 ·by_cases c2:x<lo+l.length
  ·rw[if_pos (by omega),ic (by rw[gw,gX];omega),gN (by rw[gX];omega),gX]
   have e:min lo arr.toList.length=lo:=by omega
   rw[e]
   rfl
  ·rw[if_neg (by omega),gN (by rw[gw,gX];omega),jI,gw,gX]
   have e:lo+l.length+(x- (min lo arr.toList.length+l.length))=x:=by omega
   rw[e,gT]
theorem QY{arr merged:Array Keyed}{lo hi s0 e0:Nat}(hhi:lo≤hi)(hs:s0≤lo)(he:hi≤e0)(hz:e0≤arr.size)(perm:merged.toList.Perm (arr.extract lo hi).toList)(srt:merged.toList.Pairwise fun x y=>rk x≤rk y)
  (hL:∀x z,s0≤x→x<lo→x≤z→z<e0→RK rk arr x≤RK rk arr z) (hR:∀z y,s0≤z→z≤y→hi≤y→y<e0→RK rk arr z≤RK rk arr y):Upd rk arr (back merged.toList.zipIdx lo arr) s0 e0:=by
 have hx:(arr.extract lo hi).toList=(arr.toList.drop lo).take (hi-lo):=by rw[iS,ie]
 have hlenA:arr.toList.length=arr.size:=fw
 have hlen:merged.toList.length=hi-lo:=by
  rw[perm.length_eq,hx,gX,kY]
  omega
 have hfit:lo+merged.toList.length≤arr.size:=by omega
 have hget:=GP lo merged.toList 0 arr (by omega)
 have hmid:∀m,m∈merged.toList→∃z,lo≤z∧z<hi∧rk m=RK rk arr z:=fun m hm=>by
  have hm':=perm.mem_iff.mp hm
  rw[hx] at hm'
  obtain⟨i,hi'⟩:=List.mem_iff_getElem?.mp hm'
  rw[nW] at hi'
  split at hi'
  ·rename_i hlt
   rw[jI,gT] at hi'
   exact⟨lo+i,by omega,by omega,by unfold RK;rw[hi']⟩
  ·cases hi'
 have hRK:∀x,lo≤x→x<hi→∃m,m∈merged.toList∧merged.toList[x-lo]?=some m∧RK rk (back merged.toList.zipIdx lo arr) x=rk m:=fun x h1 h2=>by
  have hl:x-lo<merged.toList.length:=by omega
  refine⟨_,jk hl,gm hl,?_⟩
  unfold RK
  rw[hget x,if_pos (by omega)]
  have e:x- (lo+0)=x-lo:=by omega
  rw[e,gm hl]
 have hout:∀x,x<lo∨hi≤x→(back merged.toList.zipIdx lo arr)[x]?=arr[x]?:=fun x h=>by
  rw[hget x,if_neg (by omega)]
 refine⟨?_,fun x h=>hout x (by omega),?_⟩
 ·rw[Od hfit]
  have e:arr.toList=arr.toList.take lo++((arr.toList.drop lo).take (hi-lo))++arr.toList.drop (lo+merged.toList.length):=by
   rw[jB]
   have e2:lo+merged.toList.length=lo+(hi-lo):=by omega
   rw[e2,←List.drop_drop,jC,jC]
  rw[hx] at perm
  have:=(perm.append_left (arr.toList.take lo)).append_right (arr.toList.drop (lo+merged.toList.length))
  rw[←e] at this
  exact this
 ·intro x y h1 h2 h3
  by_cases cx:x<lo
  ·rw[CD (hout x (.inl cx))]
   by_cases cy:lo≤y∧y<hi
   ·obtain⟨m,hm,_,e⟩:=hRK y cy.1 cy.2
    obtain⟨z,z1,z2,ez⟩:=hmid m hm
    rw[e,ez]
    exact hL x z h1 cx (by omega) (by omega)
   ·rw[CD (hout y (by omega))]
    exact hL x y h1 cx h2 h3
  ·by_cases cx2:x<hi
   ·obtain⟨m,hm,hm2,e⟩:=hRK x (by omega) cx2
    rw[e]
    by_cases cy:y<hi
    ·obtain⟨m',hm',hm2',e'⟩:=hRK y (by omega) cy
     rw[e']
     by_cases exy:x=y
     ·subst exy
      rw[hm2] at hm2'
      cases hm2'
      exact jM _
     ·have hl:y-lo<merged.toList.length:=by omega
      have hl':x-lo<merged.toList.length:=by omega
      have:=iO.mp srt (x-lo) (y-lo) hl' hl (by omega)
      rw[gm hl'] at hm2
      rw[gm hl] at hm2'
      cases hm2
      cases hm2'
      exact this
    ·rw[CD (hout y (by omega))]
     obtain⟨z,z1,z2,ez⟩:=hmid m hm
     rw[ez]
     exact hR z y (by omega) (by omega) (by omega) h3
   ·rw[CD (hout x (by omega)),CD (hout y (by omega))]
    exact hR x y h1 h2 (by omega) h3
end SrtG
namespace SrtG
local macro_rules | `(tactic| omega) => `(tactic| first | lia | omega)
open PySem PyProof.Rows
variable{rk:Keyed→Int}
theorem Fg{arr:Array Keyed}{l h:Nat}(hh:h≤arr.size):(arr.extract l h).size=h-l:=by rw[Array.size_extract];omega
theorem QZ{arr:Array Keyed}{l h x:Nat}(hx:x<h-l)(hh:h≤arr.size):(arr.extract l h)[x]?=arr[l+x]?:=by
 rw[←gT,iS,ie,nW,if_pos hx,jI,gT]
theorem Ht{arr:Array Keyed}{l h x:Nat}(hx:x<h-l)(hh:h≤arr.size):RK rk (arr.extract l h) x=RK rk arr (l+x):=by unfold RK;rw[QZ hx hh]
theorem AllU.ex{U:Keyed→Prop}{arr:Array Keyed}{l h:Nat}(u:AllU U arr)(hh:h≤arr.size):AllU U (arr.extract l h):=fun i p e=>by
 have hi:i< (arr.extract l h).size:=by
  apply jy
  intro hn
  rw[Array.getElem?_eq_none (m8 hn)] at e
  cases e
 rw[Fg hh] at hi
 rw[QZ hi hh] at e
 exact u _ _ e
theorem Seg.ex{arr:Array Keyed}{l h:Nat}(sg:Seg rk arr l h)(hh:h≤arr.size):Ew rk (arr.extract l h):=fun i j hij hj=>by
 rw[Fg hh] at hj
 rw[Ht (by omega) hh,Ht hj hh]
 exact sg _ _ (by omega) (by omega) (by omega)
section
variable{prog:Program}{w:World}{A:gx}{E:Value→Shared→Prop}{s:Shared}{kd:j7}{U:Keyed→Prop}
theorem Tv{st st':hV}{Q:PUnit→hV→Prop}(h:Q ⟨⟩ st'):wpS (model prog w) A E s (set st':StateT hV Sem PUnit) Q st:=by
 unfold wpS;rw[StateT.run_set];exact b8 ⟨rfl,h⟩
theorem KM{i sa na pa sb nb pb:Nat}{st:hV}{Q:Bool→hV→Prop}(C:Oc prog w A E s kd U rk)(hk:kindOf st=kd)(hU:AllU U (arrOf st))(hf:kj st=none)
  (h1:(pendingOf st)[i]?=some (sa,na,pa)) (h2:(pendingOf st)[i+1]?=some (sb,nb,pb)) (hsb:sb=sa+na) (hna:0<na) (hnb:0<nb) (hsz:sb+nb≤(arrOf st).size) (S1:Seg rk (arrOf st) sa sb) (S2:Seg rk (arrOf st) sb (sb+nb))
  (h:∀st',kindOf st'=kd→kj st'=none→pendingOf st'=((pendingOf st).setIfInBounds i (sa,na+nb,pa)).eraseIdxIfInBounds (i+1)→Upd rk (arrOf st) (arrOf st') sa (sb+nb)→Q true st'):
  wpS (model prog w) A E s (mergeAt' i) Q st:=by
 delta mergeAt'
 refine fh (lX ?_)
 rw[h1,h2]
 dsimp only
 refine fh (Tv ?_)
 have hsbz:sb< (arrOf st).size:=by omega
 have uAt:∀{i} (hi:i< (arrOf st).size),U (arrOf st)[i]:=fun hi=>hU _ _ (getElem?_pos (arrOf st) _ hi)
 refine fh (AJ (arr:=arrOf st) hsbz ?_)
 refine fh (As (arr:=arrOf st) C hk (uAt hsbz) hU (by omega) hna ?_ ?_)
 ·intro p q hpq hq e
  unfold bt at e ⊢
  rw[if_neg c9] at e ⊢
  have e':=of_decide_eq_false (jc _|>.mp e)
  have:=S1 (sa+p) (sa+q) (by omega) (by omega) (by omega)
  exact(jc _).mpr (decide_eq_false (by omega))
 rintro k ⟨kn,kt,kf⟩
 have kt':∀x,sa≤x→x<sa+k→RK rk (arrOf st) x≤RK rk (arrOf st) sb:=fun x hx1 hx=>by
  have e:=kt (x-sa) (by omega)
  unfold bt at e
  rw[if_neg c9] at e
  have e':=of_decide_eq_false (jc _|>.mp e)
  have ex:sa+(x-sa)=x:=by omega
  rw[ex] at e'
  rw[Ai hsbz]
  omega
 have kf':∀x,sa+k≤x→x<sb→RK rk (arrOf st) sb<RK rk (arrOf st) x:=fun x hx1 hx=>by
  have e:=kf (x-sa) (by omega) (by omega)
  unfold bt at e
  rw[if_neg c9] at e
  have e':=of_decide_eq_true (nY _|>.mp e)
  have ex:sa+(x-sa)=x:=by omega
  rw[ex] at e'
  rw[Ai hsbz]
  omega
 dsimp only
 by_cases c1:na-k=0
 ·rw[if_pos (beq_iff_eq.mpr c1)]
  refine fm (h _ hk hf rfl ⟨k9.refl _,fun _ _=>rfl,fun x y hx1 hx2 hx3=>?_⟩)
  by_cases cy:y<sb
  ·exact S1 x y hx1 hx2 cy
  ·by_cases cx:x<sb
   ·have e1:=kt' x hx1 (by omega)
    have e2:=S2 sb y (by omega) (by omega) hx3
    exact kg e1 e2
   ·exact S2 x y (by omega) hx2 hx3
 rw[if_neg (fun q=>c1 (beq_iff_eq.mp q))]
 have el:sa+k+(na-k)-1=sb-1:=by omega
 rw[el]
 have hlz:sb-1< (arrOf st).size:=by omega
 refine fh (AJ (arr:=arrOf st) hlz ?_)
 refine fh (As (arr:=arrOf st) C hk (uAt hlz) hU (by omega) (by omega) ?_ ?_)
 ·intro p q hpq hq e
  unfold bt at e ⊢
  rw[if_pos rfl] at e ⊢
  have e':=of_decide_eq_true e
  have:=S2 (sb+p) (sb+q) (by omega) (by omega) (by omega)
  exact decide_eq_true (by omega)
 rintro n2 ⟨nn,nt,nf⟩
 have nt':∀x,sb≤x→x<sb+n2→RK rk (arrOf st) x<RK rk (arrOf st) (sb-1):=fun x hx1 hx=>by
  have e:=nt (x-sb) (by omega)
  unfold bt at e
  rw[if_pos rfl] at e
  have e':=of_decide_eq_true e
  have ex:sb+(x-sb)=x:=by omega
  rw[ex] at e'
  rw[Ai hlz]
  omega
 have nf':∀x,sb+n2≤x→x<sb+nb→RK rk (arrOf st) (sb-1)≤RK rk (arrOf st) x:=fun x hx1 hx=>by
  have e:=nf (x-sb) (by omega) (by omega)
  unfold bt at e
  rw[if_pos rfl] at e
  have e':=of_decide_eq_false e
  have ex:sb+(x-sb)=x:=by omega
  rw[ex] at e'
  rw[Ai hlz]
  omega
 dsimp only
 have hlast:=kf' (sb-1) (by omega) (by omega)
 by_cases c2:n2=0
 ·have:=nf' sb (by omega) (by omega)
  omega
 rw[if_neg (fun q=>c2 (beq_iff_eq.mp q))]
 have hy:sb+n2≤(arrOf st).size:=by omega
 have hx':sb≤(arrOf st).size:=by omega
 have sA:Ew rk ((arrOf st).extract (sa+k) sb):=Seg.ex (fun x y q1 q2 q3=>S1 x y (by omega) q2 q3) hx'
 have sB:Ew rk ((arrOf st).extract sb (sb+n2)):=Seg.ex (fun x y q1 q2 q3=>S2 x y q1 q2 (by omega)) hy
 have zA:((arrOf st).extract (sa+k) sb).size=sb- (sa+k):=Fg hx'
 have zB:((arrOf st).extract sb (sb+n2)).size=sb+n2-sb:=Fg hy
 have q0:RK rk ((arrOf st).extract sb (sb+n2)) 0≤RK rk ((arrOf st).extract (sa+k) sb) 0:=by
  rw[Ht (by omega) hy,Ht (by omega) hx']
  have:=kf' (sa+k+0) (by omega) (by omega)
  exact iY this
 have q1:RK rk ((arrOf st).extract sb (sb+n2)) (((arrOf st).extract sb (sb+n2)).size-1)≤RK rk ((arrOf st).extract (sa+k) sb) (((arrOf st).extract (sa+k) sb).size-1):=by
  rw[zA,zB,Ht (by omega) hy,Ht (by omega) hx']
  have:=nt' (sb+(sb+n2-sb-1)) (by omega) (by omega)
  have e:sa+k+(sb- (sa+k)-1)=sb-1:=by omega
  rw[e]
  exact iY this
 have fin:∀r (st':hV),Like (nP st (((pendingOf st).setIfInBounds i (sa,na+nb,pa)).eraseIdxIfInBounds (i+1))) st'→Fin2 rk ((arrOf st).extract (sa+k) sb) ((arrOf st).extract sb (sb+n2)) r→
   wpS (model prog w) A E s (do
    modify fun z=>setArr z (back r.toList.zipIdx (sa+k) (arrOf z))
    return(kj (←get)).isNone) Q st':=fun r st' lk f=>by
  refine fh (lj ?_)
  refine fh (lX ?_)
  have e:(kj st').isNone=true:=by rw[lk.fl];show(kj st).isNone=true;rw[hf];rfl
  show wpS _ _ _ _ (pure ((kj st').isNone)) _ _
  rw[e]
  refine fm (h _ (lk.kd.trans hk) (lk.fl.trans hf) lk.pd ?_)
  have ea:arrOf st'=arrOf st:=lk.arr
  show Upd rk (arrOf st) (back r.toList.zipIdx (sa+k) (arrOf st')) sa (sb+nb)
  rw[ea]
  refine QY (hi:=sb+n2) (by omega) (by omega) (by omega) hsz ?_ f.srt ?_ ?_
  ·have e2:((arrOf st).extract (sa+k) (sb+n2)).toList=((arrOf st).extract (sa+k) sb).toList++((arrOf st).extract sb (sb+n2)).toList:=by
    rw[iS,iS,iS,ie,ie,ie]
    have e3:sb+n2- (sa+k)=(sb- (sa+k))+(sb+n2-sb):=by omega
    rw[e3,List.take_add,List.drop_drop]
    have e4:sa+k+(sb- (sa+k))=sb:=by omega
    rw[e4]
   rw[e2]
   exact f.perm
  ·intro x z hx1 hx2 hx3 hx4
   by_cases cz:z<sb
   ·exact S1 x z hx1 hx3 cz
   ·have e1:=kt' x hx1 hx2
    have e2:=S2 sb z (by omega) (by omega) hx4
    exact kg e1 e2
  ·intro z y hx1 hx2 hx3 hx4
   by_cases cz:z<sb
   ·have e1:=S1 z (sb-1) hx1 (by omega) (by omega)
    exact kg e1 (nf' y hx3 hx4)
   ·exact S2 z y (by omega) hx2 hx4
 by_cases c3:na-k≤n2
 ·rw[if_pos c3]
  exact fh (KI (a:=(arrOf st).extract (sa+k) sb) (b:=(arrOf st).extract sb (sb+n2)) C hk (hU.ex hx') (hU.ex hy) sA sB (by omega) (by omega) q0 q1 fin)
 ·rw[if_neg c3]
  exact fh (KL (a:=(arrOf st).extract (sa+k) sb) (b:=(arrOf st).extract sb (sb+n2)) C hk (hU.ex hx') (hU.ex hy) sA sB (by omega) (by omega) q0 q1 fin)
end
end SrtG
namespace SrtG
open PySem PyProof.Rows
variable{rk:Keyed→Int}
structure Kp(st0 st:hV)(lo hi:Nat):Prop where
 kd:kindOf st=kindOf st0
 pd:pendingOf st=pendingOf st0
 fl:kj st=kj st0
 perm:(arrOf st).toList.Perm (arrOf st0).toList
 out:∀x,x<lo∨hi≤x→(arrOf st)[x]?=(arrOf st0)[x]?
theorem Kp.refl(st:hV)(lo hi:Nat):Kp st st lo hi:=⟨rfl,rfl,rfl,k9.refl _,fun _ _=>rfl⟩
theorem Kp.size{st0 st:hV}{lo hi:Nat}(k:Kp st0 st lo hi):(arrOf st).size=(arrOf st0).size:=by
 rw[←fw,←fw];exact k.perm.length_eq
theorem AllU.of_perm{U:Keyed→Prop}{a b:Array Keyed}(u:AllU U a)(p:b.toList.Perm a.toList):AllU U b:=fun i q e=>by
 have hm:q∈b.toList:=by rw[←gT] at e;exact fo e
 have hm':=p.mem_iff.mp hm
 obtain⟨j,hj⟩:=List.mem_iff_getElem?.mp hm'
 rw[gT] at hj
 exact u j q hj
theorem Kp.setA{st0 st:hV}{lo hi:Nat}(k:Kp st0 st lo hi){xs:Array Keyed}(hp:xs.toList.Perm (arrOf st).toList)(ho:∀x,x<lo∨hi≤x→xs[x]?=(arrOf st)[x]?):Kp st0 (setArr st xs) lo hi:=
 ⟨k.kd,k.pd,k.fl,hp.trans k.perm,fun x hx=> (ho x hx).trans (k.out x hx)⟩
theorem DL{xs ys:Array Keyed}{i j:Nat}(h:xs[i]?=ys[j]?):RK rk xs i=RK rk ys j:=by unfold RK;rw[h]
theorem Hu{xs:Array Keyed}{src d:Nat}(hs:src<xs.size)(hd:d≤src)(k:Nat):RK rk (bubble xs src d) k=if k=src-d then RK rk xs src else if src-d<k∧k≤src then RK rk xs (k-1) else RK rk xs k:=by
 have e:=getElem?_bubble hs d hd k
 by_cases c1:k=src-d
 ·rw[if_pos c1] at e ⊢;exact DL e
 ·rw[if_neg c1] at e ⊢
  by_cases c2:src-d<k∧k≤src
  ·rw[if_pos c2] at e ⊢;exact DL e
  ·rw[if_neg c2] at e ⊢;exact DL e
section
variable{prog:Program}{w:World}{A:gx}{E:Value→Shared→Prop}{s:Shared}{kd:j7}{U:Keyed→Prop}
theorem BM{st:hV}{i j:Nat}{Q:Option Bool→hV→Prop}(C:Oc prog w A E s kd U rk)(hk:kindOf st=kd)(hU:AllU U (arrOf st))(hi:i< (arrOf st).size)(hj:j< (arrOf st).size)
  (h:Q (some (decide (RK rk (arrOf st) i<RK rk (arrOf st) j))) st):wpS (model prog w) A E s (ltAt' i j) Q st:=by
 rw[ltAt'_eq]
 refine fh (lX ?_)
 refine fh (AJ hi ?_)
 refine fh (AJ hj ?_)
 rw[Ai hi,Ai hj] at h
 exact C _ _ _ _ hk (hU _ _ (getElem?_pos (arrOf st) _ hi)) (hU _ _ (getElem?_pos (arrOf st) _ hj)) h
theorem Ll{st:hV}{lo n ok:Nat}{Q:Bool→hV→Prop}(C:Oc prog w A E s kd U rk)(hk:kindOf st=kd)(hU:AllU U (arrOf st))(hn:lo+n≤(arrOf st).size)(hok:ok≤n)(hs:Seg rk (arrOf st) lo (lo+ok))
  (h:∀st',Kp st st' lo (lo+n)→Seg rk (arrOf st') lo (lo+n)→Q true st'):wpS (model prog w) A E s (binarySort' lo n ok) Q st:=by
 rw[binarySort'_eq]
 refine fh (jv (iF (I:=fun k c st'=>c=(none,())∧Kp st st' lo (lo+n)∧Seg rk (arrOf st') lo (lo+min k n))
  (Q:=fun c st'=>c=(none,())∧Kp st st' lo (lo+n)∧Seg rk (arrOf st') lo (lo+n)) ?step ?fin ?init) ?post)
 case post=>
  rintro c st' ⟨rfl,hB',hs'⟩
  exact fm (h st' hB' hs')
 case init=>
  refine⟨rfl,Kp.refl _ _ _,fun i j hi hij hj=>?_⟩
  by_cases c1:ok=0
  ·have:i=j:=by omega
   subst this;exact jM _
  ·exact hs i j hi hij (by omega)
 case fin=>
  rintro c st' ⟨hc,hB',hs'⟩
  refine⟨hc,hB',?_⟩
  have e:min (max (max ok 1) n) n=n:=by omega
  rwa[e] at hs'
 case step=>
  rintro k c st' hak hkn ⟨rfl,hB',hs'⟩
  have e:min k n=k:=by omega
  rw[e] at hs'
  have hz:=hB'.size
  have hks:lo+k< (arrOf st').size:=by omega
  have hU':=hU.of_perm hB'.perm
  refine fh (jv (iF (I:=fun x c st''=>st''=st'∧∃l r,c=(none,l,r)∧l≤r∧r≤k∧r-l≤k-x∧
    (∀i,i<l→RK rk (arrOf st') (lo+i)≤RK rk (arrOf st') (lo+k))∧(∀i,r≤i→i<k→RK rk (arrOf st') (lo+k)<RK rk (arrOf st') (lo+i)))
   (Q:=fun c st''=>st''=st'∧∃l r,c=(none,l,r)∧l≤k∧
    (∀i,i<l→RK rk (arrOf st') (lo+i)≤RK rk (arrOf st') (lo+k))∧(∀i,l≤i→i<k→RK rk (arrOf st') (lo+k)<RK rk (arrOf st') (lo+i))) ?istep ?ifin ?iinit) ?ipost)
  case iinit=>exact⟨rfl,0,k,rfl,by omega,by omega,by omega,fun i hi=>by omega,fun i h1 h2=>by omega⟩
  case ifin=>
   rintro c st'' ⟨rfl,l,r,rfl,hlr,hrk,hm,hlo,hhi⟩
   have:l=r:=by omega
   subst this
   exact⟨rfl,l,l,rfl,hrk,hlo,hhi⟩
  case istep=>
   rintro x c st'' _ hxk ⟨rfl,l,r,rfl,hlr,hrk,hm,hlo,hhi⟩
   dsimp only
   by_cases hge:l≥r
   ·rw[if_pos hge]
    have:l=r:=by omega
    subst this
    exact fm ⟨rfl,l,l,rfl,hrk,hlo,hhi⟩
   ·rw[if_neg hge]
    refine fh (BM C (hB'.kd.trans hk) hU' hks (by omega) ?_)
    dsimp only
    by_cases hless:RK rk (arrOf st'') (lo+k)<RK rk (arrOf st'') (lo+(l+r)/2)
    ·rw[if_pos (decide_eq_true hless)]
     refine fm ⟨rfl,l,(l+r)/2,rfl,by omega,by omega,by omega,hlo,fun i q1 q2=>?_⟩
     exact Int.lt_of_lt_of_le hless (hs' _ _ (by omega) (by omega) (by omega))
    ·rw[if_neg (fun q=>hless (of_decide_eq_true q))]
     refine fm ⟨rfl,(l+r)/2+1,r,rfl,by omega,by omega,by omega,fun i q1=>?_,hhi⟩
     exact kg (hs' (lo+i) (lo+(l+r)/2) (by omega) (by omega) (by omega)) (Int.not_lt.mp hless)
  case ipost=>
   rintro c st'' ⟨rfl,l,r,rfl,hlk,hlo,hhi⟩
   show wpS _ _ _ _ (do moveDown' (lo+k) (lo+l);pure (jR (none,()))) _ _
   rw[moveDown'_eq]
   have ed:lo+k- (lo+l)=k-l:=by omega
   refine fh (lj (fm ⟨rfl,hB'.setA (Array.perm_iff_toList_perm.mp (bubble_perm _ _ _)) ?_,?_⟩))
   ·intro x hx
    rw[ed,getElem?_bubble hks _ (by omega),if_neg (by omega),if_neg (by omega)]
   have e2:lo+min (k+1) n=lo+k+1:=by omega
   rw[e2]
   intro i j hi hij hj
   show RK rk (bubble (arrOf st'') (lo+k) (lo+k- (lo+l))) i≤RK rk (bubble (arrOf st'') (lo+k) (lo+k- (lo+l))) j
   rw[ed,Hu hks (by omega),Hu hks (by omega)]
   have e3:lo+k- (k-l)=lo+l:=by omega
   rw[e3]
   have hlo':∀i,lo≤i→i<lo+l→RK rk (arrOf st'') i≤RK rk (arrOf st'') (lo+k):=fun i q1 q2=>by
    have:=hlo (i-lo) (by omega)
    have e4:lo+(i-lo)=i:=by omega
    rwa[e4] at this
   have hhi':∀i,lo+l≤i→i<lo+k→RK rk (arrOf st'') (lo+k)≤RK rk (arrOf st'') i:=fun i q1 q2=>by
    have:=hhi (i-lo) (by omega) (by omega)
    have e4:lo+(i-lo)=i:=by omega
    rw[e4] at this
    exact iY this
   repeat' split
   all_goals first
    | (exfalso;omega)
    |exact jM _
    |exact hlo' _ (by omega) (by omega)
    |exact hhi' _ (by omega) (by omega)
    |exact hs' _ _ (by omega) (by omega) (by omega)
end
local macro_rules | `(tactic| omega) => `(tactic| first | lia | omega)
open PySem PyProof.Rows
variable{rk:Keyed→Int}
noncomputable def Dsc(rk:Keyed→Int)(arr:Array Keyed)(lo hi:Nat):Prop:=∀x y,lo≤x→x≤y→y<hi→RK rk arr y≤RK rk arr x
theorem Of{xs:Array Keyed}{i j:Nat}(hj:j≤xs.size)(k:Nat):RK rk (mirror xs i j ((j-i)/2)) k=if i≤k∧k<j then RK rk xs (i+j-1-k) else RK rk xs k:=by
 have e:=getElem?_mirror_all (i:=i) hj k
 by_cases c1:i≤k∧k<j
 ·rw[if_pos c1] at e ⊢;exact DL e
 ·rw[if_neg c1] at e ⊢;exact DL e
section
variable{prog:Program}{w:World}{A:gx}{E:Value→Shared→Prop}{s:Shared}{kd:j7}{U:Keyed→Prop}
theorem EL{st0 st:hV}{lo hi i j:Nat}{Q:Unit→hV→Prop}(k:Kp st0 st lo hi)(h1:lo≤i)(h2:j≤hi)(hj:j≤(arrOf st).size)
  (h:∀st',Kp st0 st' lo hi→(∀k,RK rk (arrOf st') k=if i≤k∧k<j then RK rk (arrOf st) (i+j-1-k) else RK rk (arrOf st) k)→Q () st'):wpS (model prog w) A E s (reverseSlice' i j) Q st:=by
 rw[reverseSlice'_eq]
 refine lj (h _ (k.setA (Array.perm_iff_toList_perm.mp (mirror_perm _ _ _ _)) fun x hx=>?_) fun k=>Of hj k)
 rw[getElem?_mirror_all hj,if_neg (by omega)]
theorem DM{st0 st:hV}{lo hi i j:Nat}{Q:Unit→hV→Prop}(k:Kp st0 st lo hi)(h1:lo≤i)(h2:j≤hi)(hj:j≤(arrOf st).size)(heq:∀k,i≤k→k<j→RK rk (arrOf st) k=RK rk (arrOf st) (j-1))
  (h:∀st',Kp st0 st' lo hi→(∀k,RK rk (arrOf st') k=RK rk (arrOf st) k)→Q () st'):wpS (model prog w) A E s (reverseSlice' i j) Q st:=by
 refine EL (rk:=rk) k h1 h2 hj fun st' k' e=>h st' k' fun x=>?_
 rw[e x]
 split
 ·rw[heq _ (by omega) (by omega),heq x (by omega) (by omega)]
 ·rfl
theorem Seg.up{arr:Array Keyed}{lo n:Nat}(sg:Seg rk arr lo (lo+n))(h1:1≤n)(hx:¬RK rk arr (lo+n)<RK rk arr (lo+n-1)):Seg rk arr lo (lo+(n+1)):=fun i j hi hij hj=>by
 by_cases c:j<lo+n
 ·exact sg i j hi hij c
 ·have e:j=lo+n:=by omega
  subst e
  by_cases c2:i=lo+n
  ·subst c2;exact jM _
  ·exact kg (sg i (lo+n-1) hi (by omega) (by omega)) (Int.not_lt.mp hx)
theorem Dsc.up{arr arr':Array Keyed}{lo n:Nat}(sg:Dsc rk arr lo (lo+n))(h1:1≤n)(hx:RK rk arr (lo+n)≤RK rk arr (lo+n-1))(he:∀k,RK rk arr' k=RK rk arr k):Dsc rk arr' lo (lo+(n+1)):=fun i j hi hij hj=>by
 rw[he,he]
 by_cases c:j<lo+n
 ·exact sg i j hi hij c
 ·have e:j=lo+n:=by omega
  subst e
  by_cases c2:i=lo+n
  ·subst c2;exact jM _
  ·exact kg hx (sg i (lo+n-1) hi (by omega) (by omega))
theorem Lm{st:hV}{lo nrem:Nat}{Q:Option Nat→hV→Prop}(C:Oc prog w A E s kd U rk)(hk:kindOf st=kd)(hU:AllU U (arrOf st))(hn:lo+nrem≤(arrOf st).size)(h1:1≤nrem)
  (h:∀m st',Kp st st' lo (lo+nrem)→1≤m→m≤nrem→Seg rk (arrOf st') lo (lo+m)→Q (some m) st'):
  wpS (model prog w) A E s (countRun' lo nrem) Q st:=by
 rw[countRun'_eq]
 refine fh (jv (iF (I:=fun x c st'=>st'=st∧c=(none,x)∧Seg rk (arrOf st) lo (lo+x))
  (Q:=fun c st'=>st'=st∧∃n,c=(none,n)∧1≤n∧n≤nrem∧Seg rk (arrOf st) lo (lo+n)∧(n=nrem∨RK rk (arrOf st) (lo+n)<RK rk (arrOf st) (lo+n-1))) ?step ?fin ⟨rfl,rfl,fun i j hi hij hj=>by have:i=j:=(by omega);subst this;exact jM _⟩) ?post)
 case fin=>
  rintro c st' ⟨rfl,rfl,hs'⟩
  have e:max 1 nrem=nrem:=by omega
  rw[e] at hs' ⊢
  exact⟨rfl,nrem,rfl,h1,fv _,hs',.inl rfl⟩
 case step=>
  rintro x c st' hax hxn ⟨rfl,rfl,hs'⟩
  dsimp only
  refine fh (BM C hk hU (by omega) (by omega) ?_)
  dsimp only
  by_cases hless:RK rk (arrOf st') (lo+x)<RK rk (arrOf st') (lo+x-1)
  ·rw[if_pos (decide_eq_true hless)]
   exact fm ⟨rfl,x,rfl,hax,by omega,hs',.inr hless⟩
  ·rw[if_neg (fun q=>hless (of_decide_eq_true q))]
   exact fm ⟨rfl,rfl,hs'.up hax hless⟩
 case post=>
  rintro c st' ⟨rfl,n,rfl,hn1,hn2,hsn,hor⟩
  dsimp only
  by_cases hnn:n=nrem
  ·rw[if_pos (beq_iff_eq.mpr hnn)]
   exact fm (h n _ (Kp.refl _ _ _) hn1 hn2 hsn)
  rw[if_neg (fun q=>hnn (beq_iff_eq.mp q))]
  have hlt:=hor.resolve_left hnn
  by_cases hgt:n>1
  ·rw[if_pos hgt]
   refine fh (BM C hk hU (by omega) (by omega) ?_)
   dsimp only
   by_cases hrose:RK rk (arrOf st') lo<RK rk (arrOf st') (lo+n-1)
   ·rw[if_pos (decide_eq_true hrose)]
    exact fm (h n _ (Kp.refl _ _ _) hn1 hn2 hsn)
   rw[if_neg (fun q=>hrose (of_decide_eq_true q))]
   have hall:∀k,lo≤k→k<lo+n→RK rk (arrOf st') k=RK rk (arrOf st') (lo+n-1):=fun k q1 q2=>by
    have a1:=hsn lo k (by omega) q1 q2
    have a2:=hsn k (lo+n-1) q1 (by omega) (by omega)
    omega
   refine fh (DM (rk:=rk) (Kp.refl st' lo (lo+nrem)) (fv _) (by omega) (by omega) hall fun st2 kp hRK=>?_)
   have hd:Dsc rk (arrOf st2) lo (lo+(n+1)):=Dsc.up (arr:=arrOf st') (fun i j q1 q2 q3=>by rw[hall i q1 (by omega),hall j (by omega) q3];exact jM _) hn1 (iY hlt) hRK
   refine fh (mJ (kK ⟨rfl,?_⟩))
   refine fh (jv (iF (I:=fun x c st3=>∃neq,c=(none,x,neq)∧Kp st' st3 lo (lo+nrem)∧Dsc rk (arrOf st3) lo (lo+x)∧neq+1≤x∧(∀i,lo+x- (neq+1)≤i→i<lo+x→RK rk (arrOf st3) i=RK rk (arrOf st3) (lo+x-1)))
    (Q:=fun c st3=>∃m neq,c=(none,m,neq)∧Kp st' st3 lo (lo+nrem)∧n+1≤m∧m≤nrem∧Dsc rk (arrOf st3) lo (lo+m)∧neq+1≤m∧(∀i,lo+m- (neq+1)≤i→i<lo+m→RK rk (arrOf st3) i=RK rk (arrOf st3) (lo+m-1))) ?_ ?_ ⟨0,rfl,kp,hd,by omega,fun i q1 q2=>by congr 1;omega⟩) ?_)
   ·rintro x c st3 hax hxn ⟨neq,rfl,kp,hd,hq,he⟩
    have hz:=kp.size
    have hU3:=hU.of_perm kp.perm
    dsimp only
    refine fh (BM C (kp.kd.trans hk) hU3 (by omega) (by omega) ?_)
    dsimp only
    by_cases hless:RK rk (arrOf st3) (lo+x)<RK rk (arrOf st3) (lo+x-1)
    ·rw[if_pos (decide_eq_true hless)]
     by_cases hneq:neq>0
     ·rw[if_pos hneq]
      refine fh (DM (rk:=rk) kp (by omega) (by omega) (by omega) he fun st4 kp4 hRK=>?_)
      exact fm ⟨0,rfl,kp4,hd.up (by omega) (iY hless) hRK,by omega,fun i q1 q2=>by congr 1;omega⟩
     ·rw[if_neg hneq]
      exact fm ⟨0,rfl,kp,hd.up (by omega) (iY hless) fun _=>rfl,by omega,fun i q1 q2=>by congr 1;omega⟩
    ·rw[if_neg (fun q=>hless (of_decide_eq_true q))]
     refine fh (BM C (kp.kd.trans hk) hU3 (by omega) (by omega) ?_)
     dsimp only
     by_cases hlarger:RK rk (arrOf st3) (lo+x-1)<RK rk (arrOf st3) (lo+x)
     ·rw[if_pos (decide_eq_true hlarger)]
      exact fm ⟨x,neq,rfl,kp,hax,by omega,hd,hq,he⟩
     ·rw[if_neg (fun q=>hlarger (of_decide_eq_true q))]
      have heqx:RK rk (arrOf st3) (lo+x)=RK rk (arrOf st3) (lo+x-1):=by omega
      refine fm ⟨neq+1,rfl,kp,hd.up (by omega) (by omega) fun _=>rfl,by omega,fun i q1 q2=>?_⟩
      have e1:lo+(x+1)-1=lo+x:=by omega
      rw[e1]
      by_cases hix:i=lo+x
      ·rw[hix]
      ·rw[heqx];exact he i (by omega) (by omega)
   ·rintro c st3 ⟨neq,rfl,kp,hd,hq,he⟩
    have e:max (n+1) nrem=nrem:=by omega
    rw[e] at hd hq he ⊢
    exact⟨nrem,neq,rfl,kp,by omega,fv _,hd,hq,he⟩
   rintro c st3 ⟨m,neq,rfl,kp,hm1,hm2,hd,hq,he⟩
   have hz:=kp.size
   dsimp only
   have rest:∀(st4:hV),Kp st' st4 lo (lo+nrem)→Dsc rk (arrOf st4) lo (lo+m)→∀st5,Kp st' st5 lo (lo+nrem)→(∀k,RK rk (arrOf st5) k=if lo≤k∧k<lo+m then RK rk (arrOf st4) (lo+(lo+m)-1-k) else RK rk (arrOf st4) k)→Seg rk (arrOf st5) lo (lo+m):=fun st4 _ d4 st5 _ e5 i j q1 q2 q3=>by
    rw[e5,e5,if_pos (by omega),if_pos (by omega)]
    exact d4 _ _ (by omega) (by omega) (by omega)
   by_cases hneq:neq>0
   ·rw[if_pos hneq]
    refine fh (DM (rk:=rk) kp (by omega) (by omega) (by omega) he fun st4 kp4 hRK=>?_)
    have d4:Dsc rk (arrOf st4) lo (lo+m):=fun i j q1 q2 q3=>by rw[hRK,hRK];exact hd i j q1 q2 q3
    have hz4:=kp4.size
    refine fh (EL (rk:=rk) kp4 (fv _) (by omega) (by omega) fun st5 kp5 e5=>?_)
    have s5:=rest _ kp4 d4 st5 kp5 e5
    have hz5:=kp5.size
    have hU5:=hU.of_perm kp5.perm
    refine fh (jv (iF (I:=fun x c st6=>st6=st5∧c=(none,x)∧Seg rk (arrOf st5) lo (lo+x))
     (Q:=fun c st6=>st6=st5∧∃n,c=(none,n)∧1≤n∧n≤nrem∧Seg rk (arrOf st5) lo (lo+n)) ?_ ?_ ⟨rfl,rfl,s5⟩) ?_)
    ·rintro x c st6 hax hxn ⟨rfl,rfl,hs'⟩
     dsimp only
     refine fh (BM C (kp5.kd.trans hk) hU5 (by omega) (by omega) ?_)
     dsimp only
     by_cases hless:RK rk (arrOf st6) (lo+x)<RK rk (arrOf st6) (lo+x-1)
     ·rw[if_pos (decide_eq_true hless)]
      exact fm ⟨rfl,x,rfl,by omega,by omega,hs'⟩
     ·rw[if_neg (fun q=>hless (of_decide_eq_true q))]
      exact fm ⟨rfl,rfl,hs'.up (by omega) hless⟩
    ·rintro c st6 ⟨rfl,rfl,hs'⟩
     have e:max m nrem=nrem:=by omega
     rw[e] at hs' ⊢
     exact⟨rfl,nrem,rfl,h1,fv _,hs'⟩
    rintro c st6 ⟨rfl,n5,rfl,q1,q2,q3⟩
    exact fm (h n5 _ kp5 q1 q2 q3)
   ·rw[if_neg hneq]
    have kp4:=kp
    have d4:=hd
    have hz4:=hz
    refine fh (EL (rk:=rk) kp4 (fv _) (by omega) (by omega) fun st5 kp5 e5=>?_)
    have s5:=rest _ kp4 d4 st5 kp5 e5
    have hz5:=kp5.size
    have hU5:=hU.of_perm kp5.perm
    refine fh (jv (iF (I:=fun x c st6=>st6=st5∧c=(none,x)∧Seg rk (arrOf st5) lo (lo+x))
     (Q:=fun c st6=>st6=st5∧∃n,c=(none,n)∧1≤n∧n≤nrem∧Seg rk (arrOf st5) lo (lo+n)) ?_ ?_ ⟨rfl,rfl,s5⟩) ?_)
    ·rintro x c st6 hax hxn ⟨rfl,rfl,hs'⟩
     dsimp only
     refine fh (BM C (kp5.kd.trans hk) hU5 (by omega) (by omega) ?_)
     dsimp only
     by_cases hless:RK rk (arrOf st6) (lo+x)<RK rk (arrOf st6) (lo+x-1)
     ·rw[if_pos (decide_eq_true hless)]
      exact fm ⟨rfl,x,rfl,by omega,by omega,hs'⟩
     ·rw[if_neg (fun q=>hless (of_decide_eq_true q))]
      exact fm ⟨rfl,rfl,hs'.up (by omega) hless⟩
    ·rintro c st6 ⟨rfl,rfl,hs'⟩
     have e:max m nrem=nrem:=by omega
     rw[e] at hs' ⊢
     exact⟨rfl,nrem,rfl,h1,fv _,hs'⟩
    rintro c st6 ⟨rfl,n5,rfl,q1,q2,q3⟩
    exact fm (h n5 _ kp5 q1 q2 q3)
  ·rw[if_neg hgt]
   have hd:Dsc rk (arrOf st') lo (lo+(n+1)):=Dsc.up (arr:=arrOf st') (fun i j q1 q2 q3=>by have:i=j:=(by omega);subst this;exact jM _) hn1 (iY hlt) fun _=>rfl
   have kp:=Kp.refl st' lo (lo+nrem)
   refine fh (mJ (kK ⟨rfl,?_⟩))
   refine fh (jv (iF (I:=fun x c st3=>∃neq,c=(none,x,neq)∧Kp st' st3 lo (lo+nrem)∧Dsc rk (arrOf st3) lo (lo+x)∧neq+1≤x∧(∀i,lo+x- (neq+1)≤i→i<lo+x→RK rk (arrOf st3) i=RK rk (arrOf st3) (lo+x-1)))
    (Q:=fun c st3=>∃m neq,c=(none,m,neq)∧Kp st' st3 lo (lo+nrem)∧n+1≤m∧m≤nrem∧Dsc rk (arrOf st3) lo (lo+m)∧neq+1≤m∧(∀i,lo+m- (neq+1)≤i→i<lo+m→RK rk (arrOf st3) i=RK rk (arrOf st3) (lo+m-1))) ?_ ?_ ⟨0,rfl,kp,hd,by omega,fun i q1 q2=>by congr 1;omega⟩) ?_)
   ·rintro x c st3 hax hxn ⟨neq,rfl,kp,hd,hq,he⟩
    have hz:=kp.size
    have hU3:=hU.of_perm kp.perm
    dsimp only
    refine fh (BM C (kp.kd.trans hk) hU3 (by omega) (by omega) ?_)
    dsimp only
    by_cases hless:RK rk (arrOf st3) (lo+x)<RK rk (arrOf st3) (lo+x-1)
    ·rw[if_pos (decide_eq_true hless)]
     by_cases hneq:neq>0
     ·rw[if_pos hneq]
      refine fh (DM (rk:=rk) kp (by omega) (by omega) (by omega) he fun st4 kp4 hRK=>?_)
      exact fm ⟨0,rfl,kp4,hd.up (by omega) (iY hless) hRK,by omega,fun i q1 q2=>by congr 1;omega⟩
     ·rw[if_neg hneq]
      exact fm ⟨0,rfl,kp,hd.up (by omega) (iY hless) fun _=>rfl,by omega,fun i q1 q2=>by congr 1;omega⟩
    ·rw[if_neg (fun q=>hless (of_decide_eq_true q))]
     refine fh (BM C (kp.kd.trans hk) hU3 (by omega) (by omega) ?_)
     dsimp only
     by_cases hlarger:RK rk (arrOf st3) (lo+x-1)<RK rk (arrOf st3) (lo+x)
     ·rw[if_pos (decide_eq_true hlarger)]
      exact fm ⟨x,neq,rfl,kp,hax,by omega,hd,hq,he⟩
     ·rw[if_neg (fun q=>hlarger (of_decide_eq_true q))]
      have heqx:RK rk (arrOf st3) (lo+x)=RK rk (arrOf st3) (lo+x-1):=by omega
      refine fm ⟨neq+1,rfl,kp,hd.up (by omega) (by omega) fun _=>rfl,by omega,fun i q1 q2=>?_⟩
      have e1:lo+(x+1)-1=lo+x:=by omega
      rw[e1]
      by_cases hix:i=lo+x
      ·rw[hix]
      ·rw[heqx];exact he i (by omega) (by omega)
   ·rintro c st3 ⟨neq,rfl,kp,hd,hq,he⟩
    have e:max (n+1) nrem=nrem:=by omega
    rw[e] at hd hq he ⊢
    exact⟨nrem,neq,rfl,kp,by omega,fv _,hd,hq,he⟩
   rintro c st3 ⟨m,neq,rfl,kp,hm1,hm2,hd,hq,he⟩
   have hz:=kp.size
   dsimp only
   have rest:∀(st4:hV),Kp st' st4 lo (lo+nrem)→Dsc rk (arrOf st4) lo (lo+m)→∀st5,Kp st' st5 lo (lo+nrem)→(∀k,RK rk (arrOf st5) k=if lo≤k∧k<lo+m then RK rk (arrOf st4) (lo+(lo+m)-1-k) else RK rk (arrOf st4) k)→Seg rk (arrOf st5) lo (lo+m):=fun st4 _ d4 st5 _ e5 i j q1 q2 q3=>by
    rw[e5,e5,if_pos (by omega),if_pos (by omega)]
    exact d4 _ _ (by omega) (by omega) (by omega)
   by_cases hneq:neq>0
   ·rw[if_pos hneq]
    refine fh (DM (rk:=rk) kp (by omega) (by omega) (by omega) he fun st4 kp4 hRK=>?_)
    have d4:Dsc rk (arrOf st4) lo (lo+m):=fun i j q1 q2 q3=>by rw[hRK,hRK];exact hd i j q1 q2 q3
    have hz4:=kp4.size
    refine fh (EL (rk:=rk) kp4 (fv _) (by omega) (by omega) fun st5 kp5 e5=>?_)
    have s5:=rest _ kp4 d4 st5 kp5 e5
    have hz5:=kp5.size
    have hU5:=hU.of_perm kp5.perm
    refine fh (jv (iF (I:=fun x c st6=>st6=st5∧c=(none,x)∧Seg rk (arrOf st5) lo (lo+x))
     (Q:=fun c st6=>st6=st5∧∃n,c=(none,n)∧1≤n∧n≤nrem∧Seg rk (arrOf st5) lo (lo+n)) ?_ ?_ ⟨rfl,rfl,s5⟩) ?_)
    ·rintro x c st6 hax hxn ⟨rfl,rfl,hs'⟩
     dsimp only
     refine fh (BM C (kp5.kd.trans hk) hU5 (by omega) (by omega) ?_)
     dsimp only
     by_cases hless:RK rk (arrOf st6) (lo+x)<RK rk (arrOf st6) (lo+x-1)
     ·rw[if_pos (decide_eq_true hless)]
      exact fm ⟨rfl,x,rfl,by omega,by omega,hs'⟩
     ·rw[if_neg (fun q=>hless (of_decide_eq_true q))]
      exact fm ⟨rfl,rfl,hs'.up (by omega) hless⟩
    ·rintro c st6 ⟨rfl,rfl,hs'⟩
     have e:max m nrem=nrem:=by omega
     rw[e] at hs' ⊢
     exact⟨rfl,nrem,rfl,h1,fv _,hs'⟩
    rintro c st6 ⟨rfl,n5,rfl,q1,q2,q3⟩
    exact fm (h n5 _ kp5 q1 q2 q3)
   ·rw[if_neg hneq]
    have kp4:=kp
    have d4:=hd
    have hz4:=hz
    refine fh (EL (rk:=rk) kp4 (fv _) (by omega) (by omega) fun st5 kp5 e5=>?_)
    have s5:=rest _ kp4 d4 st5 kp5 e5
    have hz5:=kp5.size
    have hU5:=hU.of_perm kp5.perm
    refine fh (jv (iF (I:=fun x c st6=>st6=st5∧c=(none,x)∧Seg rk (arrOf st5) lo (lo+x))
     (Q:=fun c st6=>st6=st5∧∃n,c=(none,n)∧1≤n∧n≤nrem∧Seg rk (arrOf st5) lo (lo+n)) ?_ ?_ ⟨rfl,rfl,s5⟩) ?_)
    ·rintro x c st6 hax hxn ⟨rfl,rfl,hs'⟩
     dsimp only
     refine fh (BM C (kp5.kd.trans hk) hU5 (by omega) (by omega) ?_)
     dsimp only
     by_cases hless:RK rk (arrOf st6) (lo+x)<RK rk (arrOf st6) (lo+x-1)
     ·rw[if_pos (decide_eq_true hless)]
      exact fm ⟨rfl,x,rfl,by omega,by omega,hs'⟩
     ·rw[if_neg (fun q=>hless (of_decide_eq_true q))]
      exact fm ⟨rfl,rfl,hs'.up (by omega) hless⟩
    ·rintro c st6 ⟨rfl,rfl,hs'⟩
     have e:max m nrem=nrem:=by omega
     rw[e] at hs' ⊢
     exact⟨rfl,nrem,rfl,h1,fv _,hs'⟩
    rintro c st6 ⟨rfl,n5,rfl,q1,q2,q3⟩
    exact fm (h n5 _ kp5 q1 q2 q3)
end
end SrtG
namespace SrtG
local macro_rules | `(tactic| omega) => `(tactic| first | lia | omega)
open PySem PyProof.Rows
variable{rk:Keyed→Int}
noncomputable abbrev Qa:=Nat×Nat×Nat
noncomputable def Cov(rk:Keyed→Int)(arr:Array Keyed):Nat→List Qa→Nat→Prop
 |a,[],hi=>a=hi
 |a,e::l,hi=>e.1=a∧0<e.2.1∧Seg rk arr a (a+e.2.1)∧Cov rk arr (a+e.2.1) l hi
theorem Cov.le{arr:Array Keyed}:∀{l:List Qa} {a hi:Nat},Cov rk arr a l hi→a+l.length≤hi
 | [],a,hi,h=>by have:a=hi:=h;simp only[js];omega
 |e::l,a,hi,h=>by have:=Cov.le h.2.2.2;have:=h.2.1;rw[fz];omega
theorem Cov.app{arr:Array Keyed}:∀{l1:List Qa} {l2:List Qa} {a hi:Nat},Cov rk arr a (l1++l2) hi↔∃m,Cov rk arr a l1 m∧Cov rk arr m l2 hi
 | [],l2,a,hi=> ⟨fun h=> ⟨a,rfl,h⟩,fun⟨m,h1,h2⟩=>by have:a=m:=h1;subst this;exact h2⟩
 |e::l1,l2,a,hi=> ⟨fun⟨h1,h2,h3,h4⟩=>by
   obtain⟨m,q1,q2⟩:=Cov.app.mp h4
   exact⟨m,⟨h1,h2,h3,q1⟩,q2⟩,fun⟨m,⟨h1,h2,h3,h4⟩,q2⟩=> ⟨h1,h2,h3,Cov.app.mpr ⟨m,h4,q2⟩⟩⟩
theorem Cov.cong{arr arr':Array Keyed}:∀{l:List Qa} {a hi:Nat},(∀x,a≤x→x<hi→RK rk arr' x=RK rk arr x)→Cov rk arr a l hi→Cov rk arr' a l hi
 | [],_,_,_,h=>h
 |e::l,a,hi,hx,⟨h1,h2,h3,h4⟩=>by
  have hl:=h4.le
  exact⟨h1,h2,fun x y q1 q2 q3=>by rw[hx x q1 (by omega),hx y (by omega) (by omega)];exact h3 x y q1 q2 q3,h4.cong fun x q1 q2=>hx x (by omega) q2⟩
theorem XY{p:Array Qa}{i:Nat}(h:i+1<p.size):∃l1 e1 e2 l2,p.toList=l1++e1::e2::l2∧l1.length=i∧p[i]?=some e1∧p[i+1]?=some e2:=by
 have hl:p.toList.length=p.size:=fw
 have h1:i<p.toList.length:=by omega
 have h2:i+1<p.toList.length:=by omega
 refine⟨p.toList.take i,p.toList[i],p.toList[i+1],p.toList.drop (i+2),?_,?_,?_,?_⟩
 ·rw[←ku h2,←ku h1,jC]
 ·rw[gX];omega
 ·rw[←gT];exact gm h1
 ·rw[←gT];exact gm h2
theorem XZ{p:Array Qa}{i:Nat}{e e1 e2:Qa}{l1 l2:List Qa}(hp:p.toList=l1++e1::e2::l2)(hl:l1.length=i):((p.setIfInBounds i e).eraseIdxIfInBounds (i+1)).toList=l1++e::l2:=by
 have hz:i+1<p.size:=by
  rw[←fw,hp,gw,fz,fz];omega
 have hz':i+1< (p.setIfInBounds i e).size:=by rw[Array.size_setIfInBounds];exact hz
 unfold Array.eraseIdxIfInBounds
 rw[dif_pos hz',Array.toList_eraseIdx,Array.toList_setIfInBounds,hp]
 subst hl
 rw[List.set_append_right _ _ (fv _),Nat.sub_self,List.set_cons_zero,List.eraseIdx_append_of_length_le (by omega)]
 have e:l1.length+1-l1.length=1:=by omega
 rw[e]
 rfl
structure Bs(kd:j7)(a₀:Array Keyed)(st:hV):Prop where
 kd:kindOf st=kd
 fl:kj st=none
 perm:(arrOf st).toList.Perm a₀.toList
theorem Bs.size{kd:j7}{a₀:Array Keyed}{st:hV}(b:Bs kd a₀ st):(arrOf st).size=a₀.size:=by
 rw[←fw,←fw];exact b.perm.length_eq
theorem Bs.kp{kd:j7}{a₀:Array Keyed}{st st':hV}{lo hi:Nat}(b:Bs kd a₀ st)(k:Kp st st' lo hi):Bs kd a₀ st':=⟨k.kd.trans b.kd,k.fl.trans b.fl,k.perm.trans b.perm⟩
section
variable{prog:Program}{w:World}{A:gx}{E:Value→Shared→Prop}{s:Shared}{kd:j7}{U:Keyed→Prop}{a₀:Array Keyed}
theorem Dp{i hi:Nat}{st:hV}{Q:Bool→hV→Prop}(C:Oc prog w A E s kd U rk)(hU:AllU U a₀)(b:Bs kd a₀ st)(hc:Cov rk (arrOf st) 0 (pendingOf st).toList hi)(hhi:hi≤a₀.size)(hi1:i+1< (pendingOf st).size)
  (h:∀st',Bs kd a₀ st'→Cov rk (arrOf st') 0 (pendingOf st').toList hi→(pendingOf st').size+1=(pendingOf st).size→(∀x,hi≤x→RK rk (arrOf st') x=RK rk (arrOf st) x)→Q true st'):wpS (model prog w) A E s (mergeAt' i) Q st:=by
 obtain⟨l1,⟨s1,n1,p1⟩,⟨s2,n2,p2⟩,l2,hp,hl,e1,e2⟩:=XY hi1
 have hc0:=hc
 rw[hp] at hc0
 obtain⟨m,c1,q1,q2,q3,q4,q5,q6,q7⟩:=Cov.app.mp hc0
 dsimp only at q1 q2 q3 q4 q5 q6 q7
 subst q1
 have hle:=q7.le
 have hz:=b.size
 refine KM C b.kd (hU.of_perm b.perm) b.fl e1 e2 q4 q2 q5 (by omega) (by rw[q4];exact q3) (by rw[q4];exact q6) fun st' k1 k2 k3 u=>?_
 have hj:=XZ (e:=(s1,n1+n2,p1)) hp hl
 have c1le:=c1.le
 refine h st' ⟨k1,k2,u.perm.trans b.perm⟩ ?_ ?_ ?_
 ·rw[k3,hj]
  refine Cov.app.mpr ⟨s1,c1.cong fun x _ hx=>CD (u.out x (.inl hx)),rfl,by show 0<n1+n2;omega,?_,?_⟩
  ·show Seg rk (arrOf st') s1 (s1+(n1+n2))
   have:=u.seg
   rw[q4,p7] at this
   exact this
  ·show Cov rk (arrOf st') (s1+(n1+n2)) l2 hi
   rw[←p7]
   exact q7.cong fun x hx _=>CD (u.out x (.inr (by omega)))
 ·rw[←fw,←fw,k3,hj,hp,gw,gw,fz,fz,fz]
  omega
 ·intro x hx
  exact CD (u.out x (.inr (by omega)))
end
end SrtG
namespace SrtG
local macro_rules | `(tactic| omega) => `(tactic| first | lia | omega)
open PySem PyProof.Rows
variable{rk:Keyed→Int}
theorem Cov.shape{arr:Array Keyed}:∀{l l':List Qa} {a hi:Nat},l'.map (fun e=> (e.1,e.2.1))=l.map (fun e=> (e.1,e.2.1))→Cov rk arr a l hi→Cov rk arr a l' hi
 | [],[],_,_,_,h=>h
 |e::l,e'::l',a,hi,hm,⟨h1,h2,h3,h4⟩=>by
  rw[gH,gH] at hm
  injection hm with hm1 hm2
  injection hm1 with q1 q2
  exact⟨q1.trans h1,by rw[q2];exact h2,by rw[q2];exact h3,by rw[q2];exact h4.shape hm2⟩
 | [],_::_,_,_,hm,_=>by cases hm
 |_::_,[],_,_,hm,_=>by cases hm
theorem Cov.power{arr:Array Keyed}{p:Array Qa}{i pw hi:Nat}(h:Cov rk arr 0 p.toList hi):Cov rk arr 0 (p.modify i fun e=> (e.1,e.2.1,pw)).toList hi:=by
 refine h.shape ?_
 apply jA
 intro j
 rw[fq,fq,gT,gT,Array.getElem?_modify]
 split
 ·cases p[j]?<;>rfl
 ·rfl
section
variable{prog:Program}{w:World}{A:gx}{E:Value→Shared→Prop}{s:Shared}{kd:j7}{U:Keyed→Prop}{a₀:Array Keyed}
theorem KN{st:hV}{Q:Unit→hV→Prop}(C:Oc prog w A E s kd U rk)(hU:AllU U a₀)(b:Bs kd a₀ st)(hp:pendingOf st= #[])
  (h:∀st',Bs kd a₀ st'→Ew rk (arrOf st')→Q () st'):wpS (model prog w) A E s pM Q st:=by
 rw[sortRuns'_eq]
 refine fh (lX ?_)
 dsimp only
 have hz:=b.size
 refine fh (jv (iF
  (I:=fun x c st'=>∃lo,c=(none,lo)∧x≤lo∧lo≤(arrOf st).size∧Bs kd a₀ st'∧Cov rk (arrOf st') 0 (pendingOf st').toList lo)
  (Q:=fun c st'=>c.1=none∧Bs kd a₀ st'∧Cov rk (arrOf st') 0 (pendingOf st').toList (arrOf st).size) ?step ?fin ⟨0,rfl,fv _,ip _,b,by rw[hp];rfl⟩) ?post)
 case fin=>
  rintro c st' ⟨lo,rfl,h1,h2,bs,cv⟩
  have e:lo=(arrOf st).size:=by omega
  subst e
  exact⟨rfl,bs,cv⟩
 case step=>
  rintro x c st1 _ hx ⟨lo,rfl,h1,h2,bs,cv⟩
  dsimp only
  have hz1:=bs.size
  by_cases cl:lo≥(arrOf st).size
  ·rw[if_pos cl]
   have e:lo=(arrOf st).size:=by omega
   subst e
   exact fm ⟨rfl,bs,cv⟩
  rw[if_neg cl]
  have nextOf:∀(st3:hV) (n:Nat),Bs kd a₀ st3→Cov rk (arrOf st3) 0 (pendingOf st3).toList lo→0<n→lo+n≤(arrOf st).size→Seg rk (arrOf st3) lo (lo+n)→∀{c:Option PUnit×Nat},c=(none,lo+n)→∃lo',c=(none,lo')∧x+1≤lo'∧lo'≤(arrOf st).size∧Bs kd a₀ (nP st3 ((pendingOf st3).push (lo,n,0)))∧Cov rk (arrOf (nP st3 ((pendingOf st3).push (lo,n,0)))) 0 (pendingOf (nP st3 ((pendingOf st3).push (lo,n,0)))).toList lo':=fun st3 n bs3 cv3 hpos hfit sg c hc=>by
   refine⟨lo+n,hc,by omega,hfit,⟨bs3.kd,bs3.fl,bs3.perm⟩,?_⟩
   show Cov rk (arrOf st3) 0 ((pendingOf st3).push (lo,n,0)).toList (lo+n)
   rw[kJ]
   exact Cov.app.mpr ⟨lo,cv3,rfl,hpos,sg,rfl⟩
  refine fh (Lm C bs.kd (hU.of_perm bs.perm) (by omega) (by omega) fun n st2 kp2 hn1 hn2 sg2=>?_)
  have bs2:=bs.kp kp2
  have cv2:Cov rk (arrOf st2) 0 (pendingOf st2).toList lo:=by
   rw[kp2.pd]
   exact cv.cong fun x _ hx=>CD (kp2.out x (.inl hx))
  dsimp only
  by_cases cm:n<pQ (arrOf st).size (arrOf st).size 0
  ·rw[if_pos cm]
   refine fh (mJ (kK ⟨rfl,?_⟩))
   have hz2:=bs2.size
   refine fh (Ll (n:=min ((arrOf st).size-lo) (pQ (arrOf st).size (arrOf st).size 0)) C bs2.kd (hU.of_perm bs2.perm) (by omega) (by omega) sg2 fun st3 kp3 sg3=>?_)
   rw[if_neg (by decide)]
   have bs3:=bs2.kp kp3
   have cv3:Cov rk (arrOf st3) 0 (pendingOf st3).toList lo:=by
    rw[kp3.pd]
    exact cv2.cong fun x _ hx=>CD (kp3.out x (.inl hx))
   have hpos:0<min ((arrOf st).size-lo) (pQ (arrOf st).size (arrOf st).size 0):=by omega
   have hfit:lo+min ((arrOf st).size-lo) (pQ (arrOf st).size (arrOf st).size 0)≤(arrOf st).size:=by omega
   refine fh (lX ?_)
   cases hb:(pendingOf st3).back? with
   |none=>
    dsimp only
    exact fh (lj (fm (nextOf st3 _ bs3 cv3 hpos hfit sg3 rfl)))
   |some e=>
    obtain⟨s1,n1,p1⟩:=e
    dsimp only
    refine fh (jv (iF (I:=fun _ c st4=>c=(none,())∧Bs kd a₀ st4∧Cov rk (arrOf st4) 0 (pendingOf st4).toList lo∧∀x,lo≤x→RK rk (arrOf st4) x=RK rk (arrOf st3) x)
     (Q:=fun c st4=>c=(none,())∧Bs kd a₀ st4∧Cov rk (arrOf st4) 0 (pendingOf st4).toList lo∧∀x,lo≤x→RK rk (arrOf st4) x=RK rk (arrOf st3) x) ?_ (fun _ _ q=>q) ⟨rfl,bs3,cv3,fun _ _=>rfl⟩) ?_)
    ·rintro y c st4 _ _ ⟨rfl,bs4,cv4,ou4⟩
     refine fh (lX ?_)
     by_cases cp:(pendingOf st4).size>1
     ·rw[if_pos cp]
      obtain⟨o1,o2,o3⟩:=(pendingOf st4)[(pendingOf st4).size-2]
      have hge:(pendingOf st4)[(pendingOf st4).size-2]?=some (pendingOf st4)[(pendingOf st4).size-2]:=getElem?_pos _ _ (by omega)
      rw[hge]
      dsimp only
      by_cases co:(pendingOf st4)[(pendingOf st4).size-2].2.2≤power' (arrOf st).size (2*s1+n1) (2*s1+n1+n1+min ((arrOf st).size-lo) (pQ (arrOf st).size (arrOf st).size 0)) (arrOf st).size
      ·rw[if_pos co]
       exact fm ⟨rfl,bs4,cv4,ou4⟩
      ·rw[if_neg co]
       refine fh (Dp C hU bs4 cv4 (by omega) (by omega) fun st5 bs5 cv5 _ ou5=>?_)
       rw[if_neg (by decide)]
       exact fm ⟨rfl,bs5,cv5,fun x hx=> (ou5 x hx).trans (ou4 x hx)⟩
     ·rw[if_neg cp]
      exact fm ⟨rfl,bs4,cv4,ou4⟩
    ·rintro c st4 ⟨rfl,bs4,cv4,ou4⟩
     dsimp only
     refine fh (lj ?_)
     refine fh (lj (fm ?_))
     have sg4:Seg rk (arrOf st4) lo (lo+min ((arrOf st).size-lo) (pQ (arrOf st).size (arrOf st).size 0)):=fun i j q1 q2 q3=>by rw[ou4 i q1,ou4 j (by omega)];exact sg3 i j q1 q2 q3
     exact nextOf (nP st4 ((pendingOf st4).modify ((pendingOf st4).size-1) fun e=> (e.1,e.2.1,power' (arrOf st).size (2*s1+n1) (2*s1+n1+n1+min ((arrOf st).size-lo) (pQ (arrOf st).size (arrOf st).size 0)) (arrOf st).size))) _ ⟨bs4.kd,bs4.fl,bs4.perm⟩ (Cov.power cv4) hpos hfit sg4 rfl
  ·rw[if_neg cm]
   have bs3:=bs2
   have cv3:=cv2
   have sg3:=sg2
   have hpos:0<n:=by omega
   have hfit:lo+n≤(arrOf st).size:=by omega
   refine fh (lX ?_)
   cases hb:(pendingOf st2).back? with
   |none=>
    dsimp only
    exact fh (lj (fm (nextOf st2 _ bs3 cv3 hpos hfit sg3 rfl)))
   |some e=>
    obtain⟨s1,n1,p1⟩:=e
    dsimp only
    refine fh (jv (iF (I:=fun _ c st4=>c=(none,())∧Bs kd a₀ st4∧Cov rk (arrOf st4) 0 (pendingOf st4).toList lo∧∀x,lo≤x→RK rk (arrOf st4) x=RK rk (arrOf st2) x)
     (Q:=fun c st4=>c=(none,())∧Bs kd a₀ st4∧Cov rk (arrOf st4) 0 (pendingOf st4).toList lo∧∀x,lo≤x→RK rk (arrOf st4) x=RK rk (arrOf st2) x) ?_ (fun _ _ q=>q) ⟨rfl,bs3,cv3,fun _ _=>rfl⟩) ?_)
    ·rintro y c st4 _ _ ⟨rfl,bs4,cv4,ou4⟩
     refine fh (lX ?_)
     by_cases cp:(pendingOf st4).size>1
     ·rw[if_pos cp]
      obtain⟨o1,o2,o3⟩:=(pendingOf st4)[(pendingOf st4).size-2]
      have hge:(pendingOf st4)[(pendingOf st4).size-2]?=some (pendingOf st4)[(pendingOf st4).size-2]:=getElem?_pos _ _ (by omega)
      rw[hge]
      dsimp only
      by_cases co:(pendingOf st4)[(pendingOf st4).size-2].2.2≤power' (arrOf st).size (2*s1+n1) (2*s1+n1+n1+n) (arrOf st).size
      ·rw[if_pos co]
       exact fm ⟨rfl,bs4,cv4,ou4⟩
      ·rw[if_neg co]
       refine fh (Dp C hU bs4 cv4 (by omega) (by omega) fun st5 bs5 cv5 _ ou5=>?_)
       rw[if_neg (by decide)]
       exact fm ⟨rfl,bs5,cv5,fun x hx=> (ou5 x hx).trans (ou4 x hx)⟩
     ·rw[if_neg cp]
      exact fm ⟨rfl,bs4,cv4,ou4⟩
    ·rintro c st4 ⟨rfl,bs4,cv4,ou4⟩
     dsimp only
     refine fh (lj ?_)
     refine fh (lj (fm ?_))
     have sg4:Seg rk (arrOf st4) lo (lo+n):=fun i j q1 q2 q3=>by rw[ou4 i q1,ou4 j (by omega)];exact sg3 i j q1 q2 q3
     exact nextOf (nP st4 ((pendingOf st4).modify ((pendingOf st4).size-1) fun e=> (e.1,e.2.1,power' (arrOf st).size (2*s1+n1) (2*s1+n1+n1+n) (arrOf st).size))) _ ⟨bs4.kd,bs4.fl,bs4.perm⟩ (Cov.power cv4) hpos hfit sg4 rfl
 case post=>
  rintro⟨c1,c2⟩ st1 ⟨e,bs,cv⟩
  cases e
  dsimp only
  have done:∀st',Bs kd a₀ st'→Cov rk (arrOf st') 0 (pendingOf st').toList (arrOf st).size→(pendingOf st').size≤1→Ew rk (arrOf st'):=fun st' bs' cv' hl=>by
   have hz':=bs'.size
   intro i j hij hj
   rw[←fw] at hl
   revert cv' hl
   generalize (pendingOf st').toList=l
   intro cv' hl
   match l,cv',hl with
   | [],cv',_=>
    have:0=(arrOf st).size:=cv'
    omega
   | [e],cv',_=>
    obtain⟨q1,q2,q3,q4⟩:=cv'
    have:0+e.2.1=(arrOf st).size:=q4
    exact q3 i j (by omega) hij (by omega)
   |_::_::_,_,hl=>simp only[fz] at hl;omega
  have hlen:=cv.le
  rw[fw] at hlen
  refine fh (jv (iF (I:=fun x c st'=>c=(none,())∧Bs kd a₀ st'∧Cov rk (arrOf st') 0 (pendingOf st').toList (arrOf st).size∧(pendingOf st').size+x≤(arrOf st).size)
   (Q:=fun c st'=>c=(none,())∧Bs kd a₀ st'∧Cov rk (arrOf st') 0 (pendingOf st').toList (arrOf st).size∧(pendingOf st').size≤1) ?_ ?_ ⟨rfl,bs,cv,by omega⟩) ?_)
  ·rintro x c st2 _ hx ⟨rfl,bs2,cv2,hm⟩
   refine fh (lX ?_)
   by_cases cp:(pendingOf st2).size≤1
   ·rw[if_pos cp]
    exact fm ⟨rfl,bs2,cv2,cp⟩
   ·rw[if_neg cp]
    refine fh (Dp C hU bs2 cv2 (by omega) ?_ fun st5 bs5 cv5 hs5 _=>?_)
    ·split<;>split<;>omega
    ·rw[if_neg (by decide)]
     exact fm ⟨rfl,bs5,cv5,by omega⟩
  ·rintro c st2 ⟨rfl,bs2,cv2,hm⟩
   exact⟨rfl,bs2,cv2,by omega⟩
  ·rintro c st2 ⟨rfl,bs2,cv2,hm⟩
   exact fm (h _ bs2 (done _ bs2 cv2 hm))
end
end SrtG
namespace SrtG
open PySem PyProof.Rows
noncomputable def Ln(h:Heap)(v:Value)(a b:Int):Prop:=∃x o t u n,v=.ref x∧h.get? x=some o∧o.data=.seq #[.int a t,.int b u] n
noncomputable def Sv(h:Heap)(k:Keyed):Int:=match k.1 with
  | .ref x=>match h.get? x with
    |some o=>match o.data with
     | .seq xs _=>match (xs[0]?:Option Value),(xs[1]?:Option Value) with
      |some (.int a _),some (.int b _)=>65536*a+b
      |_,_=>0
     |_=>0
    |_=>0
  |_=>0
theorem Ex{h:Heap}{k:Keyed}{a b:Int}(p:Ln h k.1 a b):Sv h k=65536*a+b:=by
 obtain⟨x,o,t,u,n,e1,e2,e3⟩:=p
 unfold Sv
 rw[e1]
 dsimp only
 rw[e2]
 dsimp only
 rw[e3]
 rfl
noncomputable def aL(h:Heap)(k:Keyed):Prop:=∃a b,Ln h k.1 a b∧0≤b∧b<65536
variable{prog:Program}{w:World}{A:gx}{E:Value→Shared→Prop}{s:Shared}
theorem Og:Oc prog w A E s (tuples' true) (aL s.heap) (Sv s.heap):=by
 intro st x y Q hk hx hy h
 obtain⟨a,b,px,b0,b1⟩:=hx
 obtain⟨c,d,py,d0,d1⟩:=hy
 rw[Ex px,Ex py] at h
 obtain⟨p,o,t,u,n,e1,e2,e3⟩:=px
 obtain⟨p',o',t',u',n',e1',e2',e3'⟩:=py
 rw[lt'_eq]
 refine fh (lX ?_)
 rw[hk,e1,e1']
 refine fh (mJ (lI ?_))
 refine PySem.W.kat_lt e2 e3 e2' e3' ?_
 have fin:∀r:Bool,r=decide (65536*a+b<65536*c+d)→(s=s∧wpS (model prog w) A E s (match (Except.ok r:Except Value Bool) with
   | .ok b=>pure (some b)
   | .error e=>do
    modify (fun s=>mz (kindOf s) (arrOf s) (pendingOf s) (gallopOf s) (some e))
    pure none) Q st):=fun r hr=> ⟨rfl,by rw[hr];exact fm h⟩
 refine oF (lZ ?_)
 refine pH (fun e=>?_) (fun e=>?_)
 ·have e':=eq_of_beq e
  refine o5 (oF (lZ ?_))
  refine pH (fun q=>?_) (fun q=>?_)
  ·have q':=eq_of_beq q
   exact o5 (PySem.W.kat_nil (fin _ (by rw[e',q'];simp)))
  ·exact pG (PySem.W.kat_one _ _ (lt_int (fin _ (by congr 1;rw[e'];apply propext;constructor<;>intro<;>omega))))
 ·have e':a≠c:=fun q=>by rw[q] at e;simp at e
  refine pG (oneLt_int (fin _ ?_))
  congr 1
  apply propext
  constructor<;>intro<;>omega
open PySem.Calls PySem.W
theorem EM:∀(vs:List Value),vs.zip vs=vs.map fun v=> (v,v)
 | []=>rfl
 |v::vs=>by rw[nU,gH,EM vs]
structure Rk(prog:Program)(w:World)(U:Heap→Value→Prop)(rk:Heap→Value→Int)(T:Value):Prop where
 cmp:∀{A:gx} {E:Value→Shared→Prop} {s:Shared},Oc prog w A E s (tuples' true) (fun k=>U s.heap k.1) (fun k=>rk s.heap k.1)
 kept:∀{h h':Heap} {v:Value},U h v→(∀b o,o.cls=.type "tuple"→h.get? b=some o→h'.get? b=some o)→U h' v∧rk h' v=rk h v
 kat:∀{h:Heap} {vs:List Value},(∀v∈vs,U h v)→∃fs:List Value,qw h vs fs∧fs.length=vs.length∧∀v∈fs,∀M h',Looks M h' (typeOf v) T
 t1:(T==T)=true
 t2:(T !=jO "tuple")=true
section
variable{prog:Program}{w:World}{A:gx}{E:Value→Shared→Prop}{s:Shared}{U:Heap→Value→Prop}{rk:Heap→Value→Int}{T:Value}
theorem Tw{vs:List Value}{Q:hV→Shared→Prop}(R:Rk prog w U rk T)(ok:∀v∈vs,U s.heap v)
  (h:∀st',kj st'=none→((arrOf st').map (·.2)).toList.Perm vs→((arrOf st').map (·.2)).toList.Pairwise (fun x y=>rk s.heap x≤rk s.heap y)→Q st' s):
  wpAny (model prog w) A ((pM).run (mz (tuples' true) (vs.toArray.zip vs.toArray) #[] 7 none)) (fun r s'=>Q r.2 s') E s:=by
 have hz:(vs.toArray.zip vs.toArray)=(vs.map fun v=> (v,v)).toArray:=by
  apply lE
  rw[oJ]
  show vs.zip vs=vs.map fun v=> (v,v)
  exact EM vs
 have hU:AllU (fun k=>U s.heap k.1) (vs.toArray.zip vs.toArray):=fun i p e=>by
  rw[hz] at e
  have e':(vs.map fun v=> ((v,v):Keyed))[i]?=some p:=by rw[←gT] at e;exact e
  obtain⟨v,hv,rfl⟩:=gc.mp (fo e')
  exact ok v hv
 have hwp:wpS (model prog w) A E s pM (fun _ st'=>Q st' s) (mz (tuples' true) (vs.toArray.zip vs.toArray) #[] 7 none):=by
  refine KN (a₀:=vs.toArray.zip vs.toArray) (rk:=fun k=>rk s.heap k.1) R.cmp hU ⟨rfl,rfl,k9.refl _⟩ rfl fun st' b srt=>?_
  have hpm:=b.perm
  rw[hz] at hpm
  have hsame:∀k,k∈(arrOf st').toList→k=(k.2,k.2):=fun k hk=>by
   obtain⟨v,_,rfl⟩:=gc.mp (hpm.mem_iff.mp hk)
   rfl
  refine h st' b.fl ?_ ?_
  ·rw[l9]
   have:=hpm.map (fun k:Keyed=>k.2)
   rw[show((vs.map fun v=> ((v,v):Keyed)).toArray.toList.map fun k:Keyed=>k.2)=vs from by
    show(vs.map fun v=> ((v,v):Keyed)).map (fun k:Keyed=>k.2)=vs
    rw[i6]
    exact qG vs] at this
   exact this
  ·rw[l9,iw]
   refine iO.mpr fun i j hi hj hij=>?_
   have hi':i< (arrOf st').size:=by rw[←fw];exact hi
   have hj':j< (arrOf st').size:=by rw[←fw];exact hj
   have q:=srt i j (mS hij) hj'
   rw[Ai hi',Ai hj'] at q
   have e1:=hsame (arrOf st').toList[i] (jk hi)
   have e2:=hsame (arrOf st').toList[j] (jk hj)
   rw[←(show(arrOf st').toList[i].1=(arrOf st').toList[i].2 from congrArg jw e1),←(show(arrOf st').toList[j].1=(arrOf st').toList[j].2 from congrArg jw e2)]
   exact q
 exact jG hwp (fun r s' q=>by rw[q.1];exact q.2) fun _ _ e=>e
theorem KO{a:Addr}{vs:List Value}{n:Nat}{P:qA→Shared→Prop}(ho:s.heap.get? a=some (gP "list" vs.toArray n))(R:Rk prog w U rk T)(ok:∀v∈vs,U s.heap v)(h2:2≤vs.length)(hn:vs.length≤9000000)
  (h:∀out c h',out.Perm vs→out.Pairwise (fun x y=>rk s.heap x≤rk s.heap y)→h'.get? a=some (gP "list" (l7 out) c)→(∀b o,b≠a→s.heap.get? b=some o→h'.get? b=some o)→P (.done (.ret .none)) {s with heap:=h'}):
  wpAny (model prog w) A (Builtin.«list.sort» ⟨[.ref a],[]⟩) P E s:=by
 obtain⟨e1,ho1⟩:∃e1,(s.heap.update a (iN fun _=> (#[]:Array Value))).get? a=some (gP "list" #[] e1):=⟨_,lF ho fun _=> #[]⟩
 have keep:∀b o,b≠a→s.heap.get? b=some o→(((s.heap.update a (iN fun _=> (#[]:Array Value))).push (gP "tuple" vs.toArray 0)).push (gP "list" #[] 0)).get? b=some o:=fun b o hb e=>
  e9 _ (e9 _ (by rw[j9 _ _ _ _ hb];exact e))
 have keepT:∀b o,o.cls=.type "tuple"→s.heap.get? b=some o→(((s.heap.update a (iN fun _=> (#[]:Array Value))).push (gP "tuple" vs.toArray 0)).push (gP "list" #[] 0)).get? b=some o:=fun b o ht e=>by
  refine keep b o (fun q=>?_) e
  rw[q,ho] at e
  cases e
  exact absurd (show jO "list" =jO "tuple" from ht) (by decide)
 have ho3:(((s.heap.update a (iN fun _=> (#[]:Array Value))).push (gP "tuple" vs.toArray 0)).push (gP "list" #[] 0)).get? a=some (gP "list" #[] e1):=e9 _ (e9 _ ho1)
 have ok3:∀v∈vs,U _ v:=fun v hv=> (R.kept (ok v hv) keepT).1
 have rk3:∀v∈vs,rk _ v=rk s.heap v:=fun v hv=> (R.kept (ok v hv) keepT).2
 rw[oY]
 refine a8 (oM ho rfl ?_)
 refine a8 (mi ho rfl ?_ (by rw[gj,iH];omega) (ip _))
 refine a8 (ng ho1 rfl ?_)
 refine a8 (pj ?_ (by show vs.length≤_;rw[iH];omega))
 refine a8 (mh ?_ (ip _))
 refine hZ ?_
 show wpAny (model prog w) A _ P E {s with heap:=((s.heap.update a (iN fun _=> (#[]:Array Value))).push (gP "tuple" vs.toArray 0)).push (gP "list" #[] 0)}
 generalize hG:((s.heap.update a (iN fun _=> (#[]:Array Value))).push (gP "tuple" vs.toArray 0)).push (gP "list" #[] 0)=G at keep ho3 ok3 rk3 ⊢
 dsimp only
 have hn2:¬vs.toArray.size<2:=by rw[gj];omega
 rw[if_neg hn2,if_neg hn2]
 obtain⟨fs,kt,hl,hf⟩:=R.kat ok3
 refine a8 (kat_kind (s:={s with heap:=G}) (T:=T) kt (by omega) (fun v hv=>hf v hv _ _) R.t1 ?_)
 rw[R.t2]
 refine a8 (jG (Tw (s:={s with heap:=G}) (Q:=fun st' s'=>s'={s with heap:=G}∧kj st'=none∧((arrOf st').map (·.2)).toList.Perm vs∧((arrOf st').map (·.2)).toList.Pairwise (fun x y=>rk G x≤rk G y)) R ok3 (fun st' a1 a2 a3=> ⟨rfl,a1,a2,a3⟩)) ?_ fun _ _ e=>e)
 rintro⟨⟨⟩,st'⟩ s' ⟨rfl,hfl,hpm,hpw⟩
 dsimp only
 have hsz:((arrOf st').map (·.2)).size=vs.length:=by rw[←fw];exact hpm.length_eq
 obtain⟨c2,hc2⟩:∃c2,(G.update a (iN fun _=> (arrOf st').map (·.2))).get? a=some (gP "list" ((arrOf st').map (·.2)) c2):=⟨_,lF ho3 fun _=> (arrOf st').map (·.2)⟩
 refine a8 (ng ho3 rfl ?_)
 refine a8 (mi ho3 rfl ?_ (ip _) (iq (qv hsz) (by rw[iH];omega)))
 rw[hfl]
 simp only[bne_self_eq_false,gD,if_false]
 refine b8 (h ((arrOf st').map (·.2)).toList c2 _ hpm ?_ hc2 fun b o hb e=>by rw[j9 _ _ _ _ hb];exact keep b o hb e)
 refine iG (fun{x y} hx hy q=>?_) hpw
 rw[rk3 _ (hpm.mem_iff.mp hx),rk3 _ (hpm.mem_iff.mp hy)] at q
 exact q
end
noncomputable def TupAt(h:Heap)(v:Value)(a b:Int):Prop:=∃x o t u n,v=.ref x∧h.get? x=some o∧o.cls=.type "tuple"∧o.data=.seq #[.int a t,.int b u] n
noncomputable def TupsOk(h:Heap)(vs:List Value):Prop:=∀v,v∈vs→∃a b,TupAt h v a b∧0≤b∧b<65536
theorem TupAt.pair{h:Heap}{v:Value}{a b:Int}(t:TupAt h v a b):Ln h v a b:=by
 obtain⟨x,o,t,u,n,e1,e2,_,e4⟩:=t
 exact⟨x,o,t,u,n,e1,e2,e4⟩
theorem TupsOk.kat{h:Heap}:∀{vs:List Value},TupsOk h vs→∃fs:List Value,qw h vs fs∧fs.length=vs.length∧∀v∈fs,∃a t,v=.int a t
 | [],_=> ⟨[],qw.nil,rfl,fun v hv=>by cases hv⟩
 |v::vs,ok=>by
  obtain⟨fs,k,hl,hf⟩:=TupsOk.kat (vs:=vs) fun v hv=>ok v (.tail _ hv)
  obtain⟨a,b,⟨x,o,t,u,n,rfl,e,hc,hd⟩,_,_⟩:=ok v (.head _)
  exact⟨.int a t::fs,qw.cons e hc hd rfl k,by rw[fz,fz,hl],fun v hv=>by
   rcases fu.mp hv with rfl|hv
   ·exact⟨a,t,rfl⟩
   ·exact hf v hv⟩
variable{prog:Program}{w:World}{A:gx}{E:Value→Shared→Prop}{s:Shared}
theorem TupsOk.kept{h h':Heap}{vs:List Value}(ok:TupsOk h vs)(k:∀b o,o.cls=.type "tuple"→h.get? b=some o→h'.get? b=some o):TupsOk h' vs:=fun v hv=>by
 obtain⟨a,b,⟨x,o,t,u,n,e1,e2,e3,e4⟩,q⟩:=ok v hv
 exact⟨a,b,⟨x,o,t,u,n,e1,k _ _ e3 e2,e3,e4⟩,q⟩
theorem TupsOk.rk{h h':Heap}{vs:List Value}(ok:TupsOk h vs)(k:∀b o,o.cls=.type "tuple"→h.get? b=some o→h'.get? b=some o){v:Value}(hv:v∈vs):Sv h' (v,v)=Sv h (v,v):=by
 obtain⟨a,b,t,q⟩:=ok v hv
 obtain⟨x,o,t',u,n,e1,e2,e3,e4⟩:=t
 rw[Ex (k:=(v,v)) (TupAt.pair ⟨x,o,t',u,n,e1,e2,e3,e4⟩),Ex (k:=(v,v)) (TupAt.pair ⟨x,o,t',u,n,e1,k _ _ e3 e2,e3,e4⟩)]
theorem Qb:Rk prog w (fun h v=>∃a b,TupAt h v a b∧0≤b∧b<65536) (fun h v=>Sv h (v,v)) (.type "int") where
 cmp:=by
  intro A E s st x y Q hk hx hy h
  obtain⟨a,b,t,q⟩:=hx
  obtain⟨c,d,u,r⟩:=hy
  exact Og st x y Q hk ⟨a,b,t.pair,q⟩ ⟨c,d,u.pair,r⟩ h
 kept:=fun{h h' v} ok k=> ⟨TupsOk.kept (vs:=[v]) (fun u hu=>b9.mp hu▸ok) k v (by simp),TupsOk.rk (vs:=[v]) (fun u hu=>b9.mp hu▸ok) k (by simp)⟩
 kat:=fun{h vs} ok=>by
  obtain⟨fs,kt,hl,hf⟩:=TupsOk.kat ok
  refine⟨fs,kt,hl,fun v hv M h'=>?_⟩
  obtain⟨x,t,rfl⟩:=hf v hv
  exact fun _ _ _ _ _ q=>b8 q
 t1:=rfl
 t2:=rfl
theorem Lo{a:Addr}{vs:List Value}{n:Nat}{P:qA→Shared→Prop}(ho:s.heap.get? a=some (gP "list" vs.toArray n))(ok:TupsOk s.heap vs)(h2:2≤vs.length)(hn:vs.length≤4096)
  (h:∀out c h',out.Perm vs→out.Pairwise (fun x y=>Sv s.heap (x,x)≤Sv s.heap (y,y))→h'.get? a=some (gP "list" (l7 out) c)→(∀b o,b≠a→s.heap.get? b=some o→h'.get? b=some o)→P (.done (.ret .none)) {s with heap:=h'}):
  wpAny (model prog w) A (Builtin.«list.sort» ⟨[.ref a],[]⟩) P E s:=KO ho Qb ok h2 (by omega) h
end SrtG
namespace StT
open PySem PySem.SetTable PyProof.Rows
section
variable{prog:Program}{w:World}{A:gx}{E:Value→Shared→Prop}{s:Shared}
noncomputable abbrev CF(w:World):Obj:={cls:=.type "set",dict:=none,data:=.set #[] 0 (.fresh 0 0 (!w.params.followText "set-order"))}
theorem Qc(a:Value){Q₁:Value→Shared→Prop}(h:Q₁ (.ref s.heap.objs.size) {s with heap:=s.heap.push (CF w)}):
  lQ (model prog w) A (.call (.builtin "set.__new__") ⟨[.type "set",a],[]⟩) (wants Q₁ E) s:=by
 refine codeAny_of_tree ?_
 show wpAny _ A.in1 (do oD "set.__new__" ⟨[.type "set",a],[]⟩;again (.builtin "set.__new__" ⟨[.type "set",a],[]⟩)) _ _ s
 refine a8 (n9 (PySem.F.newCall_set_1 a) (b8 ⟨lL PySem.F.plain_set_new _,j6 PySem.F.entry_set_new ?_⟩))
 rw[jZ PySem.F.plain_set_new _]
 unfold Builtin.«set.__new__» Builtin.Frozenset.newClass
 have hsub:=sub_set_self
 obtain⟨hp,g,d,tk,os⟩:=s
 dsimp only
 wp_walk
 refine mY (b8 ?_)
 dsimp only
 simp only[newObj]
 refine a8 (wpAny_alloc (b8 ?_))
 exact b8 h
theorem Lp{T newId initId:String}{args:List Value}{Q Q₁:Value→Shared→Prop}(ft:TypeCalled T newId initId)
  (hct:checkTypeCall T ⟨args,[]⟩=pure ())
  (hnew:lQ (model prog w) A.in1 (.call (.builtin newId) ⟨.type T::args,[]⟩) (wants Q₁ E) s)
  (hnext:∀obj s₁,Q₁ obj s₁→s₁.TypeIs obj T∧lQ (model prog w) A.in1 (.call (.builtin initId) ⟨obj::args,[]⟩) (wants (fun r s₂=>r=.none∧Q obj s₂) E) s₁):
  wpAny (model prog w) A (call (.type T) args) Q E s:=by
 obtain⟨c,tl,hmro⟩:=ft.mro
 have hmade:=ft.made
 have hsub:=ft.sub
 refine nO (codeAny_of_tree ?_)
 show wpAny _ _ (callAny (.type T) _) _ _ _
 refine b8 ⟨Code.quiet_builtin _ (by decide+kernel),j6 PySem.F.entry_type_call ?_⟩
 rw[gx.under_plain (weight_type_call_type T args []) rfl]
 have h1:=ft.notType
 have h2:=ft.canCreate
 repeat (any_goals (first|assumption|wp_step))
 refine mO hnew fun r s₁ hr=>?_
 cases r with
 |error e=>exact hr
 |ok fl=>
  cases fl with
  |ret obj=>
   obtain⟨hT,hsi⟩:=hnext _ _ hr
   have hli:=ft.init.lookup
   have hbi:=ft.init.bind obj
   repeat (any_goals (first|assumption|wp_step))
   refine mO hsi fun r₂ s₂ hr₂=>?_
   cases r₂ with
   |error e=>exact hr₂
   |ok fl₂=>
    cases fl₂ with
    |ret r=>
     obtain⟨rfl,hq⟩:=hr₂
     repeat (any_goals (first|assumption|wp_step))
    |_=>exact hr₂.elim
  |_=>exact hr.elim
theorem GQ{l:Addr}{items:Array Value}{ps:List (List Int×Addr)}{Q:Value→Shared→Prop}
  (hh:A.handled=none) (hl:s.heap.IsList l items) (hps:items.toList=ps.map fun p=>Value.ref p.2) (hp:∀k x,(k,x)∈ps→IK prog w s.heap k x) (hz:ps.length≤300) (hu:A.units+8<cLine)
  (h:∀(h':Heap) (tk:Nat) (xs:List (List Int×Addr)),SetX prog w h' s.heap.objs.size xs→Ih ps xs→
   (∀b o,b<s.heap.objs.size→s.heap.get? b=some o→h'.get? b=some o)→Q (.ref s.heap.objs.size) {s with heap:=h',toks:=tk}):
  wpAny (model prog w) A (call (.type "set") [.ref l]) Q E s:=by
 refine Lp (Q₁:=fun obj s₁=>obj=.ref s.heap.objs.size∧s₁={s with heap:=s.heap.push (CF w)}) PySem.F.called_set (PySem.F.typeCall_set_1 _) (Qc _ ⟨rfl,rfl⟩) ?_
 rintro obj s₁ ⟨rfl,rfl⟩
 have hS:(s.heap.push (CF w)).get? s.heap.objs.size=some (CF w):=gJ _ rfl
 have hT:Shared.TypeIs {s with heap:=s.heap.push (CF w)} (.ref s.heap.objs.size) "set":=⟨_,hS,rfl⟩
 refine⟨hT,lT PySem.F.called_set.init.plain PySem.F.entry_set_init (check_set_init_1 hT ?_)⟩
 obtain⟨ol,hol,hcl,nl,hdl⟩:=hl
 obtain⟨ocls,odict,odata,oslots⟩:=ol
 simp only at hcl hdl
 subst hcl;subst hdl
 have hol':(s.heap.push (CF w)).get? l=some {cls:=.type "list",dict:=odict,data:=.seq items nl,slots:=oslots}:=e9 _ hol
 have hsls:=PySem.F.sub_list_set
 have hslf:=PySem.F.sub_list_frozenset
 have hne:(jO "list" ==jO "dict")=false:=by decide
 have hl1:(s.heap.push (CF w)).IsList l items:=⟨_,hol',rfl,nl,rfl⟩
 unfold Builtin.«set.__init__» noKeywords Builtin.Frozenset.updateFrom
 generalize hPI:qb=PI
 wp_walk
 subst hPI
 refine n8 hl1 ?_
 refine a8 (wpAny_runValue ?_)
 have hlS:l<s.heap.objs.size:=gi hol
 have hneI:l≠(s.heap.push (CF w)).objs.size:=by
  rw[jE];exact gL (j4 hlS)
 have kp:∀b o,s.heap.get? b=some o→((s.heap.push (CF w)).push {cls:=.type "list_iterator",data:=.fields #[.ref l,.int 0 0]}).get? b=some o:=fun b o e=>e9 _ (e9 _ e)
 refine Ts (a:=s.heap.objs.size) (l:=l) (ps:=ps) (by simpa using hh) hneI (by rw[jE];exact gL (kX _)) (nG hlS) hps hz (by
   show A.in1.in1.units+1<cLine
   exact nT (show A.units+1+1+1≤A.units+8 by omega) hu) (ps.length-0) 0 _ [] rfl (ip _)
  ⟨_,gJ _ rfl,rfl,rfl⟩ (hl1.push _) (fun k x hx=> ⟨Ci (hp k x hx) fun u e=>kp x u e,?_⟩) ⟨CF w,#[],0,_,e9 _ hS,⟨rfl,rfl,rfl⟩,rfl,rfl,fun i k x e=>by simp at e,List.nodup_nil,Tb.fresh _ _ _,rfl,(by show 0*5<7*3;decide),rfl⟩ ⟨fun p hp=>by simp at hp,fun k y hy=>by simp at hy,by simp⟩ ?_
 ·obtain⟨o',_,_,ho',_⟩:=hp k x hx
  have:=gi ho'
  rw[jE]
  exact gL (j4 this)
 ·intro h' tk' xs' kk sx so
  refine b8 ?_
  show wpAny _ _ (ret lU) _ _ _
  refine b8 ⟨rfl,h h' tk' xs' sx so fun b o hb e=>kk b o (gL hb) ?_ (kp b o e)⟩
  rw[jE];exact gL (j4 hb)
end
open PySem.Calls PySem.W
section
variable{prog:Program}{w:World}{A:gx}{E:Value→Shared→Prop}{s:Shared}
theorem GR{a:Addr}{vs:List Value}{n:Nat}{P:qA→Shared→Prop}(ho:s.heap.get? a=some (gP "list" vs.toArray n))(h2:vs.length<2)
  (h:∀c h',h'.get? a=some (gP "list" vs.toArray c)→(∀b o,b≠a→s.heap.get? b=some o→h'.get? b=some o)→P (.done (.ret .none)) {s with heap:=h'}):
  wpAny (model prog w) A (Builtin.«list.sort» ⟨[.ref a],[]⟩) P E s:=by
 obtain⟨e1,ho1⟩:∃e1,(s.heap.update a (iN fun _=> (#[]:Array Value))).get? a=some (gP "list" #[] e1):=⟨_,lF ho fun _=> #[]⟩
 have keep:∀b o,b≠a→s.heap.get? b=some o→(((s.heap.update a (iN fun _=> (#[]:Array Value))).push (gP "tuple" vs.toArray 0)).push (gP "list" #[] 0)).get? b=some o:=fun b o hb e=>
  e9 _ (e9 _ (by rw[j9 _ _ _ _ hb];exact e))
 have ho3:(((s.heap.update a (iN fun _=> (#[]:Array Value))).push (gP "tuple" vs.toArray 0)).push (gP "list" #[] 0)).get? a=some (gP "list" #[] e1):=e9 _ (e9 _ ho1)
 rw[oY]
 refine a8 (oM ho rfl ?_)
 refine a8 (mi ho rfl ?_ (by rw[gj,iH];omega) (ip _))
 refine a8 (ng ho1 rfl ?_)
 refine a8 (pj ?_ (by show vs.length≤_;rw[iH];omega))
 refine a8 (mh ?_ (ip _))
 refine hZ ?_
 show wpAny (model prog w) A _ P E {s with heap:=((s.heap.update a (iN fun _=> (#[]:Array Value))).push (gP "tuple" vs.toArray 0)).push (gP "list" #[] 0)}
 generalize hG:((s.heap.update a (iN fun _=> (#[]:Array Value))).push (gP "tuple" vs.toArray 0)).push (gP "list" #[] 0)=G at keep ho3 ⊢
 dsimp only
 have hn2:vs.toArray.size<2:=by rw[gj];omega
 rw[if_pos hn2,if_pos hn2]
 refine a8 (b8 ?_)
 refine a8 (b8 ?_)
 dsimp only
 have har:((vs.toArray.zip vs.toArray).map (·.2))=vs.toArray:=by
  apply lE
  rw[l9,oJ]
  show(vs.zip vs).map (·.2)=vs
  rw[SrtG.EM,i6]
  exact qG vs
 have har':(arrOf (mz general' (vs.toArray.zip vs.toArray) #[] 7 none)).map (·.2)=vs.toArray:=har
 rw[har']
 obtain⟨c2,hc2⟩:∃c2,(G.update a (iN fun _=>vs.toArray)).get? a=some (gP "list" vs.toArray c2):=⟨_,lF ho3 fun _=>vs.toArray⟩
 refine a8 (ng ho3 rfl ?_)
 refine a8 (mi ho3 rfl ?_ (ip _) (by rw[gj,iH];omega))
 show wpAny _ _ (if(e1 !=e1)=true then _ else _) _ _ _
 rw[if_neg (by simp)]
 exact b8 (h c2 _ hc2 fun b o hb e=>by rw[j9 _ _ _ _ hb];exact keep b o hb e)
theorem BN {α β : Type} {f : α → β} {l1 l2 : List β} (h : l1.Perm l2) : ∀ {xs : List α}, l2 = xs.map f → ∃ ys : List α, ys.Perm xs ∧ ys.map f = l1 := by
  induction h with
  | nil => intro xs e; cases xs with
    | nil => exact ⟨[], .refl _, rfl⟩
    | cons x xs => cases e
  | cons x _ ih => intro xs e; cases xs with
    | nil => cases e
    | cons y xs =>
      rw [gH] at e
      injection e with e1 e2
      obtain ⟨ys, h1, h2⟩ := ih e2
      exact ⟨y :: ys, h1.cons y, by rw [gH, h2, e1]⟩
  | swap x y l => intro xs e; match xs, e with
    | a :: b :: xs, e =>
      simp only [gH] at e
      injection e with e1 e2
      injection e2 with e2 e3
      exact ⟨b :: a :: xs, .swap _ _ _, by simp only [gH]; rw [← e1, ← e2, ← e3]⟩
  | trans _ _ ih1 ih2 => intro xs e
                         obtain ⟨ys, h1, h2⟩ := ih2 e
                         obtain ⟨zs, h3, h4⟩ := ih1 h2.symm
                         exact ⟨zs, h3.trans h1, h4⟩
theorem Lq{a:Addr}{xs:List (List Int×Addr)}{Q:Value→Shared→Prop}(hh:A.handled=none)(S:SetX prog w s.heap a xs)(hz:xs.length≤300)
  (hp:∀k x,(k,x)∈xs→∃p q,k=[p,q]∧0≤q∧q<65536)
  (h:∀(h':Heap) (tk:Nat) (ys:List (List Int×Addr)) (D:Addr) (c:Nat),s.heap.get? D=none→h'.get? D=some (gP "list" (ys.map fun p=>Value.ref p.2).toArray c)→(∀b o,s.heap.get? b=some o→h'.get? b=some o)→
   ys.Perm xs→ys.Pairwise (fun x y=>65536*x.1.getD 0 0+x.1.getD 1 0≤65536*y.1.getD 0 0+y.1.getD 1 0)→Q (.ref D) {s with heap:=h',toks:=tk}):
  wpAny (model prog w) A (call (.builtin "sorted") [.ref a]) Q E s:=by
 obtain⟨o,es,ep,t,S⟩:=S
 refine call_function_entry qE qf qh (ql _) ?_
 unfold Builtin.«sorted»
 refine a8 (m:=checkCount "sorted" 1 1 _) (b8 ?_)
 refine a8 (kdu_collect (A:=A.in1) (Tt S.wk) hh S.get (by rw[S.size,iH];omega) fun h1 tk1 acc hk1 hacc=>?_)
 have hsz:acc.toList.length=xs.length:=by rw[fw,hacc.1,S.size]
 have hacc2:acc.toList=(Do w a ep es).toList.map (·.2):=by
  apply jA
  intro i
  rw[fq]
  by_cases hi:i<acc.size
  ·have e1:acc[i]?=some acc[i]:=by simp[hi]
   obtain⟨hh',e2⟩:=hacc.2 i _ e1
   have e2':(Do w a ep es).toList[i]?=some (hh',acc[i]):=by simpa using e2
   rw[e2']
   simpa using e1
  ·have h1':acc.toList[i]?=none:=by simp;omega
   have h2':(Do w a ep es).toList[i]?=none:=by
    apply kr
    rw[fw,Eu,←hacc.1];omega
   rw[h1',h2'];rfl
 have hperm:acc.toList.Perm (xs.map fun p=>Value.ref p.2):=by
  rw[hacc2]
  refine((Hs w a ep es).map (·.2)).trans ?_
  rw[S.es,OX,i6]
  exact k9.refl _
 have hIK:∀k x,(k,x)∈xs→IK prog w h1 k x:=fun k x hx=>by
  obtain⟨i,hi⟩:=iA hx
  exact Ci (S.key i k x hi) fun u e=>hk1 x u e
 have tupAt:∀k x,(k,x)∈xs→∃p q,k=[p,q]∧SrtG.TupAt h1 (.ref x) p q∧0≤q∧q<65536:=fun k x hx=>by
  obtain⟨p,q,rfl,h0,h1'⟩:=hp k x hx
  obtain⟨o',items,n,ho',hc',hd',hi'⟩:=hIK _ x hx
  refine⟨p,q,rfl,?_,h0,h1'⟩
  generalize hL:items.toList=L at hi'
  cases hi' with
  |cons i1 i2=>
   cases i2 with
   |cons i3 i4=>
    cases i4
    obtain⟨t1,rfl⟩:=Er i1
    obtain⟨t2,rfl⟩:=Er i3
    have:items= #[.int p t1,.int q t2]:=by
     apply lE
     rw[hL]
    exact⟨x,o',t1,t2,n,rfl,ho',hc',by rw[hd',this]⟩
 refine a8 (mh ?_ (by rw[hsz,iH];omega))
 have hoL:(h1.push (gP "list" acc.toList.toArray 0)).get? h1.objs.size=some (gP "list" acc.toList.toArray 0):=gJ _ rfl
 have hDn:s.heap.get? h1.objs.size=none:=by
  cases e:s.heap.get? h1.objs.size with
  |none=>rfl
  |some o'=>exact absurd (gi (hk1 _ _ e)) (iQ _)
 have hkp:∀b o,h1.get? b=some o→(h1.push (gP "list" acc.toList.toArray 0)).get? b=some o:=fun b o e=>e9 _ e
 obtain⟨ws,hw1,hw2⟩:=BN hperm rfl
 have fin:∀(out:List Value) (c:Nat) (h2:Heap),out.Perm acc.toList→out.Pairwise (fun x y=>SrtG.Sv (h1.push (gP "list" acc.toList.toArray 0)) (x,x)≤SrtG.Sv (h1.push (gP "list" acc.toList.toArray 0)) (y,y))→
   h2.get? h1.objs.size=some (gP "list" (l7 out) c)→(∀b o,b≠h1.objs.size→(h1.push (gP "list" acc.toList.toArray 0)).get? b=some o→h2.get? b=some o)→Q (.ref h1.objs.size) {s with heap:=h2,toks:=tk1}:=fun out c h2 pm pw hg hk=>by
  obtain⟨ys,y1,y2⟩:=BN (pm.trans hperm) rfl
  subst y2
  refine h h2 tk1 ys _ c hDn hg (fun b o e=>?_) y1 ?_
  ·have hlt:=gi (hk1 b o e)
   exact hk b o (gL hlt) (hkp b o (hk1 b o e))
  ·rw[iw] at pw
   refine iG (fun{x y} hx hy q=>?_) pw
   obtain⟨k1,x1⟩:=x
   obtain⟨k2,x2⟩:=y
   obtain⟨p,q',rfl,t1,_⟩:=tupAt k1 x1 (y1.mem_iff.mp hx)
   obtain⟨p2,q2,rfl,t2,_⟩:=tupAt k2 x2 (y1.mem_iff.mp hy)
   have keepT:∀{v:Value} {i j:Int},SrtG.TupAt h1 v i j→SrtG.TupAt (h1.push (gP "list" acc.toList.toArray 0)) v i j:=fun t=>by
    obtain⟨x,o,t,u,n,e1,e2,e3,e4⟩:=t
    exact⟨x,o,t,u,n,e1,hkp _ _ e2,e3,e4⟩
   rw[SrtG.Ex (k:=(Value.ref x1,Value.ref x1)) (keepT t1).pair,SrtG.Ex (k:=(Value.ref x2,Value.ref x2)) (keepT t2).pair] at q
   exact q
 refine a8 (hZ (jJ pq ⟨_,hoL,rfl⟩ oZ ?body (pE _)))
 case body=>
  by_cases hlen:acc.toList.length<2
  ·refine GR (s:={s with heap:=h1.push (gP "list" acc.toList.toArray 0),toks:=tk1}) hoL hlen fun c h2 hg hk=> ⟨_,rfl,b8 ⟨_,rfl,fin acc.toList c h2 (.refl _) ?_ hg hk⟩⟩
   generalize acc.toList=l at hlen
   match l,hlen with
   | [],_=>exact .nil
   | [x],_=>exact j5 _ _
  ·refine SrtG.Lo (s:={s with heap:=h1.push (gP "list" acc.toList.toArray 0),toks:=tk1}) hoL (fun v hv=>?_) (by omega) (by omega) fun out c h2 pm pw hg hk=> ⟨_,rfl,b8 ⟨_,rfl,fin out c h2 pm pw hg hk⟩⟩
   obtain⟨⟨k,x⟩,hx,rfl⟩:=gc.mp (hperm.mem_iff.mp hv)
   obtain⟨p,q,rfl,⟨x',o',t1,t2,n,e1,e2,e3,e4⟩,h0,h1'⟩:=tupAt k x hx
   exact⟨p,q,⟨x',o',t1,t2,n,e1,hkp _ _ e2,e3,e4⟩,h0,h1'⟩
end
end StT
namespace L2
open PySem PySem.Spec PyProof.Rows
section
variable{X:Cx}{pins:List (Addr×Obj)}{σ:St}{H:Hp}{s:Shared}{h':Heap}
theorem Inv.laidF{a:Addr}{o:HO}{t':Nat}(I:Inv X pins σ H s)(k:∀b u,s.heap.get? b=some u→h'.get? b=some u)(hp:s.heap.get? a=none)(new:ObjOk X.prog X.w (upd H a o) h' a o):
  Inv X pins σ (upd H a o) {s with heap:=h',toks:=t'}:=by
 have hn:H a=none:=by
  cases q:H a with
  |none=>rfl
  |some u=>
   obtain⟨ob,e⟩:=(I.hok a u q).obj
   rw[hp] at e;cases e
 have ne:∀b u,s.heap.get? b=some u→b≠a:=fun b u e z=>by rw[z,hp] at e;cases e
 refine I.un ⟨fun b u q _ _ _=>k b u q,fun b u q _ _ _=> ⟨u.slots,k b u q⟩,fun b u q n _=>by rw[AL (ne b u q)];exact n,fun b u q _=> ⟨u,k b u q⟩,fun b xs q=>by rw[AL (AQ q hn)];exact q,fun b u xs q=>by rw[AL (AQ q hn)];exact q,fun b ps q=> ⟨#[],by rw[AL (AQ q hn),q];simp⟩⟩ ?_
 intro b u e
 by_cases hb:b=a
 ·subst hb;rw[AM] at e;cases e;exact new
 ·rw[AL hb] at e
  exact(I.hok b u e).stay (fun c v _ q=>k c v q) (fun c q=>by rw[AL (AQ q hn)];exact q) fun c xs q=>by rw[AL (AQ q hn)];exact q
noncomputable def aM(P:Program)(w:World)(a:Addr)(xs:List (List Int×Addr))(h:Heap):Prop:=∃o es ep t,h.get? a=some o∧o.ExactSet∧o.data=.set es ep t∧es.toList=StT.OX xs P w∧(xs.map (·.1)).Nodup∧StT.Tb t (xs.map fun p=> (StT.tk P w).hash p.1)∧t.plain=true∧xs.length*5<t.mask*3∧t.led=!w.params.followText "set-order"
noncomputable def SetO(P:Program)(w:World)(a:Addr)(xs:List (List Int×Addr)):HO:=.ext (aM P w a xs)
theorem Tz{P:Program}{w:World}{H:Hp}{h:Heap}{a:Addr}{xs:List (List Int×Addr)}(S:StT.SetX P w h a xs):ObjOk P w H h a (SetO P w a xs):=by
 obtain⟨o,es,ep,t,S⟩:=S
 refine⟨⟨o,es,ep,t,S.get,S.ex,S.dat,S.es,S.nd,S.tb,S.pl,S.room,S.led⟩,⟨o,S.get⟩,fun h1 h2 ⟨o,es,ep,t,g,r⟩ hk=> ⟨o,es,ep,t,hk _ g,r⟩⟩
noncomputable def Qd(K:a9)(H:Hp)(xs:List (List Int×Addr)):Prop:=∀k x,(k,x)∈xs→FV K H x (k.map V.int)
theorem Hv{prog:Program}{w:World}:∀{k:List Int} {us:List Value},Vals (k.map V.int) us→ItemsAre (intKind prog w) k us
 | [],us,r=>by rw[l8] at r;cases r;exact .nil
 |n::k,us,r=>by
  rw[gH] at r
  cases r with
  |cons r1 r2=>
   obtain⟨t,rfl⟩:=r1
   exact .cons (intKind_is _ _ _ _) (Hv r2)
theorem Inv.ik{x:Addr}{k:List Int}(I:Inv X pins σ H s)(h:FV X.K H x (k.map V.int)):StT.IK X.prog X.w s.heap k x:=by
 obtain⟨its,r,⟨o,ho,hc,n,hd⟩,hz⟩:=I.tuple h
 exact⟨o,its.toArray,n,ho,hc,hd,by simpa using Hv r⟩
noncomputable def dZ(X:Cx):List V→Hp→VK→Prop:=fun vs H Q=>∃a ps,vs=[.ref a]∧SqL X.K H a (ps.map fun p=>V.ref p.2)∧Qd X.K H ps∧ps.length≤300∧
 ∀p xs,H p=none→StT.Ih ps xs→(xs.map (·.1)).Nodup→Q (.ref p) (upd H p (SetO X.prog X.w p xs))
theorem Hw:∀{ps:List (List Int×Addr)} {us:List Value},Vals (ps.map fun p=>V.ref p.2) us→us=ps.map fun p=>Value.ref p.2
 | [],us,r=>by rw[l8] at r;cases r;rfl
 |p::ps,us,r=>by
  rw[gH] at r
  cases r with
  |cons r1 r2=>
   rw[Hw r2]
   have r1:_=Value.ref p.2:=r1
   rw[r1]
   rfl
theorem Oh(hc:X.calm=true)(hu:X.A.units+8<cLine):BC X (.type "set") (dZ X):=by
 intro pins s σ H vs us Q I r h
 obtain⟨a,ps,rfl,hl,hk,hz,q⟩:=h
 obtain⟨u,rfl,ru⟩:=Vals.one r
 cases ru
 obtain⟨its,rv,p,_⟩:=I.list hl
 refine StT.GQ (ps:=ps) (I.ok.hd hc) p.isList (by simpa using Hw rv) (fun k x hx=>I.ik (hk k x hx)) hz hu fun h' tk xs sx so kp=>?_
 have hf:H s.heap.objs.size=none:=I.hok.fresh (fv _)
 have nd:(xs.map (·.1)).Nodup:=by obtain⟨_,_,_,_,S⟩:=sx;exact S.nd
 exact⟨.ref s.heap.objs.size,upd H s.heap.objs.size (SetO X.prog X.w s.heap.objs.size xs),I.laid (t':=tk) (fun b u e=>kp b u (gi e) e) (fv _) (Tz sx),rfl,q _ _ hf so nd⟩
noncomputable def Xa(X:Cx):List V→Hp→VK→Prop:=fun vs H Q=>∃p xs,vs=[.ref p]∧H p=some (SetO X.prog X.w p xs)∧Qd X.K H xs∧xs.length≤300∧(∀k x,(k,x)∈xs→∃i j,k=[i,j]∧0≤j∧j<65536)∧
 ∀(q:Addr) (ys:List (List Int×Addr)),H q=none→ys.Perm xs→ys.Pairwise (fun x y=>65536*x.1.getD 0 0+x.1.getD 1 0≤65536*y.1.getD 0 0+y.1.getD 1 0)→Q (.ref q) (upd H q (.lst (ys.map fun p=>V.ref p.2)))
theorem Hx:∀(ps:List (List Int×Addr)),Vals (ps.map fun p=>V.ref p.2) (ps.map fun p=>Value.ref p.2)
 | []=> .nil
 |p::ps=> .cons rfl (Hx ps)
theorem Ik(hc:X.calm=true):BC X (.builtin "sorted") (Xa X):=by
 intro pins s σ H vs us Q I r h
 obtain⟨p,xs,rfl,hp,hk,hz,h2,q⟩:=h
 obtain⟨u,rfl,ru⟩:=Vals.one r
 cases ru
 obtain⟨⟨o,es,ep,t,g1,g2,g3,g4,g5,g6,g7,g8,g9⟩,_,_⟩:=I.hok p _ hp
 refine StT.Lq (xs:=xs) (I.ok.hd hc) ⟨o,es,ep,t,g1,g2,g3,g4,fun i k x e=>I.ik (hk k x (fo e)),g5,g6,g7,g8,g9⟩ hz h2 fun h' tk ys D c hD hg kp pm pw=>?_
 have hf:H D=none:=I.hok.none_of hD
 refine⟨.ref D,upd H D (.lst (ys.map fun p=>V.ref p.2)),I.laidF (t':=tk) kp hD ⟨?_,_,c,Hx ys,hg⟩,rfl,q D ys hf pm pw⟩
 rw[e8,pm.length_eq,iH]
 omega
end
end L2
namespace ZpT
open PySem PySem.Spec PyProof.Rows
section
variable{prog:Program}{w:World}
end
section
variable{prog:Program}{w:World}{A:gx}{E:Value→Shared→Prop}{s:Shared}
variable{z TI TO i1 i2 l1 l2:Addr}{xs ys:Array Value}{S1 S2:Nat→Heap→Prop}
end
end ZpT
namespace L2
open PySem PySem.Spec PyProof.Rows
section
variable{X:Cx}
end
open PySem.Calls
section
variable{X:Cx}
noncomputable def aN(K:a9)(H:Hp)(a:Addr)(xs:List V):Prop:=SqL K H a xs∨FV K H a xs
theorem Inv.walk{pins:List (Addr×Obj)}{σ:St}{H:Hp}{s:Shared}{a:Addr}{xs:List V}(I:Inv X pins σ H s)(hq:aN X.K H a xs):∃its:List Value,Vals xs its∧a<s.heap.objs.size∧∀(A:gx) (E:Value→Shared→Prop) (Q:Value→Shared→Prop),A.handled=none→
  (∀(o:Obj) (St:Nat→Heap→Prop),Walks X.prog X.w A s.heap.objs.size [s.heap.objs.size,a] [s.heap.objs.size] its.length (fun i v=>its[i]?=some v) St→St 0 (s.heap.push o)→Q (.ref s.heap.objs.size) {s with heap:=s.heap.push o})→wpAny (model X.prog X.w) A (qb (.ref a)) Q E s:=by
 rcases hq with hq|hq
 ·obtain⟨its,rv,p,_⟩:=I.list hq
  have lt:a<s.heap.objs.size:=by obtain⟨_,_,e,_⟩:=p;exact gi e
  refine⟨its,rv,lt,fun A E Q hh h=>n8 p.isList ?_⟩
  have W:=Walks.list (prog:=X.prog) (w:=X.w) (A:=A) hh s.heap.objs.size a (gL lt) its.toArray
  have W':Walks X.prog X.w A s.heap.objs.size [s.heap.objs.size,a] [s.heap.objs.size] its.length (fun i v=>its[i]?=some v) (fun i h=>h.IsListIter s.heap.objs.size a i∧h.IsList a its.toArray):=by simpa using W
  exact h _ _ W' ⟨⟨_,gJ _ rfl,rfl,rfl⟩,p.isList.push _⟩
 ·obtain⟨its,rv,p,_⟩:=I.tuple hq
  have lt:a<s.heap.objs.size:=by obtain⟨_,e,_⟩:=p;exact gi e
  refine⟨its,rv,lt,fun A E Q hh h=>wpAny_pyIter_tuple (items:=its.toArray) p ?_⟩
  have W:=Walks.tuple (prog:=X.prog) (w:=X.w) (A:=A) hh s.heap.objs.size a (gL lt) its.toArray
  have W':Walks X.prog X.w A s.heap.objs.size [s.heap.objs.size,a] [s.heap.objs.size] its.length (fun i v=>its[i]?=some v) (fun i h=>h.IsTupleIter s.heap.objs.size a i∧h.IsTuple a its.toArray):=by simpa using W
  have p':s.heap.IsTuple a its.toArray:=p
  exact h _ _ W' ⟨⟨_,gJ _ rfl,rfl,rfl⟩,p'.at fun o e=>e9 _ e⟩
theorem Il{s:Shared}{o:Obj}{h':Heap}(hk:∀b x,b∉[s.heap.objs.size]→(s.heap.push o).get? b=some x→h'.get? b=some x):∀b x,s.heap.get? b=some x→h'.get? b=some x:=fun b x e=>
 hk b x (by simpa using gL (gi e)) (e9 _ e)
theorem CW{ns:List Int}{us:List Value}(r:Vals (ns.map V.int) us)(i:Nat)(v:Value)(h:us[i]?=some v):∃t,v=.int (ns.getD i 0) t:=by
 have hl:=r.length
 have hi:i<ns.length:=by
  have:=(gh.mp h).1
  rw[e8] at hl;omega
 obtain⟨u,e,t,rfl⟩:=r.get (i:=i) (x:=.int ns[i]) (by simp[hi])
 rw[h] at e;cases e
 exact⟨t,by simp[oG,hi]⟩
noncomputable def GS(ns:List Int)(m:Int):Prop:=m∈ns∧∀n∈ns,m≤n
noncomputable def NK(ns:List Int)(m:Int):Prop:=m∈ns∧∀n∈ns,n≤m
theorem GT{ns:List Int}{i:Nat}(h:i<ns.length):ns.getD i 0∈ns:=by simp[oG,h]
theorem Oi(hc:X.calm=true):BC X (.builtin "min") (fun vs H Q=>∃(a:Addr) (ns:List Int),vs=[.ref a]∧aN X.K H a (ns.map V.int)∧0<ns.length∧∀m,GS ns m→Q (.int m) H):=by
 intro pins s σ H vs us Q I r h
 obtain⟨a,ns,rfl,hq,h0,q⟩:=h
 obtain⟨u,rfl,ru⟩:=Fy r
 cases ru
 obtain⟨its,rv,lt,wk⟩:=I.walk hq
 have hl:its.length=ns.length:=by have:=rv.length;rw[e8] at this;exact this.symm
 refine call_min_walk (wk X.A.in1 _ _ (I.ok.hd hc) fun o St W st=> ⟨_,_,_,_,_,_,_,rfl,W,st,fun b hb=>?_,by omega,CmpOf.ints_lt (fun i=>ns.getD i 0) (fun i v hv=>CW rv i v hv),fun v h' tk hP hk=>?_⟩)
 ·show b< (s.heap.push o).objs.size
  rw[jE]
  simp only[fu,iU,or_false] at hb
  rcases hb with rfl|rfl
  ·exact kX _
  ·exact j4 lt
 ·obtain⟨t,rfl⟩:=CW rv _ v hP
  obtain⟨b1,b2⟩:=argBest_lt (fun i=>ns.getD i 0) (its.length-1)
  exact⟨.int _,H,I.kept (t':=tk) (Il hk),⟨t,rfl⟩,q _ ⟨GT (by omega),fun n hn=>by
   obtain⟨j,hj,rfl⟩:=mf hn
   have:=b2 j (by omega)
   simpa[oG,hj] using this⟩⟩
theorem Oj(hc:X.calm=true):BC X (.builtin "max") (fun vs H Q=>∃(a:Addr) (ns:List Int),vs=[.ref a]∧aN X.K H a (ns.map V.int)∧0<ns.length∧∀m,NK ns m→Q (.int m) H):=by
 intro pins s σ H vs us Q I r h
 obtain⟨a,ns,rfl,hq,h0,q⟩:=h
 obtain⟨u,rfl,ru⟩:=Fy r
 cases ru
 obtain⟨its,rv,lt,wk⟩:=I.walk hq
 have hl:its.length=ns.length:=by have:=rv.length;rw[e8] at this;exact this.symm
 refine call_max_walk (wk X.A.in1 _ _ (I.ok.hd hc) fun o St W st=> ⟨_,_,_,_,_,_,_,rfl,W,st,fun b hb=>?_,by omega,CmpOf.ints_gt (fun i=>ns.getD i 0) (fun i v hv=>CW rv i v hv),fun v h' tk hP hk=>?_⟩)
 ·show b< (s.heap.push o).objs.size
  rw[jE]
  simp only[fu,iU,or_false] at hb
  rcases hb with rfl|rfl
  ·exact kX _
  ·exact j4 lt
 ·obtain⟨t,rfl⟩:=CW rv _ v hP
  obtain⟨b1,b2⟩:=argBest_gt (fun i=>ns.getD i 0) (its.length-1)
  exact⟨.int _,H,I.kept (t':=tk) (Il hk),⟨t,rfl⟩,q _ ⟨GT (by omega),fun n hn=>by
   obtain⟨j,hj,rfl⟩:=mf hn
   have:=b2 j (by omega)
   simpa[oG,hj] using this⟩⟩
theorem KP:BC X (.type "tuple") (fun vs H Q=>∃a xs,vs=[.ref a]∧SqL X.K H a xs∧∀p,H p=none→Q (.ref p) (upd H p (.tup xs))):=by
 intro pins s σ H vs us Q I r h
 obtain⟨a,xs,rfl,hq,q⟩:=h
 obtain⟨u,rfl,ru⟩:=Fy r
 cases ru
 obtain⟨its,rv,p,hz⟩:=I.list hq
 have hl:=rv.length
 refine call_tuple_list p.isList (fun h' hk=>?_) (by simpa[←hl] using hz)
 have hn:s.heap.get? h'.objs.size=none:=by
  cases e:s.heap.get? h'.objs.size with
  |none=>rfl
  |some o=>exact absurd (gi (hk _ _ e)) (iQ _)
 exact⟨.ref h'.objs.size,upd H h'.objs.size (.tup xs),I.laidF (t':=s.toks) (fun b u e=>e9 _ (hk b u e)) hn ⟨hz,its,rv,⟨_,gJ _ rfl,rfl,_,rfl⟩⟩,rfl,q _ (I.hok.none_of hn)⟩
theorem Lr:BC X (.type "list") (fun vs H Q=>∃a xs,vs=[.ref a]∧aN X.K H a xs∧∀p,H p=none→Q (.ref p) (upd H p (.lst xs))):=by
 intro pins s σ H vs us Q I r h
 obtain⟨a,xs,rfl,hq,q⟩:=h
 obtain⟨u,rfl,ru⟩:=Fy r
 cases ru
 have hf:H s.heap.objs.size=none:=I.hok.fresh (fv _)
 have fin:∀(its:List Value) (h':Heap) (c:Nat),Vals xs its→xs.length≤sizeLine→(∀b o',s.heap.get? b=some o'→h'.get? b=some o')→h'.get? s.heap.objs.size=some {cls:=.type "list",dict:=none,data:=.seq its.toArray c,slots:=#[]}→EP X pins σ Q (.ref s.heap.objs.size) {s with heap:=h'}:=fun its h' c rv hz hk hD=>
  ⟨.ref s.heap.objs.size,upd H s.heap.objs.size (.lst xs),I.laid (t':=s.toks) hk (fv _) ⟨hz,its,c,rv,hD⟩,rfl,q _ hf⟩
 rcases hq with hq|hq
 ·obtain⟨its,rv,⟨o,n,ho,hc,hd,hdt⟩,hz⟩:=I.list hq
  have hl:=rv.length
  exact call_list_seq (hsz:=by simpa[←hl] using hz) a (.inl rfl) ho hc hdt fun h' c' hk hD=>fin its h' c' rv hz hk hD
 ·obtain⟨its,rv,⟨o,ho,hc,n,hdt⟩,hz⟩:=I.tuple hq
  have hl:=rv.length
  exact call_list_seq (hsz:=by simpa[←hl] using hz) a (.inr rfl) ho hc hdt fun h' c' hk hD=>fin its h' c' rv hz hk hD
end
end L2
namespace HT
open PySem PySem.Spec PyProof.Rows
section
open PySem.SeqAt
open PySem.AutoSeq1 (wpAny_loadPart')
open PySem.MeetsSeq PySem.MeetsSeq2 PySem.MeetsSeq3
end
section
variable{prog:Program}{w:World}{A:gx}{E:Value→Shared→Prop}{s:Shared}
theorem KQ(l b:Addr)(items items2:Array Value)(n n2:Nat)(dd dd2:Option Addr)(sl sl2:Array (Option Value))(hc0:items.isEmpty=true):
  Meets (Builtin.«tuple.__add__» ⟨[.ref l,.ref b],[]⟩) (fun _ R s=>s.heap.get? l=some ⟨.type "tuple",dd,.seq items n,sl⟩∧s.heap.get? b=some ⟨.type "tuple",dd2,.seq items2 n2,sl2⟩∧R (.ok (.ret (Value.ref b))) s):=
 .of_wp fun prog w A R s h=>by
  obtain⟨hp,g,d,tk,os⟩:=s
  obtain⟨hl,hb,h⟩:=h
  have f2:=AutoSeq1.sub_tuple_tuple
  wp_walk using AutoSeq1.wpAny_loadPart' hl,AutoSeq1.wpAny_loadPart' hb
  exact⟨_,rfl,h⟩
theorem Qe{t b:Addr}{ws:List Value}{Q:Value→Shared→Prop}(ht:IsTup s.heap t #[])(hb:IsTup s.heap b ws.toArray)(h1:Q (.ref b) s):wpAny (model prog w) A (jY .Add (.ref t) (.ref b)) Q E s:=by
 obtain⟨⟨cls,dd,data,sl⟩,ho,hc,n,hd⟩:=id ht
 obtain⟨⟨cls2,dd2,data2,sl2⟩,ho2,hc2,n2,hd2⟩:=id hb
 simp only at hc hd hc2 hd2
 subst hc hd hc2 hd2
 exact qj ⟨_,ho,rfl⟩ ⟨_,ho2,rfl⟩ oC pU mQ mG (mn _ _) (KQ t b _ ws.toArray n n2 dd dd2 sl sl2 rfl) ⟨ho,ho2,h1⟩
theorem Di{t sl:Addr}{items:Array Value}{vl vu:Value}{lo hi:Option Int}{Q:Value→Shared→Prop}(ht:IsTup s.heap t items)(hs:s.heap.IsSliceOf sl vl vu .none)(pl:oV vl lo)(pu:oV vu hi)
  (h1:BK items.size 0 lo=0) (h2:BK items.size items.size hi=items.size) (h:Q (.ref t) s):wpAny (model prog w) A (pR (.ref t) (.ref sl)) Q E s:=by
 obtain⟨os,hos,hcs,hds⟩:=id hs
 have hTs:s.TypeIs (.ref sl) "slice":=⟨os,hos,hcs⟩
 unfold pR
 try with_reducible refine hZ ?_
 first|refine a8 (b8 ?_)|skip
 refine a8 (wpAny_sequenceKey ht.typeIs (by decide) ?_)
 refine a8 (kU (name:=oT "__getitem__") ht.typeIs i5
  (jJ i5 ht.typeIs entry_tuple_getitem ?_ (args_tuple_getitem _ _)))
 show wpAny _ _ (Builtin.Tuple.tupleItemsOf (.ref t)>>=_) _ _ s
 refine a8 (tupleItemsOf_ ht ?_)
 refine a8 (lY hTs ?_)
 rw[if_pos (by decide)]
 refine a8 (CQ hs pl pu ?_)
 rw[h1,h2]
 show wpAny _ _ (if(((0:Nat):Int)==0&&(1:Int)==1&&(items.size-0)==items.size)=true then _ else _) _ _ s
 rw[if_pos (by simp)]
 unfold Builtin.Tuple.tupleIsExact
 refine a8 (a8 (lY ht.typeIs (b8 ?_)))
 rw[if_pos (by decide)]
 exact a8 (kK (b8 ⟨_,rfl,b8 h⟩))
end
end HT
namespace L2
open PySem PySem.Spec PyProof.Rows
section
variable{X:Cx}{e:Expr}{te:TE}{pos p2 p3 p4:Pos}
noncomputable def aO(K:a9):V→Option Int→Option Int→Hp→VK→Prop:=fun x lo hi H Q=>∃a xs,x=.ref a∧FV K H a xs∧∀p H',((p=a∧H'=H∧Eo xs lo hi=xs)∨(H p=none∧H'=upd H p (.tup (Eo xs lo hi))))→Q (.ref p) H'
theorem UA:cN X (aO X.K):=by
 intro pins s σ H x v vl vu lo hi sl Q I rx hs pl pu h
 obtain⟨a,xs,rfl,hx,q⟩:=h
 cases rx
 by_cases hw:HT.BK xs.length 0 lo=0∧HT.BK xs.length xs.length hi=xs.length
 ·obtain⟨its,r,ht,hz⟩:=I.tuple hx
  have hlen:its.toArray.size=xs.length:=by rw[gj];exact r.length.symm
  refine⟨"tuple",_,i5.lookup,ht.typeIs,HT.Di ht hs pl pu (by rw[hlen];exact hw.1) (by rw[hlen];exact hw.2) ⟨.ref a,H,I,rfl,q a H (.inl ⟨rfl,rfl,?_⟩)⟩⟩
  unfold Eo
  rw[hw.1,hw.2]
  simp
 ·exact XC pins s σ H (.ref a) (.ref a) vl vu lo hi sl Q I rfl hs pl pu ⟨a,xs,rfl,hx,hw,fun p hp=>q p _ (.inr ⟨hp,rfl⟩)⟩
noncomputable def aP(K:a9):R2:=fun x y H Q=>∃a b xs ys,x=.ref a∧y=.ref b∧FV K H a xs∧FV K H b ys∧xs.length+ys.length≤sizeLine∧∀p H',((p=a∧H'=H∧ys=[])∨(p=b∧H'=H∧xs=[])∨(H p=none∧H'=upd H p (.tup (xs++ys))))→Q (.ref p) H'
theorem UB:CO X (jY .Add) (aP X.K):=by
 intro pins s σ H x y v u Q I rx ry h
 obtain⟨a,b,xs,ys,rfl,rfl,ha,hb,hz,q⟩:=h
 cases xs with
 |cons x xs=>exact TY pins s σ H _ _ v u Q I rx ry ⟨a,b,x::xs,ys,rfl,rfl,ha,hb,by simp,hz,fun e=>q a H (.inl ⟨rfl,rfl,e⟩),fun _ p hp=>q p _ (.inr (.inr ⟨hp,rfl⟩))⟩
 |nil=>
  cases rx;cases ry
  obtain⟨its,r1,p1,_⟩:=I.tuple ha
  obtain⟨its2,r2,p2,_⟩:=I.tuple hb
  cases r1
  exact HT.Qe p1 p2 ⟨.ref b,H,I,rfl,q b H (.inr (.inl ⟨rfl,rfl,rfl⟩))⟩
end
end L2
namespace L2.TL
open PySem PySem.Spec PyProof.Rows
inductive T where
 |non|bl (b:Bool)|int (i:Int)|str (x:Str)|tup (ts:List T)|lst (ts:List T)|frz (ts:List T)|dct|raw (v:V)
noncomputable abbrev AH:=Addr→Option (List T)
noncomputable def Ad(O:AH)(a:Addr)(ts:List T):AH:=fun b=>if b=a then some ts else O b
noncomputable def DN(O:AH)(a:Addr):AH:=fun b=>if b=a then none else O b
theorem AF{O:AH}{a:Addr}{ts:List T}:Ad O a ts a=some ts:=by unfold Ad;rw[if_pos rfl]
theorem Aa{O:AH}{a b:Addr}{ts:List T}(h:b≠a):Ad O a ts b=O b:=by unfold Ad;rw[if_neg h]
theorem BO{O:AH}{a:Addr}{ts us:List T}:Ad (Ad O a ts) a us=Ad O a us:=by
 funext b;unfold Ad;split<;>rfl
theorem Ck{O:AH}{a:Addr}:DN O a a=none:=by unfold DN;rw[if_pos rfl]
theorem EN{O:AH}{a b:Addr}(h:b≠a):DN O a b=O b:=by unfold DN;rw[if_neg h]
mutual
inductive Rep (K:a9) (O:AH) (H:Hp):V→T→Prop
 |non:Rep K O H .non .non
 |bl (b:Bool):Rep K O H (.bl b) (.bl b)
 |int (i:Int):Rep K O H (.int i) (.int i)
 |str (x:Str):Rep K O H (.str x) (.str x)
 |tup {a:Addr} {xs:List V} {ts:List T}:H a=some (.tup xs)→Reps K O H xs ts→Rep K O H (.ref a) (.tup ts)
 |lst {a:Addr} {xs:List V} {ts:List T}:H a=some (.lst xs)→O a=none→Reps K O H xs ts→Rep K O H (.ref a) (.lst ts)
 |frz {a:Addr} {o:Obj} {xs:List V} {ts:List T}:H a=some (.frz o (.lst xs))→Reps K O H xs ts→Rep K O H (.ref a) (.frz ts)
 |dct {a:Addr}:H a=some (.dK [])→Rep K O H (.ref a) .dct
 |raw (v:V):Rep K O H v (.raw v)
inductive Reps (K:a9) (O:AH) (H:Hp):List V→List T→Prop
 |nil:Reps K O H [] []
 |cons {v:V} {t:T} {vs:List V} {ts:List T}:Rep K O H v t→Reps K O H vs ts→Reps K O H (v::vs) (t::ts)
end
section
variable{K:a9}{O O' O1:AH}{H H' H1:Hp}
mutual
theorem Rep.mono (hT:∀a o,H a=some o→(∀xs,o≠.lst xs)→H' a=some o) (hL:∀a xs,H a=some (.lst xs)→O a=none→H' a=some (.lst xs)∧O' a=none):∀{v:V} {t:T},Rep K O H v t→Rep K O' H' v t
 |_,_,.non=> .non
 |_,_,.bl b=> .bl b
 |_,_,.int i=> .int i
 |_,_,.str x=> .str x
 |_,_,.tup h r=> .tup (hT _ _ h fun _ z=>by cases z) (Reps.mono hT hL r)
 |_,_,.lst h o r=> .lst (hL _ _ h o).1 (hL _ _ h o).2 (Reps.mono hT hL r)
 |_,_,.frz h r=> .frz (hT _ _ h fun _ z=>by cases z) (Reps.mono hT hL r)
 |_,_,.dct h=> .dct (hT _ _ h fun _ z=>by cases z)
 |_,_,.raw v=> .raw v
theorem Reps.mono (hT:∀a o,H a=some o→(∀xs,o≠.lst xs)→H' a=some o) (hL:∀a xs,H a=some (.lst xs)→O a=none→H' a=some (.lst xs)∧O' a=none):∀{v:List V} {t:List T},Reps K O H v t→Reps K O' H' v t
 |_,_,.nil=> .nil
 |_,_,.cons h r=> .cons (Rep.mono hT hL h) (Reps.mono hT hL r)
end
theorem Reps.length:∀{vs:List V} {ts:List T},Reps K O H vs ts→vs.length=ts.length
 |_,_,.nil=>rfl
 |_,_,.cons _ r=>congrArg (· +1) r.length
theorem Reps.get:∀{vs:List V} {ts:List T} {i:Nat} {t:T},Reps K O H vs ts→ts[i]?=some t→∃v,vs[i]?=some v∧Rep K O H v t
 |_,_,_,_,.nil,e=>by simp at e
 |_,_,0,_,.cons h _,e=>by simp at e;subst e;exact⟨_,rfl,h⟩
 |_,_,i+1,t,.cons _ r,e=>by
  obtain⟨u,h1,h2⟩:=Reps.get (i:=i) (t:=t) r (by simpa using e)
  exact⟨u,by simpa using h1,h2⟩
theorem Reps.append:∀{vs ws:List V} {ts us:List T},Reps K O H vs ts→Reps K O H ws us→Reps K O H (vs++ws) (ts++us)
 |_,_,_,_,.nil,s=>s
 |_,_,_,_,.cons h r,s=> .cons h (r.append s)
theorem Reps.take:∀{vs:List V} {ts:List T} (n:Nat),Reps K O H vs ts→Reps K O H (vs.take n) (ts.take n)
 |_,_,0,_=> .nil
 |_,_,_+1,.nil=> .nil
 |_,_,n+1,.cons h r=> .cons h (r.take n)
theorem Reps.drop:∀{vs:List V} {ts:List T} (n:Nat),Reps K O H vs ts→Reps K O H (vs.drop n) (ts.drop n)
 |_,_,0,r=>r
 |_,_,_+1,.nil=> .nil
 |_,_,n+1,.cons h r=>r.drop n
theorem Reps.set{x:V}{t:T}(h:Rep K O H x t):∀{vs:List V} {ts:List T} (i:Nat),Reps K O H vs ts→Reps K O H (vs.set i x) (ts.set i t)
 |_,_,_,.nil=> .nil
 |_,_,0,.cons _ r=> .cons h r
 |_,_,i+1,.cons q r=> .cons q (Reps.set h i r)
theorem Reps.one{v:V}{t:T}(h:Rep K O H v t):Reps K O H [v] [t]:=.cons h .nil
noncomputable def Kp(O:AH)(H:Hp)(O':AH)(H':Hp):Prop:=∀b o,H b=some o→O b=none→H' b=some o∧O' b=none
noncomputable def OwnOk(K:a9)(O:AH)(H:Hp):Prop:=∀a ts,O a=some ts→∃xs,H a=some (.lst xs)∧Reps K O H xs ts
theorem OwnOk.free(w:OwnOk K O H){a:Addr}{o:HO}(h:H a=some o)(hn:∀xs,o≠.lst xs):O a=none:=by
 cases e:O a with
 |none=>rfl
 |some ts=>
  obtain⟨xs,e',_⟩:=w a ts e
  rw[h] at e'
  exact absurd (gZ.inj e') (hn xs)
theorem OwnOk.none_of(w:OwnOk K O H){a:Addr}(h:H a=none):O a=none:=by
 cases e:O a with
 |none=>rfl
 |some ts=>
  obtain⟨xs,e',_⟩:=w a ts e
  rw[h] at e';cases e'
theorem Kp.refl:Kp O H O H:=fun _ _ h n=> ⟨h,n⟩
theorem Kp.trans(a:Kp O H O1 H1)(b:Kp O1 H1 O' H'):Kp O H O' H':=fun c o h n=>b c o (a c o h n).1 (a c o h n).2
theorem Kp.oth(k:Kp O H O' H')(w:OwnOk K O H){a:Addr}{o:HO}(h:H a=some o)(hn:∀xs,o≠.lst xs):H' a=some o:=(k a _ h (w.free h hn)).1
theorem Kp.lst(k:Kp O H O' H'){a:Addr}{xs:List V}(h:H a=some (.lst xs))(n:O a=none):H' a=some (.lst xs)∧O' a=none:=k a _ h n
theorem Rep.kp(k:Kp O H O' H')(w:OwnOk K O H){v:V}{t:T}(r:Rep K O H v t):Rep K O' H' v t:=r.mono (fun _ _ h hn=>k.oth w h hn) fun _ _=>k.lst
theorem Reps.kp(k:Kp O H O' H')(w:OwnOk K O H){v:List V}{t:List T}(r:Reps K O H v t):Reps K O' H' v t:=r.mono (fun _ _ h hn=>k.oth w h hn) fun _ _=>k.lst
structure Frm(K:a9)(O:AH)(H:Hp)(O':AH)(H':Hp):Prop where
 kp:Kp O H O' H'
 own:∀b ts,O b=some ts→∃ts',O' b=some ts'
 ok:OwnOk K O' H'
theorem Frm.refl(w:OwnOk K O H):Frm K O H O H:=⟨.refl,fun _ ts e=> ⟨ts,e⟩,w⟩
theorem Frm.trans(a:Frm K O H O1 H1)(b:Frm K O1 H1 O' H'):Frm K O H O' H':=⟨a.kp.trans b.kp,fun c ts e=>by
 obtain⟨t1,e1⟩:=a.own c ts e
 exact b.own c t1 e1,b.ok⟩
theorem BP{p:Addr}{o:HO}(w:OwnOk K O H)(hp:H p=none):Kp O H O (upd H p o):=fun b u h n=> ⟨by rw[AL (AQ h hp)];exact h,n⟩
theorem Frm.new{p:Addr}{o:HO}(w:OwnOk K O H)(hp:H p=none):Frm K O H O (upd H p o) where
 kp:=BP w hp
 own:=fun _ ts e=> ⟨ts,e⟩
 ok:=fun a ts e=>by
  obtain⟨xs,h,r⟩:=w a ts e
  exact⟨xs,by rw[AL (AQ h hp)];exact h,r.kp (BP w hp) w⟩
theorem Im{p:Addr}{o:HO}{ts:List T}(w:OwnOk K O H)(hp:H p=none):Kp O H (Ad O p ts) (upd H p o):=fun b u h n=>by
 have:=AQ h hp
 rw[AL this,Aa this]
 exact⟨h,n⟩
theorem Frm.newO{p:Addr}{xs:List V}{ts:List T}(w:OwnOk K O H)(hp:H p=none)(r:Reps K O H xs ts):Frm K O H (Ad O p ts) (upd H p (.lst xs)) where
 kp:=Im w hp
 own:=fun b us e=>by
  by_cases hb:b=p
  ·exact⟨ts,by rw[hb,AF]⟩
  ·exact⟨us,by rw[Aa hb];exact e⟩
 ok:=fun a us e=>by
  by_cases hb:a=p
  ·subst hb
   rw[AF] at e;cases e
   exact⟨xs,AM,r.kp (Im w hp) w⟩
  ·rw[Aa hb] at e
   obtain⟨ys,h,q⟩:=w a us e
   exact⟨ys,by rw[AL hb];exact h,q.kp (Im w hp) w⟩
theorem Ls{a:Addr}{o:HO}{ts us:List T}(ha:O a=some ts):Kp O H (Ad O a us) (upd H a o):=fun b u h n=>by
 have:b≠a:=fun z=>by rw[z,ha] at n;cases n
 rw[AL this,Aa this]
 exact⟨h,n⟩
theorem Frm.put{a:Addr}{xs:List V}{ts us:List T}(w:OwnOk K O H)(ha:O a=some ts)(r:Reps K O H xs us):Frm K O H (Ad O a us) (upd H a (.lst xs)) where
 kp:=Ls ha
 own:=fun b vs e=>by
  by_cases hb:b=a
  ·exact⟨us,by rw[hb,AF]⟩
  ·exact⟨vs,by rw[Aa hb];exact e⟩
 ok:=fun b vs e=>by
  by_cases hb:b=a
  ·subst hb
   rw[AF] at e;cases e
   exact⟨xs,AM,r.kp (Ls ha) w⟩
  ·rw[Aa hb] at e
   obtain⟨ys,h,q⟩:=w b vs e
   exact⟨ys,by rw[AL hb];exact h,q.kp (Ls ha) w⟩
theorem Dc{a:Addr}:Kp O H (DN O a) H:=fun b u h n=> ⟨h,by
 by_cases hb:b=a
 ·rw[hb,Ck]
 ·rw[EN hb];exact n⟩
theorem OwnOk.drop{a:Addr}(w:OwnOk K O H):OwnOk K (DN O a) H:=fun b ts e=>by
 by_cases hb:b=a
 ·rw[hb,Ck] at e;cases e
 ·rw[EN hb] at e
  obtain⟨xs,h,r⟩:=w b ts e
  exact⟨xs,h,r.kp Dc w⟩
theorem OwnOk.rep{a:Addr}{ts:List T}(w:OwnOk K O H)(e:O a=some ts):Rep K (DN O a) H (.ref a) (.lst ts):=by
 obtain⟨xs,h,r⟩:=w a ts e
 exact .lst h Ck (r.kp Dc w)
end
noncomputable def Rl(K:a9)(O:AH)(H:Hp)(σ:St)(ρ:List (Option T)):Prop:=σ.length=ρ.length∧∀(i:Nat) (t:T),ρ[i]?=some (some t)→∃v,σ[i]?=some (some v)∧Rep K O H v t
section
variable{K:a9}{O O':AH}{H H':Hp}{σ:St}{ρ:List (Option T)}
theorem Rl.kp(k:Kp O H O' H')(w:OwnOk K O H)(r:Rl K O H σ ρ):Rl K O' H' σ ρ:=⟨r.1,fun i t e=>by
 obtain⟨v,h1,h2⟩:=r.2 i t e
 exact⟨v,h1,h2.kp k w⟩⟩
theorem Rl.set{i:Nat}{v:V}{t:T}(r:Rl K O H σ ρ)(h:Rep K O H v t):Rl K O H (σ.set i (some v)) (ρ.set i (some t)):=⟨by simpa using r.1,fun j u e=>by
 by_cases hj:j=i
 ·subst hj
  have hl:j<ρ.length:=by
   have:=(gh.mp e).1
   simpa using this
  rw[gW hl] at e
  cases e
  exact⟨v,by rw[gW (by rw[r.1];exact hl)],h⟩
 ·rw[gQ (Ne.symm hj)] at e ⊢
  exact r.2 j u e⟩
end
structure Zx where
 X:Cx
 Oe:AH
 He:Hp
 Xi:Value→AH→Prop
noncomputable abbrev Zx.K(Z:Zx):a9:=Z.X.K
noncomputable def Zx.W(Z:Zx):St→XK:=fun _ cls d H'=>d=none∧∃O',Z.Xi cls O'∧Frm Z.K Z.Oe Z.He O' H'
structure Asr(Z:Zx)(ρ:List (Option T))(O:AH)(σ:St)(H:Hp):Prop where
 rl:Rl Z.K O H σ ρ
 fr:Frm Z.K Z.Oe Z.He O H
section
variable{Z:Zx}{ρ:List (Option T)}{O O':AH}{σ:St}{H H':Hp}
theorem Asr.ok(a:Asr Z ρ O σ H):OwnOk Z.K O H:=a.fr.ok
theorem Asr.step(a:Asr Z ρ O σ H)(f:Frm Z.K O H O' H'):Asr Z ρ O' σ H':=⟨a.rl.kp f.kp a.ok,a.fr.trans f⟩
theorem Asr.refl(a:Asr Z ρ O σ H):Frm Z.K O H O H:=.refl a.ok
end
noncomputable abbrev BU:=T→AH→Prop
noncomputable abbrev Lu:=List T→AH→Prop
noncomputable abbrev KR:=Bool→AH→Prop
noncomputable def Acc(K:a9)(O:AH)(H:Hp)(Φ:BU)(Q:VK):Prop:=∀v H' t O',Φ t O'→Frm K O H O' H'→Rep K O' H' v t→Q v H'
noncomputable def da(K:a9)(O:AH)(H:Hp)(Φ:Lu)(Q:List V→Hp→Prop):Prop:=∀vs H' ts O',Φ ts O'→Frm K O H O' H'→Reps K O' H' vs ts→Q vs H'
noncomputable def AccT(K:a9)(O:AH)(H:Hp)(Φ:KR)(Q:Bool→Hp→Prop):Prop:=∀b H' O',Φ b O'→Frm K O H O' H'→Q b H'
noncomputable def tW(Z:Zx)(ρ:List (Option T))(O:AH)(Φ:BU):TE:=fun σ H Q=>Asr Z ρ O σ H∧Acc Z.K O H Φ Q
noncomputable def eK(Z:Zx)(ρ:List (Option T))(O:AH)(Φ:Lu):TA:=fun σ H Q=>Asr Z ρ O σ H∧da Z.K O H Φ Q
noncomputable def ZR(Z:Zx)(ρ:List (Option T))(O:AH)(Φ:KR):TT:=fun σ H Q=>Asr Z ρ O σ H∧AccT Z.K O H Φ Q
noncomputable def WE(Z:Zx)(ρ:List (Option T))(O:AH)(e:Expr)(Φ:BU):Prop:=PE Z.X e (tW Z ρ O Φ)
noncomputable def WA(Z:Zx)(ρ:List (Option T))(O:AH)(es:List Expr)(Φ:Lu):Prop:=PA Z.X es (eK Z ρ O Φ)
noncomputable def WT(Z:Zx)(ρ:List (Option T))(O:AH)(e:Expr)(Φ:KR):Prop:=PT Z.X e (ZR Z ρ O Φ)
noncomputable def WW(Z:Zx)(ρ:List (Option T))(O:AH)(e:Expr)(Φ:KR):Prop:=PW Z.X e (ZR Z ρ O Φ)
noncomputable def ET(Z:Zx)(ρ:List (Option T))(O:AH)(e:Expr)(t:T):Prop:=∀Φ:BU,Φ t O→WE Z ρ O e Φ
noncomputable def EA(Z:Zx)(ρ:List (Option T))(O:AH)(es:List Expr)(ts:List T):Prop:=∀Φ:Lu,Φ ts O→WA Z ρ O es Φ
noncomputable def EB(Z:Zx)(ρ:List (Option T))(O:AH)(e:Expr)(b:Bool):Prop:=∀Φ:KR,Φ b O→WT Z ρ O e Φ
theorem PE.weak{X:Cx}{e:Expr}{t t':TE}(h:PE X e t)(w:∀σ H Q,t' σ H Q→t σ H Q):PE X e t':=fun pins s σ H Q I q=>h pins s σ H Q I (w σ H Q q)
theorem PA.weak{X:Cx}{e:List Expr}{t t':TA}(h:PA X e t)(w:∀σ H Q,t' σ H Q→t σ H Q):PA X e t':=fun pos pins s σ H Q I q=>h pos pins s σ H Q I (w σ H Q q)
theorem PT.weak{X:Cx}{e:Expr}{t t':TT}(h:PT X e t)(w:∀σ H Q,t' σ H Q→t σ H Q):PT X e t':=fun pins s σ H Q I q=>h pins s σ H Q I (w σ H Q q)
theorem PW.weak{X:Cx}{e:Expr}{t t':TT}(h:PW X e t)(w:∀σ H Q,t' σ H Q→t σ H Q):PW X e t':=fun whole pins s σ H Q I q=>h whole pins s σ H Q I (w σ H Q q)
theorem PS.weak{X:Cx}{e:Stmt}{t t':TS}(h:PS X e t)(w:∀D σ H,t' D σ H→t D σ H):PS X e t':=fun pins s σ H D I q=>h pins s σ H D I (w D σ H q)
theorem PSs.weak{X:Cx}{e:List Stmt}{t t':TS}(h:PSs X e t)(w:∀D σ H,t' D σ H→t D σ H):PSs X e t':=fun pins s σ H D I q=>h pins s σ H D I (w D σ H q)
noncomputable def tX(Z:Zx)(ρ:List (Option T))(e:Expr):TE:=fun σ H Q=>∃O Φ,WE Z ρ O e Φ∧tW Z ρ O Φ σ H Q
theorem BV{Z:Zx}{ρ:List (Option T)}{e:Expr}:PE Z.X e (tX Z ρ e):=fun pins s σ H Q I ⟨_,_,w,q⟩=>w pins s σ H Q I q
noncomputable def fJ(Z:Zx)(ρ:List (Option T))(e:List Expr):TA:=fun σ H Q=>∃O Φ,WA Z ρ O e Φ∧eK Z ρ O Φ σ H Q
theorem Io{Z:Zx}{ρ:List (Option T)}{e:List Expr}:PA Z.X e (fJ Z ρ e):=fun pos pins s σ H Q I ⟨_,_,w,q⟩=>w pos pins s σ H Q I q
noncomputable def fK(Z:Zx)(ρ:List (Option T))(e:Expr):TT:=fun σ H Q=>∃O Φ,WW Z ρ O e Φ∧ZR Z ρ O Φ σ H Q
theorem aQ{Z:Zx}{ρ:List (Option T)}{e:Expr}:PW Z.X e (fK Z ρ e):=fun whole pins s σ H Q I ⟨_,_,w,q⟩=>w whole pins s σ H Q I q
section
variable{Z:Zx}{ρ:List (Option T)}{O:AH}{e a b:Expr}{es:List Expr}{Φ Φ':BU}{pos:Pos}{t ta tb:T}{ts:List T}
theorem Acc.mono{K:a9}{H:Hp}{Q:VK}(h:Acc K O H Φ' Q)(w:∀t O',Φ t O'→Φ' t O'):Acc K O H Φ Q:=fun v H' t O' p=>h v H' t O' (w t O' p)
theorem Acc.step{K:a9}{H H1:Hp}{O1:AH}{Q:VK}(h:Acc K O H Φ Q)(f:Frm K O H O1 H1):Acc K O1 H1 Φ Q:=fun v H' t O' p f' r=>h v H' t O' p (f.trans f') r
theorem AccT.step{K:a9}{H H1:Hp}{O1:AH}{Φ:KR}{Q:Bool→Hp→Prop}(h:AccT K O H Φ Q)(f:Frm K O H O1 H1):AccT K O1 H1 Φ Q:=fun v H' O' p f'=>h v H' O' p (f.trans f')
theorem Dd(h:WE Z ρ O e Φ)(w:∀t O',Φ t O'→Φ' t O'):WE Z ρ O e Φ':=PE.weak h fun _ _ _ q=> ⟨q.1,q.2.mono w⟩
theorem ET.we(h:ET Z ρ O e t)(p:Φ t O):WE Z ρ O e Φ:=h Φ p
theorem Xb{i:Nat}{x:Str}(hN:Z.X.N[i]?=some x)(hv:ZN Z.X.env.scope x)(e:ρ[i]?=some (some t))(p:Φ t O)(hd:(x==("__debug__" :Str))=false:=by decide)(hcd:(x==("__classdict__" :Str))=false:=by decide):WE Z ρ O (.Name x pos) Φ:=
 PE.weak (Pe hN hv hd hcd) fun σ H Q q=>by
  obtain⟨v,h1,h2⟩:=q.1.rl.2 i t e
  exact⟨v,h1,q.2 v H t O p q.1.refl h2⟩
theorem ev(i:Nat){x:Str}(e:ρ[i]?=some (some t):=by rfl)(hN:Z.X.N[i]?=some x:=by rfl)(hv:ZN Z.X.env.scope x:=by first|exact oz rfl|exact oy (oz rfl)|exact oy (oy rfl))(hd:(x==("__debug__" :Str))=false:=by decide)
  (hcd:(x==("__classdict__" :Str))=false:=by decide):ET Z ρ O (.Name x pos) t:=fun _ p=>Xb hN hv e p hd hcd
theorem Ol{v:V}(h:PE Z.X e (tC v))(r:∀O H,Rep Z.K O H v t):ET Z ρ O e t:=fun _ p=>PE.weak h fun _ H _ q=>q.2 v H _ O p q.1.refl (r O H)
theorem AB{i:Int}{j:Nat}:ET Z ρ O (.Constant (.int i) j pos) (.int i):=Ol LJ fun _ _=> .int i
theorem NL{i:Bool}{j:Nat}:ET Z ρ O (.Constant (.bool i) j pos) (.bl i):=Ol Pf fun _ _=> .bl i
theorem CH{j:Nat}:ET Z ρ O (.Constant .none j pos) .non:=Ol WX fun _ _=> .non
theorem Qf{x:Str}{j:Nat}:ET Z ρ O (.Constant (.str x) j pos) (.str x):=Ol Bz fun _ _=> .str x
theorem Bv{x:Str}{i:Int}(hm:∃t:Tok,Z.X.mg x=some (.int i t))(hg:Gl Z.X x:=by rfl)(hd:(x==("__debug__" :Str))=false:=by decide):ET Z ρ O (.Name x pos) (.int i):=by
 cases hm with
 |intro t hm=>exact Ol (Bc (v:=.int i) hg hm ⟨t,rfl⟩ hd) fun _ _=> .int i
theorem aR{x:Str}{n:String}(hm:Z.X.mg x=none)(hv:ig x=some (.type n))(hg:Gl Z.X x:=by rfl)(hn:x≠"__name__":=by decide)(hd:(x==("__debug__" :Str))=false:=by decide):ET Z ρ O (.Name x pos) (.raw (.ty n)):=
 Ol (Mp (v:=.ty n) hg hm hv rfl hn hd) fun _ _=> .raw _
noncomputable def RT(K:a9)(r:R2)(ta tb:T)(O:AH)(Φ:BU):Prop:=∀H v w Q,OwnOk K O H→Rep K O H v ta→Rep K O H w tb→Acc K O H Φ Q→r v w H Q
noncomputable def RP(K:a9)(r:R2)(ta tb:T)(O:AH)(t:T):Prop:=∀Φ:BU,Φ t O→RT K r ta tb O Φ
theorem Ip{r:R2}{σ:St}{H:Hp}{Q:VK}(q:tW Z ρ O Φ σ H Q)(h:WE Z ρ O a fun ta O1=>WE Z ρ O1 b fun tb O2=>RT Z.K r ta tb O2 Φ):Zj r (tX Z ρ a) (tX Z ρ b) σ H Q:=
 ⟨O,_,h,q.1,fun v H1 ta O1 p f1 r1=> ⟨O1,_,p,q.1.step f1,fun w H2 tb O2 p2 f2 r2=>p2 H2 v w Q f2.ok (r1.kp f2.kp f1.ok) r2 (q.2.step (f1.trans f2))⟩⟩
theorem EO{op:pJ}{r:R2}(ho:CO Z.X (jY op) r)(h:WE Z ρ O a fun ta O1=>WE Z ρ O1 b fun tb O2=>RT Z.K r ta tb O2 Φ):WE Z ρ O (.BinOp a op b pos) Φ:=
 PE.weak (Vb ho BV BV) fun _ _ _ q=>Ip q h
theorem Xc{op:CmpOp}{r:R2}(ho:CO Z.X (jf op) r)(hm:behindInMarks op b=false)(h:WE Z ρ O a fun ta O1=>WE Z ρ O1 b fun tb O2=>RT Z.K r ta tb O2 Φ):WE Z ρ O (.Compare a [op] [b] pos) Φ:=
 PE.weak (TN ho BV BV hm) fun _ _ _ q=>Ip q h
theorem DO{op:pJ}{r:R2}(ho:CO Z.X (jY op) r)(hp:RP Z.K r ta tb O t)(ha:ET Z ρ O a ta)(hb:ET Z ρ O b tb):ET Z ρ O (.BinOp a op b pos) t:=fun Φ p=>EO ho (ha _ (hb _ (hp Φ p)))
theorem Ey{op:CmpOp}{r:R2}(ho:CO Z.X (jf op) r)(hm:behindInMarks op b=false)(hp:RP Z.K r ta tb O t)(ha:ET Z ρ O a ta)(hb:ET Z ρ O b tb):ET Z ρ O (.Compare a [op] [b] pos) t:=fun Φ p=>Xc ho hm (ha _ (hb _ (hp Φ p)))
theorem NM{r:R2}(ho:Zw Z.X r)(hs:Da b)(h:WE Z ρ O a fun ta O1=>WE Z ρ O1 b fun tb O2=>RT Z.K r ta tb O2 Φ):WE Z ρ O (.Subscript a b pos) Φ:=
 PE.weak (QA ho BV BV hs) fun _ _ _ q=>Ip q h
theorem Qg{r:R2}(ho:Zw Z.X r)(hs:Da b)(hp:RP Z.K r ta tb O t)(ha:ET Z ρ O a ta)(hb:ET Z ρ O b tb):ET Z ρ O (.Subscript a b pos) t:=fun Φ p=>NM ho hs (ha _ (hb _ (hp Φ p)))
theorem BB{Φ:Lu}(p:Φ [] O):WA Z ρ O [] Φ:=PA.weak Ar fun _ H _ q=>q.2 [] H [] O p q.1.refl .nil
theorem Bw{Φ:Lu}(h:WE Z ρ O e fun t O1=>WA Z ρ O1 es fun ts O2=>Φ (t::ts) O2)(hs:fj (e::es) Z.X.env=(false,eval e Z.X.env)::fj es Z.X.env:=by rfl):WA Z ρ O (e::es) Φ:=
 PA.weak (AI BV Io hs) fun σ H Q q=> ⟨O,_,h,q.1,fun v H1 t O1 p f1 r1=> ⟨O1,_,p,q.1.step f1,fun vs H2 ts O2 p2 f2 r2=>q.2 _ H2 _ O2 p2 (f1.trans f2) (.cons (r1.kp f2.kp f1.ok) r2)⟩⟩
theorem AC:EA Z ρ O [] []:=fun _ p=>BB p
theorem AN(h:ET Z ρ O e t)(hr:EA Z ρ O es ts)(hs:fj (e::es) Z.X.env=(false,eval e Z.X.env)::fj es Z.X.env:=by rfl):EA Z ρ O (e::es) (t::ts):=fun Φ p=>Bw (h _ (hr _ p)) hs
theorem Lv{x1}(h:WA Z ρ O es fun ts O1=>ts.length≤sizeLine∧Φ (.tup ts) O1):WE Z ρ O (.Tuple es x1 pos) Φ:=
 PE.weak (XA h) fun σ H Q q=> ⟨q.1,fun vs H1 ts O1 p f r=> ⟨by rw[r.length];exact p.1,fun a ha=>q.2 _ _ _ O1 p.2 (f.trans (.new f.ok ha)) (.tup AM (r.kp (BP f.ok ha) f.ok))⟩⟩
theorem Bn{x1}(h:EA Z ρ O es ts)(hl:ts.length≤sizeLine:=by first| (show 1≤sizeLine;decide)| (show 2≤sizeLine;decide)| (show 3≤sizeLine;decide)| (show 0≤sizeLine;decide)):ET Z ρ O (.Tuple es x1 pos) (.tup ts):=fun _ p=>Lv (h _ ⟨hl,p⟩)
theorem Qh(h:WA Z ρ O es fun ts O1=>ts.length≤sizeLine∧Φ (.lst ts) O1):WE Z ρ O (.List es pos) Φ:=
 PE.weak (Fz h) fun σ H Q q=> ⟨q.1,fun vs H1 ts O1 p f r=> ⟨by rw[r.length];exact p.1,fun a ha=>q.2 _ _ _ O1 p.2 (f.trans (.new f.ok ha)) (.lst AM (f.ok.none_of ha) (r.kp (BP f.ok ha) f.ok))⟩⟩
theorem Bo(h:EA Z ρ O es ts)(hl:ts.length≤sizeLine):ET Z ρ O (.List es pos) (.lst ts):=fun _ p=>Qh (h _ ⟨hl,p⟩)
theorem Cm(h:WA Z ρ O es fun ts O1=>ts.length≤sizeLine∧∀a,O1 a=none→Φ (.raw (.ref a)) (Ad O1 a ts)):WE Z ρ O (.List es pos) Φ:=
 PE.weak (Fz h) fun σ H Q q=> ⟨q.1,fun vs H1 ts O1 p f r=> ⟨by rw[r.length];exact p.1,fun a ha=>q.2 _ _ _ _ (p.2 a (f.ok.none_of ha)) (f.trans (.newO f.ok ha r)) (.raw _)⟩⟩
end
section
variable{K:a9}{O:AH}{H:Hp}{v:V}
theorem Rep.int_inv{i:Int}(r:Rep K O H v (.int i)):v=.int i:=by cases r;rfl
theorem Rep.bl_inv{i:Bool}(r:Rep K O H v (.bl i)):v=.bl i:=by cases r;rfl
theorem Rep.non_inv(r:Rep K O H v .non):v=.non:=by cases r;rfl
theorem Rep.str_inv{i:Str}(r:Rep K O H v (.str i)):v=.str i:=by cases r;rfl
theorem Rep.raw_inv{i:V}(r:Rep K O H v (.raw i)):v=i:=by cases r;rfl
theorem Rep.tup_inv{ts:List T}(r:Rep K O H v (.tup ts)):∃a xs,v=.ref a∧H a=some (.tup xs)∧Reps K O H xs ts:=by
 cases r with
 |tup h r=>exact⟨_,_,rfl,h,r⟩
theorem Rep.lst_inv{ts:List T}(r:Rep K O H v (.lst ts)):∃a xs,v=.ref a∧H a=some (.lst xs)∧O a=none∧Reps K O H xs ts:=by
 cases r with
 |lst h o r=>exact⟨_,_,rfl,h,o,r⟩
theorem Reps.cons_inv{vs:List V}{t:T}{ts:List T}(r:Reps K O H vs (t::ts)):∃v vs',vs=v::vs'∧Rep K O H v t∧Reps K O H vs' ts:=by
 cases r with
 |cons h r=>exact⟨_,_,rfl,h,r⟩
theorem Reps.nil_inv{vs:List V}(r:Reps K O H vs []):vs=[]:=by cases r;rfl
theorem Reps.one_inv{vs:List V}{t:T}(r:Reps K O H vs [t]):∃v,vs=[v]∧Rep K O H v t:=by
 obtain⟨v,vs',rfl,h,r⟩:=r.cons_inv
 cases r.nil_inv
 exact⟨v,rfl,h⟩
theorem Reps.two_inv{vs:List V}{t u:T}(r:Reps K O H vs [t,u]):∃v w,vs=[v,w]∧Rep K O H v t∧Rep K O H w u:=by
 obtain⟨v,vs',rfl,h,r⟩:=r.cons_inv
 obtain⟨w,rfl,h2⟩:=r.one_inv
 exact⟨v,w,rfl,h,h2⟩
theorem Reps.ints:∀{vs:List V} {ns:List Int},Reps K O H vs (ns.map T.int)→vs=ns.map V.int
 |_,[],r=>r.nil_inv
 |_,n::ns,r=>by
  obtain⟨v,vs',rfl,h,r⟩:=Reps.cons_inv r
  rw[h.int_inv,Reps.ints r]
  rfl
end
section
variable{Z:Zx}{ρ:List (Option T)}{O:AH}{e a b c:Expr}{es:List Expr}{Φ Φ':BU}{pos:Pos}{t ta tb:T}{ts:List T}{K:a9}{i j:Int}
theorem ER{g:Int→Int→Int}:RP K (Po fun i j=> .int (g i j)) (.int i) (.int j) O (.int (g i j)):=fun Φ p H v w Q ok r1 r2 q=> ⟨i,j,r1.int_inv,r2.int_inv,q _ H _ O p (.refl ok) (.int _)⟩
theorem KS{g:Int→Int→Bool}:RP K (Po fun i j=> .bl (g i j)) (.int i) (.int j) O (.bl (g i j)):=fun Φ p H v w Q ok r1 r2 q=> ⟨i,j,r1.int_inv,r2.int_inv,q _ H _ O p (.refl ok) (.bl _)⟩
theorem Om{C:Int→Int→Prop}{g:Int→Int→Int}(hc:C i j):RP K (rI C fun i j=> .int (g i j)) (.int i) (.int j) O (.int (g i j)):=fun Φ p H v w Q ok r1 r2 q=> ⟨i,j,r1.int_inv,r2.int_inv,hc,q _ H _ O p (.refl ok) (.int _)⟩
theorem Bp(ha:ET Z ρ O a (.int i))(hb:ET Z ρ O b (.int j)):ET Z ρ O (.BinOp a .Add b pos) (.int (i+j)):=DO Dl ER ha hb
theorem GU(ha:ET Z ρ O a (.int i))(hb:ET Z ρ O b (.int j)):ET Z ρ O (.BinOp a .Sub b pos) (.int (i-j)):=DO Wo ER ha hb
theorem Ez(ha:ET Z ρ O a (.int i))(hb:ET Z ρ O b (.int j))(h:CMul i j):ET Z ρ O (.BinOp a .Mult b pos) (.int (i*j)):=DO Wp (Om h) ha hb
theorem De(ha:ET Z ρ O a (.int i))(hb:ET Z ρ O b (.int j))(h:Zl i j):ET Z ρ O (.BinOp a .FloorDiv b pos) (.int (i/j)):=DO TM (Om h) ha hb
theorem DP(ha:ET Z ρ O a (.int i))(hb:ET Z ρ O b (.int j))(h:0<j):ET Z ρ O (.BinOp a .Mod b pos) (.int (i%j)):=DO Wq (Om h) ha hb
theorem Lw(ha:ET Z ρ O a (.int i))(hb:ET Z ρ O b (.int j))(h:TK i j):ET Z ρ O (.BinOp a .Pow b pos) (.int (i^j.toNat)):=DO Ws (Om h) ha hb
theorem aS(ha:ET Z ρ O a (.int i))(hb:ET Z ρ O b (.int j)):ET Z ρ O (.Compare a [.Lt] [b] pos) (.bl (decide (i<j))):=Ey Vc (Ak _) KS ha hb
theorem aT(ha:ET Z ρ O a (.int i))(hb:ET Z ρ O b (.int j)):ET Z ρ O (.Compare a [.GtE] [b] pos) (.bl (decide (j≤i))):=Ey Zq (Ak _) KS ha hb
theorem Xd:RP K eG (.int i) (.int j) O (.bl (decide (i=j))):=fun Φ p H v w Q ok r1 r2 q=>by
 cases r1.int_inv;cases r2.int_inv
 refine⟨rfl,?_⟩
 have:decide (V.int i=V.int j)=decide (i=j):=by simp
 rw[this]
 exact q _ H _ O p (.refl ok) (.bl _)
theorem Xe:RP K dG (.int i) (.int j) O (.bl (!decide (i=j))):=fun Φ p H v w Q ok r1 r2 q=>by
 cases r1.int_inv;cases r2.int_inv
 refine⟨rfl,?_⟩
 have:decide (V.int i=V.int j)=decide (i=j):=by simp
 rw[this]
 exact q _ H _ O p (.refl ok) (.bl _)
theorem aU{op:UnaryOp}{g:Int→Int}(ho:cM Z.X (unaryOp op) (rU fun i=> .int (g i)))(h:ET Z ρ O a (.int i)):ET Z ρ O (.UnaryOp op a pos) (.int (g i)):=fun Φ p=>
 PE.weak (Zk ho BV) fun σ H Q q=> ⟨O,_,h (fun t O'=>t=.int i∧O'=O) ⟨rfl,rfl⟩,q.1,fun v H1 t O1 ⟨e1,e2⟩ f r=>by
  subst e1;subst e2
  exact⟨i,r.int_inv,q.2 _ H1 _ _ p f (.int _)⟩⟩
theorem Qi(h:ET Z ρ O a (.int i)):ET Z ρ O (.UnaryOp .USub a pos) (.int (-i)):=aU Ww h
theorem Qj{op op':CmpOp}{r r':R2}{tc:T}{x y:Bool}(ho:CO Z.X (jf op) r)(ho':CO Z.X (jf op') r')(hp:RP Z.K r ta tb O (.bl x))(hp':x=true→RP Z.K r' tb tc O (.bl y))
  (ha:ET Z ρ O a ta) (hb:ET Z ρ O b tb) (hc:x=true→ET Z ρ O c tc) (hm:lastMarks [op,op'] [b,c]=false:=by with_unfolding_all rfl):ET Z ρ O (.Compare a [op,op'] [b,c] pos) (.bl (x&&y)):=fun Φ p=>
 by
 refine PE.weak (Pt ho ho' (BV (ρ:=ρ)) (BV (ρ:=ρ)) (BV (ρ:=ρ)) hm) fun σ H Q q=>?_
 refine⟨O,_,ha (fun t O'=>t=ta∧O'=O) ⟨rfl,rfl⟩,q.1,?_⟩
 rintro v H1 _ _ ⟨rfl,rfl⟩ f1 r1
 refine⟨_,_,hb (fun t O'=>t=tb∧O'=_) ⟨rfl,rfl⟩,q.1.step f1,?_⟩
 rintro w H2 _ _ ⟨rfl,rfl⟩ f2 r2
 refine hp (fun t O'=>t=.bl x∧O'=_) ⟨rfl,rfl⟩ H2 v w _ f2.ok (r1.kp f2.kp f1.ok) r2 ?_
 rintro z H3 _ _ ⟨rfl,rfl⟩ f3 r3
 refine⟨x,r3.bl_inv,?_⟩
 cases x with
 |false=>exact OS (q.2 _ H3 _ _ p (f1.trans (f2.trans f3)) (.bl _))
 |true=>
  refine LY ⟨_,_,hc rfl (fun t O'=>t=tc∧O'=_) ⟨rfl,rfl⟩,q.1.step (f1.trans (f2.trans f3)),?_⟩
  rintro w' H4 _ _ ⟨rfl,rfl⟩ f4 r4
  exact hp' rfl _ p H4 w w' _ f4.ok (r2.kp (f3.trans f4).kp f2.ok) r4 (q.2.step (f1.trans (f2.trans (f3.trans f4))))
noncomputable def TruT(O:AH):T→Bool→Prop
 | .non,k=>k=false
 | .bl b,k=>k=b
 | .int i,k=>k=(i !=0)
 | .str y,k=>y.length≤sizeLine∧k=((y.length:Int) !=0)
 | .tup ts,k=>k=!ts.isEmpty
 | .lst ts,k=>k=!ts.isEmpty
 | .frz ts,k=>k=!ts.isEmpty
 | .dct,_=>False
 | .raw (.ref a),k=>∃ts,O a=some ts∧k=!ts.isEmpty
 | .raw _,_=>False
theorem Reps.isEmpty{vs:List V}{ts:List T}{H:Hp}(r:Reps K O H vs ts):vs.isEmpty=ts.isEmpty:=by cases r<;>rfl
theorem TruT.v{H:Hp}{v:V}{k:Bool}(h:TruT O t k)(r:Rep K O H v t)(ok:OwnOk K O H):Wy K v H k:=by
 cases r with
 |non=>exact h
 |bl=>exact h
 |int=>exact h
 |str=>exact h
 |tup h1 r=>
  have h:k=!_:=h
  exact .inr (.inl ⟨_,.inl (.inl h1),by rw[h,r.isEmpty]⟩)
 |lst h1 o r=>
  have h:k=!_:=h
  exact .inl ⟨_,.inl (.inl h1),by rw[h,r.isEmpty]⟩
 |frz h1 r=>
  have h:k=!_:=h
  exact .inl ⟨_,.inl (.inr ⟨_,h1⟩),by rw[h,r.isEmpty]⟩
 |dct=>exact h.elim
 |raw v=>
  cases v with
  |ref a=>
   obtain⟨ts,e,h⟩:=h
   obtain⟨xs,h1,r⟩:=ok a ts e
   exact .inl ⟨xs,.inl (.inl h1),by rw[h,r.isEmpty]⟩
  |_=>exact h.elim
theorem Qk{Φ:KR}(h:WE Z ρ O e fun t O'=>∃k,TruT O' t k∧Φ k O')(he:∀whole,isTrue e Z.X.env whole=(do let v←whole;standAt e.pos;holding [v] (truthy v)):=by intro _;rfl):WT Z ρ O e Φ:=
 PT.weak (Jp BV he) fun σ H Q q=> ⟨O,_,h,q.1,fun v H1 t O1 ⟨k,tr,p⟩ f r=> ⟨k,tr.v r f.ok,q.2 k H1 O1 p f⟩⟩
theorem ES{k:Bool}(h:ET Z ρ O e t)(tr:TruT O t k)(he:∀whole,isTrue e Z.X.env whole=(do let v←whole;standAt e.pos;holding [v] (truthy v)):=by intro _;rfl):EB Z ρ O e k:=fun Φ p=>Qk (h _ ⟨k,tr,p⟩) he
theorem NN{k:Bool}(h:ET Z ρ O e (.bl k))(he:∀whole,isTrue e Z.X.env whole=(do let v←whole;standAt e.pos;holding [v] (truthy v)):=by intro _;rfl):EB Z ρ O e k:=ES h rfl he
theorem Xf{Φ:KR}{op:CmpOp}{r:R2}(ho:CO Z.X (jf op) r)(hm:behindInMarks op b=false)(h:WE Z ρ O a fun ta O1=>WE Z ρ O1 b fun tb O2=>RT Z.K r ta tb O2 fun t O3=>∃k,t=.bl k∧Φ k O3):WT Z ρ O (.Compare a [op] [b] pos) Φ:=
 PT.weak (IU ho BV BV hm) fun σ H Q q=>Ip (Φ:=fun t O3=>∃k,t=.bl k∧Φ k O3) ⟨q.1,fun v H' t O' ⟨k,e,p⟩ f r=>by
  subst e
  exact⟨k,r.bl_inv,q.2 k H' O' p f⟩⟩ h
theorem Au{op:CmpOp}{r:R2}{k:Bool}(ho:CO Z.X (jf op) r)(hm:behindInMarks op b=false)(hp:RP Z.K r ta tb O (.bl k))(ha:ET Z ρ O a ta)(hb:ET Z ρ O b tb):EB Z ρ O (.Compare a [op] [b] pos) k:=fun Φ p=>
 Xf ho hm (ha _ (hb _ (hp _ ⟨k,rfl,p⟩)))
theorem aV(ha:ET Z ρ O a (.int i))(hb:ET Z ρ O b (.int j)):EB Z ρ O (.Compare a [.Gt] [b] pos) (decide (j<i)):=Au Zp (Ak _) KS ha hb
theorem Co(ha:ET Z ρ O a (.int i))(hb:ET Z ρ O b (.int j)):EB Z ρ O (.Compare a [.Eq] [b] pos) (decide (i=j)):=Au Zo (Ak _) Xd ha hb
theorem Xh(ha:ET Z ρ O a (.int i))(hb:ET Z ρ O b (.int j)):EB Z ρ O (.Compare a [.NotEq] [b] pos) (!decide (i=j)):=Au Jo (Ak _) Xe ha hb
theorem UC{k:Int}(ha:ET Z ρ O a (.int i))(hb:ET Z ρ O b (.int j))(hc:ET Z ρ O c (.int k))(hm:lastMarks [CmpOp.LtE,.LtE] [b,c]=false:=by with_unfolding_all rfl):ET Z ρ O (.Compare a [.LtE,.LtE] [b,c] pos) (.bl (decide (i≤j)&&decide (j≤k))):=Qj Vd Vd KS (fun _=>KS) ha hb (fun _=>hc) hm
theorem Xj{Φ:KR}(h:WT Z ρ O a fun k O'=>Φ (!k) O'):WT Z ρ O (.UnaryOp .Not a pos) Φ:=PT.weak (Ph h) fun σ H Q q=> ⟨q.1,fun k H1 O1 p f=>q.2 _ H1 O1 p f⟩
theorem Ql{k:Bool}(h:EB Z ρ O a k):EB Z ρ O (.UnaryOp .Not a pos) (!k):=fun Φ p=>Xj (h _ p)
noncomputable def EW(Z:Zx)(ρ:List (Option T))(O:AH)(e:Expr)(b:Bool):Prop:=∀Φ:KR,Φ b O→WW Z ρ O e Φ
theorem EW.eb{k:Bool}(h:EW Z ρ O e k):EB Z ρ O e k:=fun Φ p=> (h Φ p).pt
theorem UD{Φ:KR}(h:WT Z ρ O a Φ):WW Z ρ O (.BoolOp .And [a] pos) Φ:=TB h
theorem Xl{Φ:KR}(h:WT Z ρ O a Φ):WW Z ρ O (.BoolOp .Or [a] pos) Φ:=Pg h
theorem Xm{Φ:KR}(h:WT Z ρ O a fun k O1=>if k=true then WW Z ρ O1 (.BoolOp .And (b::es) pos) Φ else Φ false O1):WW Z ρ O (.BoolOp .And (a::b::es) pos) Φ:=
 PW.weak (WY h aQ) fun σ H Q q=> ⟨q.1,fun k H1 O1 p f=>by
  cases k with
  |true=>rw[if_pos rfl] at p ⊢;exact⟨O1,_,p,q.1.step f,q.2.step f⟩
  |false=>rw[if_neg c9] at p ⊢;exact q.2 _ H1 O1 p f⟩
theorem aW{Φ:KR}(h:WT Z ρ O a fun k O1=>if k=true then Φ true O1 else WW Z ρ O1 (.BoolOp .Or (b::es) pos) Φ):WW Z ρ O (.BoolOp .Or (a::b::es) pos) Φ:=
 PW.weak (VZ h aQ) fun σ H Q q=> ⟨q.1,fun k H1 O1 p f=>by
  cases k with
  |true=>rw[if_pos rfl] at p ⊢;exact q.2 _ H1 O1 p f
  |false=>rw[if_neg c9] at p ⊢;exact⟨O1,_,p,q.1.step f,q.2.step f⟩⟩
theorem NO{k:Bool}(h:EB Z ρ O a k):EW Z ρ O (.BoolOp .And [a] pos) k:=fun Φ p=>UD (h _ p)
theorem Xn{k:Bool}(h:EB Z ρ O a k):EW Z ρ O (.BoolOp .Or [a] pos) k:=fun Φ p=>Xl (h _ p)
theorem Qm{x y:Bool}(ha:EB Z ρ O a x)(hb:x=true→EW Z ρ O (.BoolOp .And (b::es) pos) y):EW Z ρ O (.BoolOp .And (a::b::es) pos) (x&&y):=fun Φ p=>Xm (ha _ (by
 cases x with
 |true=>rw[if_pos rfl];exact hb rfl _ p
 |false=>rw[if_neg c9];exact p))
theorem aX{x y:Bool}(ha:EB Z ρ O a x)(hb:x=false→EW Z ρ O (.BoolOp .Or (b::es) pos) y):EW Z ρ O (.BoolOp .Or (a::b::es) pos) (x||y):=fun Φ p=>aW (ha _ (by
 cases x with
 |true=>rw[if_pos rfl];exact p
 |false=>rw[if_neg c9];exact hb rfl _ p))
theorem Lx{op}(h:ET Z ρ O a t):ET Z ρ O (.BoolOp op [a] pos) t:=fun Φ p=>WZ (h Φ p)
theorem Iq{x y:Bool}(ha:ET Z ρ O a (.bl x))(hb:x=true→ET Z ρ O (.BoolOp .And (b::es) pos) (.bl y)):ET Z ρ O (.BoolOp .And (a::b::es) pos) (.bl (x&&y)):=fun Φ p=>
 by
 refine PE.weak (Wa (BV (ρ:=ρ)) (BV (ρ:=ρ))) fun σ H Q q=>?_
 refine⟨O,_,ha (fun t O'=>t=.bl x∧O'=O) ⟨rfl,rfl⟩,q.1,?_⟩
 rintro v H1 _ _ ⟨rfl,rfl⟩ f r
 refine⟨x,r.bl_inv,?_⟩
 cases x with
 |true=>exact LY ⟨_,_,hb rfl _ p,q.1.step f,q.2.step f⟩
 |false=>exact OS (q.2 _ H1 _ _ p f (.bl _))
theorem Xo{x:Bool}(ha:ET Z ρ O a (.bl x)):ET Z ρ O (.UnaryOp .Not a pos) (.bl (!x)):=fun Φ p=>
 PE.weak (Wb BV) fun σ H Q q=> ⟨O,_,ha (fun t O'=>t=.bl x∧O'=O) ⟨rfl,rfl⟩,q.1,fun v H1 t O1 ⟨e1,e2⟩ f r=>by
  subst e1;subst e2
  exact⟨x,r.bl_inv,q.2 _ H1 _ _ p f (.bl _)⟩⟩
theorem Qn(h:WT Z ρ O c fun k O1=>if k=true then WE Z ρ O1 a Φ else WE Z ρ O1 b Φ):WE Z ρ O (.IfExp c a b pos) Φ:=
 PE.weak (Pi h BV BV) fun σ H Q q=> ⟨q.1,fun k H1 O1 p f=>by
  cases k with
  |true=>rw[if_pos rfl] at p ⊢;exact⟨O1,_,p,q.1.step f,q.2.step f⟩
  |false=>rw[if_neg c9] at p ⊢;exact⟨O1,_,p,q.1.step f,q.2.step f⟩⟩
theorem NP{x:Bool}(hc:EB Z ρ O c x)(ha:x=true→ET Z ρ O a ta)(hb:x=false→ET Z ρ O b tb):ET Z ρ O (.IfExp c a b pos) (if x=true then ta else tb):=fun Φ p=>Qn (hc _ (by
 cases x with
 |true=>rw[if_pos rfl] at p ⊢;exact ha rfl _ p
 |false=>rw[if_neg c9] at p ⊢;exact hb rfl _ p))
theorem Reps.atI{vs:List V}{H:Hp}(r:Reps K O H vs ts)(e:L2.atI ts i=some t):∃v,L2.atI vs i=some v∧Rep K O H v t:=by
 unfold L2.atI at e ⊢
 rw[r.length]
 cases hx:Pz ts.length i with
 |none=>rw[hx] at e;cases e
 |some j=>rw[hx] at e;exact r.get e
theorem Xp(e:atI ts i=some t):RP K (Zy K) (.tup ts) (.int i) O t:=fun Φ p H v w Q ok r1 r2 q=>by
 obtain⟨a,xs,rfl,h1,r1⟩:=r1.tup_inv
 obtain⟨x,ex,rx⟩:=r1.atI e
 exact⟨a,xs,i,x,rfl,r2.int_inv,.inl (.inl h1),ex,q _ H _ O p (.refl ok) rx⟩
theorem Ir(e:atI ts i=some t):RP K (XD K) (.lst ts) (.int i) O t:=fun Φ p H v w Q ok r1 r2 q=>by
 obtain⟨a,xs,rfl,h1,o1,r1⟩:=r1.lst_inv
 obtain⟨x,ex,rx⟩:=r1.atI e
 exact⟨a,xs,i,x,rfl,r2.int_inv,.inl (.inl h1),ex,q _ H _ O p (.refl ok) rx⟩
theorem Xq{a:Addr}(ha:O a=some ts)(e:atI ts i=some t):RP K (XD K) (.raw (.ref a)) (.int i) O t:=fun Φ p H v w Q ok r1 r2 q=>by
 cases r1.raw_inv
 obtain⟨xs,h1,r1⟩:=ok a ts ha
 obtain⟨x,ex,rx⟩:=r1.atI e
 exact⟨a,xs,i,x,rfl,r2.int_inv,.inl (.inl h1),ex,q _ H _ O p (.refl ok) rx⟩
theorem Dq(ha:ET Z ρ O a (.tup ts))(hb:ET Z ρ O b (.int i))(e:atI ts i=some t:=by rfl)(hs:Da b:=by exact fun _ _=>rfl):ET Z ρ O (.Subscript a b pos) t:=Qg XF hs (Xp e) ha hb
theorem FA(ha:ET Z ρ O a (.lst ts))(hb:ET Z ρ O b (.int i))(e:atI ts i=some t:=by rfl)(hs:Da b:=by exact fun _ _=>rfl):ET Z ρ O (.Subscript a b pos) t:=Qg Cc hs (Ir e) ha hb
theorem DQ{p:Addr}(hp:O p=some ts)(ha:ET Z ρ O a (.raw (.ref p)))(hb:ET Z ρ O b (.int i))(e:atI ts i=some t:=by rfl)(hs:Da b:=by exact fun _ _=>rfl):ET Z ρ O (.Subscript a b pos) t:=Qg Cc hs (Xq hp e) ha hb
end
noncomputable abbrev Cp:=List T→AH→BU→(Value→AH→Prop)→Prop
noncomputable def DR(K:a9)(s:Cp):Sp:=fun vs H Q E=>∃ts O Φ Ξ,Reps K O H vs ts∧OwnOk K O H∧s ts O Φ Ξ∧Acc K O H Φ Q∧∀cls O' H',Ξ cls O'→Frm K O H O' H'→E cls none H'
structure FnT(P:Program)(w:World)(K:a9)(mg:Str→Option Value)(base:Heap)(x:Str)(k:Nat)(ps:List Str)(s:Cp):Prop where
 ex:∃f fd,FnOk P w K mg base (CXe P w) k f fd ps (DR K s)∧mg x=some (.ref f)∧jq K (.ref f)=true∧Binds K fd ps []
noncomputable def NQ(φ:List T→T→Prop):Cp:=fun ts O Φ _=>∃t,φ ts t∧Φ t O
section
variable{Z:Zx}{ρ:List (Option T)}{O:AH}{e a b c:Expr}{es:List Expr}{Φ Φ':BU}{pos p:Pos}{t ta tb:T}{ts:List T}{K:a9}{i j:Int}{x:Str}
theorem AX{k:Nat}{ps:List Str}{s:Cp}(G:FnT Z.X.prog Z.X.w Z.X.K Z.X.mg Z.X.base x k ps s)(hr:Room k Z.X.A)(xf:XFly Z.X Z.W)(h:WA Z ρ O (e::es) fun ts O1=>s ts O1 Φ Z.Xi)(hg:Gl Z.X x:=by rfl)
  (hdb:(x==("__debug__" :Str))=false:=by decide) (he:fj (e::es) Z.X.env=(false,eval e Z.X.env)::fj es Z.X.env:=by rfl) (hpl:(jS pos (fj es Z.X.env)).any (·.1)=false:=by rfl):WE Z ρ O (.Call (.Name x p) (e::es) [] pos) Φ:=by
 obtain⟨f,fd,F,hm,hk,hb⟩:=G.ex
 refine PE.weak (GE xf F hr hg hm hk hb (Io (ρ:=ρ)) hdb he hpl) fun σ H Q q=>?_
 exact⟨O,_,h,q.1,fun vs H1 ts O1 p f r=> ⟨ts,O1,Φ,Z.Xi,r,f.ok,p,q.2.step f,fun cls O' H' x f'=> ⟨rfl,O',x,(q.1.fr.trans f).trans f'⟩⟩⟩
theorem BI{k:Nat}{ps:List Str}{s:Cp}(G:FnT Z.X.prog Z.X.w Z.X.K Z.X.mg Z.X.base x k ps s)(hr:Room k Z.X.A)(xf:XFly Z.X Z.W)(h:EA Z ρ O (e::es) ts)(hs:∀Φ:BU,Φ t O→s ts O Φ Z.Xi)(hg:Gl Z.X x:=by rfl)
  (hdb:(x==("__debug__" :Str))=false:=by decide) (he:fj (e::es) Z.X.env=(false,eval e Z.X.env)::fj es Z.X.env:=by rfl) (hpl:(jS pos (fj es Z.X.env)).any (·.1)=false:=by rfl):ET Z ρ O (.Call (.Name x p) (e::es) [] pos) t:=
 fun Φ p=>AX G hr xf (h _ (hs Φ p)) hg hdb he hpl
theorem Bx{k:Nat}{ps:List Str}{φ:List T→T→Prop}(G:FnT Z.X.prog Z.X.w Z.X.K Z.X.mg Z.X.base x k ps (NQ φ))(hr:Room k Z.X.A)(xf:XFly Z.X Z.W)(h:EA Z ρ O (e::es) ts)(hs:φ ts t)(hg:Gl Z.X x:=by rfl)
  (hdb:(x==("__debug__" :Str))=false:=by decide) (he:fj (e::es) Z.X.env=(false,eval e Z.X.env)::fj es Z.X.env:=by rfl) (hpl:(jS pos (fj es Z.X.env)).any (·.1)=false:=by rfl):ET Z ρ O (.Call (.Name x p) (e::es) [] pos) t:=
 BI G hr xf h (fun Φ p=> ⟨t,hs,p⟩) hg hdb he hpl
noncomputable def CT(K:a9)(r:List V→Hp→VK→Prop)(ts:List T)(O:AH)(Φ:BU):Prop:=∀H vs Q,OwnOk K O H→Reps K O H vs ts→Acc K O H Φ Q→r vs H Q
noncomputable def CP(K:a9)(r:List V→Hp→VK→Prop)(ts:List T)(O:AH)(t:T):Prop:=∀Φ:BU,Φ t O→CT K r ts O Φ
theorem GV{id:String}{r:List V→Hp→VK→Prop}(hc:BC Z.X (.builtin id) r)(hm:Z.X.mg x=none)(hv:ig x=some (.builtin id))(h:WA Z ρ O (e::es) fun ts O1=>CT Z.K r ts O1 Φ)(hg:Gl Z.X x:=by rfl)(hn:x≠"__name__":=by decide)(hdb:(x==("__debug__" :Str))=false:=by decide)
  (he:fj (e::es) Z.X.env=(false,eval e Z.X.env)::fj es Z.X.env:=by rfl) (hpl:(jS pos (fj es Z.X.env)).any (·.1)=false:=by rfl):WE Z ρ O (.Call (.Name x p) (e::es) [] pos) Φ:=
 PE.weak (Ap hc hg hm hv (Io (ρ:=ρ)) hn hdb he hpl) fun σ H Q q=> ⟨O,_,h,q.1,fun vs H1 ts O1 p f r=>p H1 vs Q f.ok r (q.2.step f)⟩
theorem FB{id:String}{r:List V→Hp→VK→Prop}(hc:BC Z.X (.type id) r)(hm:Z.X.mg x=none)(hv:ig x=some (.type id))(h:WA Z ρ O (e::es) fun ts O1=>CT Z.K r ts O1 Φ)(hg:Gl Z.X x:=by rfl)(hn:x≠"__name__":=by decide)(hdb:(x==("__debug__" :Str))=false:=by decide)
  (he:fj (e::es) Z.X.env=(false,eval e Z.X.env)::fj es Z.X.env:=by rfl) (hpl:(jS pos (fj es Z.X.env)).any (·.1)=false:=by rfl):WE Z ρ O (.Call (.Name x p) (e::es) [] pos) Φ:=
 PE.weak (Hi hc hg hm hv (Io (ρ:=ρ)) hn hdb he hpl) fun σ H Q q=> ⟨O,_,h,q.1,fun vs H1 ts O1 p f r=>p H1 vs Q f.ok r (q.2.step f)⟩
theorem BE{id:String}{r:List V→Hp→VK→Prop}(hc:BC Z.X (.builtin id) r)(hm:Z.X.mg x=none)(hv:ig x=some (.builtin id))(h:EA Z ρ O (e::es) ts)(hp:CP Z.K r ts O t)(hg:Gl Z.X x:=by rfl)(hn:x≠"__name__":=by decide)(hdb:(x==("__debug__" :Str))=false:=by decide)
  (he:fj (e::es) Z.X.env=(false,eval e Z.X.env)::fj es Z.X.env:=by rfl) (hpl:(jS pos (fj es Z.X.env)).any (·.1)=false:=by rfl):ET Z ρ O (.Call (.Name x p) (e::es) [] pos) t:=fun Φ q=>GV hc hm hv (h _ (hp Φ q)) hg hn hdb he hpl
theorem On{id:String}{r:List V→Hp→VK→Prop}(hc:BC Z.X (.type id) r)(hm:Z.X.mg x=none)(hv:ig x=some (.type id))(h:EA Z ρ O (e::es) ts)(hp:CP Z.K r ts O t)(hg:Gl Z.X x:=by rfl)(hn:x≠"__name__":=by decide)(hdb:(x==("__debug__" :Str))=false:=by decide)
  (he:fj (e::es) Z.X.env=(false,eval e Z.X.env)::fj es Z.X.env:=by rfl) (hpl:(jS pos (fj es Z.X.env)).any (·.1)=false:=by rfl):ET Z ρ O (.Call (.Name x p) (e::es) [] pos) t:=fun Φ q=>FB hc hm hv (h _ (hp Φ q)) hg hn hdb he hpl
noncomputable def MT(K:a9)(ty:String)(r:V→List V→Hp→VK→Prop)(t:T)(ts:List T)(O:AH)(Φ:BU):Prop:=∀H v vs Q,OwnOk K O H→Rep K O H v t→Reps K O H vs ts→Acc K O H Φ Q→r v vs H Q
noncomputable def eO(K:a9)(ty:String)(O:AH)(t:T):Prop:=∀H v,OwnOk K O H→Rep K O H v t→dO K ty v H
theorem Vm{o:Expr}{name:Str}{apos cpos:Pos}{ty id:String}{r:V→List V→Hp→VK→Prop}(pa:PlainAttrs ty)(slot:Slot ty name id)(hty:typeOf (.builtin id)=pure (.type "method_descriptor"))(hm:eJ Z.X id r)
  (h:WE Z ρ O o fun t O1=>eO Z.K ty O1 t∧WA Z ρ O1 (e::es) fun ts O2=>MT Z.K ty r t ts O2 Φ)
  (hbase:ou o name Z.X.env (eval o Z.X.env)=eval o Z.X.env:=by rfl)
  (hfew:((jS cpos (fj (e::es) Z.X.env)).all (fun x=>!x.1)&&(qO cpos (pC [] Z.X.env)).all (fun x=>x.1.isSome)
   &&decide ((e::es).length+([]:List oq).length+(if([]:List oq).isEmpty then 0 else 1)<30))=true:=by rfl)
  (hline:(apos.endLine==cpos.line)=true:=by rfl) (hs:fj (e::es) Z.X.env=(false,eval e Z.X.env)::fj es Z.X.env:=by rfl) (hplain:(jS cpos (fj es Z.X.env)).any (·.1)=false:=by rfl):WE Z ρ O (.Call (.Attribute o name apos) (e::es) [] cpos) Φ:=
 PE.weak (QC pa slot hty hm (BV (ρ:=ρ)) (Io (ρ:=ρ)) hbase hfew hline hs hplain) fun σ H Q q=> ⟨O,_,h,q.1,fun v H1 t O1 ⟨ty,p⟩ f1 r1=> ⟨ty H1 v f1.ok r1,O1,_,p,q.1.step f1,fun vs H2 ts O2 p2 f2 r2=>
  p2 H2 v vs Q f2.ok (r1.kp f2.kp f1.ok) r2 (q.2.step (f1.trans f2))⟩⟩
theorem NR{a:Addr}(ha:O a=some ts):eO K "list" O (.raw (.ref a)):=fun H v ok r=>by
 cases r.raw_inv
 obtain⟨xs,h,_⟩:=ok a ts ha
 exact .inl ⟨rfl,xs,.inl (.inl h)⟩
theorem Ly{a:Addr}{u:T}(ha:O a=some ts)(hl:ts.length<sizeLine)(p:Φ .non (Ad O a (ts++[u]))):MT K "list" Mw (.raw (.ref a)) [u] O Φ:=fun H v vs Q ok r1 r2 q=>by
 cases r1.raw_inv
 obtain⟨w,rfl,r3⟩:=r2.one_inv
 obtain⟨xs,h,r⟩:=ok a ts ha
 exact⟨a,xs,w,rfl,rfl,h,by rw[r.length];exact hl,q _ _ _ _ p (.put ok ha (r.append (.one r3))) .non⟩
theorem Be{o:Expr}{apos cpos:Pos}(h:WE Z ρ O o fun t O1=>∃a,t=.raw (.ref a)∧(∃ts,O1 a=some ts)∧WE Z ρ O1 e fun u O2=>∃ts,O2 a=some ts∧ts.length<sizeLine∧Φ .non (Ad O2 a (ts++[u])))
  (hbase:ou o "append" Z.X.env (eval o Z.X.env)=eval o Z.X.env:=by rfl)
  (hfew:((jS cpos (fj [e] Z.X.env)).all (fun x=>!x.1)&&(qO cpos (pC [] Z.X.env)).all (fun x=>x.1.isSome)
   &&decide ([e].length+([]:List oq).length+(if([]:List oq).isEmpty then 0 else 1)<30))=true:=by rfl)
  (hline:(apos.endLine==cpos.line)=true:=by rfl) (hs:fj [e] Z.X.env=(false,eval e Z.X.env)::fj [] Z.X.env:=by rfl) (hplain:(jS cpos (fj [] Z.X.env)).any (·.1)=false:=by rfl):WE Z ρ O (.Call (.Attribute o "append" apos) [e] [] cpos) Φ:=by
 refine Vm kW PySem.F.slot_list_append PySem.F.type_list_append Hj (Dd h ?_) hbase hfew hline hs hplain
 rintro t O1 ⟨a,rfl,⟨ts,hts⟩,w⟩
 refine⟨NR hts,Bw (Dd w ?_) hs⟩
 rintro u O2 ⟨us,h1,h2,p⟩
 exact BB (Ly h1 h2 p)
end
noncomputable abbrev Lz:=List (Option T)→AH→Prop
structure Es where
 nx:Lz
 rt:BU
 bk:Lz:=fun _ _=>False
 ct:Lz:=fun _ _=>False
noncomputable def AccN(Z:Zx)(O:AH)(H:Hp)(N:Lz)(D:St→Hp→Prop):Prop:=∀ρ' O' σ' H',N ρ' O'→Asr Z ρ' O' σ' H'→Kp O H O' H'→D σ' H'
structure AccS(Z:Zx)(O:AH)(H:Hp)(Ψ:Es)(D:Ends):Prop where
 nx:AccN Z O H Ψ.nx D.nx
 rt:∀v H' t O',Ψ.rt t O'→Frm Z.K Z.Oe Z.He O' H'→Rep Z.K O' H' v t→D.rt v H'
 bk:AccN Z O H Ψ.bk D.bk
 ct:AccN Z O H Ψ.ct D.ct
noncomputable def tS(Z:Zx)(ρ:List (Option T))(O:AH)(Ψ:Es):TS:=fun D σ H=>Asr Z ρ O σ H∧AccS Z O H Ψ D
noncomputable def WS(Z:Zx)(ρ:List (Option T))(O:AH)(s:Stmt)(Ψ:Es):Prop:=PS Z.X s (tS Z ρ O Ψ)
noncomputable def FZ(Z:Zx)(ρ:List (Option T))(O:AH)(s:List Stmt)(Ψ:Es):Prop:=PSs Z.X s (tS Z ρ O Ψ)
noncomputable def fL(Z:Zx)(ss:List Stmt):TS:=fun D σ H=>∃ρ O Ψ,FZ Z ρ O ss Ψ∧tS Z ρ O Ψ D σ H
theorem KU{Z:Zx}{ss:List Stmt}:PSs Z.X ss (fL Z ss):=fun pins s σ H D I ⟨_,_,_,w,q⟩=>w pins s σ H D I q
section
variable{Z:Zx}{ρ:List (Option T)}{O O1:AH}{e a b c:Expr}{es:List Expr}{Ψ:Es}{pos p:Pos}{t ta tb:T}{ts:List T}{i j:Nat}{x:Str}{s:Stmt}{ss:List Stmt}{H H1:Hp}{D:Ends}
theorem AccN.step{N:Lz}{D:St→Hp→Prop}(h:AccN Z O H N D)(k:Kp O H O1 H1):AccN Z O1 H1 N D:=fun ρ' O' σ' H' n a k'=>h ρ' O' σ' H' n a (k.trans k')
theorem AccS.step(h:AccS Z O H Ψ D)(k:Kp O H O1 H1):AccS Z O1 H1 Ψ D:=⟨h.nx.step k,h.rt,h.bk.step k,h.ct.step k⟩
theorem Ba(h:Ψ.nx ρ O):FZ Z ρ O [] Ψ:=PSs.weak IS fun D σ H q=>q.2.nx ρ O σ H h q.1 .refl
theorem AD(h:WS Z ρ O s {Ψ with nx:=fun ρ' O'=>FZ Z ρ' O' ss Ψ}):FZ Z ρ O (s::ss) Ψ:=
 PSs.weak (DF h KU) fun D σ H q=> ⟨q.1,fun ρ' O' σ' H' w a k=> ⟨ρ',O',Ψ,w,a,q.2.step k⟩,q.2.rt,q.2.bk,q.2.ct⟩
theorem AG(h:WS Z ρ O s Ψ):FZ Z ρ O [s] Ψ:=PSs.weak (ED h) fun _ _ _ q=>q
theorem UE{Ψ':Es}(h:WS Z ρ O s Ψ)(n:∀ρ' O',Ψ.nx ρ' O'→Ψ'.nx ρ' O')(r:∀t O',Ψ.rt t O'→Ψ'.rt t O')(bk:∀ρ' O',Ψ.bk ρ' O'→Ψ'.bk ρ' O')(ct:∀ρ' O',Ψ.ct ρ' O'→Ψ'.ct ρ' O'):WS Z ρ O s Ψ':=
 PS.weak h fun D σ H q=> ⟨q.1,fun ρ' O' σ' H' w=>q.2.nx ρ' O' σ' H' (n ρ' O' w),fun v H' t O' w=>q.2.rt v H' t O' (r t O' w),fun ρ' O' σ' H' w=>q.2.bk ρ' O' σ' H' (bk ρ' O' w),fun ρ' O' σ' H' w=>q.2.ct ρ' O' σ' H' (ct ρ' O' w)⟩
theorem BQ{p:Addr}{n:Nat}(hp:O p=some ts)(he:Z.Oe p=none)(hn:ρ[n]?=some (some (.raw (.ref p))))(h:FZ Z (ρ.set n (some (.lst ts))) (DN O p) ss Ψ):FZ Z ρ O ss Ψ:=PSs.weak h fun D σ H q=>by
 refine⟨⟨?_,⟨q.1.fr.kp.trans Dc,fun b us e=>?_,q.1.ok.drop⟩⟩,q.2.step Dc⟩
 ·have r1:=q.1.rl.kp (Dc (a:=p)) q.1.ok
  obtain⟨v,e1,e2⟩:=q.1.rl.2 n _ hn
  cases e2.raw_inv
  have r2:=r1.set (i:=n) (q.1.ok.rep hp)
  have:σ.set n (some (.ref p))=σ:=by
   apply jA
   intro m
   by_cases hm:m=n
   ·subst hm
    have hl:m<σ.length:=(gh.mp e1).1
    rw[gW hl,e1]
   ·rw[gQ (Ne.symm hm)]
  rw[this] at r2
  exact r2
 ·obtain⟨us',e'⟩:=q.1.fr.own b us e
  have:b≠p:=fun z=>by rw[z,he] at e;cases e
  exact⟨us',by rw[EN this];exact e'⟩
theorem AR(h:WE Z ρ O e Ψ.rt):WS Z ρ O (.Return (some e) pos) Ψ:=PS.weak (Fu h) fun D σ H q=> ⟨q.1,fun v H' t O' p f r=>q.2.rt v H' t O' p (q.1.fr.trans f) r⟩
theorem Ao(h:WE Z ρ O e fun _ O'=>Ψ.nx ρ O')(hs:nJ e none pos.line Z.X.env=pure false:=by rfl):WS Z ρ O (.Expr e pos) Ψ:=
 PS.weak (TC h hs) fun D σ H q=> ⟨q.1,fun v H' t O' p f r=>q.2.nx ρ O' σ H' p (q.1.step f) f.kp⟩
theorem AS(i:Nat)(h:WE Z ρ O e fun t O'=>Ψ.nx (ρ.set i (some t)) O')(hN:Z.X.N.Nodup){pos':Pos}(hi:Z.X.N[i]?=some x:=by rfl)(hx:Su Z.X.env.scope x:=by first|exact oz rfl|exact oy rfl)(hs:nJ e (some (.Name x pos')) pos.line Z.X.env=pure false:=by rfl)
  (hf:Z.X.fn x=true∨Z.X.env.scope.names.lookup x=some .local:=by first|exact .inl rfl|exact .inr rfl):WS Z ρ O (.Assign [.Name x pos'] e pos) Ψ:=
 PS.weak (LK hN hi hx h hs hf) fun D σ H q=> ⟨q.1,fun v H' t O' p f r=>q.2.nx _ O' _ H' p ⟨(q.1.step f).rl.set r,(q.1.step f).fr⟩ f.kp⟩
theorem MA{op:pJ}{ti:Zc}(i:Nat){pos':Pos}(ho:cL Z.X op ti)(hρ:ρ[i]?=some (some ta))(h:WE Z ρ O e fun tb O1=>RT Z.K ti ta tb O1 fun t O2=>Ψ.nx (ρ.set i (some t)) O2)(hN:Z.X.N.Nodup)(hi:Z.X.N[i]?=some x:=by rfl)(hx:Su Z.X.env.scope x:=by first|exact oz rfl|exact oy rfl)
  (hf:Z.X.fn x=true∨Z.X.env.scope.names.lookup x=some .local:=by first|exact .inl rfl|exact .inr rfl):WS Z ρ O (.AugAssign (.Name x pos') op e pos) Ψ:=
 PS.weak (Wh hN hi hx h ho hf) fun D σ H q=>by
  obtain⟨v,e1,r1⟩:=q.1.rl.2 i _ hρ
  exact⟨v,e1,q.1,fun w H1 tb O1 p f r=>p H1 v w _ f.ok (r1.kp f.kp q.1.ok) r fun z H2 t O2 p2 f2 r2=>q.2.nx _ O2 _ H2 p2 ⟨(q.1.step (f.trans f2)).rl.set r2,(q.1.step (f.trans f2)).fr⟩ (f.trans f2).kp⟩
theorem aY{ea eb:List Stmt}(h:WT Z ρ O c fun k O1=>if k=true then FZ Z ρ O1 ea Ψ else FZ Z ρ O1 eb Ψ):WS Z ρ O (.If c ea eb pos) Ψ:=
 PS.weak (Pj h KU KU) fun D σ H q=> ⟨q.1,fun k H1 O1 p f=>by
  cases k with
  |true=>rw[if_pos rfl] at p ⊢;exact⟨ρ,O1,Ψ,p,q.1.step f,q.2.step f.kp⟩
  |false=>rw[if_neg c9] at p ⊢;exact⟨ρ,O1,Ψ,p,q.1.step f,q.2.step f.kp⟩⟩
theorem BR{ea eb:List Stmt}{k:Bool}(hc:EB Z ρ O c k)(h1:k=true→FZ Z ρ O ea Ψ)(h2:k=false→FZ Z ρ O eb Ψ):WS Z ρ O (.If c ea eb pos) Ψ:=aY (hc _ (by
 cases k with
 |true=>rw[if_pos rfl];exact h1 rfl
 |false=>rw[if_neg c9];exact h2 rfl))
noncomputable def tG(Z:Zx)(n:Nat)(ρ:List (Option T))(O:AH)(t:T)(ρ':List (Option T)):TG:=fun v σ H Q=>Asr Z ρ O σ H∧Rep Z.K O H v t∧∀σ',Asr Z ρ' O σ' H→(σ'.length=σ.length∧∀j,n≤j→σ'[j]?=σ[j]?)→Q σ' H
noncomputable def WG(Z:Zx)(n:Nat)(ρ:List (Option T))(O:AH)(tg:Expr)(t:T)(ρ':List (Option T)):Prop:=PG Z.X tg (tG Z n ρ O t ρ')
theorem PG.weak{X:Cx}{e:Expr}{t t':TG}(h:PG X e t)(w:∀v σ H Q,t' v σ H Q→t v σ H Q):PG X e t':=fun pins s σ H v u Q I r q=>h pins s σ H v u Q I r (w v σ H Q q)
noncomputable def fM(Z:Zx)(n:Nat)(tg:Expr):TG:=fun v σ H Q=>∃ρ O t ρ',WG Z n ρ O tg t ρ'∧tG Z n ρ O t ρ' v σ H Q
theorem aZ{n:Nat}{tg:Expr}:PG Z.X tg (fM Z n tg):=fun pins s σ H v u Q I r ⟨_,_,_,_,w,q⟩=>w pins s σ H v u Q I r q
theorem AO(i:Nat){n:Nat}(hN:Z.X.N.Nodup)(hn:i<n)(hi:Z.X.N[i]?=some x:=by rfl)(hx:Su Z.X.env.scope x:=by first|exact oz rfl|exact oy rfl)
  (hf:Z.X.fn x=true∨Z.X.env.scope.names.lookup x=some .local:=by first|exact .inl rfl|exact .inr rfl):WG Z n ρ O (.Name x pos) t (ρ.set i (some t)):=
 PG.weak (IT hN hi hx hf) fun v σ H Q q=>q.2.2 _ ⟨q.1.rl.set q.2.1,q.1.fr⟩ ⟨by simp,fun j hj=>by rw[gQ (by omega)]⟩
theorem Df(i j:Nat){n:Nat}{y:Str}{p1 p2:Pos}{k:Nat}(hc:Z.X.calm=true)(hN:Z.X.N.Nodup)(hni:i<n)(hnj:j<n)(hi:Z.X.N[i]?=some x:=by rfl)(hj:Z.X.N[j]?=some y:=by rfl)(hx:Su Z.X.env.scope x:=by first|exact oz rfl|exact oy rfl)(hy:Su Z.X.env.scope y:=by first|exact oz rfl|exact oy rfl)
  (hf:Z.X.fn x=true∨Z.X.env.scope.names.lookup x=some .local:=by first|exact .inl rfl|exact .inr rfl) (hf2:Z.X.fn y=true∨Z.X.env.scope.names.lookup y=some .local:=by first|exact .inl rfl|exact .inr rfl)
  (hs:(jV [.Name x p1,.Name y p2] Z.X.env).map (·.2)=assign (.Name x p1) Z.X.env::(jV [.Name y p2] Z.X.env).map (·.2):=by rfl) (hs2:(jV [.Name y p2] Z.X.env).map (·.2)=assign (.Name y p2) Z.X.env::(jV [] Z.X.env).map (·.2):=by rfl)
  (hl:(jV [.Name x p1,.Name y p2] Z.X.env).length=2:=by rfl) (hst:(jV [.Name x p1,.Name y p2] Z.X.env).findIdx? (·.1)=none:=by rfl):
  WG Z n ρ O (.Tuple [.Name x p1,.Name y p2] k pos) (.tup [ta,tb]) ((ρ.set i (some ta)).set j (some tb)):=
 PG.weak (We hc (Jm (IT hN hi hx hf) (Jm (IT hN hj hy hf2) TF hs2) hs) hl hst) fun v σ H Q q=>by
  obtain⟨q1,q2,q3⟩:=q
  obtain⟨a,xs,rfl,h1,r⟩:=q2.tup_inv
  obtain⟨v,w,rfl,r1,r2⟩:=r.two_inv
  exact⟨a,_,rfl,.inl (.inl h1),rfl,v,_,rfl,w,_,rfl,rfl,q3 _ ⟨(q1.rl.set r1).set r2,q1.fr⟩ ⟨by simp,fun m hm=>by rw[gQ (by omega),gQ (by omega)]⟩⟩
theorem Xr{n:Nat}{tg:Expr}(h:WE Z ρ O e fun t O'=>∃ρ',WG Z n ρ O' tg t ρ'∧Ψ.nx ρ' O')(hs:lJ [tg] e pos.line Z.X.env=pure false:=by rfl)(hw:lK [tg] e Z.X.env=pure none:=by rfl)
  (h1:(jV [tg] Z.X.env).map (·.2)=[assign tg Z.X.env]:=by rfl):WS Z ρ O (.Assign [tg] e pos) Ψ:=
 PS.weak (Pk h (aZ (n:=n)) hs hw h1) fun D σ H q=> ⟨q.1,fun v H' t O' ⟨ρ',wg,p⟩ f r=> ⟨ρ,O',t,ρ',wg,q.1.step f,r,fun σ' a _=>q.2.nx _ O' _ H' p a f.kp⟩⟩
theorem GW{o ix:Expr}{px:Pos}(h:WE Z ρ O e fun t O1=>WE Z ρ O1 o fun u O2=>∃a,u=.raw (.ref a)∧WE Z ρ O2 ix fun w O3=>∃ts k m,w=.int k∧O3 a=some ts∧Pz ts.length k=some m∧Ψ.nx ρ (Ad O3 a (ts.set m t)))
  (ha:∀v,assign (.Subscript o ix px) Z.X.env v=(do
   let ov←holding [v] (eval o Z.X.env)
   let iv←holding [v,ov] (eval ix Z.X.env)
   standAt px
   holding [v,ov,iv] (setItem ov iv v)
   release [v,ov,iv] []):=by intro _;rfl)
  (hs:lJ [.Subscript o ix px] e pos.line Z.X.env=pure false:=by rfl) (hw:lK [.Subscript o ix px] e Z.X.env=pure none:=by rfl)
  (h1:(jV [.Subscript o ix px] Z.X.env).map (·.2)=[assign (.Subscript o ix px) Z.X.env]:=by rfl):WS Z ρ O (.Assign [.Subscript o ix px] e pos) Ψ:=by
 refine PS.weak (Pk h (Wf (BV (ρ:=ρ)) (BV (ρ:=ρ)) QB ha) hs hw h1) fun D σ H q=> ⟨q.1,fun v H1 t O1 p1 f1 r1=>?_⟩
 refine⟨O1,_,p1,q.1.step f1,?_⟩
 rintro vo H2 _ O2 ⟨a,rfl,p2⟩ f2 r2
 refine⟨O2,_,p2,q.1.step (f1.trans f2),?_⟩
 rintro vi H3 _ O3 ⟨ts,k,m,rfl,ho,hm,p3⟩ f3 r3
 cases r2.raw_inv
 obtain⟨xs,hx,rx⟩:=f3.ok a ts ho
 have r1':=(r1.kp f2.kp f1.ok).kp f3.kp f2.ok
 have f:=f1.trans (f2.trans (f3.trans (Frm.put f3.ok ho (rx.set r1' m))))
 exact⟨a,xs,k,m,rfl,r3.int_inv,hx,by rw[rx.length];exact hm,q.2.nx ρ _ σ _ p3 (q.1.step f) f.kp⟩
noncomputable def Oo(K:a9)(J:It)(O:AH)(H:Hp)(ts:List T):Prop:=∀O' H',Kp O H O' H'→OwnOk K O' H'→
 (∀i,i<ts.length→J.go i H')∧(∀i x H'',J.yld i H' x H''→∀t,ts[i]?=some t→Frm K O' H' O' H''∧Rep K O' H'' x t)∧∀i,ts.length≤i→J.stop i H'
noncomputable def WI(Z:Zx)(ρ:List (Option T))(O:AH)(tg iter:Expr)(Φ:Lu):Prop:=PI Z.X tg iter fun σ H R=>Asr Z ρ O σ H∧∀J H' ts O',Φ ts O'→Frm Z.K O H O' H'→Oo Z.K J O' H' ts→R J H'
theorem PI.weak{X:Cx}{tg e:Expr}{t t':TI}(h:PI X tg e t)(w:∀σ H R,t' σ H R→t σ H R):PI X tg e t':=fun pins s σ H R I q=>h pins s σ H R I (w σ H R q)
theorem Oq{K:a9}{a:Addr}{xs:List V}(ok:OwnOk K O H)(h:H a=some (.lst xs))(n:O a=none)(r:Reps K O H xs ts):Oo K (dB K a) O H ts:=fun O' H' k ok'=>by
 have h':=(k.lst h n).1
 have r':=r.kp k ok
 refine⟨fun i hi=>?_,fun i x H'' y t e=>?_,fun i hi=> ⟨xs,.inl (.inl h'),by rw[r.length];exact hi⟩⟩
 ·obtain⟨v,e,_⟩:=r'.get (i:=i) (t:=ts[i]) (by simp[hi])
  exact⟨xs,v,.inl (.inl h'),e⟩
 ·obtain⟨rfl,y⟩:=y
  obtain⟨v,e',q⟩:=r'.get e
  have:=y xs (.inl (.inl h'))
  rw[e'] at this;cases this
  exact⟨.refl ok',q⟩
theorem Qo{K:a9}{a:Addr}{xs:List V}(ok:OwnOk K O H)(h:H a=some (.tup xs))(r:Reps K O H xs ts):Oo K (dC K a) O H ts:=fun O' H' k ok'=>by
 have h':FV K H' a xs:=.inl (.inl (k.oth ok h fun _ z=>by cases z))
 have r':=r.kp k ok
 refine⟨fun i hi=>?_,fun i x H'' y t e=>?_,fun i hi=> ⟨xs,h',by rw[r.length];exact hi⟩⟩
 ·obtain⟨v,e,_⟩:=r'.get (i:=i) (t:=ts[i]) (by simp[hi])
  exact⟨xs,v,h',e⟩
 ·obtain⟨rfl,y⟩:=y
  obtain⟨v,e',q⟩:=r'.get e
  have:=y xs h'
  rw[e'] at this;cases this
  exact⟨.refl ok',q⟩
noncomputable def FD(lo:Int)(n:Nat):List T:=(gF n).map fun(i:Nat)=>T.int (lo+i)
theorem Af{lo:Int}{n:Nat}:(FD lo n).length=n:=by simp[FD]
theorem Bq{lo:Int}{n i:Nat}(h:(FD lo n)[i]?=some t):i<n∧t=.int (lo+i):=by
 unfold FD at h
 rw[fq] at h
 by_cases hi:i<n
 ·rw[j8 hi] at h
  cases h
  exact⟨hi,rfl⟩
 ·rw[kr (by simpa using hi)] at h
  cases h
theorem KW{K:a9}{lo:Int}{n:Nat}:Oo K (Zf lo n) O H (FD lo n):=fun O' H' k ok'=>by
 refine⟨fun i hi=>by rwa[Af] at hi,fun i x H'' y t e=>?_,fun i hi=>by rwa[Af] at hi⟩
 obtain⟨rfl,rfl⟩:=y
 obtain⟨_,rfl⟩:=Bq e
 exact⟨.refl ok',.int _⟩
theorem Iu{tg:Expr}{Φ:Lu}(h:WE Z ρ O e fun t O'=>∃ts,t=.lst ts∧Φ ts O'):WI Z ρ O tg e Φ:=PI.weak (TH h) fun σ H R q=> ⟨q.1,by
 rintro v H' _ O' ⟨ts,rfl,p⟩ f r
 obtain⟨a,xs,rfl,h1,n,r⟩:=r.lst_inv
 exact⟨a,rfl,⟨xs,.inl (.inl h1)⟩,q.2 _ H' ts O' p f (Oq f.ok h1 n r)⟩⟩
theorem Xs{tg:Expr}{Φ:Lu}(h:WE Z ρ O e fun t O'=>∃ts,t=.tup ts∧Φ ts O'):WI Z ρ O tg e Φ:=PI.weak (Wj h) fun σ H R q=> ⟨q.1,by
 rintro v H' _ O' ⟨ts,rfl,p⟩ f r
 obtain⟨a,xs,rfl,h1,r⟩:=r.tup_inv
 exact⟨a,rfl,⟨xs,.inl (.inl h1)⟩,q.2 _ H' ts O' p f (Qo f.ok h1 r)⟩⟩
theorem Os{tg:Expr}{Φ:Lu}(hm:Z.X.mg "range" =none)(h:WA Z ρ O [a] fun ts O'=>∃j:Int,ts=[.int j]∧-(2^62)≤j∧j<2^62∧Φ (FD 0 j.toNat) O')(hg:Gl Z.X "range":=by rfl)(hs:fj [a] Z.X.env=[(false,eval a Z.X.env)]:=by rfl):WI Z ρ O tg (.Call (.Name "range" p) [a] [] pos) Φ:=
 PI.weak (OH hg hm h hs) fun σ H R q=> ⟨q.1,by
  rintro vs H' _ O' ⟨j,rfl,h1,h2,p⟩ f r
  obtain⟨v,rfl,r'⟩:=r.one_inv
  exact⟨j,by rw[r'.int_inv],h1,h2,q.2 _ H' _ O' p f KW⟩⟩
theorem Ot{tg:Expr}{Φ:Lu}(hm:Z.X.mg "range" =none)(h:WA Z ρ O [a,b] fun ts O'=>∃i j:Int,ts=[.int i,.int j]∧(-(2^62)≤i∧i<2^62∧-(2^62)≤j∧j<2^62)∧Φ (FD i (j-i).toNat) O')(hg:Gl Z.X "range":=by rfl)(hs:fj [a,b] Z.X.env=[(false,eval a Z.X.env),(false,eval b Z.X.env)]:=by rfl)(hs2:fj [b] Z.X.env=[(false,eval b Z.X.env)]:=by rfl):WI Z ρ O tg (.Call (.Name "range" p) [a,b] [] pos) Φ:=
 PI.weak (OI hg hm h hs hs2) fun σ H R q=> ⟨q.1,by
  rintro vs H' _ O' ⟨i,j,rfl,h1,p⟩ f r
  obtain⟨v,w,rfl,r1,r2⟩:=r.two_inv
  exact⟨i,j,by rw[r1.int_inv,r2.int_inv],h1,q.2 _ H' _ O' p f KW⟩⟩
noncomputable def EI(Z:Zx)(ρ:List (Option T))(O:AH)(tg iter:Expr)(ts:List T):Prop:=∀Φ:Lu,Φ ts O→WI Z ρ O tg iter Φ
theorem Ax{tg:Expr}(h:ET Z ρ O e (.lst ts)):EI Z ρ O tg e ts:=fun Φ p=>Iu (h _ ⟨ts,rfl,p⟩)
theorem DS{tg:Expr}(h:ET Z ρ O e (.tup ts)):EI Z ρ O tg e ts:=fun Φ p=>Xs (h _ ⟨ts,rfl,p⟩)
theorem BW{tg:Expr}{k:Int}(hm:Z.X.mg "range" =none)(h:ET Z ρ O a (.int k))(h1: -(2^62)≤k∧k<2^62)(hg:Gl Z.X "range":=by rfl)(hs:fj [a] Z.X.env=[(false,eval a Z.X.env)]:=by rfl):EI Z ρ O tg (.Call (.Name "range" p) [a] [] pos) (FD 0 k.toNat):=fun Φ q=>Os hm (AN h AC hs _ ⟨k,rfl,h1.1,h1.2,q⟩) hg hs
theorem CY{tg:Expr}{k l:Int}(hm:Z.X.mg "range" =none)(h:ET Z ρ O a (.int k))(h2:ET Z ρ O b (.int l))(h1: -(2^62)≤k∧k<2^62∧-(2^62)≤l∧l<2^62)(hg:Gl Z.X "range":=by rfl)(hs:fj [a,b] Z.X.env=[(false,eval a Z.X.env),(false,eval b Z.X.env)]:=by rfl)(hs2:fj [b] Z.X.env=[(false,eval b Z.X.env)]:=by rfl):EI Z ρ O tg (.Call (.Name "range" p) [a,b] [] pos) (FD k (l-k).toNat):=
 fun Φ q=>Ot hm (AN h (AN h2 AC hs2) (by rw[hs,hs2]) _ ⟨k,l,rfl,h1,q⟩) hg hs hs2
theorem Av{tg iter:Expr}{body:List Stmt}(hp:nL (model Z.X.prog Z.X.w) Z.X.A Z.X.env Z.X.xe)(hc:Z.X.calm=true)
  (h:WI Z ρ O tg iter fun ts O1=>∃I:Nat→Lz,I 0 ρ O1∧(∀i t ρ' O',ts[i]?=some t→I i ρ' O'→∃ρ2,WG Z Z.X.N.length ρ' O' tg t ρ2∧FZ Z ρ2 O' body {nx:=I (i+1),rt:=Ψ.rt,bk:=Ψ.nx,ct:=I (i+1)})∧∀ρ' O',I ts.length ρ' O'→Ψ.nx ρ' O')
  (hs:∀x,ja iter Z.X.env x=pure x:=by intro _;rfl):WS Z ρ O (.For tg iter body [] pos) Ψ:=by
 refine PS.weak (Wl hp hc h (aZ (n:=Z.X.N.length)) KU hs) fun D σ H q=> ⟨q.1,?_⟩
 rintro J H1 ts O1 ⟨I,i0,step,fin⟩ f1 it
 refine⟨fun i m σ' H'=>m=ts.length-i∧i≤ts.length∧∃ρ' O',I i ρ' O'∧Asr Z ρ' O' σ' H'∧Kp O1 H1 O' H',⟨ts.length,by simp,ip _,ρ,O1,i0,q.1.step f1,.refl⟩,?_⟩
 rintro i m σ2 H2 ⟨rfl,hi,ρ2,O2,i2,a2,k2⟩
 obtain⟨g1,g2,g3⟩:=it O2 H2 k2 a2.ok
 by_cases hlt:i<ts.length
 ·refine .inr ⟨g1 i hlt,fun σ' H'=>∃ρ' O',I (i+1) ρ' O'∧Asr Z ρ' O' σ' H'∧Kp O1 H1 O' H',fun σ' H' w=> ⟨_,by omega,rfl,by omega,w⟩,fun x H3 y=>?_⟩
  obtain⟨f3,r3⟩:=g2 i x H3 y ts[i] (by simp[hlt])
  obtain⟨ρ3,wg,wb⟩:=step i ts[i] ρ2 O2 (by simp[hlt]) i2
  refine⟨ρ2,O2,_,ρ3,wg,a2.step f3,r3,fun σ3 a3 _=> ⟨ρ3,O2,_,wb,a3,?_⟩⟩
  have kk:=(k2.trans f3.kp)
  exact⟨fun ρ' O' σ' H' w a k=> ⟨ρ',O',w,a,kk.trans k⟩,q.2.rt,fun ρ' O' σ' H' w a k=>q.2.nx ρ' O' σ' H' w a (f1.kp.trans (kk.trans k)),fun ρ' O' σ' H' w a k=> ⟨ρ',O',w,a,kk.trans k⟩⟩
 ·have:i=ts.length:=by omega
  subst this
  exact .inl ⟨g3 _ (fv _),q.2.nx ρ2 O2 σ2 H2 (fin ρ2 O2 i2) a2 (f1.kp.trans k2)⟩
end
noncomputable def zc(X:Cx)(Oe:AH)(He:Hp):Zx:=⟨X,Oe,He,fun _ _=>False⟩
noncomputable def HV(nc:List Str)(ρ:List (Option T))(cap:List (Str×Nat)):List (Option T):=gK nc.length none++cap.map fun q=> (ρ[q.2]?).join
noncomputable def cR(Z:Zx)(ρ:List (Option T))(O:AH)(ifs:List Expr)(Φ:KR):Prop:=XN Z.X ifs (ZR Z ρ O Φ)
theorem Am{O:AH}{p:Addr}{ts:List T}(h:O p=none):DN (Ad O p ts) p=O:=by
 funext b
 by_cases hb:b=p
 ·rw[hb,Ck,h]
 ·rw[EN hb,Aa hb]
theorem EU{O:AH}{p a:Addr}{ts us:List T}(h:a≠p):Ad (Ad O p ts) a us=Ad (Ad O a us) p ts:=by
 funext b
 unfold Ad
 by_cases h1:b=a
 ·subst h1;rw[if_pos rfl,if_neg h,if_pos rfl]
 ·rw[if_neg h1,if_neg h1]
section
variable{Z:Zx}{ρ:List (Option T)}{O:AH}{elt tg iter:Expr}{ifs:List Expr}{csc:Scope}{nc:List Str}{cap:List (Str×Nat)}{Φ:BU}{pos:Pos}
theorem Iv{Φ:KR}(h:Φ true O):cR Z ρ O [] Φ:=fun pins s σ H Q I q=>Th pins s σ H Q I (q.2 true H O h q.1.refl)
theorem UF{Φ:KR}{c:Expr}(h:WT Z ρ O c Φ):cR Z ρ O [c] Φ:=Ti h
theorem aa{K:a9}{H:Hp}{σ:St}(r:Rl K O H σ ρ):Rl K O H (HU nc σ cap) (HV nc ρ cap):=by
 refine⟨by simp[Bu,HV],fun i t e=>?_⟩
 unfold HV at e
 have hi:nc.length≤i:=by
  by_cases hi:i<nc.length
  ·rw[ic (by simpa using hi),jL] at e
   split at e<;>cases e
  ·omega
 rw[gN (by simpa using hi),fq] at e
 simp only[jD] at e
 cases hc:cap[i-nc.length]? with
 |none=>rw[hc] at e;cases e
 |some q=>
  rw[hc] at e
  have e:(ρ[q.2]?).join=some t:=gZ.inj e
  have e':ρ[q.2]?=some (some t):=by
   cases h:ρ[q.2]? with
   |none=>rw[h] at e;cases e
   |some w=>rw[h] at e;exact congrArg some e
  obtain⟨v,h1,h2⟩:=r.2 q.2 t e'
  refine⟨v,?_,h2⟩
  show(gK nc.length (none:Option V)++Bu σ cap)[i]?=some (some v)
  rw[gN (by simpa using hi)]
  simp only[jD]
  unfold Bu
  rw[fq,hc]
  show some (σ[q.2]?).join=_
  rw[h1]
  rfl
theorem Iw{X X':Cx}{Oe:AH}{He:Hp}{Xi Xi':Value→AH→Prop}{σ:St}{H:Hp}(hK:X'.K=X.K)(a:Asr ⟨X,Oe,He,Xi⟩ ρ O σ H):Asr ⟨X',Oe,He,Xi'⟩ ρ O σ H:=by
 obtain⟨r,f⟩:=a
 refine⟨?_,?_⟩
 ·show Rl X'.K O H σ ρ
  rw[hK];exact r
 ·show Frm X'.K Oe He O H
  rw[hK];exact f
noncomputable def gA(Z:Zx)(csc:Scope)(nc:List Str)(cap:List (Str×Nat))(tg:Expr):TG:=fun v σ H Q=>∃Oe He ρ O t ρ',(∀X',LcCx Z.X csc (Ah nc cap) X'→WG (zc X' Oe He) nc.length ρ O tg t ρ')∧tG (zc Z.X Oe He) nc.length ρ O t ρ' v σ H Q
noncomputable def dc(Z:Zx)(csc:Scope)(nc:List Str)(cap:List (Str×Nat))(ifs:List Expr):TT:=fun σ H Q=>∃Oe He ρ O Φ,(∀X',LcCx Z.X csc (Ah nc cap) X'→cR (zc X' Oe He) ρ O ifs Φ)∧ZR (zc Z.X Oe He) ρ O Φ σ H Q
noncomputable def eA(Z:Zx)(csc:Scope)(nc:List Str)(cap:List (Str×Nat))(e:Expr):TE:=fun σ H Q=>∃Oe He ρ O Φ,(∀X',LcCx Z.X csc (Ah nc cap) X'→WE (zc X' Oe He) ρ O e Φ)∧tW (zc Z.X Oe He) ρ O Φ σ H Q
theorem Xu{X X':Cx}{N':List Str}(h:LcCx X csc N' X'):X'.K=X.K:=by
 obtain⟨_,_,_,_,rfl⟩:=h
 rfl
theorem UG:∀X',LcCx Z.X csc (Ah nc cap) X'→PG X' tg (gA Z csc nc cap tg):=by
 rintro X' is pins s σ H v u Q I r ⟨Oe,He,ρ,O,t,ρ',w,a,rp,k⟩
 refine w X' is pins s σ H v u Q I r ⟨Iw (Xu is) a,?_,fun σ' a' h=>k σ' (Iw (Xu is).symm a') h⟩
 show Rep X'.K O H v t
 rw[Xu is];exact rp
theorem NS:∀X',LcCx Z.X csc (Ah nc cap) X'→XN X' ifs (dc Z csc nc cap ifs):=by
 rintro X' is pins s σ H Q I ⟨Oe,He,ρ,O,Φ,w,a,k⟩
 refine w X' is pins s σ H Q I ⟨Iw (Xu is) a,?_⟩
 intro b H' O' p f
 refine k b H' O' p ?_
 have f:Frm X'.K O H O' H':=f
 rw[Xu is] at f;exact f
theorem UH:∀X',LcCx Z.X csc (Ah nc cap) X'→PE X' elt (eA Z csc nc cap elt):=by
 rintro X' is pins s σ H Q I ⟨Oe,He,ρ,O,Φ,w,a,k⟩
 refine w X' is pins s σ H Q I ⟨Iw (Xu is) a,?_⟩
 intro v H' t O' p f r
 have f:Frm X'.K O H O' H':=f
 have r:Rep X'.K O' H' v t:=r
 rw[Xu is] at f r
 exact k v H' t O' p f r
noncomputable def Sw(Z:Zx)(ρ:List (Option T))(elt tg:Expr)(ifs:List Expr)(csc:Scope)(nc:List Str)(cap:List (Str×Nat))(F:List T→AH→Prop)(ts:List T)(O1:AH):Prop:=
 ∃I:Nat→List T→AH→Prop,I 0 [] O1∧(∀i t acc O' p,ts[i]?=some t→I i acc O'→O' p=none→∃ρ4,∀X' Oe He,LcCx Z.X csc (Ah nc cap) X'→WG (zc X' Oe He) nc.length (HV nc ρ cap) (Ad O' p acc) tg t ρ4∧
   cR (zc X' Oe He) ρ4 (Ad O' p acc) ifs fun b O2=>if b=true then∀X' Oe He,LcCx Z.X csc (Ah nc cap) X'→WE (zc X' Oe He) ρ4 O2 elt fun y O3=>∃O4,O3=Ad O4 p acc∧O4 p=none∧acc.length<sizeLine∧I (i+1) (acc++[y]) O4
    else∃O4,O2=Ad O4 p acc∧O4 p=none∧I (i+1) acc O4)∧∀acc O',I ts.length acc O'→F acc O'
theorem MB{F:List T→AH→Prop}{σ:St}{H:Hp}{Q:VK}(a:Asr Z ρ O σ H)(h:WI Z ρ O tg iter (Sw Z ρ elt tg ifs csc nc cap F))
  (fin:∀acc O' p H',F acc O'→O' p=none→Frm Z.K O H (Ad O' p acc) H'→(∀b us,O b=some us→b≠p)→Q (.ref p) H'):
  cP (fun σ H R=>Asr Z ρ O σ H∧∀J H' ts O',Sw Z ρ elt tg ifs csc nc cap F ts O'→Frm Z.K O H O' H'→Oo Z.K J O' H' ts→R J H') nc cap (gA Z csc nc cap tg) (dc Z csc nc cap ifs) (eA Z csc nc cap elt) σ H Q:=by
 refine⟨a,?_⟩
 rintro J H1 ts O1 ⟨I,i0,step,done⟩ f1 it p hp
 have np:O1 p=none:=f1.ok.none_of hp
 have nb:∀b us,O1 b=some us→b≠p:=fun b us e z=>by rw[z,np] at e;cases e
 have fn:=Frm.newO (ts:=[]) (xs:=[]) f1.ok hp .nil
 refine⟨fun i m H2=>m=ts.length-i∧i≤ts.length∧∃acc O',I i acc O'∧O' p=none∧Frm Z.K O1 H1 (Ad O' p acc) H2,⟨ts.length,by simp,ip _,[],O1,i0,np,fn⟩,?_⟩
 rintro i m H2 ⟨rfl,hi,acc,O2,i2,n2,f2⟩
 obtain⟨g1,g2,g3⟩:=it _ H2 f2.kp f2.ok
 by_cases hlt:i<ts.length
 ·refine .inr ⟨g1 i hlt,fun H'=>∃acc O',I (i+1) acc O'∧O' p=none∧Frm Z.K O1 H1 (Ad O' p acc) H',fun H' w=> ⟨_,by omega,rfl,by omega,w⟩,fun x H3 y=>?_⟩
  obtain⟨f3,r3⟩:=g2 i x H3 y ts[i] (by simp[hlt])
  obtain⟨ρ4,st⟩:=step i ts[i] acc O2 p (by simp[hlt]) i2 n2
  have a3:Asr (zc Z.X (Ad O2 p acc) H3) (HV nc ρ cap) (Ad O2 p acc) (HU nc σ cap) H3:=⟨aa ((a.rl.kp f1.kp a.ok).kp (f2.kp.trans f3.kp) f1.ok),.refl f3.ok⟩
  refine⟨Ad O2 p acc,H3,HV nc ρ cap,Ad O2 p acc,ts[i],ρ4,fun X' is=> (st X' _ _ is).1,a3,r3,fun σ4 a4 hag=> ⟨?_,?_⟩⟩
  ·refine⟨σ4.take nc.length,?_,?_⟩
   ·rw[gX,hag.1]
    simp
   ·have e1:σ4.drop nc.length=Bu σ cap:=by
     apply jA
     intro m
     rw[jI,hag.2 _ (by omega)]
     show(gK nc.length (none:Option V)++Bu σ cap)[nc.length+m]?=_
     rw[gN (by simp)]
     simp
    rw[←e1,jC]
  ·refine⟨Ad O2 p acc,H3,ρ4,Ad O2 p acc,_,fun X' is=> (st X' _ _ is).2,a4,?_⟩
   intro b H5 O5 q5 f5
   cases b with
   |false=>
    rw[if_neg c9] at q5 ⊢
    obtain⟨O4,rfl,n4,i4⟩:=q5
    exact⟨acc,O4,i4,n4,f2.trans (f3.trans f5)⟩
   |true=>
    rw[if_pos rfl] at q5 ⊢
    refine⟨Ad O2 p acc,H3,ρ4,O5,_,fun X' is=>q5 X' _ _ is,a4.step f5,?_⟩
    rintro y H6 t6 O6 ⟨O4,rfl,n4,hlen,i4⟩ f6 r6
    obtain⟨ys,hys,rys⟩:=f6.ok p acc AF
    refine⟨ys,hys,by rw[rys.length];exact hlen,acc++[t6],O4,i4,n4,?_⟩
    have fp:=Frm.put (a:=p) f6.ok AF (rys.append (.one r6))
    rw[BO] at fp
    exact f2.trans (f3.trans (f5.trans (f6.trans fp)))
 ·have:i=ts.length:=by omega
  subst this
  refine .inl ⟨g3 _ (fv _),fin acc O2 p H2 (done acc O2 i2) n2 (f1.trans f2) fun b us e=>?_⟩
  obtain⟨us',e'⟩:=f1.own b us e
  exact nb b us' e'
theorem Vn{σ:St}{H:Hp}{Q:VK}(h:WI Z ρ O tg iter (Sw Z ρ elt tg ifs csc nc cap fun acc O'=>Φ (.lst acc) O'))(q:tW Z ρ O Φ σ H Q):
  cP (fun σ H R=>Asr Z ρ O σ H∧∀J H' ts O',Sw Z ρ elt tg ifs csc nc cap (fun acc O'=>Φ (.lst acc) O') ts O'→Frm Z.K O H O' H'→Oo Z.K J O' H' ts→R J H') nc cap (gA Z csc nc cap tg) (dc Z csc nc cap ifs) (eA Z csc nc cap elt) σ H Q:=by
 refine MB q.1 h fun acc O' p H' p1 n f nb=>q.2 _ H' _ O' p1 ?_ ?_
 ·have e:=Am (ts:=acc) n
  refine⟨fun b o e1 e2=>?_,fun b us e1=>?_,?_⟩
  ·have:=f.kp.trans (Dc (a:=p)) b o e1 e2
   rw[e] at this;exact this
  ·obtain⟨us',e2⟩:=f.own b us e1
   rw[Aa (nb b us e1)] at e2
   exact⟨us',e2⟩
  ·have:=f.ok.drop (a:=p)
   rw[e] at this;exact this
 ·have:=f.ok.rep (a:=p) AF
  rw[Am n] at this
  exact this
theorem Vo(hc:Z.X.calm=true)(ok:LcOk Z.X csc nc cap)(h:WI Z ρ O tg iter (Sw Z ρ elt tg ifs csc nc cap fun acc O'=>Φ (.lst acc) O'))
  (hs:∀x,ja iter Z.X.env x=pure x:=by intro _;rfl):WE Z ρ O (.ListComp elt [⟨tg,iter,ifs,0⟩] csc pos) Φ:=
 PE.weak (Vf hc ok h UG NS UH hs) fun σ H Q q=>Vn h q
theorem EV{i:Nat}{x:Str}{px spos:Pos}{Ψ:Es}(hsw:nJ (.ListComp elt [⟨tg,iter,ifs,0⟩] csc pos) (some (.Name x px)) spos.line Z.X.env=pure true)(hN:Z.X.N.Nodup)(hc:Z.X.calm=true)(ok:LcOk Z.X csc nc cap)
  (h:WI Z ρ O tg iter (Sw Z ρ elt tg ifs csc nc cap fun acc O'=>Ψ.nx (ρ.set i (some (.lst acc))) O')) (hx:Z.X.N[i]?=some x:=by rfl) (hk:Z.X.env.scope.names.lookup x=some .local:=by rfl)
  (hs:∀x,ja iter Z.X.env x=pure x:=by intro _;rfl):WS Z ρ O (.Assign [.Name x px] (.ListComp elt [⟨tg,iter,ifs,0⟩] csc pos) spos) Ψ:=
 PS.weak (Jv hN hx hk hsw hc ok h UG NS UH hs) fun D σ H q=>Vn (Φ:=fun t O'=>Ψ.nx (ρ.set i (some t)) O') h ⟨q.1,fun v H' t O' p f r=>q.2.nx _ O' _ H' p ⟨(q.1.step f).rl.set r,(q.1.step f).fr⟩ f.kp⟩
end
noncomputable def de:T→String
 | .non=> "NoneType" | .bl _=> "bool" | .int _=> "int" | .str _=> "str" | .tup _=> "tuple" | .lst _=> "list" | .frz _=> "list" | .dct=> "dict" | .raw _=> "object"
noncomputable def Aj:T→Bool
 | .raw _=>true
 |_=>false
noncomputable def ae:T→Bool
 | .int _=>true
 | .bl _=>true
 |_=>false
noncomputable def Xv:T→Bool
 | .bl _=>true
 |_=>false
noncomputable def Qp(K:a9)(c:String)(g:T→Bool):Prop:=∀t,Aj t=false→gz K (.type (de t)) (.type c)=some (g t)
section
variable{K:a9}{O:AH}{H:Hp}{v:V}{t:T}
theorem Rep.ty(r:Rep K O H v t)(hp:Aj t=false):TyOf K H v (.type (de t)):=by
 cases r with
 |non=>exact .non
 |bl b=>exact .bl b
 |int i=>exact .int i
 |str i=>exact .str i
 |tup h=>exact .tup h
 |lst h=>exact .lst h
 |frz h=>exact .frz h
 |dct h=>exact .dK h
 |raw v=>cases hp
theorem fO(K:a9):gz K (.type "NoneType") (.type "int")=some false:=by kernel_rfl
theorem fP(K:a9):gz K (.type "bool") (.type "int")=some true:=by kernel_rfl
theorem fQ(K:a9):gz K (.type "int") (.type "int")=some true:=by rfl
theorem fS(K:a9):gz K (.type "str") (.type "int")=some false:=by kernel_rfl
theorem fT(K:a9):gz K (.type "tuple") (.type "int")=some false:=by kernel_rfl
theorem eP(K:a9):gz K (.type "list") (.type "int")=some false:=by kernel_rfl
theorem fU(K:a9):gz K (.type "dict") (.type "int")=some false:=by kernel_rfl
theorem UI:Qp K "int" ae:=fun t h=>by
 cases t with
 |non=>exact fO K
 |bl b=>exact fP K
 |int i=>exact fQ K
 |str i=>exact fS K
 |tup i=>exact fT K
 |lst i=>exact eP K
 |frz i=>exact eP K
 |dct=>exact fU K
 |raw v=>cases h
theorem fV(K:a9):gz K (.type "NoneType") (.type "bool")=some false:=by kernel_rfl
theorem fW(K:a9):gz K (.type "bool") (.type "bool")=some true:=by rfl
theorem fX(K:a9):gz K (.type "int") (.type "bool")=some false:=by kernel_rfl
theorem fY(K:a9):gz K (.type "str") (.type "bool")=some false:=by kernel_rfl
theorem fZ(K:a9):gz K (.type "tuple") (.type "bool")=some false:=by kernel_rfl
theorem eQ(K:a9):gz K (.type "list") (.type "bool")=some false:=by kernel_rfl
theorem fb(K:a9):gz K (.type "dict") (.type "bool")=some false:=by kernel_rfl
theorem Qq:Qp K "bool" Xv:=fun t h=>by
 cases t with
 |non=>exact fV K
 |bl b=>exact fW K
 |int i=>exact fX K
 |str i=>exact fY K
 |tup i=>exact fZ K
 |lst i=>exact eQ K
 |frz i=>exact eQ K
 |dct=>exact fb K
 |raw v=>cases h
theorem Xw{c:String}{g:T→Bool}(hk:Qp K c g)(hp:Aj t=false):CP K (aH K) [t,.raw (.ty c)] O (.bl (g t)):=fun Φ p H vs Q ok r q=>by
 obtain⟨v,w,rfl,r1,r2⟩:=r.two_inv
 cases r2.raw_inv
 exact⟨v,.ty c,.type (de t),.type c,g t,rfl,rfl,.inl (r1.ty hp),hk t hp,q _ H _ O p (.refl ok) (.bl _)⟩
theorem af:ig "int" =some (.type "int"):=by decide+kernel
theorem ag:ig "bool" =some (.type "bool"):=by decide+kernel
theorem Xx:ig "tuple" =some (.type "tuple"):=by decide+kernel
theorem ah:ig "list" =some (.type "list"):=by decide+kernel
theorem df:ig "set" =some (.type "set"):=by decide+kernel
theorem HW:ig "isinstance" =some (.builtin "isinstance"):=by decide+kernel
theorem ai:ig "max" =some (.builtin "max"):=by decide+kernel
theorem Xy:ig "min" =some (.builtin "min"):=by decide+kernel
theorem Xz:ig "len" =some (.builtin "len"):=by decide+kernel
theorem Iy:ig "sorted" =some (.builtin "sorted"):=by decide+kernel
end
section
variable{Z:Zx}{ρ:List (Option T)}{O:AH}{e a b c:Expr}{es:List Expr}{Φ:BU}{pos p:Pos}{t ta tb:T}{ts us:List T}{i j:Int}{x:Str}{lo hi:Expr}
theorem YA{cn:String}{g:T→Bool}(mI:Z.X.mg "isinstance" =none)(mC:Z.X.mg x=none)(bC:ig x=some (.type cn))(hk:Qp Z.K cn g)(h:ET Z ρ O e t)(hp:Aj t=false){p1:Pos}(hgi:Gl Z.X "isinstance":=by rfl)(hgc:Gl Z.X x:=by rfl)
  (hn:x≠"__name__":=by decide) (hd:(x==("__debug__" :Str))=false:=by decide)
  (he:fj [e,.Name x p1] Z.X.env=(false,eval e Z.X.env)::fj [.Name x p1] Z.X.env:=by rfl):ET Z ρ O (.Call (.Name "isinstance" p) [e,.Name x p1] [] pos) (.bl (g t)):=
 BE BD mI HW (AN h (AN (aR mC bC hgc hn hd) AC) he) (Xw hk hp) hgi (by decide) (by decide) he
theorem Qr{cn:String}{g:T→Bool}(mI:Z.X.mg "isinstance" =none)(mC:Z.X.mg x=none)(bC:ig x=some (.type cn))(hk:Qp Z.K cn g)(h:ET Z ρ O e t)(hp:Aj t=false){p1:Pos}(hgi:Gl Z.X "isinstance":=by rfl)(hgc:Gl Z.X x:=by rfl)
  (hn:x≠"__name__":=by decide) (hd:(x==("__debug__" :Str))=false:=by decide)
  (he:fj [e,.Name x p1] Z.X.env=(false,eval e Z.X.env)::fj [.Name x p1] Z.X.env:=by rfl):EB Z ρ O (.Call (.Name "isinstance" p) [e,.Name x p1] [] pos) (g t):=
 NN (YA mI mC bC hk h hp hgi hgc hn hd he)
theorem UJ(m:Z.X.mg "len" =none)(h:ET Z ρ O e (.tup ts))(hg:Gl Z.X "len":=by rfl)(he:fj [e] Z.X.env=(false,eval e Z.X.env)::fj [] Z.X.env:=by rfl):ET Z ρ O (.Call (.Name "len" p) [e] [] pos) (.int ts.length):=
 BE Cd m Xz (AN h AC he) (fun Φ q H vs Q ok r k=>by
  obtain⟨v,rfl,r1⟩:=r.one_inv
  obtain⟨a,xs,rfl,h1,r1⟩:=r1.tup_inv
  refine⟨a,xs,rfl,.inr (.inl (.inl h1)),?_⟩
  rw[r1.length]
  exact k _ H _ O q (.refl ok) (.int _)) hg (by decide) (by decide) he
theorem Iz(m:Z.X.mg "len" =none)(h:ET Z ρ O e (.lst ts))(hg:Gl Z.X "len":=by rfl)(he:fj [e] Z.X.env=(false,eval e Z.X.env)::fj [] Z.X.env:=by rfl):ET Z ρ O (.Call (.Name "len" p) [e] [] pos) (.int ts.length):=
 BE Cd m Xz (AN h AC he) (fun Φ q H vs Q ok r k=>by
  obtain⟨v,rfl,r1⟩:=r.one_inv
  obtain⟨a,xs,rfl,h1,_,r1⟩:=r1.lst_inv
  refine⟨a,xs,rfl,.inl (.inl (.inl h1)),?_⟩
  rw[r1.length]
  exact k _ H _ O q (.refl ok) (.int _)) hg (by decide) (by decide) he
theorem NT(m:Z.X.mg "min" =none)(hc:Z.X.calm=true)(h:ET Z ρ O a (.int i))(h2:ET Z ρ O b (.int j))(hg:Gl Z.X "min":=by rfl)(he:fj [a,b] Z.X.env=(false,eval a Z.X.env)::fj [b] Z.X.env:=by rfl)(he2:fj [b] Z.X.env=(false,eval b Z.X.env)::fj [] Z.X.env:=by rfl)(hpl:(jS pos (fj [b] Z.X.env)).any (·.1)=false:=by rfl):ET Z ρ O (.Call (.Name "min" p) [a,b] [] pos) (.int (min i j)):=
 BE (OL hc) m Xy (AN h (AN h2 AC he2) he) (fun Φ q H vs Q ok r k=>by
  obtain⟨v,w,rfl,r1,r2⟩:=r.two_inv
  cases r1.int_inv;cases r2.int_inv
  refine⟨i,j,rfl,?_⟩
  have:(if j<i then j else i)=min i j:=by split<;>omega
  rw[this]
  exact k _ H _ O q (.refl ok) (.int _)) hg (by decide) (by decide) he hpl
theorem JA(m:Z.X.mg "max" =none)(hc:Z.X.calm=true)(h:ET Z ρ O a (.int i))(h2:ET Z ρ O b (.int j))(hg:Gl Z.X "max":=by rfl)(he:fj [a,b] Z.X.env=(false,eval a Z.X.env)::fj [b] Z.X.env:=by rfl)(he2:fj [b] Z.X.env=(false,eval b Z.X.env)::fj [] Z.X.env:=by rfl)(hpl:(jS pos (fj [b] Z.X.env)).any (·.1)=false:=by rfl):ET Z ρ O (.Call (.Name "max" p) [a,b] [] pos) (.int (max i j)):=
 BE (OK hc) m ai (AN h (AN h2 AC he2) he) (fun Φ q H vs Q ok r k=>by
  obtain⟨v,w,rfl,r1,r2⟩:=r.two_inv
  cases r1.int_inv;cases r2.int_inv
  refine⟨i,j,rfl,?_⟩
  have:(if j>i then j else i)=max i j:=by split<;>omega
  rw[this]
  exact k _ H _ O q (.refl ok) (.int _)) hg (by decide) (by decide) he hpl
theorem UK{k:Bool}(m:Z.X.mg "int" =none)(h:ET Z ρ O e (.bl k))(hg:Gl Z.X "int":=by rfl)(he:fj [e] Z.X.env=(false,eval e Z.X.env)::fj [] Z.X.env:=by rfl):ET Z ρ O (.Call (.Name "int" p) [e] [] pos) (.int (if k then 1 else 0)):=
 On OM m af (AN h AC he) (fun Φ q H vs Q ok r k=>by
  obtain⟨v,rfl,r1⟩:=r.one_inv
  cases r1.bl_inv
  exact .inr ⟨_,rfl,k _ H _ O q (.refl ok) (.int _)⟩) hg (by decide) (by decide) he
theorem GX(m:Z.X.mg "tuple" =none)(h:WE Z ρ O e fun t O'=>∃ts,t=.lst ts∧Φ (.tup ts) O')(hg:Gl Z.X "tuple":=by rfl)(he:fj [e] Z.X.env=(false,eval e Z.X.env)::fj [] Z.X.env:=by rfl):WE Z ρ O (.Call (.Name "tuple" p) [e] [] pos) Φ:=
 FB KP m Xx (Bw (Dd h (by
  rintro t O' ⟨ts,rfl,q⟩
  refine BB fun H vs Q ok r k=>?_
  obtain⟨v,rfl,r1⟩:=r.one_inv
  obtain⟨a,xs,rfl,h1,_,r1⟩:=r1.lst_inv
  exact⟨a,xs,rfl,.inl (.inl h1),fun p hp=>k _ _ _ O' q (.new ok hp) (.tup AM (r1.kp (BP ok hp) ok))⟩)) he) hg (by decide) (by decide) he
theorem Qs(m:Z.X.mg "tuple" =none)(h:ET Z ρ O e (.lst ts))(hg:Gl Z.X "tuple":=by rfl)(he:fj [e] Z.X.env=(false,eval e Z.X.env)::fj [] Z.X.env:=by rfl):ET Z ρ O (.Call (.Name "tuple" p) [e] [] pos) (.tup ts):=fun Φ q=>GX m (h _ ⟨ts,rfl,q⟩) hg he
end
noncomputable def Ou(ts:List T)(lo hi:Option Int):List T:=(ts.drop (HT.BK ts.length 0 lo)).take (HT.BK ts.length ts.length hi-HT.BK ts.length 0 lo)
section
variable{K:a9}{O:AH}{H:Hp}
theorem Reps.cut{vs:List V}{ts:List T}{lo hi:Option Int}(r:Reps K O H vs ts):Reps K O H (Eo vs lo hi) (Ou ts lo hi):=by
 unfold Eo Ou
 rw[r.length]
 exact(r.drop _).take _
end
section
variable{Z:Zx}{ρ:List (Option T)}{O:AH}{e a b c:Expr}{es:List Expr}{Φ:BU}{pos p p2:Pos}{t ta tb:T}{ts us:List T}{i j:Int}{x:Str}{lo hi:Expr}
theorem UL{H1 H:Hp}{Q:VK}{o1 o2:Option Int}{v:V}(k:Acc Z.K O H (fun t O'=>Φ t O') Q)(f:Frm Z.K O H O H1)(r:Rep Z.K O H1 v (.tup ts))(p:Φ (.tup (Ou ts o1 o2)) O):aO Z.K v o1 o2 H1 Q:=by
 obtain⟨a,xs,rfl,h1,r1⟩:=r.tup_inv
 refine⟨a,xs,rfl,.inl (.inl h1),fun q H' hq=>?_⟩
 rcases hq with⟨rfl,rfl,e⟩| ⟨hq,rfl⟩
 ·have rc:=r1.cut (lo:=o1) (hi:=o2)
  rw[e] at rc
  exact k _ _ _ O p f (.tup h1 rc)
 ·exact k _ _ _ O p (f.trans (.new f.ok hq)) (.tup AM ((r1.cut).kp (BP f.ok hq) f.ok))
theorem YB(h:ET Z ρ O e (.tup ts))(hl:ET Z ρ O hi (.int i)):ET Z ρ O (.Subscript e (.Slice none (some hi) none p2) pos) (.tup (Ou ts none (some i))):=fun Φ q=>by
 refine PE.weak (Jr UA (BV (ρ:=ρ)) TX (IV (BV (ρ:=ρ)))) fun σ H Q k=>?_
 refine⟨O,_,h (fun t O'=>t=.tup ts∧O'=O) ⟨rfl,rfl⟩,k.1,?_⟩
 rintro v H1 _ _ ⟨rfl,rfl⟩ f1 r1
 refine⟨_,_,hl (fun t O'=>t=.int i∧O'=_) ⟨rfl,rfl⟩,k.1.step f1,?_⟩
 rintro w H2 _ _ ⟨rfl,rfl⟩ f2 r2
 exact⟨i,r2.int_inv,UL k.2 (f1.trans f2) (r1.kp f2.kp f1.ok) q⟩
theorem UM(ha:ET Z ρ O a (.tup ts))(hb:ET Z ρ O b (.tup us))(hl:ts.length+us.length≤sizeLine):ET Z ρ O (.BinOp a .Add b pos) (.tup (ts++us)):=DO UB (fun Φ p H v w Q ok r1 r2 q=>by
 obtain⟨a,xs,rfl,h1,g1⟩:=r1.tup_inv
 obtain⟨b,ys,rfl,h2,g2⟩:=r2.tup_inv
 clear r1 r2
 refine⟨a,b,xs,ys,rfl,rfl,.inl (.inl h1),.inl (.inl h2),by rw[g1.length,g2.length];exact hl,fun l H' hq=>?_⟩
 rcases hq with⟨rfl,rfl,rfl⟩| ⟨rfl,rfl,rfl⟩| ⟨hq,rfl⟩
 ·have:us=[]:=mH.mp g2.length.symm
  subst this
  rw[i8] at p
  exact q _ _ _ O p (.refl ok) (.tup h1 g1)
 ·have:ts=[]:=mH.mp g1.length.symm
  subst this
  exact q _ _ _ O p (.refl ok) (.tup h2 g2)
 ·exact q _ _ _ O p (.new ok hq) (.tup AM ((g1.append g2).kp (BP ok hq) ok))) ha hb
theorem NU(hl:ts.length+us.length≤sizeLine){K:a9}:RP K aA (.lst ts) (.lst us) O (.lst (ts++us)):=fun Φ p H v w Q ok r1 r2 q=>by
 obtain⟨a,xs,rfl,h1,_,r1⟩:=r1.lst_inv
 obtain⟨b,ys,rfl,h2,_,r2⟩:=r2.lst_inv
 exact⟨a,b,xs,ys,rfl,rfl,h1,h2,by rw[r1.length,r2.length];exact hl,fun l hq=>q _ _ _ O p (.new ok hq) (.lst AM (ok.none_of hq) ((r1.append r2).kp (BP ok hq) ok))⟩
theorem Fh(ha:ET Z ρ O a (.lst ts))(hb:ET Z ρ O b (.lst us))(hl:ts.length+us.length≤sizeLine):ET Z ρ O (.BinOp a .Add b pos) (.lst (ts++us)):=DO LX (NU hl) ha hb
end
noncomputable def Ab(p:Int×Int):T:=.tup [.int p.1,.int p.2]
noncomputable def Ji(p q:Int×Int):Prop:=p.1<q.1∨(p.1=q.1∧p.2<q.2)
section
variable{K:a9}{O:AH}{H:Hp}
theorem GY:∀{ps:List (Int×Int)} {xs:List V},Reps K O H xs (ps.map Ab)→∃qs:List (List Int×Addr),xs=qs.map (fun p=>V.ref p.2)∧qs.map (·.1)=ps.map (fun p=> [p.1,p.2])∧∀k x,(k,x)∈qs→H x=some (.tup (k.map V.int))
 | [],xs,r=> ⟨[],r.nil_inv,rfl,fun _ _ h=>by cases h⟩
 |p::ps,xs,r=>by
  obtain⟨v,vs',rfl,h,r'⟩:=Reps.cons_inv r
  obtain⟨a,ys,rfl,ha,r2⟩:=h.tup_inv
  cases Reps.ints (ns:=[p.1,p.2]) r2
  obtain⟨qs,rfl,e,hk⟩:=GY r'
  refine⟨([p.1,p.2],a)::qs,rfl,by rw[gH,gH,e],fun k x h=>?_⟩
  rcases fu.mp h with h|h
  ·cases h;exact ha
  ·exact hk k x h
theorem GZ:∀{qs:List (List Int×Addr)} {ps:List (Int×Int)},qs.map (·.1)=ps.map (fun p=> [p.1,p.2])→(∀k x,(k,x)∈qs→H x=some (.tup (k.map V.int)))→Reps K O H (qs.map fun p=>V.ref p.2) (ps.map Ab)
 | [],[],_,_=> .nil
 | [],p::ps,e,_=>by cases e
 |q::qs,[],e,_=>by cases e
 | (k,x)::qs,p::ps,e,h=>by
  rw[gH,gH] at e
  injection e with e1 e2
  have e1:k=[p.1,p.2]:=e1
  have hx:=h k x (gC ..)
  rw[e1] at hx
  exact .cons (.tup hx (.cons (.int _) (.cons (.int _) .nil))) (GZ e2 fun k x hk=>h k x (fk _ hk))
end
theorem NV:∀{ys:List (List Int×Addr)},(∀k x,(k,x)∈ys→∃i j:Int,k=[i,j])→∃ps:List (Int×Int),ys.map (·.1)=ps.map (fun p=> [p.1,p.2])
 | [],_=> ⟨[],rfl⟩
 | (k,x)::ys,h=>by
  obtain⟨i,j,e⟩:=h k x (gC ..)
  obtain⟨ps,e2⟩:=NV fun k x hk=>h k x (fk _ hk)
  exact⟨(i,j)::ps,by rw[gH,gH,e,e2]⟩
section
variable{Z:Zx}{ρ:List (Option T)}{O:AH}{e:Expr}{Φ:BU}{pos p p1 pos1:Pos}
theorem EX{ps:List (Int×Int)}(m:Z.X.mg "sorted" =none)(m2:Z.X.mg "set" =none)(hc:Z.X.calm=true)(hu:Z.X.A.units+8<cLine)(h:ET Z ρ O e (.lst (ps.map Ab)))(hl:ps.length≤300)(hb:∀q∈ps,0≤q.2∧q.2<65536)
  (k:∀qs:List (Int×Int),qs.Pairwise Ji→(∀q,q∈qs↔q∈ps)→qs.length≤ps.length→Φ (.lst (qs.map Ab)) O) (hg:Gl Z.X "sorted":=by rfl) (hg2:Gl Z.X "set":=by rfl) (he:fj [e] Z.X.env=(false,eval e Z.X.env)::fj [] Z.X.env:=by rfl)
  (he2:fj [Expr.Call (.Name "set" p1) [e] [] pos1] Z.X.env=(false,eval (.Call (.Name "set" p1) [e] [] pos1) Z.X.env)::fj [] Z.X.env:=by rfl):WE Z ρ O (.Call (.Name "sorted" p) [.Call (.Name "set" p1) [e] [] pos1] [] pos) Φ:=by
 refine PE.weak (Ap (Ik hc) hg m Iy (AI (Hi (Oh hc hu) hg2 m2 df (Io (ρ:=ρ)) (by decide) (by decide) he) Ar he2) (by decide) (by decide) he2) fun σ H Q q=>?_
 refine⟨O,_,AN h AC he (fun ts O'=>ts=[.lst (ps.map Ab)]∧O'=O) ⟨rfl,rfl⟩,q.1,?_⟩
 rintro vs H1 _ _ ⟨rfl,rfl⟩ f r
 obtain⟨v,rfl,r1⟩:=r.one_inv
 obtain⟨a,xs,rfl,h1,_,r1⟩:=r1.lst_inv
 obtain⟨qs,rfl,eq,hk⟩:=GY r1
 have lq:qs.length=ps.length:=by
  have:=congrArg List.length eq
  simpa using this
 refine⟨a,qs,rfl,.inl (.inl h1),fun k x hx=> .inl (.inl (hk k x hx)),by omega,fun l xs hl1 so nd=>?_⟩
 obtain⟨s1,s2,s3⟩:=so
 have f1:=Frm.new (o:=SetO Z.X.prog Z.X.w l xs) f.ok hl1
 have hk2:∀k x,(k,x)∈xs→upd H1 l (SetO Z.X.prog Z.X.w l xs) x=some (.tup (k.map V.int)):=fun k x hx=>by
  have:=hk k x (s1 _ hx)
  rw[AL (AQ this hl1)];exact this
 have mem1:∀k x,(k,x)∈qs→∃q∈ps,k=[q.1,q.2]:=fun k x hx=>by
  have:k∈qs.map (·.1):=gc.mpr ⟨(k,x),hx,rfl⟩
  rw[eq] at this
  obtain⟨q,h1,h2⟩:=gc.mp this
  exact⟨q,h1,h2.symm⟩
 have two:∀k x,(k,x)∈xs→∃i j,k=[i,j]∧0≤j∧j<65536:=fun k x hx=>by
  obtain⟨q,h1,h2⟩:=mem1 k x (s1 _ hx)
  exact⟨q.1,q.2,h2,hb q h1⟩
 refine⟨l,xs,rfl,AM,fun k x hx=> .inl (.inl (hk2 k x hx)),by omega,two,fun d ys hd pm pw=>?_⟩
 obtain⟨rs,er⟩:=NV (ys:=ys) fun k x hx=>by
  obtain⟨i,j,e,_⟩:=two k x (pm.mem_iff.mp hx)
  exact⟨i,j,e⟩
 have f2:=Frm.new (o:=.lst (ys.map fun p=>V.ref p.2)) f1.ok hd
 have hk3:∀k x,(k,x)∈ys→upd (upd H1 l (SetO Z.X.prog Z.X.w l xs)) d (.lst (ys.map fun p=>V.ref p.2)) x=some (.tup (k.map V.int)):=fun k x hx=>by
  have:=hk2 k x (pm.mem_iff.mp hx)
  rw[AL (AQ this hd)];exact this
 have memr:∀z,z∈rs↔∃x,([z.1,z.2],x)∈ys:=fun z=>by
  constructor
  ·intro hz
   have:[z.1,z.2]∈ys.map (·.1):=by rw[er];exact gc.mpr ⟨z,hz,rfl⟩
   obtain⟨⟨k,x⟩,h1,h2⟩:=gc.mp this
   have h2:k=_:=h2
   subst h2
   exact⟨x,h1⟩
  ·rintro⟨x,hx⟩
   have:[z.1,z.2]∈ys.map (·.1):=gc.mpr ⟨_,hx,rfl⟩
   rw[er] at this
   obtain⟨w,h1,h2⟩:=gc.mp this
   injection h2 with e1 e2
   injection e2 with e2 _
   have:w=z:=jd e1 e2
   rw[←this];exact h1
 have ndy:(ys.map (·.1)).Nodup:=(pm.map _).nodup_iff.mpr nd
 refine q.2 _ _ _ _ (k rs ?_ (fun z=>?_) ?_) (f.trans (f1.trans f2)) (.lst AM (f1.ok.none_of hd) (GZ er hk3))
 ·--strictly rising
  have pw':rs.Pairwise fun x y=>65536*x.1+x.2≤65536*y.1+y.2:=by
   have h3:(ys.map (·.1)).Pairwise fun x y=>65536*x.getD 0 0+x.getD 1 0≤65536*y.getD 0 0+y.getD 1 0:=iw.mpr pw
   rw[er] at h3
   exact(iw (f:=fun(p:Int×Int)=> [p.1,p.2]) (R:=fun x y=>65536*x.getD 0 0+x.getD 1 0≤65536*y.getD 0 0+y.getD 1 0)).mp h3
  have nd':rs.Pairwise fun x y=>x≠y:=by
   have h3:(ys.map (·.1)).Pairwise (·≠·):=ndy
   rw[er] at h3
   exact(iw.mp h3).imp fun hxy z=>hxy (by rw[z])
  refine(pw'.and nd').imp_of_mem fun{x y} hx hy ⟨h1,h2⟩=>?_
  have bnd:∀z,z∈rs→0≤z.2∧z.2<65536:=fun z hz=>by
   obtain⟨v,hv⟩:=(memr z).mp hz
   obtain⟨i,j,e,hj⟩:=two _ v (pm.mem_iff.mp hv)
   injection e with e1 e2
   injection e2 with e2 _
   omega
  have b1:=bnd x hx
  have b2:=bnd y hy
  unfold Ji
  have:¬(x.1=y.1∧x.2=y.2):=fun z=>h2 (jd z.1 z.2)
  omega
 ·rw[memr]
  constructor
  ·rintro⟨x,hx⟩
   obtain⟨w,h1,h2⟩:=mem1 _ x (s1 _ (pm.mem_iff.mp hx))
   injection h2 with e1 e2
   injection e2 with e2 _
   have:z=w:=jd e1 e2
   rw[this];exact h1
  ·intro hz
   have:[z.1,z.2]∈qs.map (·.1):=by rw[eq];exact gc.mpr ⟨z,hz,rfl⟩
   obtain⟨⟨k,x⟩,h1,h2⟩:=gc.mp this
   have h2:k=_:=h2
   subst h2
   obtain⟨x',hx'⟩:=s2 _ _ h1
   exact⟨x',pm.mem_iff.mpr hx'⟩
 ·have e1:rs.length=ys.length:=by
   have:=congrArg List.length er
   simpa using this.symm
  have e2:=pm.length_eq
  omega
end
theorem XFly.mono{X:Cx}{W W':St→XK}(x:XFly X W)(h:∀σ cls H',W' σ cls none H'→W σ cls none H'):XFly X W':=⟨fun pins σ H s e s' I c=>x.fly pins σ H s e s' I (by
 obtain⟨y,cls,H',e1,f,q⟩:=c
 exact⟨y,cls,H',e1,f,h σ cls H' q⟩)⟩
theorem Fj{X:Cx}{Oe:AH}{He:Hp}:XFly X (zc X Oe He).W:=⟨fun pins σ H s e s' I c=>by
 obtain⟨y,cls,H',e1,f,_,O',z,_⟩:=c
 exact z.elim⟩
noncomputable abbrev zB(P:Program)(w:World)(K:a9)(mg:Str→Option Value)(base:Heap)(N:List Str)(qual:Str)(sc:Scope)(f:Addr)(cdv:Value)(A:gx)(outer:List Env)(s:Shared)(H:Hp)(E:XK)(O:AH)(Ξ:Value→AH→Prop):Zx:=
 ⟨Bg (CXe P w) P w K mg base N qual sc f cdv A outer s H E,O,H,Ξ⟩
noncomputable def Dr(N:List Str)(ts:List T):List (Option T):=ts.map some++gK (N.length-ts.length) none
theorem Gb{K:a9}{O:AH}{H:Hp}{N:List Str}{vs:List V}{ts:List T}(r:Reps K O H vs ts):Rl K O H (start N vs) (Dr N ts):=by
 refine⟨by simp[start,Dr,r.length],fun i t e=>?_⟩
 unfold Dr at e
 by_cases hi:i<ts.length
 ·rw[ic (by simpa using hi),fq] at e
  cases ht:ts[i]? with
  |none=>rw[ht] at e;cases e
  |some u=>
   rw[ht] at e
   cases e
   obtain⟨v,h1,h2⟩:=r.get ht
   refine⟨v,?_,h2⟩
   unfold start
   rw[ic (by simpa[r.length] using hi),fq,h1]
   rfl
 ·rw[gN (by simpa using hi),jL] at e
  split at e<;>cases e
theorem AV{P:Program}{w:World}{K:a9}{mg:Str→Option Value}{base:Heap}{x qual:Str}{st:Stmt}{f:Addr}{fd:gE}{N ps:List Str}{k:Nat}{sp:Cp}(F:Fun K x qual st f fd)(S:FnScope N ps (AA st))(len:∀ts O Φ Ξ,sp ts O Φ Ξ→ts.length=ps.length)
  (h:∀(cdv:Value) (A:gx) (outer:List Env) (s:Shared) (H:Hp) (E:XK) (O:AH) (Ξ:Value→AH→Prop),Room k (A.deeper (lz qual (AA st) s.heap.objs.size f cdv))→XFly (zB P w K mg base N qual (AA st) f cdv A outer s H E O Ξ).X (zB P w K mg base N qual (AA st) f cdv A outer s H E O Ξ).W→
   ∀ts Φ,sp ts O Φ Ξ→FZ (zB P w K mg base N qual (AA st) f cdv A outer s H E O Ξ) (Dr N ts) O (Aw st) {nx:=fun _ O'=>Φ .non O',rt:=Φ}):FnOk P w K mg base (CXe P w) (k+1) f fd ps (DR K sp):=by
 refine F.okX S (fun vs H Q E h=>?_) (fun cdv A outer s H vs Q E hr h1=>?_)
 ·obtain⟨ts,O,Φ,Ξ,r,_,q,_⟩:=h
  rw[r.length];exact len ts O Φ Ξ q
 ·obtain⟨ts,O,Φ,Ξ,r,ok,q,acc,ex⟩:=h1
  refine⟨_,h cdv A outer s H E O Ξ hr (XFly.mono AY.f ?_) ts Φ q,⟨Gb r,.refl ok⟩,?_⟩
  ·rintro σ cls H' ⟨_,O',x,f⟩
   exact ex cls O' H' x f
  ·exact⟨fun ρ' O' σ' H' p a _=>acc _ _ _ O' p a.fr .non,fun v H' t O' p f r=>acc v H' t O' p f r,fun _ _ _ _ z=>z.elim,fun _ _ _ _ z=>z.elim⟩
noncomputable def Vp(S:Scope)(N:List Str)(csc:Scope)(cap:List (Str×Nat)):Bool:=
 decide (csc.kind=.function)&&csc.names.all (fun y=>decide (y.2=.cell→csc.names.lookup y.1=some .cell))&&csc.names.all (fun y=>decide (y.2=.local→csc.names.lookup y.1=some .local))&&csc.names.all (fun y=>decide (y.2=.free→S.names.lookup y.1=some .cell∨S.names.lookup y.1=some .free))&&cap.all (fun p=>decide (N[p.2]?=some p.1∧csc.names.lookup p.1=some .free))
theorem DE{X:Cx}{csc:Scope}{nc:List Str}{cap:List (Str×Nat)}(S:Scope)(N:List Str)(chk:Vp S N csc cap=true)(h1:X.env.scope=S:=by rfl)(h2:X.N=N:=by rfl):LcOk X csc nc cap:=by
 unfold Vp at chk
 simp only[iE,jm,decide_eq_true_eq] at chk
 obtain⟨⟨⟨⟨c1,c2⟩,c3⟩,c4⟩,c5⟩:=chk
 exact⟨c1,c2,c3,by rw[h1];exact c4,by rw[h2];exact c5⟩
section
variable{Z:Zx}{ρ:List (Option T)}{O:AH}{elt tg iter:Expr}{ifs:List Expr}{csc:Scope}{nc:List Str}{cap:List (Str×Nat)}{Φ:BU}{pos:Pos}{α:Type}
theorem Gc{F:List T→AH→Prop}(xs:List α)(f g:α→T)(hl:xs.length≤sizeLine)(h:∀x,x∈xs→∃ρ4,∀X' Oe He,LcCx Z.X csc (Ah nc cap) X'→∀O',(WG (zc X' Oe He) nc.length (HV nc ρ cap) O' tg (f x) ρ4∧ET (zc X' Oe He) ρ4 O' elt (g x)))(fin:F (xs.map g) O):Sw Z ρ elt tg [] csc nc cap F (xs.map f) O:=by
 refine⟨fun i acc O'=>O'=O∧acc=(xs.take i).map g,⟨rfl,by simp⟩,?_,?_⟩
 ·rintro i t acc O' p e ⟨rfl,rfl⟩ np
  rw[fq] at e
  cases ex:xs[i]? with
  |none=>rw[ex] at e;cases e
  |some x=>
   rw[ex] at e
   cases e
   obtain⟨ρ4,w⟩:=h x (fo ex)
   have hi:=(gh.mp ex).1
   refine⟨ρ4,fun X' Oe He is=> ⟨(w X' Oe He is _).1,Iv (LY fun X' Oe He is=> (w X' Oe He is _).2 _ ⟨_,rfl,np,?_,rfl,?_⟩)⟩⟩
   ·simp;omega
   ·rw[iV,ex];simp
 ·rintro acc O' ⟨rfl,rfl⟩
  rw[e8,iK]
  exact fin
theorem By{F:List T→AH→Prop}{c:Expr}(xs:List α)(f g:α→T)(q:α→Bool)(hl:xs.length≤sizeLine)(h:∀x,x∈xs→∃ρ4,∀X' Oe He,LcCx Z.X csc (Ah nc cap) X'→∀O',(WG (zc X' Oe He) nc.length (HV nc ρ cap) O' tg (f x) ρ4∧EB (zc X' Oe He) ρ4 O' c (q x)∧(q x=true→ET (zc X' Oe He) ρ4 O' elt (g x))))(fin:F ((xs.filter q).map g) O):Sw Z ρ elt tg [c] csc nc cap F (xs.map f) O:=by
 refine⟨fun i acc O'=>O'=O∧acc=((xs.take i).filter q).map g,⟨rfl,by simp⟩,?_,?_⟩
 ·rintro i t acc O' p e ⟨rfl,rfl⟩ np
  rw[fq] at e
  cases ex:xs[i]? with
  |none=>rw[ex] at e;cases e
  |some x=>
   rw[ex] at e
   cases e
   obtain⟨ρ4,w⟩:=h x (fo ex)
   have hi:=(gh.mp ex).1
   refine⟨ρ4,fun X' Oe He is=> ⟨(w X' Oe He is _).1,UF ((w X' Oe He is _).2.1 _ ?_)⟩⟩
   cases hq:q x with
   |true=>
    refine LY fun X' Oe He is=> (w X' Oe He is _).2.2 hq _ ⟨_,rfl,np,?_,rfl,?_⟩
    ·have:=iM q (xs.take i)
     simp at this ⊢;omega
    ·rw[iV,ex];simp[hq]
   |false=>
    refine OS ⟨_,rfl,np,rfl,?_⟩
    rw[iV,ex];simp[hq]
 ·rintro acc O' ⟨rfl,rfl⟩
  rw[e8,iK]
  exact fin
theorem JB(nc:List Str)(cap:List (Str×Nat))(xs:List α)(f g:α→T)(hc:Z.X.calm=true)(ok:LcOk Z.X csc nc cap)(hi:EI Z ρ O tg iter (xs.map f))(hl:xs.length≤sizeLine)(h:∀x,x∈xs→∃ρ4,∀X' Oe He,LcCx Z.X csc (Ah nc cap) X'→∀O',(WG (zc X' Oe He) nc.length (HV nc ρ cap) O' tg (f x) ρ4∧ET (zc X' Oe He) ρ4 O' elt (g x)))
  (hs:∀x,ja iter Z.X.env x=pure x:=by intro _;rfl):ET Z ρ O (.ListComp elt [⟨tg,iter,[],0⟩] csc pos) (.lst (xs.map g)):=fun Φ p=>Vo hc ok (hi _ (Gc xs f g hl h p)) hs
theorem Ds(nc:List Str)(cap:List (Str×Nat)){c:Expr}(xs:List α)(f g:α→T)(q:α→Bool)(hc:Z.X.calm=true)(ok:LcOk Z.X csc nc cap)(hi:EI Z ρ O tg iter (xs.map f))(hl:xs.length≤sizeLine)(h:∀x,x∈xs→∃ρ4,∀X' Oe He,LcCx Z.X csc (Ah nc cap) X'→∀O',(WG (zc X' Oe He) nc.length (HV nc ρ cap) O' tg (f x) ρ4∧EB (zc X' Oe He) ρ4 O' c (q x)∧(q x=true→ET (zc X' Oe He) ρ4 O' elt (g x))))
  (hs:∀x,ja iter Z.X.env x=pure x:=by intro _;rfl):ET Z ρ O (.ListComp elt [⟨tg,iter,[c],0⟩] csc pos) (.lst ((xs.filter q).map g)):=fun Φ p=>Vo hc ok (hi _ (By xs f g q hl h p)) hs
end
section
variable{Z:Zx}{ρ:List (Option T)}{O:AH}{e:Expr}{es:List Expr}{Φ:BU}{Ψ:Es}{pos p:Pos}{ts:List T}{x:Str}
theorem EA.wa{Φ:Lu}(h:EA Z ρ O es ts)(p:Φ ts O):WA Z ρ O es Φ:=h Φ p
theorem EI.wi{tg iter:Expr}{Φ:Lu}(h:EI Z ρ O tg iter ts)(p:Φ ts O):WI Z ρ O tg iter Φ:=h Φ p
theorem Qt{k:Nat}{f:Addr}{fd:gE}{ps:List Str}{sp:Sp}(F:FnOk Z.X.prog Z.X.w Z.X.K Z.X.mg Z.X.base (CXe Z.X.prog Z.X.w) k f fd ps sp)(hm:Z.X.mg x=some (.ref f))(hk:jq Z.X.K (.ref f)=true)(hb:Binds Z.X.K fd ps [])(hr:Room k Z.X.A)(xf:XFly Z.X Z.W)(h:EA Z ρ O (e::es) ts)
  (w:∀σ H vs Q,Asr Z ρ O σ H→Reps Z.K O H vs ts→Acc Z.K O H Φ Q→sp vs H Q (Z.W σ)) (hg:Gl Z.X x:=by rfl)
  (hdb:(x==("__debug__" :Str))=false:=by decide) (he:fj (e::es) Z.X.env=(false,eval e Z.X.env)::fj es Z.X.env:=by rfl) (hpl:(jS pos (fj es Z.X.env)).any (·.1)=false:=by rfl):WE Z ρ O (.Call (.Name x p) (e::es) [] pos) Φ:=by
 refine PE.weak (GE xf F hr hg hm hk hb (Io (ρ:=ρ)) hdb he hpl) fun σ H Q q=>?_
 refine⟨O,_,h (fun us O'=>us=ts∧O'=O) ⟨rfl,rfl⟩,q.1,?_⟩
 rintro vs H1 _ _ ⟨rfl,rfl⟩ f r
 exact w σ H1 vs Q (q.1.step f) r (q.2.step f)
end
noncomputable def Bd:Expr→Bool
 | .Starred .. =>false
 |_=>true
theorem Dg{e:Expr}{es:List Expr}{env:Env}(h:Bd e=true):fj (e::es) env=(false,eval e env)::fj es env:=by
 cases e<;>first|rfl|cases h
section
variable{Z:Zx}{ρ:List (Option T)}{O:AH}{e:Expr}{es:List Expr}{t:T}{ts:List T}
theorem AE(h:ET Z ρ O e t)(hr:EA Z ρ O es ts)(hn:Bd e=true:=by rfl):EA Z ρ O (e::es) (t::ts):=AN h hr (Dg hn)
theorem KY{Φ:Lu}(h:WE Z ρ O e fun t O1=>WA Z ρ O1 es fun ts O2=>Φ (t::ts) O2)(hn:Bd e=true:=by rfl):WA Z ρ O (e::es) Φ:=Bw h (Dg hn)
theorem JC{a b:Expr}{i j:Int}{k:Nat}{pos:Pos}(ha:ET Z ρ O a (.int i))(hb:ET Z ρ O b (.int j))(h1:Bd a=true:=by rfl)(h2:Bd b=true:=by rfl):ET Z ρ O (.Tuple [a,b] k pos) (Ab (i,j)):=Bn (AE ha (AE hb AC h2) h1) (by show 2≤sizeLine;decide)
end
theorem Qu{O:AH}{p:Addr}{xs:List T}(h:O p=some xs):Ad O p xs=O:=by
 funext b
 by_cases hb:b=p
 ·rw[hb,AF,h]
 ·rw[Aa hb]
section
variable{Z:Zx}{ρ:List (Option T)}{O:AH}{e:Expr}{es:List Expr}{t:T}{ts:List T}{Φ:BU}{Ψ:Es}{pos p2:Pos}{x:Str}
structure HEA(Z:Zx)(ρ:List (Option T))(O:AH)(es:List Expr)(ts:List T):Prop where
 out:EA Z ρ O es ts
structure HET(Z:Zx)(ρ:List (Option T))(O:AH)(e:Expr)(t:T):Prop where
 out:ET Z ρ O e t
theorem HEA.nil:HEA Z ρ O [] []:=⟨AC⟩
theorem HEA.cons(h:HET Z ρ O e t)(hr:HEA Z ρ O es ts)(hn:Bd e=true:=by rfl):HEA Z ρ O (e::es) (t::ts):=⟨AE h.out hr.out hn⟩
theorem HET.lst(h:HEA Z ρ O es ts)(hl:ts.length≤sizeLine):HET Z ρ O (.List es pos) (.lst ts):=⟨Bo h.out hl⟩
theorem HET.int{i:Int}{j:Nat}:HET Z ρ O (.Constant (.int i) j pos) (.int i):=⟨AB⟩
theorem HET.bl{i:Bool}{j:Nat}:HET Z ρ O (.Constant (.bool i) j pos) (.bl i):=⟨NL⟩
theorem HET.non{j:Nat}:HET Z ρ O (.Constant .none j pos) .non:=⟨CH⟩
theorem HET.str{y:Str}{j:Nat}:HET Z ρ O (.Constant (.str y) j pos) (.str y):=⟨Qf⟩
structure HS(Z:Zx)(ρ:List (Option T))(O:AH)(ss:List Stmt)(Ψ:Es):Prop where
 out:FZ Z ρ O ss Ψ
theorem BJ{s:Stmt}{ss:List Stmt}(h:WS Z ρ O s {Ψ with nx:=fun ρ' O'=>HS Z ρ' O' ss Ψ}):HS Z ρ O (s::ss) Ψ:=
 ⟨AD (UE h (fun _ _ z=>z.out) (fun _ _ z=>z) (fun _ _ z=>z) (fun _ _ z=>z))⟩
theorem MC{s:Stmt}(h:WS Z ρ O s Ψ):HS Z ρ O [s] Ψ:=⟨AG h⟩
end
section
variable{X:Cx}{a b c d:Expr}{ta tb tc td:TE}{pos:Pos}
end
section
variable{Z:Zx}{ρ:List (Option T)}{O:AH}{a b c d:Expr}{pos:Pos}{i j k l:Int}
end
end L2.TL
namespace L2
open PySem PySem.Spec PySem.Calls PyProof.Rows
section
variable{prog:Program}{w:World}{A:gx}{E:Value→Shared→Prop}{s:Shared}
end
section
variable{X:Cx}
end
end L2
namespace L2.TL
open PySem PySem.Spec PySem.Calls PyProof.Rows
mutual
noncomputable def dT:T→iC
 | .non=> .none
 | .bl b=> .bool b
 | .int i=> .int i
 | .str x=> .str x
 | .tup ts=> .tuple (dTs ts)
 | .lst ts=> .list (dTs ts)
 | .frz _=> .none
 | .dct=> .none
 | .raw _=> .none
noncomputable def dTs:List T→List iC
 | []=> []
 |t::ts=>dT t::dTs ts
end
mutual
noncomputable def EY:T→Bool
 | .non=>true
 | .bl _=>true
 | .int i=>decide (i.natAbs<10^12)
 | .str _=>false
 | .tup ts=>shBs ts
 | .lst ts=>shBs ts
 | .frz _=>false
 | .dct=>false
 | .raw _=>false
noncomputable def shBs:List T→Bool
 | []=>true
 |t::ts=>EY t&&shBs ts
end
mutual
theorem NW:∀(t:T),EY t=true→(dT t).showable=true∧(dT t).hasDict=false∧(dT t).leavesShort 13=true
 | .non,_=> ⟨rfl,rfl,rfl⟩
 | .bl _,_=> ⟨rfl,rfl,rfl⟩
 | .int i,h=>by
  have hb:i.natAbs<10^12:=by unfold EY at h;simpa using h
  refine⟨?_,rfl,?_⟩
  ·show decide (i.natAbs.log2<1920)=true
   refine decide_eq_true ?_
   by_cases h0:i.natAbs=0
   ·rw[h0];decide
   ·exact(Nat.log2_lt h0).mpr (gy hb (by decide+kernel))
  ·show decide _=true
   exact decide_eq_true (iC.shown_int_le hb)
 | .str _,h=>by unfold EY at h;cases h
 | .tup ts,h=>by
  have h':shBs ts=true:=by unfold EY at h;exact h
  exact shs_show ts h'
 | .lst ts,h=>by
  have h':shBs ts=true:=by unfold EY at h;exact h
  exact shs_show ts h'
 | .frz _,h=>by unfold EY at h;cases h
 | .dct,h=>by unfold EY at h;cases h
 | .raw _,h=>by unfold EY at h;cases h
theorem shs_show:∀(ts:List T),shBs ts=true→iC.showableAll (dTs ts)=true∧iC.hasDictAll (dTs ts)=false∧iC.leavesShortAll 13 (dTs ts)=true
 | [],_=> ⟨rfl,rfl,rfl⟩
 |t::ts,h=>by
  unfold shBs at h
  rw[iE] at h
  obtain⟨a1,a2,a3⟩:=NW t h.1
  obtain⟨b1,b2,b3⟩:=shs_show ts h.2
  refine⟨?_,?_,?_⟩
  ·show(iC.showable (dT t)&&iC.showableAll (dTs ts))=true
   rw[a1,b1];rfl
  ·show(iC.hasDict (dT t)||iC.hasDictAll (dTs ts))=false
   rw[a2,b2];rfl
  ·show(iC.leavesShort 13 (dT t)&&iC.leavesShortAll 13 (dTs ts))=true
   rw[a3,b3];rfl
end
section
variable{K:a9}{O:AH}{H:Hp}{P:Program}{w:World}{h:Heap}
mutual
theorem Rep.reads (hok:HOk P w H h):∀{v:V} {t:T} {u:Value},Rep K O H v t→EY t=true→RelV v u→∃as,Reads h u (dT t) as
 |_,_,_,.non,_,r=>by cases r;exact⟨_,.none⟩
 |_,_,_,.bl b,_,r=>by cases r;exact⟨_,.bool b⟩
 |_,_,_,.int i,_,r=>by obtain⟨t,rfl⟩:=r;exact⟨_,.int i t⟩
 |_,_,_,.str x,g,_=>by unfold EY at g;cases g
 |_,_,_,.tup (ts:=ts) e q,g,r=>by
  cases r
  obtain⟨_,its,rv,⟨o,e1,e2,n,e3⟩⟩:=(show ObjOk P w H h _ (.tup _) from hok _ _ e)
  obtain⟨as,ra⟩:=Reps.reads hok q (by unfold EY at g;exact g) rv
  exact⟨_,.tuple (vs:=its.toArray) e1 e2 e3 (by simpa using ra)⟩
 |_,_,_,.lst (ts:=ts) e _ q,g,r=>by
  cases r
  obtain⟨_,its,n,rv,e1⟩:=(show ObjOk P w H h _ (.lst _) from hok _ _ e)
  obtain⟨as,ra⟩:=Reps.reads hok q (by unfold EY at g;exact g) rv
  exact⟨_,.list (vs:=its.toArray) e1 rfl rfl (by simpa using ra)⟩
 |_,_,_,.frz _ _,g,_=>by unfold EY at g;cases g
 |_,_,_,.dct _,g,_=>by unfold EY at g;cases g
 |_,_,_,.raw v,g,_=>by unfold EY at g;cases g
theorem Reps.reads (hok:HOk P w H h):∀{vs:List V} {ts:List T} {us:List Value},Reps K O H vs ts→shBs ts=true→Vals vs us→∃as,ReadsAll h us (dTs ts) as
 |_,_,_,.nil,_,r=>by cases r;exact⟨_,.nil⟩
 |_,_,_,.cons a b,g,.cons r1 r2=>by
  unfold shBs at g
  rw[iE] at g
  obtain⟨as,x⟩:=Rep.reads hok a g.1 r1
  obtain⟨bs,y⟩:=Reps.reads hok b g.2 r2
  exact⟨_,.cons x y⟩
end
end
section
variable{X:Cx}
end
theorem Gf{i:Int}(h:i.natAbs<10^12):(dT (.int i)).weight≤42:=by
 have hl:i.natAbs.log2<40:=by
  by_cases h0:i.natAbs=0
  ·rw[h0];decide
  ·exact(Nat.log2_lt h0).mpr (gy h (by decide+kernel))
 simp only[dT,pZ]
 split<;>omega
theorem XOk.mono{X:Cx}{W W':St→XK}(x:XOk X W)(h:∀σ cls H',W' σ cls none H'→W σ cls none H'):XOk X W':=
 ⟨fun pins σ H s h' y C I m q=>x.made pins σ H s h' y C I m (h σ _ H q),(XFly.mono x.f h).fly,x.own,fun pins σ H s y C t dx fs I a b c d q=>x.madeF pins σ H s y C t dx fs I a b c d (h σ _ H q)⟩
theorem UN{P:Program}{w:World}{K:a9}{mg:Str→Option Value}{base:Heap}{x qual:Str}{st:Stmt}{f:Addr}{fd:gE}{N ps:List Str}{k:Nat}{sp:Cp}(F:Fun K x qual st f fd)(S:FnScope N ps (AA st))(len:∀ts O Φ Ξ,sp ts O Φ Ξ→ts.length=ps.length)
  (h:∀(cdv:Value) (A:gx) (outer:List Env) (s:Shared) (H:Hp) (E:XK) (O:AH) (Ξ:Value→AH→Prop),Room k (A.deeper (lz qual (AA st) s.heap.objs.size f cdv))→XOk (zB P w K mg base N qual (AA st) f cdv A outer s H E O Ξ).X (zB P w K mg base N qual (AA st) f cdv A outer s H E O Ξ).W→
   ∀ts Φ,sp ts O Φ Ξ→FZ (zB P w K mg base N qual (AA st) f cdv A outer s H E O Ξ) (Dr N ts) O (Aw st) {nx:=fun _ O'=>Φ .non O',rt:=Φ}):FnOk P w K mg base (CXe P w) (k+1) f fd ps (DR K sp):=by
 refine F.okX S (fun vs H Q E h=>?_) (fun cdv A outer s H vs Q E hr h1=>?_)
 ·obtain⟨ts,O,Φ,Ξ,r,_,q,_⟩:=h
  rw[r.length];exact len ts O Φ Ξ q
 ·obtain⟨ts,O,Φ,Ξ,r,ok,q,acc,ex⟩:=h1
  refine⟨_,h cdv A outer s H E O Ξ hr (XOk.mono AY ?_) ts Φ q,⟨Gb r,.refl ok⟩,?_⟩
  ·rintro σ cls H' ⟨_,O',x,f⟩
   exact ex cls O' H' x f
  ·exact⟨fun ρ' O' σ' H' p a _=>acc _ _ _ O' p a.fr .non,fun v H' t O' p f r=>acc v H' t O' p f r,fun _ _ _ _ z=>z.elim,fun _ _ _ _ z=>z.elim⟩
theorem Frm.same{K:a9}{O O':AH}{H H' H'':Hp}(f:Frm K O H O' H')(s:Same H' H''):Frm K O H O' H'' where
 kp:=fun b o h n=> ⟨s b o (f.kp b o h n).1,(f.kp b o h n).2⟩
 own:=f.own
 ok:=fun a ts e=>by
  obtain⟨xs,h,r⟩:=f.ok a ts e
  exact⟨xs,s _ _ h,r.mono (fun b o h _=>s b o h) fun b xs h n=> ⟨s b _ h,n⟩⟩
theorem FE{K:a9}{O:AH}{H:Hp}:∀(ns:List Int),Reps K O H (ns.map V.int) (ns.map T.int)
 | []=> .nil
 |n::ns=> .cons (.int n) (FE ns)
section
variable{Z:Zx}{ρ:List (Option T)}{O:AH}{e a b:Expr}{es:List Expr}{Ψ:Es}{Φ:BU}{pos p:Pos}{t:T}{ts:List T}
theorem Ov{x:Str}{C:Addr}{np cpos:Pos}(xo:XOk Z.X Z.W)(hc:Z.X.calm=true)(hm:Z.X.mg x=some (.ref C))(q:mj Z.X.K C Tj "ValueError.__new__" =true)(h:Z.Xi (.ref C) O)(hg:Gl Z.X x:=by rfl)
  (hd:(x==("__debug__" :Str))=false:=by decide):WS Z ρ O (.Raise (some (.Call (.Name x np) [] [] cpos)) none pos) Ψ:=
 PS.weak (OU xo hc hg hm q hd) fun D σ H k=> ⟨rfl,O,h,k.1.fr⟩
noncomputable def EZ(C:Addr)(y:Str):Sp:=fun vs H Q _=>∃x,vs=[.ref x]∧Rd H x (FX C x)∧∀H',Same H H'→Q (.str y) H'
theorem _root_.L2.Rd.upd{H:Hp}{x p:Addr}{u o:HO}(h:Rd H x u)(hp:H p=none):Rd (upd H p o) x u:=by
 rcases h with h| ⟨o',h⟩
 ·exact .inl (by rw[AL (AQ h hp)];exact h)
 ·exact .inr ⟨o',by rw[AL (AQ h hp)];exact h⟩
theorem _root_.L2.Rd.same{H H':Hp}{x:Addr}{u:HO}(h:Rd H x u)(s:Same H H'):Rd H' x u:=by
 rcases h with h| ⟨o',h⟩
 ·exact .inl (s _ _ h)
 ·exact .inr ⟨o',s _ _ h⟩
end
section
variable{Z:Zx}{ρ:List (Option T)}{O:AH}{e:Expr}{es:List Expr}{t:T}{ts us:List T}{Φ:BU}{Ψ:Es}{pos p2 p3 p4:Pos}{x:Str}
end
section
variable{Z:Zx}{ρ:List (Option T)}{O:AH}{es:List Expr}{ts:List T}{Ψ:Es}{pos p:Pos}{tg iter:Expr}{body:List Stmt}
structure HWE(Z:Zx)(ρ:List (Option T))(O:AH)(e:Expr)(Φ:BU):Prop where
 out:WE Z ρ O e Φ
theorem UO(hp:nL (model Z.X.prog Z.X.w) Z.X.A Z.X.env Z.X.xe)(hc:Z.X.calm=true)(h:HWE Z ρ O iter fun t O'=>∃ts,t=.lst ts∧∃I:Nat→Lz,I 0 ρ O'∧
  (∀i t ρ' O',ts[i]?=some t→I i ρ' O'→∃ρ2,WG Z Z.X.N.length ρ' O' tg t ρ2∧HS Z ρ2 O' body {nx:=I (i+1),rt:=Ψ.rt,bk:=Ψ.nx,ct:=I (i+1)})∧∀ρ' O',I ts.length ρ' O'→Ψ.nx ρ' O')
  (hs:∀x,ja iter Z.X.env x=pure x):WS Z ρ O (.For tg iter body [] pos) Ψ:=
 Av hp hc (Iu (Dd h.out (by
  rintro t O' ⟨ts,e,I,i0,st,fin⟩
  refine⟨ts,e,I,i0,fun i t ρ' O' e x=>?_,fin⟩
  obtain⟨ρ2,a,b⟩:=st i t ρ' O' e x
  exact⟨ρ2,a,b.out⟩))) hs
theorem aj{P:Program}{w:World}{K:a9}{mg:Str→Option Value}{base:Heap}{x qual:Str}{st:Stmt}{f:Addr}{fd:gE}{N ps:List Str}{k:Nat}{sp:Sp}(F:Fun K x qual st f fd)(S:FnScope N ps (AA st))(len:∀vs H Q E,sp vs H Q E→vs.length=ps.length)
  (h:∀(cdv:Value) (A:gx) (outer:List Env) (s:Shared) (H:Hp) (vs:List V) (Q:VK) (E:XK),Room k (A.deeper (lz qual (AA st) s.heap.objs.size f cdv))→sp vs H Q E→
   ∃ts O Φ Ξ,Reps K O H vs ts∧OwnOk K O H∧(XFly (zB P w K mg base N qual (AA st) f cdv A outer s H E O Ξ).X (zB P w K mg base N qual (AA st) f cdv A outer s H E O Ξ).W→HS (zB P w K mg base N qual (AA st) f cdv A outer s H E O Ξ) (Dr N ts) O (Aw st) {nx:=fun _ O'=>Φ .non O',rt:=Φ})∧Acc K O H Φ Q∧∀cls O' H',Ξ cls O'→Frm K O H O' H'→E cls none H'):FnOk P w K mg base (CXe P w) (k+1) f fd ps sp:=by
 refine F.okX S len (fun cdv A outer s H vs Q E hr h1=>?_)
 obtain⟨ts,O,Φ,Ξ,r,ok,q,acc,ex⟩:=h cdv A outer s H vs Q E hr h1
 refine⟨_,(q (XFly.mono AY.f ?_)).out,⟨Gb r,.refl ok⟩,?_⟩
 ·rintro σ cls H' ⟨_,O',x,f⟩
  exact ex cls O' H' x f
 ·exact⟨fun ρ' O' σ' H' p a _=>acc _ _ _ O' p a.fr .non,fun v H' t O' p f r=>acc v H' t O' p f r,fun _ _ _ _ z=>z.elim,fun _ _ _ _ z=>z.elim⟩
end
theorem EF{L:List T}{r:Int}(h0:0≤r)(h1:r<L.length):∃t,atI L r=some t∧t∈L:=by
 obtain⟨j,rfl⟩:=gO h0
 have hj:j<L.length:=by omega
 exact⟨L[j],BG (by rw[gm hj]),jk hj⟩
noncomputable def Vq:AH:=fun _=>none
theorem Qv{K:a9}{H:Hp}:OwnOk K Vq H:=fun a ts e=>by cases e
theorem Vr{K:a9}{H H':Hp}{O':AH}{a:Addr}{xs:List V}(k:Kp Vq H O' H')(h:SqL K H a xs):SqL K H' a xs:=by
 rcases h with h|h
 ·refine .inl ?_
  rcases h with h| ⟨o,h⟩
  ·exact .inl (k a _ h rfl).1
  ·exact .inr ⟨o,(k a _ h rfl).1⟩
 ·exact .inr h
section
variable{Z:Zx}{ρ:List (Option T)}{O:AH}{e lo hi:Expr}{p p2 pos:Pos}{Φ:BU}
theorem YC{a:Addr}{ns:List Int}{i j:Int}(ho:Z.Oe=Vq)(hS:SqL Z.K Z.He a (ns.map V.int))(h:ET Z ρ O e (.raw (.ref a)))(h1:ET Z ρ O lo (.int i))(h2:ET Z ρ O hi (.int j))
  (k:∀ms:List Int,ms.length≤ns.length→Φ (.lst (ms.map T.int)) O):WE Z ρ O (.Subscript e (.Slice (some lo) (some hi) none p2) pos) Φ:=by
 refine PE.weak (Jr TZ (BV (ρ:=ρ)) (IV (BV (ρ:=ρ))) (IV (BV (ρ:=ρ)))) fun σ H0 Q q=>?_
 refine⟨O,_,h (fun t O'=>t=.raw (.ref a)∧O'=O) ⟨rfl,rfl⟩,q.1,?_⟩
 rintro v H1 _ _ ⟨rfl,rfl⟩ f1 r1
 refine⟨_,_,h1 (fun t O'=>t=.int i∧O'=_) ⟨rfl,rfl⟩,q.1.step f1,?_⟩
 rintro v2 H2 _ _ ⟨rfl,rfl⟩ f2 r2
 refine⟨i,r2.int_inv,_,_,h2 (fun t O'=>t=.int j∧O'=_) ⟨rfl,rfl⟩,q.1.step (f1.trans f2),?_⟩
 rintro v3 H3 _ _ ⟨rfl,rfl⟩ f3 r3
 refine⟨j,r3.int_inv,a,ns.map V.int,r1.raw_inv,Vr (ho▸(q.1.step (f1.trans (f2.trans f3))).fr.kp) hS,fun l hl=>?_⟩
 have ff:=f1.trans (f2.trans f3)
 have e:Eo (ns.map V.int) (some i) (some j)=((ns.drop (HT.BK (ns.map V.int).length 0 (some i))).take (HT.BK (ns.map V.int).length (ns.map V.int).length (some j)-HT.BK (ns.map V.int).length 0 (some i))).map V.int:=by
  unfold Eo
  rw[←List.map_drop,←List.map_take]
 rw[e]
 refine q.2 _ _ _ _ (k _ ?_) (ff.trans (.new ff.ok hl)) (.lst AM (ff.ok.none_of hl) ((FE _).kp (BP ff.ok hl) ff.ok))
 rw[gX,kY]
 omega
theorem MD{K:a9}{x y:Str}:RP K dG (.str x) (.str y) O (.bl (!decide (x=y))):=fun Φ p H v w Q ok r1 r2 q=>by
 cases r1.str_inv
 cases r2.str_inv
 have e:decide (V.str x=V.str y)=decide (x=y):=by
  by_cases h:x=y
  ·subst h;simp
  ·have:V.str x≠V.str y:=fun z=>h (by injection z)
   simp[h]
 refine⟨rfl,?_⟩
 rw[e]
 exact q _ H _ O p (.refl ok) (.bl _)
theorem Qw:ig "repr" =some (.builtin "repr"):=by decide+kernel
end
mutual
noncomputable def CI:T→Bool
 | .non=>true
 | .bl _=>true
 | .int _=>true
 | .str x=>iC.strOk x
 | .tup ts=>rdBs ts
 | .lst ts=>rdBs ts
 | .frz _=>false
 | .dct=>false
 | .raw _=>false
noncomputable def rdBs:List T→Bool
 | []=>true
 |t::ts=>CI t&&rdBs ts
end
mutual
theorem Cq:∀(t:T),CI t=true→(dT t).canLay0=true
 | .non,_=>rfl
 | .bl _,_=>rfl
 | .int _,_=>rfl
 | .str x,h=>by unfold CI at h;exact h
 | .tup ts,h=>rds_lay ts (by unfold CI at h;exact h)
 | .lst ts,h=>rds_lay ts (by unfold CI at h;exact h)
 | .frz _,h=>by unfold CI at h;cases h
 | .dct,h=>by unfold CI at h;cases h
 | .raw _,h=>by unfold CI at h;cases h
theorem rds_lay:∀(ts:List T),rdBs ts=true→iC.canLayAll0 (dTs ts)=true
 | [],_=>rfl
 |t::ts,h=>by
  unfold rdBs at h
  rw[iE] at h
  show(iC.canLay0 (dT t)&&iC.canLayAll0 (dTs ts))=true
  rw[Cq t h.1,rds_lay ts h.2];rfl
end
section
variable{K:a9}{O:AH}{H:Hp}{P:Program}{w:World}{h:Heap}
mutual
theorem Rep.rd (hok:HOk P w H h):∀{v:V} {t:T} {u:Value},Rep K O H v t→CI t=true→RelV v u→∃as,Reads h u (dT t) as
 |_,_,_,.non,_,r=>by cases r;exact⟨_,.none⟩
 |_,_,_,.bl b,_,r=>by cases r;exact⟨_,.bool b⟩
 |_,_,_,.int i,_,r=>by obtain⟨t,rfl⟩:=r;exact⟨_,.int i t⟩
 |_,_,_,.str x,_,r=>by obtain⟨t,rfl⟩:=r;exact⟨_,.str x t⟩
 |_,_,_,.tup (ts:=ts) e q,g,r=>by
  cases r
  obtain⟨_,its,rv,⟨o,e1,e2,n,e3⟩⟩:=(show ObjOk P w H h _ (.tup _) from hok _ _ e)
  obtain⟨as,ra⟩:=Reps.rd hok q (by unfold CI at g;exact g) rv
  exact⟨_,.tuple (vs:=its.toArray) e1 e2 e3 (by simpa using ra)⟩
 |_,_,_,.lst (ts:=ts) e _ q,g,r=>by
  cases r
  obtain⟨_,its,n,rv,e1⟩:=(show ObjOk P w H h _ (.lst _) from hok _ _ e)
  obtain⟨as,ra⟩:=Reps.rd hok q (by unfold CI at g;exact g) rv
  exact⟨_,.list (vs:=its.toArray) e1 rfl rfl (by simpa using ra)⟩
 |_,_,_,.frz _ _,g,_=>by unfold CI at g;cases g
 |_,_,_,.dct _,g,_=>by unfold CI at g;cases g
 |_,_,_,.raw v,g,_=>by unfold CI at g;cases g
theorem Reps.rd (hok:HOk P w H h):∀{vs:List V} {ts:List T} {us:List Value},Reps K O H vs ts→rdBs ts=true→Vals vs us→∃as,ReadsAll h us (dTs ts) as
 |_,_,_,.nil,_,r=>by cases r;exact⟨_,.nil⟩
 |_,_,_,.cons a b,g,.cons r1 r2=>by
  unfold rdBs at g
  rw[iE] at g
  obtain⟨as,x⟩:=Rep.rd hok a g.1 r1
  obtain⟨bs,y⟩:=Reps.rd hok b g.2 r2
  exact⟨_,.cons x y⟩
end
end
section
variable{X:Cx}
noncomputable def rD(K:a9)(g:iC→iC→Bool):R2:=fun x y H Q=>∃O t u,Rep K O H x t∧Rep K O H y u∧CI t=true∧CI u=true∧(dT t).depth≤100∧Q (.bl (g (dT t) (dT u))) H
theorem Qx(hu:X.A.units+101<cLine):CO X (jf .Eq) (rD X.K fun a b=>lA a b):=by
 intro pins s σ H x y v u Q I rx ry h
 obtain⟨O,t,t',r1,r2,g1,g2,hd,q⟩:=h
 obtain⟨as,ra⟩:=Rep.rd I.hok r1 g1 rx
 obtain⟨bs,rb⟩:=Rep.rd I.hok r2 g2 ry
 exact SeqAt.compareEq_reads ra rb (Cq t g1) (Cq t' g2) (by omega) ⟨.bl _,H,I,rfl,q⟩
theorem JD(hu:X.A.units+101<cLine):CO X (jf .NotEq) (rD X.K fun a b=>!lA a b):=by
 intro pins s σ H x y v u Q I rx ry h
 obtain⟨O,t,t',r1,r2,g1,g2,hd,q⟩:=h
 obtain⟨as,ra⟩:=Rep.rd I.hok r1 g1 rx
 obtain⟨bs,rb⟩:=Rep.rd I.hok r2 g2 ry
 exact SeqAt.compareNe_reads ra rb (Cq t g1) (Cq t' g2) (by omega) ⟨.bl _,H,I,rfl,q⟩
noncomputable def cS(K:a9)(g:Bool→Bool):R2:=fun x y H Q=>∃O t us,Rep K O H x t∧(Rep K O H y (.tup us)∨Rep K O H y (.lst us))∧CI t=true∧rdBs us=true∧(dT t).depth≤100∧Q (.bl (g ((dTs us).any fun y=>lA y (dT t)))) H
theorem Qy(hu:X.A.units+102<cLine):CO X (jf .In) (cS X.K id):=by
 intro pins s σ H x y v u Q I rx ry h
 obtain⟨O,t,us,r1,r2,g1,g2,hd,q⟩:=h
 obtain⟨as,ra⟩:=Rep.rd I.hok r1 g1 rx
 rcases r2 with r2|r2
 ·obtain⟨bs,rb⟩:=Rep.rd I.hok r2 (by unfold CI;exact g2) ry
  exact SeqAt.in_tuple_reads rb ra (rds_lay us g2) (Cq t g1) (by omega) ⟨.bl _,H,I,rfl,q⟩
 ·obtain⟨bs,rb⟩:=Rep.rd I.hok r2 (by unfold CI;exact g2) ry
  exact SeqAt.in_list_reads rb ra (rds_lay us g2) (Cq t g1) (by omega) ⟨.bl _,H,I,rfl,q⟩
theorem Qz(hu:X.A.units+102<cLine):CO X (jf .NotIn) (cS X.K (!·)):=by
 intro pins s σ H x y v u Q I rx ry h
 obtain⟨O,t,us,r1,r2,g1,g2,hd,q⟩:=h
 obtain⟨as,ra⟩:=Rep.rd I.hok r1 g1 rx
 rcases r2 with r2|r2
 ·obtain⟨bs,rb⟩:=Rep.rd I.hok r2 (by unfold CI;exact g2) ry
  exact SeqAt.notIn_tuple_reads rb ra (rds_lay us g2) (Cq t g1) (by omega) ⟨.bl _,H,I,rfl,q⟩
 ·obtain⟨bs,rb⟩:=Rep.rd I.hok r2 (by unfold CI;exact g2) ry
  exact SeqAt.notIn_list_reads rb ra (rds_lay us g2) (Cq t g1) (by omega) ⟨.bl _,H,I,rfl,q⟩
end
section
variable{K:a9}{O:AH}{t u:T}{us:List T}
theorem Ow{g:iC→iC→Bool}(h1:CI t=true)(h2:CI u=true)(hd:(dT t).depth≤100):RP K (rD K g) t u O (.bl (g (dT t) (dT u))):=fun Φ p H v w Q ok r1 r2 q=>
 ⟨O,t,u,r1,r2,h1,h2,hd,q _ H _ O p (.refl ok) (.bl _)⟩
theorem RA{g:Bool→Bool}(h1:CI t=true)(h2:rdBs us=true)(hd:(dT t).depth≤100):RP K (cS K g) t (.tup us) O (.bl (g ((dTs us).any fun y=>lA y (dT t)))):=fun Φ p H v w Q ok r1 r2 q=>
 ⟨O,t,us,r1,.inl r2,h1,h2,hd,q _ H _ O p (.refl ok) (.bl _)⟩
theorem ME{g:Bool→Bool}(h1:CI t=true)(h2:rdBs us=true)(hd:(dT t).depth≤100):RP K (cS K g) t (.lst us) O (.bl (g ((dTs us).any fun y=>lA y (dT t)))):=fun Φ p H v w Q ok r1 r2 q=>
 ⟨O,t,us,r1,.inr r2,h1,h2,hd,q _ H _ O p (.refl ok) (.bl _)⟩
end
theorem NX(p:Int×Int):CI (Ab p)=true:=by simp[Ab,CI,rdBs]
theorem MF(p:Int×Int):(dT (Ab p)).depth≤100:=by simp[Ab,dT,dTs,iC.depth,jF]
theorem RB(p q:Int×Int):lA (dT (Ab p)) (dT (Ab q))=decide (p=q):=by
 show((p.1==q.1)&&((p.2==q.2)&&true))=decide (p=q)
 rw[kB]
 simp only[Bool.and_true,iE,beq_iff_eq,decide_eq_true_eq]
 exact⟨fun h=>jd h.1 h.2,fun h=>by rw[h];exact⟨rfl,rfl⟩⟩
noncomputable abbrev Fb(n:Int)(ps:List (Int×Int)):T:=.tup [.int n,.tup (ps.map Ab)]
end L2.TL
namespace L2
open PySem PySem.Spec PySem.Calls PyProof.Rows
section
variable{X:Cx}
variable{e:Expr}{te:TE}{p2 p3 p4 pos:Pos}
end
end L2
namespace L2.TL
open PySem PySem.Spec PySem.Calls PyProof.Rows
section
variable{Z:Zx}{ρ:List (Option T)}{O:AH}{e a b:Expr}{es:List Expr}{Ψ:Es}{Φ:BU}{pos p p1 pos1 p2 p3 p4:Pos}{t ta tb:T}{ts us:List T}{x:Str}
theorem Ox{o:Expr}{apos cpos:Pos}(h:WE Z ρ O o fun t O1=>∃a,t=.raw (.ref a)∧(∃ts,O1 a=some ts)∧WE Z ρ O1 e fun u O2=>∃ts us,u=.lst us∧O2 a=some ts∧ts.length+us.length≤sizeLine∧Φ .non (Ad O2 a (ts++us)))
  (hbase:ou o "extend" Z.X.env (eval o Z.X.env)=eval o Z.X.env:=by rfl)
  (hfew:((jS cpos (fj [e] Z.X.env)).all (fun x=>!x.1)&&(qO cpos (pC [] Z.X.env)).all (fun x=>x.1.isSome)
   &&decide ([e].length+([]:List oq).length+(if([]:List oq).isEmpty then 0 else 1)<30))=true:=by rfl)
  (hline:(apos.endLine==cpos.line)=true:=by rfl) (hs:fj [e] Z.X.env=(false,eval e Z.X.env)::fj [] Z.X.env:=by rfl) (hplain:(jS cpos (fj [] Z.X.env)).any (·.1)=false:=by rfl):WE Z ρ O (.Call (.Attribute o "extend" apos) [e] [] cpos) Φ:=by
 refine Vm kW PySem.F.slot_list_extend PySem.F.type_list_extend OP (Dd h ?_) hbase hfew hline hs hplain
 rintro t O1 ⟨a,rfl,⟨ts,hts⟩,w⟩
 refine⟨NR hts,Bw (Dd w ?_) hs⟩
 rintro u O2 ⟨us,vs,rfl,h1,h2,p⟩
 refine BB fun H v ws Q ok r1 r2 q=>?_
 cases r1.raw_inv
 obtain⟨w,rfl,r3⟩:=r2.one_inv
 obtain⟨c,ys,rfl,hc,_,r3⟩:=r3.lst_inv
 obtain⟨xs,hx,r⟩:=ok a us h1
 exact⟨a,c,xs,ys,rfl,rfl,hx,hc,by rw[r.length,r3.length];exact h2,q _ _ _ _ p (.put ok h1 (r.append r3)) .non⟩
noncomputable def Ea:T→Bool
 | .non=>true
 |_=>false
theorem MG{j:Nat}(hr:Aj t=false)(ha:ET Z ρ O a t):EB Z ρ O (.Compare a [.Is] [.Constant .none j p1] pos) (Ea t):=Au Pq (Ak _) (fun Φ p H v w Q ok r1 r2 q=>by
 refine⟨r2.non_inv,?_⟩
 have e:decide (v=V.non)=Ea t:=by
  cases r1<;>first|rfl|cases hr
 rw[e]
 exact q _ H _ O p (.refl ok) (.bl _)) ha CH
noncomputable def dg(C:Addr)(t:T):Sp:=fun vs H Q _=>∃x,vs=[.ref x]∧Rd H x (FX C x)∧∀v H',Same H H'→(∀(K:a9) (O:AH),Rep K O H' v t)→Q v H'
end
section
variable{Z:Zx}{ρ:List (Option T)}{O O1 O2:AH}{c:Expr}{body ss:List Stmt}{Ψ:Es}{pos:Pos}
noncomputable def dh(Z:Zx)(e:Expr):TT:=fun σ H Q=>∃ρ O Φ,WT Z ρ O e Φ∧ZR Z ρ O Φ σ H Q
theorem ak{e:Expr}:PT Z.X e (dh Z e):=fun pins s σ H Q I ⟨_,_,_,w,q⟩=>w pins s σ H Q I q
theorem RC(hp:nL (model Z.X.prog Z.X.w) Z.X.A Z.X.env Z.X.xe)(I:Nat→Lz)(i0:∃m,I m ρ O)
  (step:∀m ρ' O',I m ρ' O'→WT Z ρ' O' c fun b O1=>if b=true then FZ Z ρ' O1 body {nx:=fun ρ2 O2=>∃m',m'<m∧I m' ρ2 O2,rt:=Ψ.rt,bk:=Ψ.nx,ct:=fun ρ2 O2=>∃m',m'<m∧I m' ρ2 O2} else Ψ.nx ρ' O1):WS Z ρ O (.While c body [] pos) Ψ:=by
 refine PS.weak (Pm hp ak KU) fun D σ H q=>?_
 obtain⟨m0,i0⟩:=i0
 refine⟨fun m σ' H'=>∃ρ' O',I m ρ' O'∧Asr Z ρ' O' σ' H'∧Kp O H O' H',⟨m0,ρ,O,i0,q.1,.refl⟩,?_⟩
 rintro m σ1 H1 ⟨ρ1,O1,i1,a1,k1⟩
 refine⟨ρ1,O1,_,step m ρ1 O1 i1,a1,fun b H2 O2 p f=>?_⟩
 have kk:=k1.trans f.kp
 cases b with
 |true=>
  rw[if_pos rfl] at p
  show if true=true then _ else _
  rw[if_pos rfl]
  refine⟨fun σ2 H3=>∃ρ2 O3,(∃m',m'<m∧I m' ρ2 O3)∧Asr Z ρ2 O3 σ2 H3∧Kp O H O3 H3,?_,ρ1,O2,_,p,a1.step f,?_⟩
  ·rintro σ2 H3 ⟨ρ2,O3,⟨m',hm,i2⟩,a2,k2⟩
   exact⟨m',hm,ρ2,O3,i2,a2,k2⟩
  ·exact⟨fun ρ' O' σ' H' w a k=> ⟨ρ',O',w,a,kk.trans k⟩,q.2.rt,fun ρ' O' σ' H' w a k=>q.2.nx ρ' O' σ' H' w a (kk.trans k),fun ρ' O' σ' H' w a k=> ⟨ρ',O',w,a,kk.trans k⟩⟩
 |false=>
  rw[if_neg c9] at p
  show if false=true then _ else _
  rw[if_neg c9]
  exact q.2.nx ρ1 O2 σ1 H2 p (a1.step f) kk
theorem UP(hk:∀H,OwnOk Z.K O1 H→Kp O1 H O2 H∧OwnOk Z.K O2 H)(hf:∀b us vs,Z.Oe b=some us→O1 b=some vs→∃us',O2 b=some us')(h:FZ Z ρ O2 ss Ψ):FZ Z ρ O1 ss Ψ:=PSs.weak h fun D σ H q=>by
 obtain⟨k,ok⟩:=hk H q.1.ok
 exact⟨⟨q.1.rl.kp k q.1.ok,⟨q.1.fr.kp.trans k,fun b us e=>by
  obtain⟨vs,e'⟩:=q.1.fr.own b us e
  exact hf b us vs e e',ok⟩⟩,q.2.step k⟩
end
section
variable{O:AH}{rs:List (Addr×List T)}{r:Addr×List T}{p q l:Addr}{us vs:List T}
noncomputable def Jj(O:AH)(rs:List (Addr×List T)):AH:=rs.foldl (fun O r=>Ad O r.1 r.2) O
theorem BX:Jj O (r::rs)=Jj (Ad O r.1 r.2) rs:=rfl
theorem RD:Jj O (rs++[r])=Ad (Jj O rs) r.1 r.2:=by unfold Jj;rw[List.foldl_append];rfl
theorem Dh(h:∀r∈rs,r.1≠p):Jj O rs p=O p:=by
 induction rs generalizing O with
 |nil=>rfl
 |cons r rs ih=>
  rw[BX,ih fun s hs=>h s (fk _ hs),Aa (fun z=>h r (gC ..) z.symm)]
theorem RE(h:∀r∈rs,r.1≠p):Ad (Jj O rs) p vs=Jj (Ad O p vs) rs:=by
 induction rs generalizing O with
 |nil=>rfl
 |cons r rs ih=>
  rw[BX,ih fun s hs=>h s (fk _ hs),BX,EU (h r (gC ..))]
theorem Dt(hn:(rs.map jw).Nodup)(h:r∈rs):Jj O rs r.1=some r.2:=by
 induction rs generalizing O with
 |nil=>cases h
 |cons s rs ih=>
  rw[gH,gB] at hn
  rw[BX]
  rcases fu.mp h with rfl|h
  ·rw[Dh fun s hs z=>hn.1 (gc.mpr ⟨s,hs,z⟩),AF]
  ·exact ih hn.2 h
theorem UQ{i:Nat}(hn:(rs.map jw).Nodup)(h:rs[i]?=some (p,us)):Ad (Jj O rs) p vs=Jj O (rs.set i (p,vs)):=by
 induction rs generalizing O i with
 |nil=>simp at h
 |cons s rs ih=>
  rw[gH,gB] at hn
  cases i with
  |zero=>
   simp at h
   subst h
   rw[List.set_cons_zero,BX,BX,RE fun s hs z=>hn.1 (gc.mpr ⟨s,hs,z⟩),BO]
  |succ i=>
   rw[List.set_cons_succ,BX,BX]
   exact ih hn.2 (by simpa using h)
theorem UR{i:Nat}(h:rs[i]?=some (p,us)):(rs.set i (p,vs)).map jw=rs.map jw:=by
 rw[oU]
 apply jA
 intro m
 by_cases hm:i=m
 ·subst hm
  have hl:=(gh.mp h).1
  rw[gW (by simpa using hl),fq,h];rfl
 ·rw[gQ hm]
noncomputable def HX(r:Addr×List T):T:=.raw (.ref r.1)
theorem KZ{K:a9}{H:Hp}{O:AH}:∀{rs:List (Addr×List T)} {xs:List V},Reps K O H xs (rs.map HX)→xs=rs.map fun r=>V.ref r.1
 | [],_,h=>h.nil_inv
 |r::rs,_,h=>by
  obtain⟨v,vs',rfl,h1,h2⟩:=h.cons_inv
  cases h1.raw_inv
  rw[KZ h2];rfl
theorem Ka{K:a9}{H:Hp}{O:AH}:∀{rs:List (Addr×List T)},(∀r∈rs,Rep K O H (.ref r.1) (.lst r.2))→Reps K O H (rs.map fun r=>V.ref r.1) (rs.map fun r=>T.lst r.2)
 | [],_=> .nil
 |r::rs,h=> .cons (h r (gC ..)) (Ka fun s hs=>h s (fk _ hs))
theorem RF{Z:Zx}{ρ:List (Option T)}{ss:List Stmt}{Ψ:Es}(hn:(rs.map jw).Nodup)(hl:∀r∈rs,r.1≠l)(ho:∀r∈rs,O r.1=none)(he:∀r∈rs,Z.Oe r.1=none)
  (h:FZ Z ρ (Ad O l (rs.map fun r=>T.lst r.2)) ss Ψ):FZ Z ρ (Ad (Jj O rs) l (rs.map HX)) ss Ψ:=by
 refine UP (fun H ok=>?_) (fun b us vs e1 e2=>?_) h
 ·have k:Kp (Ad (Jj O rs) l (rs.map HX)) H (Ad O l (rs.map fun r=>T.lst r.2)) H:=fun b o hb n=> ⟨hb,by
   by_cases h1:b=l
   ·rw[h1,AF] at n;cases n
   ·rw[Aa h1] at n ⊢
    by_cases h2:∃r∈rs,r.1=b
    ·obtain⟨r,hr,rfl⟩:=h2
     exact ho r hr
    ·rw[Dh fun r hr z=>h2 ⟨r,hr,z⟩] at n
     exact n⟩
  refine⟨k,fun a ts e=>?_⟩
  by_cases h1:a=l
  ·subst h1
   rw[AF] at e
   cases e
   obtain⟨xs,hx,rx⟩:=ok a _ AF
   have:=KZ rx
   subst this
   refine⟨_,hx,Ka fun r hr=>?_⟩
   obtain⟨ys,hy,ry⟩:=ok r.1 r.2 (by rw[Aa (hl r hr)];exact Dt hn hr)
   exact .lst hy (by rw[Aa (hl r hr)];exact ho r hr) (ry.kp k ok)
  ·rw[Aa h1] at e
   have hz:∀r∈rs,r.1≠a:=fun r hr z=>by rw[←z,ho r hr] at e;cases e
   obtain⟨xs,hx,rx⟩:=ok a ts (by rw[Aa h1,Dh hz];exact e)
   exact⟨xs,hx,rx.kp k ok⟩
 ·by_cases h1:b=l
  ·rw[h1];exact⟨_,AF⟩
  ·rw[Aa h1] at e2 ⊢
   by_cases h2:∃r∈rs,r.1=b
   ·obtain⟨r,hr,rfl⟩:=h2
    rw[he r hr] at e1;cases e1
   ·rw[Dh fun r hr z=>h2 ⟨r,hr,z⟩] at e2
    exact⟨_,e2⟩
end
theorem Hy{Z:Zx}{ρ:List (Option T)}{O:AH}{elt tg iter:Expr}{ifs:List Expr}{csc:Scope}{nc:List Str}{cap:List (Str×Nat)}{pos:Pos}{i:Nat}{x:Str}{px spos:Pos}{Ψ:Es}(hsw:nJ (.ListComp elt [⟨tg,iter,ifs,0⟩] csc pos) (some (.Name x px)) spos.line Z.X.env=pure true)(hN:Z.X.N.Nodup)(hc:Z.X.calm=true)(ok:LcOk Z.X csc nc cap)
  (h:WI Z ρ O tg iter (Sw Z ρ elt tg ifs csc nc cap fun acc O'=>∀a,O' a=none→Ψ.nx (ρ.set i (some (.raw (.ref a)))) (Ad O' a acc))) (hx:Z.X.N[i]?=some x:=by rfl) (hk:Z.X.env.scope.names.lookup x=some .local:=by rfl)
  (hs:∀x,ja iter Z.X.env x=pure x:=by intro _;rfl):WS Z ρ O (.Assign [.Name x px] (.ListComp elt [⟨tg,iter,ifs,0⟩] csc pos) spos) Ψ:=
 PS.weak (Jv hN hx hk hsw hc ok h UG NS UH hs) fun D σ H q=>MB q.1 h fun acc O' p H' p1 n f nb=>q.2.nx _ _ _ H' (p1 p n) ⟨(q.1.step f).rl.set (.raw _),(q.1.step f).fr⟩ f.kp
end L2.TL
namespace Gr
open L2.TL
variable{ps:List (Int×Int)}{n:Int}{S:List Int}{v u:Int}{d e s k:Nat}{fs gs:List (Option Nat)}{Az ds:List Int}
noncomputable def Adj(ps:List (Int×Int))(u v:Int):Prop:=(u,v)∈ps∨(v,u)∈ps
theorem Adj.symm(h:Adj ps u v):Adj ps v u:=Or.symm h
inductive W(ps:List (Int×Int))(S:List Int):Nat→Int→Prop
 |at{v:Int}:v∈S→W ps S 0 v
 |go {k:Nat} {u v:Int}:W ps S k u→Adj ps u v→W ps S (k+1) v
noncomputable def IsD(ps:List (Int×Int))(S:List Int)(v:Int)(d:Nat):Prop:=W ps S d v∧∀j,j<d→¬W ps S j v
theorem IsD.uniq(a:IsD ps S v d)(b:IsD ps S v e):d=e:=by
 rcases jQ d e with h|h|h
 ·exact absurd a.1 (b.2 d h)
 ·exact h
 ·exact absurd b.1 (a.2 e h)
theorem W.least(h:W ps S k v):∃d,d≤k∧IsD ps S v d:=by
 induction k using nu with
 |_ k ih=>
  by_cases hx:∃j,j<k∧W ps S j v
  ·obtain⟨j,hj,w⟩:=hx
   obtain⟨d,hd,i⟩:=ih j hj w
   exact⟨d,by omega,i⟩
  ·exact⟨k,fv _,h,fun j hj w=>hx ⟨j,hj,w⟩⟩
theorem IsD.prev(h:IsD ps S v (s+1)):∃u,IsD ps S u s∧Adj ps u v:=by
 obtain⟨w,m⟩:=h
 cases w with
 |go w a=>exact⟨_,⟨w,fun j hj w'=>m (j+1) (by omega) (.go w' a)⟩,a⟩
noncomputable def Gi(n:Int)(ps:List (Int×Int)):Prop:=∀p∈ps,0≤p.1∧p.1<p.2∧p.2<n
theorem Adj.inb(hw:Gi n ps)(h:Adj ps u v):0≤v∧v<n∧u≠v:=by
 rcases h with h|h
 ·have:=hw _ h
  simp only at this
  omega
 ·have:=hw _ h
  simp only at this
  omega
theorem W.inb(hw:Gi n ps)(hS:∀z∈S,0≤z∧z<n)(h:W ps S k v):0≤v∧v<n:=by
 cases h with
 |«at» h=>exact hS _ h
 |go _ a=>exact⟨(a.inb hw).1,(a.inb hw).2.1⟩
theorem DT{L:List Int}(h:L.Nodup)(hb:∀z∈L,0≤z∧z<n):L.length≤n.toNat:=by
 have key:∀L:List Int,L.Nodup→(∀z∈L,0≤z∧z<n)→(L.map Int.toNat).Nodup:=by
  intro L
  induction L with
  |nil=>intro _ _;simp
  |cons a L ih=>
   intro h hb
   rw[gB] at h
   rw[gH,gB]
   refine⟨fun hm=>?_,ih h.2 fun z hz=>hb z (fk _ hz)⟩
   obtain⟨z,hz,e⟩:=gc.mp hm
   have h1:=hb z (fk _ hz)
   have h2:=hb a (gC ..)
   have:z=a:=by omega
   subst this
   exact h.1 hz
 have:=StT.CS n.toNat (L.map Int.toNat) (key L h hb) (fun x hx=>by
  obtain⟨z,hz,rfl⟩:=gc.mp hx
  have:=hb z hz
  omega)
 rw[e8] at this
 exact this
end Gr
namespace L2.TL
open PySem PySem.Spec PyProof.Rows
section
variable{X:Cx}
theorem Kb{v:V}{u:Value}(h:RelV v u):∀n,Vals (gK n v) (gK n u)
 |0=> .nil
 |n+1=> .cons h (Kb h n)
theorem Kc{u:Value}:∀(n:Nat) (acc:Array Value),qP (fun x1 x2=>x1++x2) acc (gK n [u].toArray)=acc++(gK n u).toArray
 |0,acc=>by simp
 |n+1,acc=>by
  rw[List.replicate_succ,List.foldl_cons,Kc n]
  rw[List.replicate_succ]
  apply lE
  simp
noncomputable def ao(K:a9):R2:=fun x y H Q=>∃(a:Addr) (i:Int) (v:V),x=.ref a∧y=.int i∧SqL K H a [v]∧(0≤i∧i≤1000)∧∀p,H p=none→Q (.ref p) (upd H p (.lst (gK i.toNat v)))
theorem US:CO X (jY .Mult) (ao X.K):=by
 intro pins s σ H x y v u Q I rx ry h
 obtain⟨a,i,e,rfl,rfl,ha,hi,q⟩:=h
 cases rx
 obtain⟨tk,rfl⟩:=ry
 obtain⟨its,rv,p,_⟩:=I.list ha
 obtain⟨⟨cls,d,data,sl⟩,k,ho,hc,hdd,hd⟩:=id p
 simp only at hc hd
 subst hc hd
 obtain⟨u1,rfl,ru⟩:=Vals.one rv
 have hf:=I.hok.fresh (fv s.heap.objs.size)
 refine wpAny_binaryOp_repeat_ref (T:="list") (U:="int") (by decide) ⟨_,ho,rfl⟩ (fun s'=>typeIs_int s' i tk) noFill_list_mul F.fills_int_mul F.slot_int_rmul repeat_list F.slot_int_index.lookup
  (mZ F.slot_int_rmul (typeIs_int s i tk) F.entry_int_rmul (F.args_int_rmul_2 _ _) (lm_int_rmul_list_any i tk a [u1].toArray k d sl)
   ⟨ho,rfl,⟨_,ho,rfl⟩,mZ F.slot_list_mul ⟨_,ho,rfl⟩ F.entry_list_mul (F.args_list_mul_2 _ _)
    (lm_list_mul_any a [u1].toArray k d sl i tk (by simp[Builtin.List.listFitsIndex];omega) (by simp;omega) (by simp[kP,sizeLine];omega)) ⟨ho,?_⟩⟩)
 have ef:qP (fun x1 x2=>x1++x2) #[] (gK (if[u1].toArray.isEmpty=true then 0 else i.toNat) [u1].toArray)=(gK i.toNat u1).toArray:=by
  show qP (fun x1 x2=>x1++x2) #[] (gK i.toNat [u1].toArray)=_
  rw[Kc]
  simp
 rw[ef]
 exact⟨.ref _,_,I.laid (t':=s.toks) (o:=.lst (gK i.toNat e)) (fun b ob q=>e9 _ q) (fv _) ⟨by rw[jD,iH];omega,gK i.toNat u1,0,Kb ru _,gJ _ rfl⟩,rfl,q _ hf⟩
end
section
variable{Z:Zx}{ρ:List (Option T)}{O:AH}{a b:Expr}{t:T}{Φ:BU}{pos:Pos}{i:Int}
theorem Rep.repl{K:a9}{O:AH}{H:Hp}{v:V}{t:T}(h:Rep K O H v t):∀n,Reps K O H (gK n v) (gK n t)
 |0=> .nil
 |n+1=> .cons h (Rep.repl h n)
end
section
variable{Z:Zx}{ρ:List (Option T)}{O:AH}{body:List Stmt}{Ψ:Es}{pos:Pos}
end
end L2.TL
namespace L2
open PySem PySem.Spec PyProof.Rows
section
variable{X:Cx}
end
end L2
namespace L2.TL
open PySem PySem.Spec PyProof.Rows
section
variable{Z:Zx}{ρ:List (Option T)}{O:AH}{a:Expr}{ts:List T}{p pos:Pos}
end
section
variable{Z:Zx}{ρ:List (Option T)}{O:AH}{elt tg iter:Expr}{csc:Scope}{nc:List Str}{cap:List (Str×Nat)}{pos:Pos}
end
open PySem.Calls
noncomputable def aq:T→Bool
 | .tup _=>true
 | .lst _=>true
 |_=>false
section
variable{X:Cx}
noncomputable def YD(K:a9):List V→Hp→VK→Prop:=fun xs H Q=>∃v O t,xs=[v]∧Rep K O H v t∧aq t=true∧EY t=true∧(dT t).weight≤2^20∧(dT t).depth≤100∧Q (.str (dT t).shown) H
theorem Gj(hg:X.A.guards=some [])(hu:X.A.units+101<cLine):BC X (.builtin "repr") (YD X.K):=by
 intro pins s σ H xs us Q I r h
 obtain⟨v,O,t,rfl,rep,sq,sh,hw,hd,q⟩:=h
 obtain⟨u,rfl,ru⟩:=Vals.one r
 obtain⟨as,rd⟩:=Rep.reads I.hok rep sh ru
 obtain⟨s1,s2,s3⟩:=NW t sh
 have hv:∃a,v=.ref a:=by
  cases t with
  |tup ts=>obtain⟨a,_,rfl,_⟩:=rep.tup_inv;exact⟨a,rfl⟩
  |lst ts=>obtain⟨a,_,rfl,_⟩:=rep.lst_inv;exact⟨a,rfl⟩
  |_=>cases sq
 obtain⟨a,rfl⟩:=hv
 cases ru
 exact repr_of_reads' rd s1 (iC.noDict_hsm s2) hg (by omega) (fun _ _ e=>e) (fun h' u tk hk=> ⟨.str _,H,I.kept hk,⟨u,rfl⟩,q⟩) (iC.shown_fits (by decide) (by decide) s3 hw)
theorem Gk:BC X (.builtin "repr") (fun xs H Q=>xs=[.non]∧Q (.str "None") H):=by
 intro pins s σ H xs us Q I r h
 obtain⟨rfl,q⟩:=h
 obtain⟨u,rfl,ru⟩:=Vals.one r
 cases ru
 exact PySem.P.repr_of_none ⟨.str _,H,I.tok _,⟨_,rfl⟩,q⟩
end
section
variable{Z:Zx}{ρ:List (Option T)}{O:AH}{e a b hi:Expr}{p p2 pos:Pos}{t:T}{ts:List T}{i:Int}{Φ:BU}
theorem JE(hg:Z.X.A.guards=some [])(hu:Z.X.A.units+101<cLine)(m:Z.X.mg "repr" =none)(h:ET Z ρ O e t)(sq:aq t=true)(sh:EY t=true)(hw:(dT t).weight≤2^20)(hd:(dT t).depth≤100)
  (hgl:Gl Z.X "repr":=by rfl) (he:fj [e] Z.X.env=(false,eval e Z.X.env)::fj [] Z.X.env:=by rfl):ET Z ρ O (.Call (.Name "repr" p) [e] [] pos) (.str (dT t).shown):=
 BE (Gj hg hu) m Qw (AN h AC he) (fun Φ q H vs Q ok r k=>by
  obtain⟨v,rfl,r1⟩:=r.one_inv
  exact⟨v,O,t,rfl,r1,sq,sh,hw,hd,k _ H _ O q (.refl ok) (.str _)⟩) hgl (by decide) (by decide) he
theorem RG{l:Addr}(ho:O l=some ts)(hg:Z.X.A.guards=some [])(hu:Z.X.A.units+101<cLine)(m:Z.X.mg "repr" =none)(h:ET Z ρ O e (.raw (.ref l)))(sh:shBs ts=true)(hw:(dT (.lst ts)).weight≤2^20)(hd:(dT (.lst ts)).depth≤100)
  (hgl:Gl Z.X "repr":=by rfl) (he:fj [e] Z.X.env=(false,eval e Z.X.env)::fj [] Z.X.env:=by rfl):ET Z ρ O (.Call (.Name "repr" p) [e] [] pos) (.str (dT (.lst ts)).shown):=
 BE (Gj hg hu) m Qw (AN h AC he) (fun Φ q H vs Q ok r k=>by
  obtain⟨v,rfl,r1⟩:=r.one_inv
  cases r1.raw_inv
  exact⟨_,DN O l,.lst ts,rfl,ok.rep ho,rfl,by unfold EY;exact sh,hw,hd,k _ H _ O q (.refl ok) (.str _)⟩) hgl (by decide) (by decide) he
theorem Ke(m:Z.X.mg "repr" =none)(h:ET Z ρ O e .non)(hgl:Gl Z.X "repr":=by rfl)(he:fj [e] Z.X.env=(false,eval e Z.X.env)::fj [] Z.X.env:=by rfl):ET Z ρ O (.Call (.Name "repr" p) [e] [] pos) (.str "None"):=
 BE Gk m Qw (AN h AC he) (fun Φ q H vs Q ok r k=>by
  obtain⟨v,rfl,r1⟩:=r.one_inv
  cases r1.non_inv
  exact⟨rfl,k _ H _ O q (.refl ok) (.str _)⟩) hgl (by decide) (by decide) he
theorem UT(ha:ET Z ρ O a (.lst [t]))(hb:ET Z ρ O b (.int i))(hi:0≤i∧i≤1000):ET Z ρ O (.BinOp a .Mult b pos) (.lst (gK i.toNat t)):=fun Φ k=>
 EO US (ET.we ha (ET.we hb fun H v w Q ok r1 r2 q=>by
  obtain⟨a,xs,rfl,h1,_,r1⟩:=r1.lst_inv
  obtain⟨v,rfl,g⟩:=r1.one_inv
  exact⟨a,i,v,rfl,r2.int_inv,.inl (.inl h1),hi,fun l hl=>q _ _ _ _ k (.new ok hl) (.lst AM (ok.none_of hl) ((Rep.repl g _).kp (BP ok hl) ok))⟩))
end
end L2.TL
namespace L2
open PySem PySem.Spec PySem.Calls PyProof.Rows
section
variable{prog:Program}{w:World}{A:gx}{E:Value→Shared→Prop}{s:Shared}
end
section
variable{X:Cx}
end
end L2
namespace L2.TL
open PySem PySem.Spec PyProof.Rows
section
variable{Z:Zx}{ρ:List (Option T)}{O:AH}{e o:Expr}{Φ:BU}{p pos apos cpos:Pos}{ns:List Int}{i:Int}{j:Nat}
end
end L2.TL
namespace SrtG
open PySem PySem.Calls PySem.W PyProof.Rows
variable{prog:Program}{w:World}{A:gx}{E:Value→Shared→Prop}{s:Shared}
end SrtG
namespace L2
open PySem PySem.Spec PySem.Calls PyProof.Rows SrtG
theorem BN{α β:Type}{f:α→β}{o b:List β}(h:o.Perm b):∀{l:List α},b=l.map f→∃m:List α,m.Perm l∧o=m.map f:=by
 induction h with
 |nil=>
  intro l e
  cases l with
  |nil=>exact⟨[],.refl _,rfl⟩
  |cons x l=>cases e
 |cons x p ih=>
  intro l e
  cases l with
  |nil=>cases e
  |cons y l=>
   injection e with e1 e2
   obtain⟨m,h1,h2⟩:=ih e2
   exact⟨y::m,h1.cons y,by rw[gH,←h2,e1]⟩
 |swap x y t=>
  intro l e
  cases l with
  |nil=>cases e
  |cons u l=>
   cases l with
   |nil=>injection e with e1 e2;cases e2
   |cons v l=>
    injection e with e1 e2
    injection e2 with e3 e4
    exact⟨v::u::l,.swap ..,by rw[gH,gH,e1,e3,e4]⟩
 |trans p q ih1 ih2=>
  intro l e
  obtain⟨m,h1,h2⟩:=ih2 e
  obtain⟨m',h3,h4⟩:=ih1 h2
  exact⟨m',h3.trans h1,h4⟩
section
variable{prog:Program}{w:World}{A:gx}{E:Value→Shared→Prop}{s:Shared}{U:Heap→Value→Prop}{rk:Heap→Value→Int}{T:Value}
theorem MH{l:Addr}{o:Obj}{vs:List Value}{n:Nat}{Q:Value→Shared→Prop}(ho:s.heap.get? l=some o)(hc:o.cls=.type "list")(hd:o.data=.seq vs.toArray n)(R:Rk prog w U rk T)(ok:∀v∈vs,U s.heap v)(hn:vs.length≤9000000)
  (h:∀(h':Heap) (a:Addr) (out:List Value) (c:Nat),s.heap.get? a=none→h'.get? a=some (gP "list" out.toArray c)→(∀b o,s.heap.get? b=some o→h'.get? b=some o)→out.Perm vs→out.Pairwise (fun x y=>rk s.heap x≤rk s.heap y)→Q (.ref a) {s with heap:=h'}):
  wpAny (model prog w) A (call (.builtin "sorted") [.ref l]) Q E s:=by
 refine Calls.call_function_entry qE qf qh (ql _) ?_
 unfold Builtin.«sorted»
 refine a8 (m:=checkCount "sorted" 1 1 _) (b8 ?_)
 refine a8 (wpAny_collect_seq l (.inl rfl) ho hc hd (fun h1 hk1=>?_) (by rw[gj,iH];omega))
 show wpAny _ _ (newList vs>>=_) _ _ _
 refine a8 (mh ?_ (by rw[iH];omega))
 have hoL:(h1.push (gP "list" vs.toArray 0)).get? h1.objs.size=some (gP "list" vs.toArray 0):=gJ _ rfl
 have keep:∀b o,s.heap.get? b=some o→(h1.push (gP "list" vs.toArray 0)).get? b=some o:=fun b o e=>e9 _ (hk1 b o e)
 have ok1:∀v∈vs,U (h1.push (gP "list" vs.toArray 0)) v:=fun v hv=> (R.kept (ok v hv) fun b o _ e=>keep b o e).1
 have fin:∀(out:List Value) (c:Nat) (h':Heap),out.Perm vs→out.Pairwise (fun x y=>rk (h1.push (gP "list" vs.toArray 0)) x≤rk (h1.push (gP "list" vs.toArray 0)) y)→h'.get? h1.objs.size=some (gP "list" (l7 out) c)→(∀b o,b≠h1.objs.size→(h1.push (gP "list" vs.toArray 0)).get? b=some o→h'.get? b=some o)→Q (.ref h1.objs.size) {s with heap:=h'}:=fun out c h' pm pw hg hk=>by
  refine h _ h1.objs.size out c ?_ hg (fun b o e=>?_) pm ?_
  ·cases e:s.heap.get? h1.objs.size with
   |none=>rfl
   |some o'=>exact absurd (gi (hk1 _ _ e)) (iQ _)
  ·exact hk b o (gL (gi (hk1 b o e))) (keep b o e)
  ·refine iG (fun{x y} hx hy q=>?_) pw
   rw[(R.kept (ok _ (pm.mem_iff.mp hx)) fun b o _ e=>keep b o e).2,(R.kept (ok _ (pm.mem_iff.mp hy)) fun b o _ e=>keep b o e).2] at q
   exact q
 show wpAny _ _ _ _ _ {s with heap:=h1.push (gP "list" vs.toArray 0)}
 refine a8 (hZ (jJ pq ⟨_,hoL,rfl⟩ oZ ?body (pE _)))
 by_cases hlen:vs.length<2
 ·refine StT.GR (s:={s with heap:=h1.push (gP "list" vs.toArray 0)}) hoL hlen fun c h2 hg hk=> ⟨_,rfl,b8 ⟨_,rfl,fin vs c h2 (.refl _) ?_ hg hk⟩⟩
  match vs,hlen with
  | [],_=>exact .nil
  | [x],_=>exact j5 _ _
 ·exact KO (s:={s with heap:=h1.push (gP "list" vs.toArray 0)}) hoL R ok1 (by omega) hn fun out c h' pm pw hg hk=> ⟨_,rfl,b8 ⟨_,rfl,fin out c h' pm pw hg hk⟩⟩
end
section
variable{X:Cx}{pins:List (Addr×Obj)}{σ:St}{H:Hp}{s:Shared}
end
end L2
namespace L2.TL
open PySem PySem.Spec PyProof.Rows SrtG
section
variable{K:a9}{O:AH}{H:Hp}
end
section
variable{Z:Zx}{ρ:List (Option T)}{O:AH}{e:Expr}{Φ:BU}{p pos:Pos}{ks:List Kd}
end
end L2.TL
namespace L2
open PySem PySem.Spec PySem.Calls PyProof.Rows
section
variable{X:Cx}
end
end L2
namespace L2.TL
open PySem PySem.Spec PySem.Calls PyProof.Rows
section
variable{K:a9}{O:AH}{H H':Hp}
end
section
variable{Z:Zx}{ρ:List (Option T)}{O:AH}{e a b:Expr}{Φ:BU}{p pos:Pos}{d:Addr}{qs:List (Str×T)}{x:Str}{t:T}
end
section
variable{Z:Zx}{ρ:List (Option T)}{O:AH}{a b tg:Expr}{i j:Int}{pos:Pos}{n:Str}{ad:Addr}{xs:List V}
theorem YE(ha:ET Z ρ O a (.int i))(hb:ET Z ρ O b (.int j))(h:TK i j):ET Z ρ O (.BinOp a .LShift b pos) (.int (i*2^j.toNat)):=DO Wt (Om h) ha hb
theorem YF(ha:ET Z ρ O a (.int i))(hb:ET Z ρ O b (.int j))(h:0≤j):ET Z ρ O (.BinOp a .RShift b pos) (.int (i/2^j.toNat)):=DO Wu (Om h) ha hb
end
section
variable{Z:Zx}{ρ:List (Option T)}{O:AH}{x y z:Str}{p1 p2 p3 pos:Pos}{k:Nat}{ad:Addr}{w:Str}{l m':Int}
end
end L2.TL
namespace GrR
open L2.TL
variable{R:Int→Int→Prop}{n:Int}{S:List Int}{v u:Int}{d e s k:Nat}{fs gs:List (Option Nat)}{Az ds:List Int}
inductive W(R:Int→Int→Prop)(S:List Int):Nat→Int→Prop
 |at{v:Int}:v∈S→W R S 0 v
 |go {k:Nat} {u v:Int}:W R S k u→R u v→W R S (k+1) v
noncomputable def IsD(R:Int→Int→Prop)(S:List Int)(v:Int)(d:Nat):Prop:=W R S d v∧∀j,j<d→¬W R S j v
theorem IsD.uniq(a:IsD R S v d)(b:IsD R S v e):d=e:=by
 rcases jQ d e with h|h|h
 ·exact absurd a.1 (b.2 d h)
 ·exact h
 ·exact absurd b.1 (a.2 e h)
theorem W.least(h:W R S k v):∃d,d≤k∧IsD R S v d:=by
 induction k using nu with
 |_ k ih=>
  by_cases hx:∃j,j<k∧W R S j v
  ·obtain⟨j,hj,w⟩:=hx
   obtain⟨d,hd,i⟩:=ih j hj w
   exact⟨d,by omega,i⟩
  ·exact⟨k,fv _,h,fun j hj w=>hx ⟨j,hj,w⟩⟩
theorem IsD.prev(h:IsD R S v (s+1)):∃u,IsD R S u s∧R u v:=by
 obtain⟨w,m⟩:=h
 cases w with
 |go w a=>exact⟨_,⟨w,fun j hj w'=>m (j+1) (by omega) (.go w' a)⟩,a⟩
theorem IsD.down(h:IsD R S v (s+k)):∃u,IsD R S u s:=by
 induction k generalizing v with
 |zero=>exact⟨v,h⟩
 |succ k ih=>
  obtain⟨u,hu,_⟩:=IsD.prev (s:=s+k) h
  exact ih hu
noncomputable def ar(n:Int)(R:Int→Int→Prop):Prop:=∀u v,R u v→0≤v∧v<n
theorem W.inb(hw:ar n R)(hS:∀z∈S,0≤z∧z<n)(h:W R S k v):0≤v∧v<n:=by
 cases h with
 |«at» h=>exact hS _ h
 |go _ a=>exact hw _ _ a
theorem IsD.lt(hw:ar n R)(hS:∀z∈S,0≤z∧z<n)(h:IsD R S v s):(s:Int)<n:=by
 have key:∃L:List Nat,L.length=s+1∧L.Nodup∧∀u∈L,∃i,i≤s∧IsD R S (u:Int) i:=by
  induction s generalizing v with
  |zero=>
   have:=h.1.inb hw hS
   refine⟨[v.toNat],rfl,by simp,fun u hu=> ⟨0,fv _,?_⟩⟩
   rw[b9.mp hu,kT this.1]
   exact h
  |succ s ih=>
   obtain⟨u,hu,_⟩:=h.prev
   obtain⟨L,l1,l2,l3⟩:=ih hu
   have hb:=h.1.inb hw hS
   refine⟨v.toNat::L,by simp[l1],gB.mpr ⟨fun hm=>?_,l2⟩,fun z hz=>?_⟩
   ·obtain⟨i,hi,q⟩:=l3 _ hm
    rw[kT hb.1] at q
    have:=q.uniq h
    omega
   ·rcases fu.mp hz with rfl|hz
    ·exact⟨s+1,fv _,by rw[kT hb.1];exact h⟩
    ·obtain⟨i,hi,q⟩:=l3 z hz
     exact⟨i,by omega,q⟩
 obtain⟨L,l1,l2,l3⟩:=key
 have:=StT.CS n.toNat L l2 (fun x hx=>by
  obtain⟨i,_,q⟩:=l3 x hx
  have:=q.1.inb hw hS
  omega)
 omega
structure Fr(n:Int)(R:Int→Int→Prop)(S:List Int)(s:Nat)(fs:List (Option Nat)):Prop where
 len:(fs.length:Int)=n
 eq:∀v:Int,0≤v→v<n→∀d,fs[v.toNat]?=some (some d)↔(d≤s∧IsD R S v d)
structure All(n:Int)(R:Int→Int→Prop)(S:List Int)(fs:List (Option Nat)):Prop where
 len:(fs.length:Int)=n
 eq:∀v:Int,0≤v→v<n→∀d,fs[v.toNat]?=some (some d)↔IsD R S v d
theorem Fr.all_end(h:Fr n R S s fs)(e:∀v,¬IsD R S v s):All n R S fs:=⟨h.len,fun v v0 v1 d=>by
 rw[h.eq v v0 v1 d]
 refine⟨fun z=>z.2,fun z=> ⟨?_,z⟩⟩
 by_cases hd:d≤s
 ·exact hd
 ·obtain⟨k,rfl⟩:∃k,d=s+k:=⟨d-s,by omega⟩
  obtain⟨u,hu⟩:=z.down
  exact absurd hu (e u)⟩
theorem UU(hl:(fs.length:Int)=n)(h:∀v:Int,0≤v→v<n→∀d,fs[v.toNat]?=some (some d)↔(d=0∧v∈S)):Fr n R S 0 fs:=⟨hl,fun v v0 v1 d=>by
 rw[h v v0 v1 d]
 constructor
 ·rintro⟨rfl,hv⟩
  exact⟨fv _,.at hv,fun j hj=>by omega⟩
 ·rintro⟨hd,w,_⟩
  have:d=0:=by omega
  subst this
  cases w with
  |«at» h=>exact⟨rfl,h⟩⟩
structure Mid(n:Int)(R:Int→Int→Prop)(S:List Int)(s:Nat)(fs:List (Option Nat))(Az ds:List Int):Prop where
 len:(fs.length:Int)=n
 eq:∀v:Int,0≤v→v<n→∀d,fs[v.toNat]?=some (some d)↔((d≤s∧IsD R S v d)∨(d=s+1∧v∈Az))
 sub:∀v∈Az,IsD R S v (s+1)
 dn:∀v∈ds,0≤v∧v<n∧∃d,fs[v.toNat]?=some (some d)
theorem Fr.mid(h:Fr n R S s fs):Mid n R S s fs [] []:=⟨h.len,fun v v0 v1 d=>by
 rw[h.eq v v0 v1 d]
 simp,(fun _ h=>by cases h),(fun _ h=>by cases h)⟩
theorem Mid.miss(m:Mid n R S s fs Az ds)(v0:0≤v)(v1:v<n)(h:fs[v.toNat]?=some (some d)):Mid n R S s fs Az (ds++[v]):=⟨m.len,m.eq,m.sub,fun z hz=>by
 rcases gu.mp hz with hz|hz
 ·exact m.dn z hz
 ·rw[b9.mp hz];exact⟨v0,v1,d,h⟩⟩
theorem Mid.hit(m:Mid n R S s fs Az ds)(v0:0≤v)(v1:v<n)(hn:fs[v.toNat]?=some none)(hu:IsD R S u s)(a:R u v):Mid n R S s (fs.set v.toNat (some (s+1))) (Az++[v]) (ds++[v]):=by
 have hl:=m.len
 have hlt:v.toNat<fs.length:=by omega
 have iv:IsD R S v (s+1):=by
  refine⟨.go hu.1 a,fun j hj w=>?_⟩
  obtain⟨d,hd,i⟩:=w.least
  have:=(m.eq v v0 v1 d).mpr (.inl ⟨by omega,i⟩)
  rw[hn] at this
  cases this
 have key:∀w:Int,0≤w→w<n→w≠v→(fs.set v.toNat (some (s+1)))[w.toNat]?=fs[w.toNat]?:=fun w w0 w1 h=>gQ (by omega)
 refine⟨by rw[kA];exact hl,fun w w0 w1 d=>?_,fun w hw=>?_,fun w hw=>?_⟩
 ·by_cases h:w=v
  ·subst h
   rw[gW hlt]
   constructor
   ·intro z
    have:d=s+1:=by cases z;rfl
    exact .inr ⟨this,by simp⟩
   ·rintro(z|z)
    ·have:=z.2.uniq iv
     omega
    ·rw[z.1]
  ·rw[key w w0 w1 h,m.eq w w0 w1 d]
   have:w∈Az++[v]↔w∈Az:=by simp[h]
   rw[this]
 ·rcases gu.mp hw with hw|hw
  ·exact m.sub w hw
  ·rw[b9.mp hw];exact iv
 ·rcases gu.mp hw with hw|hw
  ·obtain⟨w0,w1,d,hd⟩:=m.dn w hw
   refine⟨w0,w1,?_⟩
   by_cases h:w=v
   ·subst h;exact⟨_,gW hlt⟩
   ·exact⟨d,by rw[key w w0 w1 h];exact hd⟩
  ·rw[b9.mp hw];exact⟨v0,v1,_,gW hlt⟩
theorem Mid.done(m:Mid n R S s fs Az ds)(h:∀u v,IsD R S u s→R u v→v∈ds):Fr n R S (s+1) fs∧∀v,v∈Az↔IsD R S v (s+1):=by
 have key:∀v,IsD R S v (s+1)→v∈Az:=fun v i=>by
  obtain⟨u,hu,a⟩:=i.prev
  obtain⟨v0,v1,d,hd⟩:=m.dn v (h u v hu a)
  rcases(m.eq v v0 v1 d).mp hd with z|z
  ·have:=z.2.uniq i
   omega
  ·exact z.2
 refine⟨⟨m.len,fun v v0 v1 d=>?_⟩,fun v=> ⟨m.sub v,key v⟩⟩
 rw[m.eq v v0 v1 d]
 constructor
 ·rintro(z|z)
  ·exact⟨by omega,z.2⟩
  ·rw[z.1];exact⟨fv _,m.sub v z.2⟩
 ·rintro⟨h1,h2⟩
  by_cases hd:d≤s
  ·exact .inl ⟨hd,h2⟩
  ·have:d=s+1:=by omega
   subst this
   exact .inr ⟨rfl,key v h2⟩
theorem Mid.fresh(m:Mid n R S s fs Az ds)(v0:0≤v)(v1:v<n)(hn:fs[v.toNat]?=some none):v∉Az:=fun h=>by
 have:=(m.eq v v0 v1 (s+1)).mpr (.inr ⟨rfl,h⟩)
 rw[hn] at this
 cases this
variable{R D L:Int→Int→Prop}{n:Int}{S:List Int}{u v a b:Int}{d k:Nat}{fs:List (Option Nat)}
open Classical in
noncomputable def Jk (R:Int→Int→Prop) (S:List Int) (v:Int):Option Nat:=if h:∃d,IsD R S v d then some (choose h) else none
theorem DU(h:IsD R S v d):Jk R S v=some d:=by
 unfold Jk
 have hx:∃d,IsD R S v d:=⟨d,h⟩
 rw[dif_pos hx]
 exact congrArg some ((Classical.choose_spec hx).uniq h)
theorem Fk:Jk R S v=some d↔IsD R S v d:=by
 refine⟨fun e=>?_,DU⟩
 unfold Jk at e
 split at e
 ·rename_i h
  cases e
  exact Classical.choose_spec h
 ·cases e
theorem Hz{S':List Int}{v':Int}{R':Int→Int→Prop}(h:∀d,IsD R S v d↔IsD R' S' v' d):Jk R S v=Jk R' S' v':=by
 cases e:Jk R S v with
 |some d=>exact(DU ((h d).mp (Fk.mp e))).symm
 |none=>
  cases e':Jk R' S' v' with
  |none=>rfl
  |some d=>rw[DU ((h d).mpr (Fk.mp e'))] at e;cases e
theorem All.get(al:All n R S fs)(v0:0≤v)(v1:v<n):fs[v.toNat]?=some (Jk R S v):=by
 have hl:=al.len
 have hlt:v.toNat<fs.length:=by omega
 cases e:Jk R S v with
 |some d=>exact(al.eq v v0 v1 d).mpr (Fk.mp e)
 |none=>
  rw[gm hlt]
  cases z:fs[v.toNat] with
  |none=>rfl
  |some d=>
   have:=(al.eq v v0 v1 d).mp (by rw[gm hlt,z])
   rw[DU this] at e
   cases e
theorem W.mono(h:∀u v,L u v→D u v)(w:W L S k v):W D S k v:=by
 induction w with
 |«at» h=>exact .at h
 |go _ a ih=>exact .go ih (h _ _ a)
theorem W.cut(h:∀u v,D u v→L u v∨u=b)(w:W D S k v):W L S k v∨∃j,j<k∧W L S j b:=by
 induction w with
 |«at» h=>exact .inl (.at h)
 | @go k u v w a ih=>
  rcases ih with w'| ⟨j,hj,w'⟩
  ·rcases h _ _ a with l|rfl
   ·exact .inl (.go w' l)
   ·exact .inr ⟨k,by omega,w'⟩
  ·exact .inr ⟨j,by omega,w'⟩
theorem UV(h1:∀u v,L u v→D u v)(h2:∀u v,D u v→L u v∨u=b):IsD D S b d↔IsD L S b d:=by
 constructor
 ·rintro⟨w,m⟩
  refine⟨?_,fun j hj w'=>m j hj (w'.mono h1)⟩
  rcases w.cut h2 with w'| ⟨j,hj,w'⟩
  ·exact w'
  ·exact absurd (w'.mono h1) (m j hj)
 ·rintro⟨w,m⟩
  refine⟨w.mono h1,fun j hj w'=>?_⟩
  rcases w'.cut h2 with w'| ⟨i,hi,w'⟩
  ·exact m j hj w'
  ·exact m i (by omega) w'
theorem W.consR{p q:Int}(a:R p q)(h:W R [q] k v):W R [p] (k+1) v:=by
 induction h with
 |«at» h=>rw[b9.mp h];exact .go (.at (by simp)) a
 |go _ b ih=>exact .go ih b
theorem W.rev(sy:∀u v,R u v→R v u)(h:W R [a] k v):W R [v] k a:=by
 induction h with
 |«at» h=>rw[b9.mp h];exact .at (by simp)
 |go _ b ih=>exact .consR (sy _ _ b) ih
theorem UW(sy:∀u v,R u v→R v u):IsD R [a] b d↔IsD R [b] a d:=
 ⟨fun h=> ⟨h.1.rev sy,fun j hj w=>h.2 j hj (w.rev sy)⟩,fun h=> ⟨h.1.rev sy,fun j hj w=>h.2 j hj (w.rev sy)⟩⟩
theorem UX{ps:List (Int×Int)}:Gr.W ps S k v↔W (Gr.Adj ps) S k v:=by
 constructor
 ·intro h
  induction h with
  |«at» h=>exact .at h
  |go _ a ih=>exact .go ih a
 ·intro h
  induction h with
  |«at» h=>exact .at h
  |go _ a ih=>exact .go ih a
theorem JF{ps:List (Int×Int)}:Gr.IsD ps S v d↔IsD (Gr.Adj ps) S v d:=
 ⟨fun h=> ⟨UX.mp h.1,fun j hj w=>h.2 j hj (UX.mpr w)⟩,fun h=> ⟨UX.mpr h.1,fun j hj w=>h.2 j hj (UX.mp w)⟩⟩
variable{R:Int→Int→Prop}{a b p q:Int}{L M:List Int}{k d s:Nat}
noncomputable def Ch(R:Int→Int→Prop):List Int→Prop
 |a::b::L=>R a b∧Ch R (b::L)
 |_=>True
theorem Ch.tail(h:Ch R (a::L)):Ch R L:=by
 cases L with
 |nil=>trivial
 |cons b L=>exact h.2
theorem Du:Ch R (L++a::M)↔Ch R (L++[a])∧Ch R (a::M):=by
 induction L with
 |nil=>exact⟨fun h=> ⟨trivial,h⟩,fun h=>h.2⟩
 |cons x L ih=>
  cases L with
  |nil=>exact⟨fun h=> ⟨⟨h.1,trivial⟩,h.2⟩,fun h=> ⟨h.1.1,h.2⟩⟩
  |cons y L=>
   constructor
   ·intro h
    have:=ih.mp h.2
    exact⟨⟨h.1,this.1⟩,this.2⟩
   ·intro h
    exact⟨h.1.1,ih.mpr ⟨h.1.2,h.2⟩⟩
theorem Cr:Ch R (L++[a]++[b])↔Ch R (L++[a])∧R a b:=by
 rw[jB]
 exact Du.trans ⟨fun h=> ⟨h.1,h.2.1⟩,fun h=> ⟨h.1,h.2,trivial⟩⟩
theorem RH(sy:∀u v,R u v→R v u):∀{L:List Int},Ch R L→Ch R L.reverse
 | [],_=>trivial
 | [a],_=>trivial
 |a::b::L,h=>by
  have:=RH sy h.2
  rw[mT,mT] at*
  exact Cr.mpr ⟨this,sy _ _ h.1⟩
structure Ring(R:Int→Int→Prop)(L:List Int):Prop where
 len:3≤L.length
 nd:L.Nodup
 ch:Ch R L
 cl:∀a z,L.head?=some a→L.getLast?=some z→R z a
theorem Eb(sy:∀u v,R u v→R v u):∀{p q:List Int} {a z:Int},Ch R (a::p)→Ch R (a::q)→(a::p).Nodup→(a::q).Nodup→(a::p).getLast?=some z→(a::q).getLast?=some z→p≠q→∃L,Ring R L∧L.length≤p.length+q.length
 | [],[],a,z,_,_,_,_,_,_,ne=>absurd rfl ne
 | [],c::q,a,z,_,_,_,nq,lp,lq,_=>by
  have e:z=a:=by simpa using lp.symm
  subst e
  rw[iB] at lq
  exact absurd (jK lq) (gB.mp nq).1
 |b::p,[],a,z,_,_,np,_,lp,lq,_=>by
  have e:z=a:=by simpa using lq.symm
  subst e
  rw[iB] at lp
  exact absurd (jK lp) (gB.mp np).1
 |b::p,c::q,a,z,hp,hq,np,nq,lp,lq,ne=>by
  rw[iB] at lp lq
  by_cases e:b=c
  ·subst e
   obtain⟨L,r,l⟩:=Eb sy hp.2 hq.2 (gB.mp np).2 (gB.mp nq).2 lp lq (fun z=>ne (by rw[z]))
   exact⟨L,r,by simp only[fz];omega⟩
  ·--the first of the second way that lies on the first
   have key:∀Q:List Int,(∃m∈Q,m∈b::p)→∃x m y,Q=x++m::y∧m∈b::p∧∀t∈x,t∉b::p:=by
    intro Q
    induction Q with
    |nil=>rintro⟨m,hm,_⟩;cases hm
    |cons t Q ih=>
     intro h
     by_cases ht:t∈b::p
     ·exact⟨[],t,Q,rfl,ht,fun _ h=>by cases h⟩
     ·obtain⟨m,hm,hm2⟩:=h
      rcases fu.mp hm with rfl|hm
      ·exact absurd hm2 ht
      ·obtain⟨x,m,y,e,h1,h2⟩:=ih ⟨m,hm,hm2⟩
       refine⟨t::x,m,y,by rw[e];rfl,h1,fun u hu=>?_⟩
       rcases fu.mp hu with rfl|hu
       ·exact ht
       ·exact h2 u hu
   obtain⟨x,m,y,eq,hm,hx⟩:=key (c::q) ⟨z,jK lq,jK lp⟩
   obtain⟨u,v,ep⟩:=List.append_of_mem hm
   have ha1:=(gB.mp np).1
   have ha2:=(gB.mp nq).1
   have n1:=(gB.mp np).2
   have n2:=(gB.mp nq).2
   rw[eq] at ha2 n2 hq
   have hum:∀t,t∈u++[m]→t∈b::p:=fun t ht=>by
    rw[ep];simp only[gu,fu,iU,or_false] at ht ⊢;rcases ht with h|h
    ·exact .inl h
    ·exact .inr (.inl h)
   have l1:(b::p).length=u.length+(v.length+1):=by rw[ep];simp
   have l2:(c::q).length=x.length+(y.length+1):=by rw[eq];simp
   simp only[fz] at l1 l2
   refine⟨a::(u++[m]++x.reverse),⟨?_,?_,?_,?_⟩,?_⟩
   ·simp only[fz,gw,List.length_reverse,js]
    cases u with
    |cons _ _=>simp only[fz];omega
    |nil=>
     cases x with
     |cons _ _=>simp only[fz];omega
     |nil=>
      have e1:b=m:=by simpa using(List.cons.inj ep).1
      have e2:c=m:=by simpa using(List.cons.inj eq).1
      exact absurd (e1.trans e2.symm) e
   ·rw[gB]
    refine⟨fun h=>?_,?_⟩
    ·rcases gu.mp h with h|h
     ·exact ha1 (hum _ h)
     ·exact ha2 (iR _ (List.mem_reverse.mp h))
    ·rw[gU]
     rw[ep] at n1
     refine⟨?_,List.pairwise_reverse.mpr ((gU.mp n2).1.imp Ne.symm),fun t ht w hw e=>hx w (List.mem_reverse.mp hw) (e▸hum t ht)⟩
     have:=gU.mp (show(u++m::v).Nodup from n1)
     rw[gU]
     exact⟨this.1,by simp,fun t ht w hw=>this.2.2 t ht w (by rw[b9.mp hw];simp)⟩
   ·have h1:Ch R ((a::u)++[m]):=(Du (M:=v)).mp (by rw[gY,←ep];exact hp)|>.1
    have h2:Ch R (m::x.reverse):=by
     have:Ch R (x++[m]):=((Du (L:=a::x) (M:=y)).mp hq).1.tail
     have:=RH sy this
     rwa[nB] at this
    have:=(Du (L:=a::u) (a:=m) (M:=x.reverse)).mpr ⟨h1,h2⟩
    rwa[show a::(u++[m]++x.reverse)=(a::u)++m::x.reverse by simp]
   ·intro a' z' h1 h2
    have:a'=a:=by simpa using h1.symm
    subst this
    cases x with
    |nil=>
     have e2:c=m:=by simpa using(List.cons.inj eq).1
     have:z'=m:=by
      rw[List.reverse_nil,i8,←gY,jr] at h2
      simpa using h2.symm
     rw[this]
     exact sy _ _ hq.1
    |cons t x=>
     have:z'=t:=by
      rw[mT,←jB,←gY,jr] at h2
      simpa using h2.symm
     rw[this]
     exact sy _ _ hq.1
   ·simp only[fz,gw,List.length_reverse,js]
    omega
theorem UY(h:IsD R [p] q d):∃L,L.length=d+1∧L.head?=some p∧L.getLast?=some q∧L.Nodup∧Ch R L∧∀x∈L,∃i,i≤d∧IsD R [p] x i:=by
 induction d generalizing q with
 |zero=>
  have:q=p:=by
   cases h.1 with
   |«at» h=>exact b9.mp h
  subst this
  exact⟨[q],rfl,rfl,rfl,by simp,trivial,fun x hx=>by rw[b9.mp hx];exact⟨0,fv _,h⟩⟩
 |succ d ih=>
  obtain⟨u,hu,r⟩:=h.prev
  obtain⟨L,l1,l2,l3,l4,l5,l6⟩:=ih hu
  obtain⟨M,rfl⟩:∃M,L=M++[u]:=jx.mp l3
  refine⟨M++[u]++[q],by simp only[gw,fz,js] at l1 ⊢;omega,?_,by simp,?_,Cr.mpr ⟨l5,r⟩,fun x hx=>?_⟩
  ·rw[List.head?_append,l2];rfl
  ·rw[gU]
   refine⟨l4,by simp,fun x hx y hy e=>?_⟩
   rw[b9.mp hy] at e
   subst e
   obtain⟨i,hi,hd⟩:=l6 x hx
   have:=hd.uniq h
   omega
  ·rcases gu.mp hx with hx|hx
   ·obtain⟨i,hi,hd⟩:=l6 x hx
    exact⟨i,by omega,hd⟩
   ·rw[b9.mp hx];exact⟨d+1,fv _,h⟩
theorem au:∀{L:List Int} {p q:Int},Ch R (p::L)→(p::L).getLast?=some q→W R [p] L.length q
 | [],p,q,_,h=>by
  have:q=p:=by simpa using h.symm
  rw[this];exact .at (by simp)
 |b::L,p,q,hc,h=>by
  rw[iB] at h
  exact .consR hc.1 (au hc.2 h)
theorem UZ{i:Nat}(h:Ch R L):Ch R (L.take i):=by
 by_cases hi:i<L.length
 ·have e:L=L.take i++L[i]::L.drop (i+1):=by rw[List.getElem_cons_drop,jC]
  rw[e] at h
  have h1:=(Du.mp h).1
  generalize L.take i=A at*
  clear e h
  induction A with
  |nil=>trivial
  |cons x A ih=>
   cases A with
   |nil=>trivial
   |cons y A=>exact⟨h1.1,ih h1.2⟩
 ·rw[lB (by omega)];exact h
variable{R:Int→Int→Prop}{nb:Int→List Int}{c:Nat→Int→Bool}{a b p q v:Int}{L M r:List Int}{rs:List (List Int)}{k d s:Nat}{n:Int}
noncomputable def lst(r:List Int):Int:=r.getLastD 0
theorem YG(h:r.getLast?=some a):lst r=a:=by
 unfold lst
 rw[List.getLastD_eq_getLast?,h];rfl
theorem Gp(h:r≠[]):r.getLast?=some (lst r):=by
 cases e:r.getLast? with
 |none=>exact absurd (List.getLast?_eq_none_iff.mp e) h
 |some a=>rw[YG e]
noncomputable def rk(r:List Int):Int:=r.foldl (fun a v=>a*32+v) 0
theorem Vs:∀{xs ys:List (List Int)},xs.Pairwise (fun x y=>rk x<rk y)→ys.Pairwise (fun x y=>rk x<rk y)→(∀v,v∈xs↔v∈ys)→xs=ys
 | [],[],_,_,_=>rfl
 | [],y::_,_,_,h=>by have:=(h y).mpr (by simp);cases this
 |x::_,[],_,_,h=>by have:=(h x).mp (by simp);cases this
 |x::xs,y::ys,hx,hy,h=>by
  rw[jH] at hx hy
  have e:x=y:=by
   rcases fu.mp ((h x).mp (by simp)) with e|h1
   ·exact e
   ·rcases fu.mp ((h y).mpr (by simp)) with e|h2
    ·exact e.symm
    ·have:=hy.1 x h1
     have:=hx.1 y h2
     omega
  subst e
  rw[Vs hx.2 hy.2 fun v=>?_]
  constructor
  ·intro hv
   rcases fu.mp ((h v).mp (fk _ hv)) with e|h1
   ·have:=hx.1 v hv
    rw[e] at this
    omega
   ·exact h1
  ·intro hv
   rcases fu.mp ((h v).mpr (fk _ hv)) with e|h1
   ·have:=hy.1 v hv
    rw[e] at this
    omega
   ·exact h1
variable{R R':Int→Int→Prop}{nb:Int→List Int}{a b p q v:Int}{L M r:List Int}{k d s:Nat}{n:Int}
noncomputable def RI(R:Int→Int→Prop)(a b u v:Int):Prop:=R u v∧¬(u=a∧v=b)∧¬(u=b∧v=a)
theorem JG:∀{L:List Int},Ch R L→(∀u∈L,∀v∈L,R u v→R' u v)→Ch R' L
 | [],_,_=>trivial
 | [_],_,_=>trivial
 |a::b::L,h,m=> ⟨m a (by simp) b (by simp) h.1,JG h.2 fun u hu v hv=>m u (fk _ hu) v (fk _ hv)⟩
theorem RJ(h:Ring R r):∃a b,R a b∧W (RI R a b) [b] (r.length-1) a:=by
 match r,h with
 | [],h=>exact absurd h.len (by decide)
 | [_],h=>exact absurd h.len (by show¬3≤1;decide)
 | [_,_],h=>exact absurd h.len (by show¬3≤2;decide)
 |x::y::t::L,h=>
  have hne:(t::L)≠[]:=by simp
  have hz:(x::y::t::L).getLast?=some (lst (t::L)):=by
   rw[iB,iB];exact Gp hne
  have hmz:lst (t::L)∈t::L:=jK (Gp hne)
  generalize lst (t::L)=z at hz hmz
  have nd:=h.nd
  rw[gB,gB] at nd
  refine⟨z,x,h.cl x z rfl hz,?_⟩
  refine au (L:=y::t::L) ⟨⟨h.ch.1,fun e=>?_,fun e=>?_⟩,JG h.ch.2 fun u hu v hv r=> ⟨r,fun e=>?_,fun e=>?_⟩⟩ hz
  ·exact nd.1 (e.2▸gC ..)
  ·exact nd.2.1 (e.2▸hmz)
  ·exact nd.1 (e.2▸hv)
  ·exact nd.1 (e.1▸hu)
theorem NY(sy:∀u v,R u v→R v u)(ir:∀u,¬R u u)(h:R a b)(hd:IsD (RI R a b) [a] b d):∃r,Ring R r∧r.length=d+1:=by
 obtain⟨L,l1,l2,l3,l4,l5,_⟩:=UY hd
 refine⟨L,⟨?_,l4,JG l5 fun u _ v _ c=>c.1,fun x z h1 h2=>?_⟩,l1⟩
 ·match d,hd with
  |0,hd=>
   cases hd.1 with
   |«at» hm=>rw[b9.mp hm] at h;exact absurd h (ir _)
  |1,hd=>
   cases hd.1 with
   |go w c=>
    cases w with
    |«at» hm=>rw[b9.mp hm] at c;exact absurd ⟨rfl,rfl⟩ c.2.1
  |d+2,_=>omega
 ·rw[l2] at h1
  rw[l3] at h2
  cases h1
  cases h2
  exact sy _ _ h
theorem JH(hb:∀u v,R u v→0≤v∧v<n)(h:Ring R r):∀z∈r,0≤z∧z<n:=by
 have key:∀{L:List Int} {x:Int},0≤x∧x<n→Ch R (x::L)→∀z∈x::L,0≤z∧z<n:=by
  intro L
  induction L with
  |nil=>intro x hx _ z hz;rw[b9.mp hz];exact hx
  |cons y L ih=>
   intro x hx hc z hz
   rcases fu.mp hz with rfl|hz
   ·exact hx
   ·exact ih (hb _ _ hc.1) hc.2 z hz
 cases r with
 |nil=>intro z hz;cases hz
 |cons x L=>exact key (hb _ _ (h.cl x _ rfl (Gp (by simp)))) h.ch
variable{R:Int→Int→Prop}{nb:Int→List Int}{c:Nat→Int→Bool}{p:Int}{r q:List Int}{k s:Nat}{n:Int}
end GrR
namespace L2.TL
open PySem PySem.Spec PySem.Calls PyProof.Rows PySem.Builtin PySem.Builtin.Str
section
variable{X:Cx}
end
section
variable{Z:Zx}{ρ:List (Option T)}{O:AH}{a b o e:Expr}{t:T}{Φ:BU}{pos p apos cpos:Pos}{i j:Str}{xs:List Str}
end
section
variable{X:Cx}
end
section
variable{Z:Zx}{ρ:List (Option T)}{O:AH}{a b o e:Expr}{t:T}{Φ:BU}{pos p apos cpos:Pos}{i j:Str}{xs:List Str}
end
section
variable{Z:Zx}{ρ:List (Option T)}{O:AH}{e elt tg iter:Expr}{ifs:List Expr}{csc:Scope}{nc:List Str}{cap:List (Str×Nat)}{Φ:BU}{pos:Pos}
theorem YH(hc:Z.X.calm=true)(ok:LcOk Z.X csc nc cap)(h:WI Z ρ O tg iter (Sw Z ρ elt tg ifs csc nc cap fun acc O'=>∀a,O' a=none→Φ (.raw (.ref a)) (Ad O' a acc)))
  (hs:∀x,ja iter Z.X.env x=pure x:=by intro _;rfl):WE Z ρ O (.ListComp elt [⟨tg,iter,ifs,0⟩] csc pos) Φ:=
 PE.weak (Vf hc ok h UG NS UH hs) fun σ H Q q=>MB q.1 h fun acc O' p H' p1 n f nb=>q.2 _ _ _ _ (p1 p n) f (.raw _)
end
theorem Bf{i:Int}:∀{ns:List Int},((dTs (ns.map T.int)).any fun y=>lA y (dT (.int i)))=decide (i∈ns)
 | []=>rfl
 |n::ns=>by
  show((n==i)|| (dTs (ns.map T.int)).any fun y=>lA y (dT (.int i)))=_
  rw[Bf,kB]
  simp only[Bool.or_eq_true,decide_eq_true_eq,fu,beq_iff_eq]
  constructor
  ·rintro(h|h)
   ·exact .inl h.symm
   ·exact .inr h
  ·rintro(h|h)
   ·exact .inl h.symm
   ·exact .inr h
end L2.TL
namespace L2
open PySem PySem.Spec PySem.Calls PyProof.Rows
section
variable{prog:Program}{w:World}{A:gx}{R:qz→Shared→Prop}{I:Addr}{fp wr:List Addr}{n:Nat}{P:Nat→Value→Prop}{St:Nat→Heap→Prop}
theorem Ec:(toString "min" ++toString ".loop" :String)= "min.loop":=by decide
theorem Oy{kw:List (Str×Value)}(W:Walks prog w A.in1 I fp wr n P St)(bt:Nat→Nat→Bool)(hcmp:CmpOf prog w A.in1 .Lt P bt)(S:Addr)(hSf:S∉fp):
  ∀(k j:Nat) (s:Shared) (vb:Value) (c:Nat),n- (j+1)=k→j+1≤n→St (j+1) s.heap→P (oN bt j) vb→
  s.heap.get? S=some {cls:=.type "list",dict:=none,data:=.seq #[vb,vb] c,slots:=#[]}→
  (∀v h' tk,P (oN bt (n-1)) v→(∀b o,b∉wr→b≠S→s.heap.get? b=some o→h'.get? b=some o)→R (.ok (.ret v)) {s with heap:=h',toks:=tk})→
  lQ (model prog w) A (.builtin "min.loop" ⟨[.ref I,.none,.ref S],kw⟩) R s:=by
 have hSw:S∉wr:=fun h=>hSf (W.sub _ h)
 intro k
 induction k with
 |zero=>
  intro j s vb c hk hj hst hPb hS hR
  have hin:j+1=n:=by omega
  refine j6 oI ?_
  rw[jZ ki _]
  show wpAny _ A.in1 (seqItems? (.ref S)>>=_) _ _ s
  refine a8 (mL hS rfl ?_)
  show wpAny _ A.in1 (tryCatch (nQ (.ref I)) _>>=_) _ _ s
  refine a8 (mK (W.done s _ _ (hin▸hst) fun h' tk hk'=>?_))
  have hS':=hk' S _ hSw hS
  show wpAny _ A.in1 (updateSeq S (fun _=> #[])>>=_) _ _ _
  refine a8 (oX hS' rfl (a8 (pk (b8 ?_))))
  exact hR vb _ tk (by rw[←hin];exact hPb) fun b o hbw hbS e=> (ju _ _ (Ne.symm hbS)).trans (hk' b o hbw e)
 |succ k ih=>
  intro j s vb c hk hj hst hPb hS hR
  have hlt:j+1<n:=by omega
  refine j6 oI ?_
  rw[jZ ki _]
  show wpAny _ A.in1 (seqItems? (.ref S)>>=_) _ _ s
  refine a8 (mL hS rfl ?_)
  show wpAny _ A.in1 (tryCatch (nQ (.ref I)) _>>=_) _ _ s
  refine a8 (mK (W.item (j+1) s _ _ hlt hst fun v h' tk hP hst' hk'=>?_))
  have hS':=hk' S _ hSw hS
  show wpAny _ A.in1 (tryCatch (holding [v,v] (richCompare .Lt v vb>>=_)) _>>=_) _ _ _
  refine a8 (mK (hZ (a8 (hcmp (j+1) (oN bt j) v vb _ _ _ hP hPb ?_))))
  refine a8 (hZ (j3 (a8 (pk (b8 ?_)))))
  cases hb:bt (j+1) (oN bt j) with
  |true=>
   simp only[if_true]
   refine a8 (oX hS' rfl (a8 (pk ?_)))
   rw[Ec]
   refine b8 ⟨lL ki _,ih (j+1) _ v _ (by omega) hlt (W.frame _ _ _ hst' fun b hbf o e=>?_) (by simp only[oN,hb,if_true];exact hP) (lP _ hS' rfl) fun v' h'' tk'' hP' hk''=>?_⟩
   ·exact(ju _ _ (fun h:S=b=>hSf (by rw[h];exact hbf))).trans e
   ·exact hR v' h'' tk'' hP' fun b o hbw hbS e=>hk'' b o hbw hbS ((ju _ _ (Ne.symm hbS)).trans (hk' b o hbw e))
  |false=>
   simp only[gD,if_false]
   refine a8 (pk ?_)
   rw[Ec]
   refine b8 ⟨lL ki _,ih (j+1) _ vb c (by omega) hlt hst' (by simp only[oN,hb,gD,if_false];exact hPb) hS' fun v' h'' tk'' hP' hk''=>?_⟩
   exact hR v' h'' tk'' hP' fun b o hbw hbS e=>hk'' b o hbw hbS (hk' b o hbw e)
theorem MI{nm:Str}{d:Value}(W:Walks prog w A.in1 I fp wr n P St)(bt:Nat→Nat→Bool)(hcmp:CmpOf prog w A.in1 .Lt P bt)(S:Addr)(hSf:S∉fp){s:Shared}{c:Nat}(hst:St 0 s.heap)
  (hS:s.heap.get? S=some {cls:=.type "list",dict:=none,data:=.seq #[] c,slots:=#[]})
  (h0:n=0→∀h' tk,(∀b o,b∉wr→b≠S→s.heap.get? b=some o→h'.get? b=some o)→R (.ok (.ret d)) {s with heap:=h',toks:=tk})
  (hR:0<n→∀v h' tk,P (oN bt (n-1)) v→(∀b o,b∉wr→b≠S→s.heap.get? b=some o→h'.get? b=some o)→R (.ok (.ret v)) {s with heap:=h',toks:=tk}):
  lQ (model prog w) A (.builtin "min.loop" ⟨[.ref I,.none,.ref S],[(nm,d)]⟩) R s:=by
 have hSw:S∉wr:=fun h=>hSf (W.sub _ h)
 refine j6 oI ?_
 rw[jZ ki _]
 show wpAny _ A.in1 (seqItems? (.ref S)>>=_) _ _ s
 refine a8 (mL hS rfl ?_)
 show wpAny _ A.in1 (tryCatch (nQ (.ref I)) _>>=_) _ _ s
 by_cases hn:0<n
 ·refine a8 (mK (W.item 0 s _ _ hn hst fun v h' tk hP hst' hk'=>?_))
  have hS':=hk' S _ hSw hS
  show wpAny _ A.in1 (updateSeq S (fun _=> #[v,v])>>=_) _ _ _
  refine a8 (oX hS' rfl ?_)
  rw[Ec]
  refine b8 ⟨lL ki _,Oy W bt hcmp S hSf _ 0 _ v _ rfl hn (W.frame _ _ _ hst' fun b hbf o e=>?_) hP (lP _ hS' rfl) fun v' h'' tk'' hP' hk''=>?_⟩
  ·exact(ju _ _ (fun h:S=b=>hSf (by rw[h];exact hbf))).trans e
  ·exact hR hn v' h'' tk'' hP' fun b o hbw hbS e=>hk'' b o hbw hbS ((ju _ _ (Ne.symm hbS)).trans (hk' b o hbw e))
 ·have e0:n=0:=by omega
  refine a8 (mK (W.done s _ _ (by rw[e0];exact hst) fun h' tk hk'=>?_))
  show wpAny _ A.in1 (rule _>>=fun _=>ret d) _ _ _
  exact a8 (kK (b8 (h0 e0 h' tk fun b o hbw _ e=>hk' b o hbw e)))
end
section
variable{prog:Program}{w:World}{A:gx}{E:Value→Shared→Prop}{s:Shared}
theorem Oz{x d:Value}{Q:Value→Shared→Prop}
  (h:wpAny (model prog w) A.in1 (qb x) (fun it s₂=>∃I fp wr n P St bt,it=.ref I∧Walks prog w A.in1 I fp wr n P St∧St 0 s₂.heap∧(∀b∈fp,b<s₂.heap.objs.size)∧CmpOf prog w A.in1 .Lt P bt∧
   (n=0→∀h' tk,(∀b o,b∉wr→s₂.heap.get? b=some o→h'.get? b=some o)→Q d {s₂ with heap:=h',toks:=tk})∧
   (0<n→∀v h' tk,P (oN bt (n-1)) v→(∀b o,b∉wr→s₂.heap.get? b=some o→h'.get? b=some o)→Q v {s₂ with heap:=h',toks:=tk})) E s):
  wpAny (model prog w) A (call (.builtin "min") [x] [("default",d)]) Q E s:=by
 refine nO (lT F.plain_min F.entry_min ?_)
 refine n9 (show oD "min" ⟨[x],[("default",d)]⟩=pure () by kernel_rfl) ?_
 show wpAny _ A.in1 (Builtin.Builtins.bindParams "min" ["key","default"] 0 ⟨[],[("default",d)]⟩>>=_) _ _ s
 refine a8 (n9 (show Builtin.Builtins.bindParams "min" ["key","default"] 0 ⟨[],[("default",d)]⟩=pure [none,some d] from rfl) ?_)
 refine a8 (b8 ?_)
 refine a8 (jG h (fun it s₂ h₂=>?_) fun _ _ e=>e)
 obtain⟨I,fp,wr,n,P,St,bt,rfl,W,hst,hfp,hcmp,q0,q1⟩:=h₂
 refine a8 (i9 ?_)
 have hSf:s₂.heap.objs.size∉fp:=fun hm=>iQ _ (hfp _ hm)
 rw[Ec]
 refine b8 ⟨lL ki _,MI W bt hcmp s₂.heap.objs.size hSf (W.frame _ _ _ hst fun b _ o e=>e9 _ e) (gJ _ rfl) (fun e0 h' tk hk=>?_) fun hn v h' tk hP hk=>?_⟩
 ·exact q0 e0 h' tk fun b o hbw e=>hk b o hbw (gL (gi e)) (e9 _ e)
 ·exact q1 hn v h' tk hP fun b o hbw e=>hk b o hbw (gL (gi e)) (e9 _ e)
end
section
variable{M:Model}{A:gx}{E:Value→Shared→Prop}{s:Shared}
theorem JI{pos:Pos}{id:String}{k:Str}{x y:Sem Value}{Q:Value→Shared→Prop}
  (h:wpAny M A x (fun v s₁=>wpAny M A y (fun d s₂=>wpAny M A (call (.builtin id) [v] [(k,d)]) Q E s₂) E s₁) E s):
  wpAny M A (callWith pos (.builtin id) [] [(false,x)] [(some k,y)]) Q E s:=by
 unfold callWith
 refine a8 (hZ (evalArgs_kw rfl (Calls.spliced_cons (jG h (fun v s₁ h₁=>?_) fun _ _ e=>e))))
 refine Calls.spliced_nil (wpAny_evalAll_cons (jG h₁ (fun d s₂ h₂=>wpAny_evalAll_nil ?_) fun _ _ e=>e))
 refine a8 (lH ?_)
 refine a8 (b8 ?_)
 exact a8 (jG h₂ (fun r s₃ hr=>a8 (hZ (wpAny_point (b8 hr)))) fun _ _ e=>e)
end
section
variable{X:Cx}
noncomputable def FF(ns:List Int):Option Int→Prop
 |none=>ns=[]
 |some m=>GS ns m
noncomputable def di:Option Int→V
 |none=> .non
 |some m=> .int m
theorem Ua{e:Expr}{te:TE}{p pos kp np:Pos}{j:Nat}(hc:X.calm=true)(hg:Gl X "min")(hm:X.mg "min" =none)(he:PE X e te)(hn:TL.Bd e=true):
  PE X (.Call (.Name "min" p) [e] [⟨some "default",.Constant .none j np,kp⟩] pos) (fun σ H Q=>te σ H fun v H1=>∃(a:Addr) (ns:List Int),v=.ref a∧aN X.K H1 a (ns.map V.int)∧∀m,FF ns m→Q (di m) H1):=by
 intro pins s σ H Q I h
 refine lu (Em I hg hm TL.Xy ?_ (by decide) (by decide))
 rw[TL.Dg hn]
 refine JI (An (he pins s σ H _ I h) fun u s1 ⟨v,H1,I1,r1,q1⟩=>?_)
 obtain⟨a,ns,rfl,hq,q⟩:=q1
 cases r1
 refine a8 ?_
 show wpAny _ _ (eval (.Constant .none j np) X.env) _ _ _
 refine b8 (a8 (lH (b8 ?_)))
 obtain⟨its,rv,lt,wk⟩:=I1.walk hq
 have hl:its.length=ns.length:=by have:=rv.length;rw[e8] at this;exact this.symm
 refine Oz (wk X.A.in1 _ _ (I1.ok.hd hc) fun o St W st=> ⟨_,_,_,_,_,_,_,rfl,W,st,fun b hb=>?_,CmpOf.ints_lt (fun i=>ns.getD i 0) (fun i v hv=>CW rv i v hv),fun e0 h' tk hk=>?_,fun hn v h' tk hP hk=>?_⟩)
 ·show b< (s1.heap.push o).objs.size
  rw[jE]
  simp only[fu,iU,or_false] at hb
  rcases hb with rfl|rfl
  ·exact kX _
  ·exact j4 lt
 ·exact⟨.non,H1,I1.kept (t':=tk) (Il hk),rfl,q none (List.eq_nil_of_length_eq_zero (by omega))⟩
 ·obtain⟨t,rfl⟩:=CW rv _ v hP
  obtain⟨b1,b2⟩:=argBest_lt (fun i=>ns.getD i 0) (its.length-1)
  exact⟨.int _,H1,I1.kept (t':=tk) (Il hk),⟨t,rfl⟩,q (some _) ⟨GT (by omega),fun n hn=>by
   obtain⟨j,hj,rfl⟩:=mf hn
   have:=b2 j (by omega)
   simpa[oG,hj] using this⟩⟩
end
end L2
namespace L2.TL
open PySem PySem.Spec PySem.Calls PyProof.Rows
section
variable{Z:Zx}{ρ:List (Option T)}{O:AH}{e:Expr}{p pos kp np:Pos}{ns:List Int}{j:Nat}
noncomputable def JJ:Option Int→T
 |none=> .non
 |some m=> .int m
theorem Kf{a b:Option Int}(ha:FF ns a)(hb:FF ns b):a=b:=by
 cases a with
 |none=>
  cases b with
  |none=>rfl
  |some m=>rw[show ns=[] from ha] at hb;exact absurd hb.1 (by simp)
 |some m=>
  cases b with
  |none=>rw[show ns=[] from hb] at ha;exact absurd ha.1 (by simp)
  |some k=>rw[pf (ha.2 k hb.1) (hb.2 m ha.1)]
theorem Ub{m:Option Int}(hm:FF ns m)(mm:Z.X.mg "min" =none)(hc:Z.X.calm=true)(h:ET Z ρ O e (.lst (ns.map T.int)))(hg:Gl Z.X "min":=by rfl)(hn:Bd e=true:=by rfl):
  ET Z ρ O (.Call (.Name "min" p) [e] [⟨some "default",.Constant .none j np,kp⟩] pos) (JJ m):=fun Φ q=>
 PE.weak (Ua hc hg mm (h (fun t O'=>t=.lst (ns.map T.int)∧O'=O) ⟨rfl,rfl⟩) hn) fun σ H Q k=> ⟨k.1,by
  rintro v H' _ _ ⟨rfl,rfl⟩ f r
  obtain⟨a,xs,rfl,h1,o1,r1⟩:=r.lst_inv
  cases Reps.ints r1
  refine⟨a,ns,rfl,.inl (.inl (.inl h1)),fun m' hm'=>?_⟩
  cases Kf hm' hm
  refine k.2 _ H' _ _ q f ?_
  cases m with
  |none=>exact .non
  |some m=>exact .int m⟩
end
end L2.TL
namespace L2
open PySem PySem.Spec PySem.Calls PyProof.Rows
section
variable{prog:Program}{w:World}{A:gx}{R:qz→Shared→Prop}{I:Addr}{fp wr:List Addr}{n:Nat}{P:Nat→Value→Prop}{St:Nat→Heap→Prop}
end
section
variable{prog:Program}{w:World}{A:gx}{E:Value→Shared→Prop}{s:Shared}
end
section
variable{X:Cx}
end
end L2
namespace L2.TL
open PySem PySem.Spec PySem.Calls PyProof.Rows
section
variable{Z:Zx}{ρ:List (Option T)}{O:AH}{e:Expr}{p pos kp np:Pos}{ns:List Int}{j:Nat}
end
end L2.TL
namespace L2
open PySem PySem.Spec PyProof.Rows
open Sem (wp)
section
variable{prog:Program}{w:World}{A:gx}{E:Value→Shared→Prop}{s:Shared}
end
section
variable{prog:Program}{w:World}{A:gx}{E:Value→Shared→Prop}{s:Shared}
end
section
variable{prog:Program}{w:World}{A:gx}{E:Value→Shared→Prop}{s:Shared}
end
section
variable{M:Model}{A:gx}{E:Value→Shared→Prop}{s:Shared}
end
section
variable{X:Cx}
end
section
variable{X:Cx}{tg:Expr}
end
end L2
namespace L2.TL
open PySem PySem.Spec PyProof.Rows
section
variable{Z:Zx}{ρ:List (Option T)}{O:AH}{a tg:Expr}{ts:List T}{p pos:Pos}
end
open PySem.Builtin PySem.Builtin.Str
section
variable{Z:Zx}{ρ:List (Option T)}{O:AH}{a b e:Expr}{p pos:Pos}{x y:Str}{i:Int}{K:a9}
end
structure Fi(K:a9)(x:Str)(st:Stmt)(f:Addr)(fd:gE):Prop where
 F:Fun K x x st f fd
 a:jP K iP x=some (some (.ref f))
noncomputable def Fx(K:a9)(x:Str)(st:Stmt):Prop:=∃f fd,Fi K x st f fd
noncomputable def Zn(K:a9)(x:Str):Prop:=jP K iP x=some none
noncomputable def Cn(K:a9)(x:Str)(C:Addr):Prop:=jP K iP x=some (some (.ref C))
structure Mg(P:Program)(w:World)(K:a9)(mg:Str→Option Value)(base:Heap):Prop where
 mm:∀{x:Str} {v:Value},jP K iP x=some (some v)→mg x=some v
section
variable{P:Program}{w:World}{K:a9}{mg:Str→Option Value}{base:Heap}{x:Str}{st:Stmt}{f:Addr}{fd:gE}{ps:List Str}{k:Nat}
theorem fi{oc:Value}{od:Option Addr}{kV doc pm:Value}{an:Option Addr}{cdv ct:Value}{osl:Array (Option Value)}(a:jP K iP x=some (some (.ref f)))(l:K.lookup f=some ⟨oc,od,.func (l0 x x (EG st) (Aw st) (AA st) .none kV doc pm an cdv ct),osl⟩)(q:pI K cdv x=true)(h:jq K (.ref f)=true):
  Fx K x st:=⟨f,_,⟨⟨⟨oc,od,kV,doc,pm,an,cdv,ct,osl,rfl,l,q⟩,h⟩,a⟩⟩
noncomputable abbrev Bi(x:Str)(st:Stmt)(ps:List Str)(us:List Value):Prop:=∀(kV doc pm:Value) (an:Option Addr) (cdv ct:Value),bindArgs (l0 x x (EG st) (Aw st) (AA st) .none kV doc pm an cdv ct) ⟨us,[]⟩=pure (ps.zip us)
theorem Fi.b1(h:Fi K x st f fd)(hl:ps.length=1)(q:∀a,Bi x st ps [a]):Binds K fd ps []:=h.F.binds fun _ _ _ _ _ _ us e=>match us,e.trans hl with| [a],_=>q a ..
theorem Fi.b2(h:Fi K x st f fd)(hl:ps.length=2)(q:∀a b,Bi x st ps [a,b]):Binds K fd ps []:=h.F.binds fun _ _ _ _ _ _ us e=>match us,e.trans hl with| [a,b],_=>q a b ..
theorem Fi.b3(h:Fi K x st f fd)(hl:ps.length=3)(q:∀a b c,Bi x st ps [a,b,c]):Binds K fd ps []:=h.F.binds fun _ _ _ _ _ _ us e=>match us,e.trans hl with| [a,b,c],_=>q a b c ..
theorem Fi.b4(h:Fi K x st f fd)(hl:ps.length=4)(q:∀a b c d,Bi x st ps [a,b,c,d]):Binds K fd ps []:=h.F.binds fun _ _ _ _ _ _ us e=>match us,e.trans hl with| [a,b,c,d],_=>q a b c d ..
theorem Fi.t{s:Cp}(h:Fi K x st f fd)(M:Mg P w K mg base)(ok:FnOk P w K mg base (CXe P w) k f fd ps (DR K s))(b:Binds K fd ps []):FnT P w K mg base x k ps s:=⟨f,fd,ok,M.mm h.a,h.F.kp,b⟩
structure Xk(K:a9)(C CR c0 c1 c2 c3 c4 c5 c6 c7:Addr)(b0 b1 b2 b3 b4 b5 b6 b7:Bool):Prop where
 e0:gz K (.ref C) (.ref c0)=some b0
 e1:gz K (.ref C) (.ref c1)=some b1
 e2:gz K (.ref C) (.ref c2)=some b2
 e3:gz K (.ref C) (.ref c3)=some b3
 e4:gz K (.ref C) (.ref c4)=some b4
 e5:gz K (.ref C) (.ref c5)=some b5
 e6:gz K (.ref C) (.ref c6)=some b6
 e7:gz K (.ref C) (.ref c7)=some b7
 kR:gz K (.ref C) (.ref CR)=some true
 nR:(Value.ref C==Value.ref CR)=false
 ve:gz K (.ref C) (.type "ValueError")=some true
 g1:km K (.ref C) "__getattribute__" =some (some (.builtin "BaseException.__getattribute__"))
 g2:km K (.ref C) "__getattr__" =some none
 g3:jN K C (.type "BaseException")=some true
 g4:jN K C (.type "object")=some true
 g5:km K (.ref C) "__class__" =some (some (.builtin "object.__class__"))
structure Xg(K:a9)(CR:Addr):Prop where
 bR:jN K CR (.type "BaseException")=some true
 g6:oh K (.builtin "object.__class__") "__get__" =some (some (.builtin "getset_descriptor.__get__"))
 g7:o4 K (.builtin "object.__class__")=some true
theorem Xk.kit{C CR c0 c1 c2 c3 c4 c5 c6 c7:Addr}{b0 b1 b2 b3 b4 b5 b6 b7:Bool}(x:Xk K C CR c0 c1 c2 c3 c4 c5 c6 c7 b0 b1 b2 b3 b4 b5 b6 b7):ji K (.ref C) (.ref CR)=some true:=by
 have h:=x.kR
 unfold gz at h
 rw[x.nR,if_neg c9] at h
 exact h
end
end L2.TL
namespace L2
open PySem PySem.Spec PySem.Calls PyProof.Rows Builtin.ObjectAttr
section
variable{prog:Program}{w:World}{A:gx}{E:Value→Shared→Prop}{s:Shared}{K:a9}{x dx C f:Addr}{name:Str}{v:Value}
end
section
variable{prog:Program}{w:World}{A:gx}{E:Value→Shared→Prop}{s:Shared}{K:a9}{x dx C f:Addr}{name:Str}{v:Value}
end
section
variable{prog:Program}{w:World}{A:gx}{E:Value→Shared→Prop}{s:Shared}{K:a9}{C f:Addr}
end
section
variable{X:Cx}{pins:List (Addr×Obj)}{σ:St}{H:Hp}{s:Shared}
end
section
variable{X:Cx}{o value:Expr}{n:Str}{pos pos':Pos}{ta tv:TE}
end
end L2
namespace L2.TL
open PySem PySem.Spec PySem.Calls PyProof.Rows
section
variable{Z:Zx}{ρ:List (Option T)}{O:AH}{e a b:Expr}{es:List Expr}{Ψ:Es}{Φ:BU}{pos p:Pos}{t:T}{ts:List T}{x:Str}
noncomputable def _root_.L2.TL.Zx.Wr(Z:Zx)(ρ:List (Option T)):St→XK:=fun σ cls d H'=>d=none∧∃O',Z.Xi cls O'∧Frm Z.K Z.Oe Z.He O' H'∧Rl Z.K O' H' σ ρ
theorem Kg{k:Nat}{ps:List Str}{s:Cp}(G:FnT Z.X.prog Z.X.w Z.X.K Z.X.mg Z.X.base x k ps s)(hr:Room k Z.X.A)(xf:XFly Z.X (Z.Wr ρ))(h:WA Z ρ O (e::es) fun ts O1=>s ts O1 Φ Z.Xi)(hg:Gl Z.X x:=by rfl)
  (hdb:(x==("__debug__" :Str))=false:=by decide) (he:fj (e::es) Z.X.env=(false,eval e Z.X.env)::fj es Z.X.env:=by rfl) (hpl:(jS pos (fj es Z.X.env)).any (·.1)=false:=by rfl):WE Z ρ O (.Call (.Name x p) (e::es) [] pos) Φ:=by
 obtain⟨f,fd,F,hm,hk,hb⟩:=G.ex
 refine PE.weak (GE xf F hr hg hm hk hb (Io (ρ:=ρ)) hdb he hpl) fun σ H Q q=>?_
 exact⟨O,_,h,q.1,fun vs H1 ts O1 p f r=> ⟨ts,O1,Φ,Z.Xi,r,f.ok,p,q.2.step f,fun cls O' H' x f'=> ⟨rfl,O',x,(q.1.fr.trans f).trans f',(q.1.rl.kp f.kp q.1.ok).kp f'.kp f.ok⟩⟩⟩
theorem Rl.unset{K:a9}{O:AH}{H:Hp}{σ:St}{ρ:List (Option T)}{i:Nat}(r:Rl K O H σ ρ):Rl K O H (σ.set i none) (ρ.set i none):=⟨by simpa using r.1,fun j u e=>by
 by_cases hj:j=i
 ·subst hj
  have hl:j<ρ.length:=by
   have:=(gh.mp e).1
   simpa using this
  rw[gW hl] at e
  cases e
 ·rw[gQ (Ne.symm hj)] at e ⊢
  exact r.2 j u e⟩
noncomputable def eS(i:Nat)(Ψ:Es):Es:={nx:=fun ρ' O'=>Ψ.nx (ρ'.set i none) O',rt:=Ψ.rt,bk:=fun ρ' O'=>Ψ.bk (ρ'.set i none) O',ct:=fun ρ' O'=>Ψ.ct (ρ'.set i none) O'}
noncomputable abbrev zH(Z:Zx)(x:Addr)(O:AH)(H:Hp):Zx:=⟨Vg Z.X x,O,H,fun _ _=>False⟩
theorem Uc{i:Nat}{n bx:Str}{B:Addr}{np hpos:Pos}{body suite:List Stmt}{b₀:Stmt}(Cs:Value→AH→Prop)
  (hbody:∀pins E' H,Frm Z.K Z.Oe Z.He O H→XFly (Bh Z.X pins E') (Zx.Wr ⟨Bh Z.X pins E',O,H,Cs⟩ ρ)→FZ ⟨Bh Z.X pins E',O,H,Cs⟩ ρ O body Ψ)
  (kc:∀cls O',Cs cls O'→∃C,(cls=.ref C∨∃fs,cls=.str fs C)∧ji Z.X.K (.ref C) (.ref B)=some true)
  (hsuite:∀y cls O' C x o H',Cs cls O'→HK cls C x H' o→Frm Z.K Z.Oe Z.He O' H'→H' x=none→FZ (zH Z y O' (upd H' x o)) (ρ.set i (some (.raw (.ref x)))) O' (b₀::suite) (eS i Ψ))
  (hst:Z.X.stack=Z.X.env::Z.X.outer) (hex:Z.X.ex=[]) (hfr:Z.X.env.frame=some Z.X.env.locals) (hN:Z.X.N.Nodup) (hi:Z.X.N[i]?=some n) (hk:Z.X.env.scope.names.lookup n=some .local) (hmB:Z.X.mg bx=some (.ref B)) (hbe:jN Z.X.K B (.type "BaseException")=some true)
  (hgB:Gl Z.X bx) (hd2:(bx==("__debug__" :Str))=false):
  WS Z ρ O (.Try body [.ExceptHandler (some (.Name bx np)) (some n) (b₀::suite) hpos] [] [] pos) Ψ:=by
 have hb1:∀(W:St→XK) (X':Cx),TryIs Z.X X'→XFly X' W→PSs X' body (fun D σ H=>tS Z ρ O Ψ D σ H∧∀(σ':St) cls O' H',Cs cls O'→Frm Z.K O H O' H'→Rl Z.K O' H' σ' ρ→W σ' cls none H'):=by
  rintro W X' ⟨pins0,E',rfl⟩ xf
  intro pins s σ H D I ⟨⟨a,acc⟩,hw⟩
  refine hbody pins0 E' H a.fr ⟨fun pins1 σ1 H1 s1 e s2 I1 c=>xf.fly pins1 σ1 H1 s1 e s2 I1 ?_⟩ pins s σ H D I ⟨⟨a.rl,.refl a.ok⟩,⟨fun ρ' O' σ' H' p a' k=>acc.nx ρ' O' σ' H' p ⟨a'.rl,a.fr.trans a'.fr⟩ k,fun v H' t O' p f r=>acc.rt v H' t O' p (a.fr.trans f) r,fun ρ' O' σ' H' p a' k=>acc.bk ρ' O' σ' H' p ⟨a'.rl,a.fr.trans a'.fr⟩ k,fun ρ' O' σ' H' p a' k=>acc.ct ρ' O' σ' H' p ⟨a'.rl,a.fr.trans a'.fr⟩ k⟩⟩
  obtain⟨x,cls,H',e1,fl,_,O',hc,f,rl⟩:=c
  exact⟨x,cls,H',e1,fl,hw σ1 cls O' H' hc f rl⟩
 have hh1:∀y,PSs (Vg Z.X y) (b₀::suite) (fun D σ H=>∃z cls O' C o H',Cs cls O'∧HK cls C z H' o∧Frm Z.K Z.Oe Z.He O' H'∧H' z=none∧tS (zH Z z O' (upd H' z o)) (ρ.set i (some (.raw (.ref z)))) O' (eS i Ψ) D σ H):=by
  rintro y pins s σ H D I ⟨z,cls,O',C,o,H',c,hk',f,hz,q⟩
  exact hsuite y cls O' C z o H' c hk' f hz pins s σ _ D I ⟨⟨q.1.rl,q.1.fr⟩,⟨fun ρ' O' σ' H' p a k=>q.2.nx ρ' O' σ' H' p ⟨a.rl,a.fr⟩ k,q.2.rt,fun ρ' O' σ' H' p a k=>q.2.bk ρ' O' σ' H' p ⟨a.rl,a.fr⟩ k,fun ρ' O' σ' H' p a k=>q.2.ct ρ' O' σ' H' p ⟨a.rl,a.fr⟩ k⟩⟩
 refine PS.weak (QK (i:=i) hst hex hfr hN hi hk hgB hmB hbe hb1 hh1 hd2) fun D σ H q=>?_
 refine⟨q,?_⟩
 intro σ' cls O' H' hc f rl
 obtain⟨C,h1,h2⟩:=kc cls O' hc
 refine⟨C,h1,h2,fun z o hz hk'=> ⟨z,cls,O',C,o,H',hc,hk',q.1.fr.trans f,hz,⟨(rl.kp (BP f.ok hz) f.ok).set (.raw _),.refl (Frm.new f.ok hz).ok⟩,?_⟩⟩
 have g:Frm Z.K Z.Oe Z.He O' (upd H' z o):=(q.1.fr.trans f).trans (.new f.ok hz)
 have k0:TL.Kp O H O' (upd H' z o):=f.kp.trans (BP f.ok hz)
 exact⟨fun ρ2 O2 σ2 H2 p a2 k2=>q.2.nx _ O2 _ H2 p ⟨Rl.unset a2.rl,g.trans a2.fr⟩ (k0.trans k2),fun v H2 t O2 p f2 r=>q.2.rt v H2 t O2 p (g.trans f2) r,
  fun ρ2 O2 σ2 H2 p a2 k2=>q.2.bk _ O2 _ H2 p ⟨Rl.unset a2.rl,g.trans a2.fr⟩ (k0.trans k2),fun ρ2 O2 σ2 H2 p a2 k2=>q.2.ct _ O2 _ H2 p ⟨Rl.unset a2.rl,g.trans a2.fr⟩ (k0.trans k2)⟩
end
end L2.TL
namespace L2
open PySem PySem.Spec PySem.Calls PyProof.Rows
end L2
namespace L2.TL
open PySem PySem.Spec PySem.Calls PyProof.Rows
structure ExC(Z:Zx)(x C:Addr):Prop where
 rd:Rd Z.He x (FX C x)
 no:Z.Oe x=none
section
variable{Z:Zx}{ρ:List (Option T)}{O O':AH}{e a b:Expr}{es:List Expr}{Ψ:Es}{Φ:BU}{pos p:Pos}{t:T}{ts:List T}{x y C D:Addr}{H':Hp}{o:HO}{cls:Value}{fs:Str}
theorem HK.exc(h:HK cls C x H' o)(f:Frm Z.K Z.Oe Z.He O' H')(hz:H' x=none):ExC (zH Z y O' (upd H' x o)) x C:=by
 refine⟨?_,f.ok.none_of hz⟩
 rcases h with⟨_,rfl⟩| ⟨_,ox,_,_,_,rfl,_⟩
 ·exact .inl AM
 ·exact .inr ⟨ox,AM⟩
theorem HK.cls_ref(h:HK (.ref C) D x H' o):D=C:=by
 rcases h with⟨e,_⟩| ⟨_,_,_,_,e,_⟩
 ·cases e;rfl
 ·cases e
theorem PB{k:Nat}{f:Addr}{fd:gE}{ps:List Str}{sp:Sp}{g:Str}(F:FnH Z.X.prog Z.X.w Z.X.K Z.X.mg Z.X.base k f fd ps sp)(hm:Z.X.mg g=some (.ref f))(hk:jq Z.X.K (.ref f)=true)(hb:Binds Z.X.K fd ps [])(hr:RoomH k Z.X.A)(h:EA Z ρ O (e::es) ts)
  (w:∀σ H vs Q,Asr Z ρ O σ H→Reps Z.K O H vs ts→Acc Z.K O H Φ Q→sp vs H Q E0) (hg:Gl Z.X g:=by rfl) (hdb:(g==("__debug__" :Str))=false:=by decide) (he:fj (e::es) Z.X.env=(false,eval e Z.X.env)::fj es Z.X.env:=by rfl) (hpl:(jS pos (fj es Z.X.env)).any (·.1)=false:=by rfl):
  WE Z ρ O (.Call (.Name g p) (e::es) [] pos) Φ:=by
 refine PE.weak (QL F hr hg hm hk hb (Io (ρ:=ρ)) hdb he hpl) fun σ H Q q=>?_
 refine⟨O,_,h (fun ts' O'=>ts'=ts∧O'=O) ⟨rfl,rfl⟩,q.1,fun vs H1 ts1 O1 p1 f1 r=>?_⟩
 obtain⟨rfl,rfl⟩:=p1
 exact w σ H1 vs Q (q.1.step f1) r (q.2.step f1)
theorem RL{k:Nat}{f:Addr}{fd:gE}{ps:List Str}{g:Str}(F:FnH Z.X.prog Z.X.w Z.X.K Z.X.mg Z.X.base k f fd ps (dg C t))(hm:Z.X.mg g=some (.ref f))(hk:jq Z.X.K (.ref f)=true)(hb:Binds Z.X.K fd ps [])(hr:RoomH k Z.X.A)(hx:ExC Z x C)(h:ET Z ρ O e (.raw (.ref x)))
  (hg:Gl Z.X g:=by rfl) (hdb:(g==("__debug__" :Str))=false:=by decide) (he:fj [e] Z.X.env=(false,eval e Z.X.env)::fj [] Z.X.env:=by rfl) (hpl:(jS pos (fj [] Z.X.env)).any (·.1)=false:=by rfl):ET Z ρ O (.Call (.Name g p) [e] [] pos) t:=fun Φ p=>
 PB F hm hk hb hr (AN h AC he) (fun σ H vs Q a r acc=>by
  obtain⟨v,rfl,r1⟩:=r.one_inv
  cases r1.raw_inv
  have rd:Rd H x (FX C x):=by
   rcases hx.rd with z| ⟨o',z⟩
   ·exact .inl (a.fr.kp _ _ z hx.no).1
   ·exact .inr ⟨o',(a.fr.kp _ _ z hx.no).1⟩
  exact⟨x,rfl,rd,fun v H2 sm rp=>acc v H2 t O p (Frm.same (.refl a.ok) sm) (rp _ _)⟩) hg hdb he hpl
end
section
variable{P:Program}{w:World}{K:a9}{mg:Str→Option Value}{base:Heap}
end
section
variable{P:Program}{w:World}{K:a9}{mg:Str→Option Value}{base:Heap}{C R f:Addr}{q x:Str}{st:Stmt}{fd:gE}
end
section
variable{K:a9}{O O':AH}{H:Hp}
end
section
variable{Z:Zx}{ρ:List (Option T)}{O:AH}{e a b:Expr}{es:List Expr}{Ψ:Es}{Φ:BU}{pos p:Pos}{t:T}{ts ts' us:List T}{x:Str}{l:Addr}
end
end L2.TL
namespace L2
open PySem PySem.Spec PyProof.Rows
section
variable{X:Cx}{W:St→XK}
end
end L2
namespace L2.TL
open PySem PySem.Spec PyProof.Rows
section
variable{Z:Zx}{ρ:List (Option T)}{O:AH}{Φ:BU}{p pos:Pos}{x:Str}{t:T}
end
section
variable{Z:Zx}{ρ:List (Option T)}{O:AH}{Ψ:Es}{a b o e:Expr}{apos cpos pos:Pos}{bs:List Bool}{i:Int}{ns:List Int}
theorem YI(i j:Nat){x y:Str}{a b:Expr}{px py pt pos:Pos}{kt k2 pt2}(hc:Z.X.calm=true)(hN:Z.X.N.Nodup)(h:WA Z ρ O [a,b] fun ts O'=>∃t u,ts=[t,u]∧Ψ.nx ((ρ.set i (some t)).set j (some u)) O')
  (hi:Z.X.N[i]?=some x:=by rfl) (hj:Z.X.N[j]?=some y:=by rfl) (hij:i≠j:=by decide) (hx:Z.X.env.scope.names.lookup x=some .local:=by rfl) (hy:Z.X.env.scope.names.lookup y=some .local:=by rfl)
  (hw:lK [.Tuple [.Name x px,.Name y py] kt pt] (.Tuple [a,b] k2 pt2) Z.X.env=pure (some [x,y]):=by rfl)
  (hs:lJ [.Tuple [.Name x px,.Name y py] kt pt] (.Tuple [a,b] k2 pt2) pos.line Z.X.env=pure false:=by rfl):
  WS Z ρ O (.Assign [.Tuple [.Name x px,.Name y py] kt pt] (.Tuple [a,b] k2 pt2) pos) Ψ:=
 PS.weak (Wg hc hN hi hj hij hx hy h hw hs) fun D σ H q=> ⟨q.1,fun vs H' ts O' ⟨t,u,e,p⟩ f r=>by
  subst e
  obtain⟨v,w,rfl,r1,r2⟩:=r.two_inv
  exact⟨v,w,rfl,q.2.nx _ O' _ H' p ⟨((q.1.step f).rl.set r1).set r2,(q.1.step f).fr⟩ f.kp⟩⟩
end
end L2.TL
namespace L2
open PySem PySem.Spec PyProof.Rows
section
variable{X:Cx}{pos:Pos}
end
end L2
namespace L2.TL
open PySem PySem.Spec PyProof.Rows
section
variable{Z:Zx}{ρ:List (Option T)}{O:AH}{x y z:Str}{p1 p2 p3 pos:Pos}{k:Nat}{ta tb tc:T}{fe e:Expr}{es:List Expr}{Φ:BU}
end
end L2.TL
namespace GrR
variable{R:Int→Int→Prop}{S L M:List Int}{a b p q u v x y:Int}{i j k d s e:Nat}{nb:Int→List Int}{n:Int}
theorem Ud(h:IsD R S v j):∃x∈S,∃L,Ch R (x::L)∧(x::L).Nodup∧(x::L).getLast?=some v∧L.length=j∧(∀y∈x::L,y=v∨∃i,i<j∧IsD R S y i)∧∀y∈L,y∉S:=by
 induction j generalizing v with
 |zero=>
  cases h.1 with
  |«at» hv=>exact⟨v,hv,[],trivial,by simp,rfl,rfl,fun y hy=> .inl (b9.mp hy),fun y hy=>by cases hy⟩
 |succ j ih=>
  obtain⟨u,hu,r⟩:=h.prev
  obtain⟨x,hx,L,l1,l2,l3,l4,l5,l6⟩:=ih hu
  obtain⟨M,eM⟩:∃M,x::L=M++[u]:=jx.mp l3
  have lev:∀y∈x::L,∃i,i<j+1∧IsD R S y i:=fun y hy=>by
   rcases l5 y hy with rfl| ⟨i,hi,q⟩
   ·exact⟨j,by omega,hu⟩
   ·exact⟨i,by omega,q⟩
  refine⟨x,hx,L++[v],?_,?_,?_,by simp[l4],fun y hy=>?_,fun y hy hs=>?_⟩
  ·rw[←gY,eM]
   exact Cr.mpr ⟨eM▸l1,r⟩
  ·rw[←gY,gU]
   refine⟨l2,by simp,fun y hy z hz e=>?_⟩
   rw[b9.mp hz] at e
   subst e
   obtain⟨i,hi,q⟩:=lev y hy
   have:=q.uniq h
   omega
  ·rw[←gY,jr]
   rfl
  ·rw[←gY] at hy
   rcases gu.mp hy with hy|hy
   ·exact .inr (lev y hy)
   ·exact .inl (b9.mp hy)
  ·rcases gu.mp hy with hy|hy
   ·exact l6 y hy hs
   ·rw[b9.mp hy] at hs
    exact h.2 0 (by omega) (.at hs)
theorem join(sy:∀u v,R u v→R v u)(hS:∀x∈S,∀y∈S,x=y∨(R x y∧1≤e))(hx:x∈S)(hy:y∈S)(h1:Ch R (x::L))(h2:Ch R (y::M))(n1:(x::L).Nodup)(n2:(y::M).Nodup)(o1:∀z∈L,z∉S)(o2:∀z∈M,z∉S)(t1:(x::L).getLast?=some v)(t2:(y::M).getLast?=some v)(ne:x=y→L≠M):∃Q,Ring R Q∧Q.length≤L.length+M.length+e:=by
 rcases hS x hx y hy with rfl| ⟨r,he⟩
 ·obtain⟨Q,r,l⟩:=Eb sy h1 h2 n1 n2 t1 t2 (ne rfl)
  exact⟨Q,r,by omega⟩
 ·by_cases exy:x=y
  ·subst exy
   obtain⟨Q,r,l⟩:=Eb sy h1 h2 n1 n2 t1 t2 (ne rfl)
   exact⟨Q,r,by omega⟩
  ·obtain⟨Q,r,l⟩:=Eb (p:=L) (q:=y::M) sy h1 ⟨r,h2⟩ n1 (gB.mpr ⟨fun h=>by
    rcases fu.mp h with h|h
    ·exact exy h
    ·exact o2 x h hx,n2⟩) t1 (by rw[iB];exact t2) (fun z=>o1 y (by rw[z];simp) hy)
   exact⟨Q,r,by simp only[fz] at l;omega⟩
theorem MJ(sy:∀u v,R u v→R v u)(hS:∀x∈S,∀y∈S,x=y∨(R x y∧1≤e))(least:∀M,Ring R M→s≤M.length)(hs:2*(j+1)+e<s)(hv:IsD R S v (j+1))(h1:IsD R S a j)(h2:IsD R S b j)(r1:R a v)(r2:R b v):a=b:=by
 obtain⟨x,hx,L,l1,l2,l3,l4,l5,l6⟩:=Ud h1
 obtain⟨y,hy,M,m1,m2,m3,m4,m5,m6⟩:=Ud h2
 have nv:v∉S:=fun h=>hv.2 0 (by omega) (.at h)
 have app:∀{x:Int} {L:List Int} {a:Int},Ch R (x::L)→(x::L).getLast?=some a→R a v→Ch R (x::(L++[v])):=fun{x L a} h1 h2 h3=>by
  obtain⟨M,eM⟩:∃M,x::L=M++[a]:=jx.mp h2
  rw[←gY,eM]
  exact Cr.mpr ⟨eM▸h1,h3⟩
 have nd:∀{x:Int} {L:List Int} {a:Int},IsD R S a j→(x::L).Nodup→(∀y∈x::L,y=a∨∃i,i<j∧IsD R S y i)→(x::(L++[v])).Nodup:=fun{x L a} ha h1 h2=>by
  rw[←gY,gU]
  refine⟨h1,by simp,fun y hy z hz e=>?_⟩
  rw[b9.mp hz] at e
  subst e
  rcases h2 y hy with rfl| ⟨i,hi,q⟩
  ·have:=ha.uniq hv
   omega
  ·have:=q.uniq hv
   omega
 have out:∀{L:List Int},(∀y∈L,y∉S)→∀y∈L++[v],y∉S:=fun{L} h y hy=>by
  rcases gu.mp hy with hy|hy
  ·exact h y hy
  ·rw[b9.mp hy]
   exact nv
 by_cases ab:a=b
 ·exact ab
 ·obtain⟨Q,r,l⟩:=join (v:=v) sy hS hx hy (app l1 l3 r1) (app m1 m3 r2) (nd h1 l2 l5) (nd h2 m2 m5) (out l6) (out m6) (by rw[←gY,jr];rfl) (by rw[←gY,jr];rfl) (fun exy z=>by
   subst exy
   have:L=M:=List.append_cancel_right z
   subst this
   rw[l3] at m3
   cases m3
   exact ab rfl)
  have:=least Q r
  simp only[gw,fz,js] at l
  omega
theorem RM(sy:∀u v,R u v→R v u)(ir:∀u,¬R u u)(hS:∀x∈S,∀y∈S,x=y∨(R x y∧1≤e))(least:∀M,Ring R M→s≤M.length)(hj:1≤j)(hs:2*j+1+e<s)(h1:IsD R S a j)(h2:IsD R S b j):¬R a b:=fun r=>by
 obtain⟨x,hx,L,l1,l2,l3,l4,l5,l6⟩:=Ud h1
 obtain⟨y,hy,M,m1,m2,m3,m4,m5,m6⟩:=Ud h2
 have nv:b∉S:=fun h=>h2.2 0 (by omega) (.at h)
 obtain⟨Q,q,l⟩:=join (v:=b) (L:=L++[b]) sy hS hx hy (by
  obtain⟨N,eN⟩:∃N,x::L=N++[a]:=jx.mp l3
  rw[←gY,eN]
  exact Cr.mpr ⟨eN▸l1,r⟩) m1 (by
  rw[←gY,gU]
  refine⟨l2,by simp,fun y hy z hz e=>?_⟩
  rw[b9.mp hz] at e
  subst e
  rcases l5 y hy with rfl| ⟨i,hi,q⟩
  ·exact ir _ r
  ·have:=q.uniq h2
   omega) m2 (fun z hz=>by
  rcases gu.mp hz with hz|hz
  ·exact l6 z hz
  ·rw[b9.mp hz];exact nv) m6 (by rw[←gY,jr];rfl) m3 (fun _ z=>by
   have:=congrArg List.length z
   simp only[gw,fz,js] at this
   omega)
 have:=least Q q
 simp only[gw,fz,js] at l
 omega
noncomputable def LV(R:Int→Int→Prop)(S:List Int)(j:Nat)(l:List Int):Prop:=l.Nodup∧∀v,v∈l↔IsD R S v j
theorem CZ{l l':List Int}(h:l.Nodup)(h':l'.Nodup)(e:∀v,v∈l↔v∈l'):l.length=l'.length:=((List.perm_ext_iff_of_nodup h h').mpr e).length_eq
theorem Ue{l:List Int}(h:l.Nodup)(hm:x∈l):(l.filter fun v=>decide (v≠x)).length+1=l.length:=by
 have:((x::l.filter fun v=>decide (v≠x))).length=l.length:=CZ (gB.mpr ⟨fun h=>by simp at h,h.filter _⟩) h fun v=>by
  simp only[fu,gq,decide_eq_true_eq]
  by_cases c:v=x
  ·subst c;simp[hm]
  ·simp[c]
 simpa using this
theorem NZ{f:Int→List Int}:∀{l:List Int},l.Nodup→(∀u∈l,(f u).Nodup)→(∀u∈l,∀w∈l,∀v,v∈f u→v∈f w→u=w)→(l.flatMap f).Nodup
 | [],_,_,_=>by simp
 |u::l,h,h1,h2=>by
  rw[gB] at h
  rw[mU,gU]
  refine⟨h1 u (by simp),NZ h.2 (fun w hw=>h1 w (by simp[hw])) (fun w hw z hz=>h2 w (by simp[hw]) z (by simp[hz])),fun v hv w hw e=>?_⟩
  subst e
  obtain⟨z,hz,hv2⟩:=jW.mp hw
  have:=h2 u (by simp) z (by simp[hz]) v hv hv2
  subst this
  exact h.1 hz
theorem Kh{f:Int→List Int}{c:Nat}:∀{l:List Int},(∀u∈l,(f u).length=c)→(l.flatMap f).length=c*l.length
 | [],_=>by simp
 |u::l,h=>by
  rw[mU,gw,h u (by simp),Kh (l:=l) (fun w hw=>h w (by simp[hw])),fz,qr,Nat.add_comm]
theorem av{l l':List Int}(hR:∀u v,v∈nb u↔R u v)(hn:∀u,(nb u).Nodup)(hd:∀u∈l,(nb u).length=d+1)(h:LV R S j l)(h':LV R S (j+1) l')(hw:∀u∈l,∃w,R u w∧∀v,R u v→(v≠w↔IsD R S v (j+1)))(up:∀u∈l,∀w∈l,∀v,IsD R S v (j+1)→R u v→R w v→u=w):l'.length=d*l.length:=by
 classical
 have e:∀u∈l,((nb u).filter fun v=>decide (IsD R S v (j+1))).length=d:=fun u hu=>by
  obtain⟨w,rw',hv⟩:=hw u hu
  have:=Ue (hn u) ((hR u w).mpr rw')
  rw[hd u hu] at this
  rw[show((nb u).filter fun v=>decide (IsD R S v (j+1)))=(nb u).filter fun v=>decide (v≠w) from List.filter_congr fun v hm=>by
   have:=hv v ((hR u v).mp hm)
   simp only[decide_eq_decide]
   exact this.symm]
  omega
 rw[←Kh e]
 refine CZ h'.1 (NZ h.1 (fun u _=> (hn u).filter _) (fun u hu w hw v h1 h2=>?_)) fun v=>?_
 ·rw[gq,decide_eq_true_eq] at h1 h2
  exact up u hu w hw v h1.2 ((hR ..).mp h1.1) ((hR ..).mp h2.1)
 ·rw[h'.2 v,jW]
  constructor
  ·intro hv
   obtain⟨u,hu,r⟩:=hv.prev
   exact⟨u,(h.2 u).mpr hu,gq.mpr ⟨(hR ..).mpr r,decide_eq_true hv⟩⟩
  ·rintro⟨u,_,hm⟩
   rw[gq,decide_eq_true_eq] at hm
   exact hm.2
theorem RN(sy:∀u v,R u v→R v u)(hu:IsD R S u (j+1))(r:R u v):∃i,j≤i∧i≤j+2∧IsD R S v i:=by
 obtain⟨i,hi,q⟩:=(W.go hu.1 r).least
 refine⟨i,?_,hi,q⟩
 by_cases c:j≤i
 ·exact c
 ·exact absurd (W.go q.1 (sy _ _ r)) (hu.2 _ (by omega))
theorem Na{l l':List Int}(sy:∀u v,R u v→R v u)(ir:∀u,¬R u u)(hS:∀x∈S,∀y∈S,x=y∨(R x y∧1≤e))(least:∀M,Ring R M→s≤M.length)(hs:2*(j+2)+e<s)(hR:∀u v,v∈nb u↔R u v)(hn:∀u,(nb u).Nodup)(hd:∀u∈l,(nb u).length=d+1)(h:LV R S (j+1) l)(h':LV R S (j+2) l'):l'.length=d*l.length:=by
 refine av hR hn hd h h' (fun u hu=>?_) (fun u hu w hw v hv r1 r2=>MJ sy hS least hs hv ((h.2 u).mp hu) ((h.2 w).mp hw) r1 r2)
 have hu:=(h.2 u).mp hu
 obtain⟨w,hw,r⟩:=hu.prev
 refine⟨w,sy _ _ r,fun v rv=> ⟨fun ne=>?_,fun hv z=>?_⟩⟩
 ·obtain⟨i,h1,h2,q⟩:=RN sy hu rv
  have:i=j∨i=j+1∨i=j+2:=by omega
  rcases this with rfl|rfl|rfl
  ·exact absurd (MJ sy hS least (by omega) hu q hw (sy _ _ rv) r) ne
  ·exact absurd rv (RM sy ir hS least (by omega) (by omega) hu q)
  ·exact q
 ·subst z
  have:=hv.uniq hw
  omega
theorem MK(sy:∀u v,R u v→R v u)(ir:∀u,¬R u u)(least:∀M,Ring R M→s≤M.length)(hR:∀u v,v∈nb u↔R u v)(hn:∀u,(nb u).Nodup)(hb:∀u v,R u v→0≤v∧v<n)(hd:∀u,0≤u→u<n→(nb u).length=d+1)(hp:0≤p∧p<n){F:Nat→List Int}(hF:∀i,LV R [p] i (F i)):∀i,2*(i+1)<s→(F (i+1)).length=(d+1)*d^i
 |0,_=>by
  rw[Nat.pow_zero,Nat.mul_one,←hd p hp.1 hp.2]
  refine CZ (hF 1).1 (hn p) fun v=>?_
  rw[(hF 1).2,hR]
  constructor
  ·intro h
   obtain⟨u,hu,r⟩:=IsD.prev (s:=0) h
   cases hu.1 with
   |«at» h=>rw[b9.mp h] at r;exact r
  ·intro r
   refine⟨.go (.at (by simp)) r,fun j hj w=>?_⟩
   have:j=0:=by omega
   subst this
   cases w with
   |«at» h=>rw[b9.mp h] at r;exact ir _ r
 |i+1,hs=>by
  have ih:=MK sy ir least hR hn hb hd hp hF i (by omega)
  rw[Na (e:=0) sy ir (fun x hx y hy=> .inl (by rw[b9.mp hx,b9.mp hy])) least hs hR hn (fun u hu=>by
   have:=(((hF (i+1)).2 u).mp hu).1.inb (n:=n) hb (fun z hz=>by rw[b9.mp hz];exact hp)
   exact hd u this.1 this.2) (hF (i+1)) (hF (i+2)),ih,nF]
  rw[qt,Nat.mul_assoc]
theorem RO(sy:∀u v,R u v→R v u)(ir:∀u,¬R u u)(least:∀M,Ring R M→s≤M.length)(hR:∀u v,v∈nb u↔R u v)(hn:∀u,(nb u).Nodup)(hb:∀u v,R u v→0≤v∧v<n)(hd:∀u,0≤u→u<n→(nb u).length=d+1)(r:R a b){F:Nat→List Int}(hF:∀i,LV R [a,b] i (F i)):∀i,2*i+1<s→(F i).length=2*d^i
 |0,_=>by
  have ne:a≠b:=fun z=>ir b (z▸r)
  rw[Nat.pow_zero]
  refine CZ (l':=[a,b]) (hF 0).1 (by simp[ne]) fun v=>?_
  rw[(hF 0).2]
  exact⟨fun h=>by cases h.1 with|«at» h=>exact h,fun h=> ⟨.at h,fun j hj=>by omega⟩⟩
 |i+1,hs=>by
  have ih:=RO sy ir least hR hn hb hd r hF i (by omega)
  have hab:=hb _ _ r
  have hba:=hb _ _ (sy _ _ r)
  have hS:∀x∈[a,b],∀y∈[a,b],x=y∨(R x y∧1≤1):=fun x hx y hy=>by
   simp only[fu,iU,or_false] at hx hy
   rcases hx with rfl|rfl<;>rcases hy with rfl|rfl
   ·exact .inl rfl
   ·exact .inr ⟨r,fv _⟩
   ·exact .inr ⟨sy _ _ r,fv _⟩
   ·exact .inl rfl
  have hl:∀i,∀u∈F i,(nb u).length=d+1:=fun i u hu=>by
   have:=(((hF i).2 u).mp hu).1.inb (n:=n) hb (fun z hz=>by
    simp only[fu,iU,or_false] at hz
    rcases hz with rfl|rfl
    ·exact hba
    ·exact hab)
   exact hd u this.1 this.2
  rw[nF,←Nat.mul_assoc,←ih,qt]
  cases i with
  |succ i=>exact Na (e:=1) sy ir hS least (by omega) hR hn (hl _) (hF (i+1)) (hF (i+2))
  |zero=>
   refine av hR hn (hl 0) (hF 0) (hF 1) (fun u hu=>?_) (fun u hu w hw v hv r1 r2=>MJ (e:=1) sy hS least (by omega) hv (((hF 0).2 u).mp hu) (((hF 0).2 w).mp hw) r1 r2)
   have h0:=(((hF 0).2 u).mp hu).1
   have key:∀u w,u∈[a,b]→w∈[a,b]→R u w→(∀z∈[a,b],z=u∨z=w)→∀v,R u v→(v≠w↔IsD R [a,b] v 1):=fun u w hu hw ruw al v rv=>by
    constructor
    ·intro ne
     refine⟨.go (.at hu) rv,fun j hj w'=>?_⟩
     have:j=0:=by omega
     subst this
     cases w' with
     |«at» h=>
      rcases al v h with rfl|rfl
      ·exact ir _ rv
      ·exact ne rfl
    ·intro hv z
     subst z
     exact hv.2 0 (by omega) (.at hw)
   cases h0 with
   |«at» h=>
    simp only[fu,iU,or_false] at h
    rcases h with rfl|rfl
    ·exact⟨b,r,key u b (by simp) (by simp) r (fun z hz=>by simpa using hz)⟩
    ·exact⟨a,sy _ _ r,key u a (by simp) (by simp) (sy _ _ r) (fun z hz=>by
      simp only[fu,iU,or_false] at hz
      exact hz.symm)⟩
noncomputable def Ca(f:Nat→Nat):Nat→Nat
 |0=>0
 |k+1=>Ca f k+f k
theorem Nb(hb:∀u v,R u v→0≤v∧v<n)(hS:∀z∈S,0≤z∧z<n){F:Nat→List Int}(hF:∀i,LV R S i (F i))(k:Nat):∃l:List Int,l.Nodup∧(∀v,v∈l↔∃i,i<k∧IsD R S v i)∧l.length=Ca (fun i=> (F i).length) k:=by
 induction k with
 |zero=>exact⟨[],by simp,fun v=>by simp,rfl⟩
 |succ k ih=>
  obtain⟨l,h1,h2,h3⟩:=ih
  refine⟨l++F k,?_,fun v=>?_,by rw[gw,h3];rfl⟩
  ·rw[gU]
   refine⟨h1,(hF k).1,fun u hu w hw e=>?_⟩
   subst e
   obtain⟨i,hi,q⟩:=(h2 u).mp hu
   have:=q.uniq (((hF k).2 u).mp hw)
   omega
  ·rw[gu,h2,(hF k).2]
   constructor
   ·rintro(⟨i,hi,q⟩|q)
    ·exact⟨i,by omega,q⟩
    ·exact⟨k,by omega,q⟩
   ·rintro⟨i,hi,q⟩
    by_cases c:i<k
    ·exact .inl ⟨i,c,q⟩
    ·have:i=k:=by omega
     subst this
     exact .inr q
theorem RQ(hb:∀u v,R u v→0≤v∧v<n)(hS:∀z∈S,0≤z∧z<n){F:Nat→List Int}(hF:∀i,LV R S i (F i))(k:Nat):Ca (fun i=> (F i).length) k≤n.toNat:=by
 obtain⟨l,h1,h2,h3⟩:=Nb hb hS hF k
 rw[←h3]
 refine Gr.DT h1 fun z hz=>?_
 obtain⟨i,_,q⟩:=(h2 z).mp hz
 exact q.1.inb hb hS
theorem Nc(hb:∀u v,R u v→0≤v∧v<n)(hS:∀z∈S,0≤z∧z<n){F:Nat→List Int}(hF:∀i,LV R S i (F i))(k:Nat)(he:n.toNat≤Ca (fun i=> (F i).length) k)(v0:0≤v)(v1:v<n):∃i,i<k∧IsD R S v i:=by
 obtain⟨l,h1,h2,h3⟩:=Nb hb hS hF k
 by_cases c:v∈l
 ·exact(h2 v).mp c
 ·have:=Gr.DT (n:=n) (L:=v::l) (gB.mpr ⟨c,h1⟩) fun z hz=>by
   rcases fu.mp hz with rfl|hz
   ·exact⟨v0,v1⟩
   ·obtain⟨i,_,q⟩:=(h2 z).mp hz
    exact q.1.inb hb hS
  rw[fz] at this
  omega
theorem RS(sy:∀u v,R u v→R v u)(ir:∀u,¬R u u)(hR:∀u v,v∈nb u↔R u v)(hn:∀u,(nb u).Nodup)(hb:∀u v,R u v→0≤v∧v<n)(hd:∀u,0≤u→u<n→(nb u).length=d+1)(d1:1≤d)(hp:0≤p∧p<n){F:Nat→List Int}(hF:∀i,LV R [p] i (F i)):∃M,Ring R M:=by
 by_cases h:∃M,Ring R M
 ·exact h
 ·have:=MK (s:=2*(n.toNat+1)+1) sy ir (fun M r=>absurd ⟨M,r⟩ h) hR hn hb hd hp hF n.toNat (by omega)
  have pos:0< (d+1)*d^n.toNat:=Nat.mul_pos (by omega) (Nat.pow_pos (by omega))
  rw[←this] at pos
  obtain⟨v,hv⟩:=List.exists_mem_of_length_pos pos
  have:=(((hF _).2 v).mp hv).lt hb (fun z hz=>by rw[b9.mp hz];exact hp)
  omega
open Classical in
noncomputable def aw (R:Int→Int→Prop) (S:List Int) (n:Int) (i:Nat):List Int:=((gF n.toNat).map fun(j:Nat)=> (j:Int)).filter fun v=>decide (IsD R S v i)
theorem ML(hb:∀u v,R u v→0≤v∧v<n)(hS:∀z∈S,0≤z∧z<n)(i:Nat):LV R S i (aw R S n i):=by
 refine⟨lW _ ?_,fun v=>?_⟩
 ·rw[iw]
  exact List.nodup_range.imp fun{a b} h z=>h (by omega)
 ·classical
  unfold aw
  rw[gq,gc]
  refine⟨fun h=>of_decide_eq_true h.2,fun h=> ⟨?_,decide_eq_true h⟩⟩
  have:=h.1.inb hb hS
  exact⟨v.toNat,gG.mpr (by omega),by omega⟩
theorem JK{f g:Nat→Nat}:∀k,(∀i,i<k→f i=g i)→Ca f k=Ca g k
 |0,_=>rfl
 |k+1,h=>by show Ca f k+f k=Ca g k+g k;rw[JK k fun i hi=>h i (by omega),h k (by omega)]
theorem IA{f:Nat→Nat}:∀k,Ca f (k+1)=f 0+Ca (fun i=>f (i+1)) k
 |0=>by show 0+f 0=f 0+0;omega
 |k+1=>by show Ca f (k+1)+f (k+1)=f 0+(Ca (fun i=>f (i+1)) k+f (k+1));rw[IA k];omega
theorem RU{l:List Int}(h:LV R [p] 0 l):l.length=1:=CZ (l':=[p]) h.1 (by simp) fun v=>by
 rw[h.2]
 exact⟨fun h=>by cases h.1 with|«at» h=>exact h,fun h=> ⟨.at h,fun j hj=>by omega⟩⟩
theorem Ug(sy:∀u v,R u v→R v u)(ir:∀u,¬R u u)(least:∀M,Ring R M→s≤M.length)(hR:∀u v,v∈nb u↔R u v)(hn:∀u,(nb u).Nodup)(hb:∀u v,R u v→0≤v∧v<n)(hd:∀u,0≤u→u<n→(nb u).length=d+1)(hp:0≤p∧p<n){F:Nat→List Int}(hF:∀i,LV R [p] i (F i))(k:Nat)(hk:2*k<s):Ca (fun i=> (F i).length) (k+1)=1+Ca (fun i=> (d+1)*d^i) k:=by
 rw[IA,RU (hF 0),JK k fun i hi=>MK sy ir least hR hn hb hd hp hF i (by omega)]
theorem Uh(sy:∀u v,R u v→R v u)(ir:∀u,¬R u u)(least:∀M,Ring R M→s≤M.length)(hR:∀u v,v∈nb u↔R u v)(hn:∀u,(nb u).Nodup)(hb:∀u v,R u v→0≤v∧v<n)(hd:∀u,0≤u→u<n→(nb u).length=d+1)(r:R a b){F:Nat→List Int}(hF:∀i,LV R [a,b] i (F i))(k:Nat)(hk:2*k≤s):Ca (fun i=> (F i).length) k=Ca (fun i=>2*d^i) k:=JK k fun i hi=>RO sy ir least hR hn hb hd r hF i (by omega)
variable{R R':Int→Int→Prop}{S L:List Int}{a b u v:Int}{i j k d s:Nat}{nb:Int→List Int}{n:Int}{σ:Int→Int}
theorem Ui{l:List Int}(h1:a∈l)(h2:b∈l)(ne:a≠b):2≤l.length:=by
 match l,h1,h2 with
 | [x],h1,h2=>exact absurd ((b9.mp h1).trans (b9.mp h2).symm) ne
 |_::_::_,_,_=>simp
theorem RV(hR:∀u v,v∈nb u↔R u v)(sy:∀u v,R u v→R v u)(r:Ring R L):∃x∈L,2≤(nb x).length:=by
 match L,r with
 |x::y::z::L,r=>
  obtain⟨t,ht⟩:∃t,(x::y::z::L).getLast?=some t:=⟨_,nV⟩
  have hm:t∈z::L:=by
   rw[iB,iB] at ht
   exact jK ht
  have nd:=r.nd
  refine⟨x,by simp,Ui ((hR x y).mpr r.ch.1) ((hR x t).mpr (sy _ _ (r.cl x t rfl ht))) fun e=>?_⟩
  rw[e] at nd
  have:=(gB.mp (gB.mp nd).2).1
  exact this hm
 | [],r=>exact absurd r.len (by decide)
 | [_],r=>exact absurd r.len (by simp)
 | [_,_],r=>exact absurd r.len (by simp)
theorem ax(h:R a b)(w:W R [a,b] k v):∃j,j≤k+1∧W R [a] j v:=by
 induction w with
 |«at» hm=>
  simp only[fu,iU,or_false] at hm
  rcases hm with rfl|rfl
  ·exact⟨0,by omega,.at (by simp)⟩
  ·exact⟨1,by omega,.go (.at (by simp)) h⟩
 |go _ r ih=>
  obtain⟨j,hj,w⟩:=ih
  exact⟨j+1,by omega,.go w r⟩
variable{R R':Int→Int→Prop}{L M r:List Int}{a b p u v x y:Int}{i j k d s:Nat}{nb nb':Int→List Int}{n:Int}{σ τ:Int→Int}
theorem Uj(h:Ch R L)(e:L.getLast?=some x)(hr:R x a):Ch R (L++[a]):=by
 obtain⟨M,rfl⟩:=jx.mp e
 exact Cr.mpr ⟨h,hr⟩
theorem Uk(h:Ch R (L++M)):Ch R L:=by
 have:=UZ (i:=L.length) h
 rwa[List.take_left] at this
theorem RW(h:Ring R (L++M)):Ring R (M++L):=by
 match L,M,h with
 | [],M,h=>rw[i8];exact h
 |L,[],h=>rw[i8] at h;exact h
 |a::L,b::M,h=>
  obtain⟨y,hy⟩:∃y,(b::M).getLast?=some y:=⟨_,nV⟩
  obtain⟨x,hx⟩:∃x,(a::L).getLast?=some x:=⟨_,nV⟩
  have c:=Du.mp h.ch
  have hya:R y a:=h.cl a y rfl (by rw[jr,hy];rfl)
  have hxb:R x b:=by
   obtain⟨N,e⟩:=jx.mp hx
   have:=c.1
   rw[e] at this
   exact(Cr.mp this).2
  refine⟨by have:=h.len;simp only[gw,fz] at this ⊢;omega,?_,?_,fun u z hu hz=>?_⟩
  ·have:=gU.mp h.nd
   rw[gU]
   exact⟨this.2.1,this.1,fun x hx y hy e=>this.2.2 y hy x hx e.symm⟩
  ·exact Du.mpr ⟨Uj c.2 hy hya,Uk h.ch⟩
  ·have hu:b=u:=by simpa using hu
   rw[jr,hx] at hz
   have hz:x=z:=by simpa using hz
   rw[←hu,←hz]
   exact hxb
end GrR
namespace SrtG
open PySem PySem.Calls PySem.W PyProof.Rows
noncomputable def RowAt(h:Heap)(v:Value)(r:List Int):Prop:=∃x o xs n,v=.ref x∧h.get? x=some o∧o.cls=.type "tuple"∧o.data=.seq (l7 xs) n∧IntsAre xs r
noncomputable def RX:Value→Option Int
 | .int a _=>some a
 |_=>none
theorem JL:∀{vs:List Value} {ns:List Int},IntsAre vs ns→vs.filterMap RX=ns
 |_,_,.nil=>rfl
 |_,_,.cons n t r=>by rw[i7];show n::_=_;rw[JL r]
noncomputable def ay(h:Heap)(v:Value):Int:=match v with
  | .ref x=>match h.get? x with
    |some o=>match o.data with
     | .seq xs _=>GrR.rk (xs.toList.filterMap RX)
     |_=>0
    |_=>0
  |_=>0
theorem FG{h:Heap}{v:Value}{r:List Int}(p:RowAt h v r):ay h v=GrR.rk r:=by
 obtain⟨x,o,xs,n,e1,e2,_,e3,e4⟩:=p
 unfold ay
 rw[e1]
 dsimp only
 rw[e2]
 dsimp only
 rw[e3]
 show GrR.rk (xs.filterMap RX)=_
 rw[JL e4]
theorem Dv:∀(r:List Int) (a:Int),r.foldl (fun a v=>a*32+v) a=a*32^r.length+GrR.rk r
 | [],a=>by show a=a*1+0;omega
 |v::r,a=>by
  show r.foldl (fun a v=>a*32+v) (a*32+v)=_
  have e:GrR.rk (v::r)=v*32^r.length+GrR.rk r:=by
   show r.foldl (fun a v=>a*32+v) (0*32+v)=_
   rw[Dv r,Int.zero_mul,qx]
  rw[Dv r,e,fz,oW,lh,Int.mul_comm (32^r.length) 32,←Int.mul_assoc,Int.add_assoc]
theorem Ay{v:Int}{r:List Int}:GrR.rk (v::r)=v*32^r.length+GrR.rk r:=by
 show r.foldl (fun a v=>a*32+v) (0*32+v)=_
 rw[Dv r,Int.zero_mul,qx]
theorem FS:∀{r:List Int},(∀z∈r,0≤z∧z<32)→0≤GrR.rk r∧GrR.rk r<32^r.length
 | [],_=>by show(0:Int)≤0∧(0:Int)<1;omega
 |v::r,h=>by
  have h1:=h v (by simp)
  have h2:=FS (r:=r) fun z hz=>h z (fk _ hz)
  rw[Ay,fz,oW]
  have hp:(0:Int)<32^r.length:=ot (by decide)
  have e1:=Int.mul_nonneg h1.1 (iY hp)
  have e2:v*32^r.length≤31*32^r.length:=gI (by omega) (iY hp)
  omega
theorem Vt{a c:Int}{r q:List Int}(hl:r.length=q.length)(hr:∀z∈r,0≤z∧z<32)(hq:∀z∈q,0≤z∧z<32)(h:a≠c):decide (a<c)=decide (GrR.rk (a::r)<GrR.rk (c::q)):=by
 have h1:=FS hr
 have h2:=FS hq
 rw[Ay,Ay,hl]
 rw[hl] at h1
 generalize (32:Int)^q.length=B at*
 refine decide_eq_decide.mpr ⟨fun z=>?_,fun z=>?_⟩
 ·have:(a+1)*B≤c*B:=gI (by omega) (by omega)
  rw[lh,lg] at this
  omega
 ·by_cases z2:a<c
  ·exact z2
  ·have:(c+1)*B≤a*B:=gI (by omega) (by omega)
   rw[lh,lg] at this
   omega
variable{prog:Program}{w:World}{A:gx}{E:Value→Shared→Prop}{s:Shared}
theorem Nd{Q:Bool→Shared→Prop}:∀{xs ys:List Value} {ns ms:List Int} {i:Nat},IntsAre xs ns→IntsAre ys ms→ns.length=ms.length→(∀z∈ns,0≤z∧z<32)→(∀z∈ms,0≤z∧z<32)→Q (decide (GrR.rk ns<GrR.rk ms)) s→KatLex prog w A true false Q (xs.zip ys) (i+1) s
 |_,_,_,_,_,.nil,.nil,_,_,_,h=>kat_nil (by simpa using h)
 |_,_,_,_,_,.nil,.cons _ _ _,hl,_,_,_=>by cases hl
 |_,_,_,_,_,.cons _ _ _,.nil,hl,_,_,_=>by cases hl
 |_,_,_,_,_,@IntsAre.cons a t vs ns hx,@IntsAre.cons c u us ms hy,hl,hr,hq,h=>by
  have hl':ns.length=ms.length:=by simpa using hl
  have hr':=fun z (hz:z∈ns)=>hr z (fk _ hz)
  have hq':=fun z (hz:z∈ms)=>hq z (fk _ hz)
  refine kat_cons (lZ (kat_go (fun e=>kat_yes ?_) fun e=>?_))
  ·have e':=eq_of_beq e
   subst e'
   refine Nd hx hy hl' hr' hq' ?_
   rw[Ay,Ay,hl'] at h
   rw[show decide (GrR.rk ns<GrR.rk ms)=decide (a*32^ms.length+GrR.rk ns<a*32^ms.length+GrR.rk ms) from decide_eq_decide.mpr (by omega)]
   exact h
  ·have e':a≠c:=fun q=>by rw[q] at e;simp at e
   exact kat_no (kat_one _ _ (lt_int (by rw[Vt hl' hr' hq' e'];exact h)))
noncomputable def dj(k:Nat)(h:Heap)(v:Value):Prop:=∃r,RowAt h v r∧r.length=k+1∧∀z∈r,0≤z∧z<32
theorem Ul{k:Nat}:Rk prog w (dj k) ay (.type "int") where
 cmp:=by
  intro A E s st x y Q hk hx hy h
  obtain⟨r,px,lx,bx⟩:=hx
  obtain⟨q,py,ly,bY⟩:=hy
  have h:Q (some (decide (ay s.heap x.1<ay s.heap y.1))) st:=h
  rw[FG px,FG py] at h
  obtain⟨p,o,xs,n,e1,e2,_,e3,e4⟩:=px
  obtain⟨p',o',ys,n',e1',e2',_,e3',e4'⟩:=py
  rw[lt'_eq]
  refine fh (lX ?_)
  rw[hk,e1,e1']
  refine fh (mJ (lI ?_))
  refine PySem.W.kat_lt e2 e3 e2' e3' ?_
  have fin:∀b:Bool,b=decide (GrR.rk r<GrR.rk q)→(s=s∧wpS (model prog w) A E s (match (Except.ok b:Except Value Bool) with
    | .ok b=>pure (some b)
    | .error e=>do
     modify (fun s=>mz (kindOf s) (arrOf s) (pendingOf s) (gallopOf s) (some e))
     pure none) Q st):=fun b hb=> ⟨rfl,by rw[hb];exact fm h⟩
  cases e4 with
  |nil=>cases lx
  | @cons a t vs ns hx=>
   cases e4' with
   |nil=>cases ly
   | @cons c u us ms hy=>
    have hl:ns.length=ms.length:=by simp only[fz] at lx ly;omega
    have hv:vs.length=us.length:=by rw[hx.length,hy.length];exact hl
    have br:=fun z (hz:z∈ns)=>bx z (fk _ hz)
    have bq:=fun z (hz:z∈ms)=>bY z (fk _ hz)
    have sz:decide ((Value.int a t::vs).toArray.size< (Value.int c u::us).toArray.size)=false:=decide_eq_false (by simp[hv])
    rw[sz]
    refine oF (r:=vs.zip us) (lZ ?_)
    refine pH (fun e=>?_) (fun e=>?_)
    ·have e':=eq_of_beq e
     subst e'
     refine o5 (Nd hx hy hl br bq (fin _ ?_))
     rw[Ay,Ay,hl]
     exact decide_eq_decide.mpr (by omega)
    ·have e':a≠c:=fun q=>by rw[q] at e;simp at e
     exact pG (oneLt_int (fin _ (Vt hl br bq e')))
 kept:=by
  rintro h h' v ⟨r,p,q⟩ k
  have p':RowAt h' v r:=by
   obtain⟨x,o,xs,n,e1,e2,e3,e4,e5⟩:=p
   exact⟨x,o,xs,n,e1,k _ _ e3 e2,e3,e4,e5⟩
  exact⟨⟨r,p',q⟩,by rw[FG p,FG p']⟩
 kat:=fun{h vs}=>by
  induction vs with
  |nil=>exact fun _=> ⟨[],qw.nil,rfl,fun v hv=>by cases hv⟩
  |cons v vs ih=>
   intro ok
   obtain⟨fs,k,hl,hf⟩:=ih fun v hv=>ok v (.tail _ hv)
   obtain⟨r,⟨x,o,xs,n,rfl,e,hc,hd,e5⟩,lr,_⟩:=ok v (.head _)
   cases e5 with
   |nil=>cases lr
   |cons a t hx=>
    exact⟨.int a t::fs,qw.cons e hc hd rfl k,by rw[fz,fz,hl],fun v hv=>by
     rcases fu.mp hv with rfl|hv
     ·exact fun M h'=>fun _ _ _ _ _ q=>b8 q
     ·exact hf v hv⟩
 t1:=rfl
 t2:=rfl
end SrtG
namespace L2
open PySem PySem.Spec PySem.Calls PyProof.Rows SrtG
section
variable{X:Cx}{pins:List (Addr×Obj)}{σ:St}{H:Hp}{s:Shared}
theorem Inv.rowAt{x:Addr}{r:List Int}(I:Inv X pins σ H s)(h:FV X.K H x (r.map V.int)):RowAt s.heap (.ref x) r:=by
 obtain⟨its,rr,⟨o,ho,hc,n,hd⟩,hz⟩:=I.tuple h
 exact⟨x,o,its,n,rfl,ho,hc,hd,LS rr⟩
theorem Dw:∀{ps:List (List Int×Addr)} {us:List Value},Vals (ps.map fun p=>V.ref p.2) us→us=ps.map fun p=>Value.ref p.2
 | [],us,r=>by rw[l8] at r;cases r;rfl
 |p::ps,us,r=>by
  rw[gH] at r
  cases r with
  |cons r1 r2=>
   rw[Dw r2]
   have r1:_=Value.ref p.2:=r1
   rw[r1]
   rfl
theorem Dx:∀(ps:List (List Int×Addr)),Vals (ps.map fun p=>V.ref p.2) (ps.map fun p=>Value.ref p.2)
 | []=> .nil
 |p::ps=> .cons rfl (Dx ps)
theorem JM:BC X (.builtin "sorted") (fun xs H Q=>∃(a:Addr) (ks:List (List Int×Addr)) (m:Nat),xs=[.ref a]∧SqL X.K H a (ks.map fun p=>V.ref p.2)∧(∀k x,(k,x)∈ks→FV X.K H x (k.map V.int)∧k.length=m+1∧∀z∈k,0≤z∧z<32)∧ks.length≤9000000∧
  ∀(p:Addr) (ms:List (List Int×Addr)),H p=none→ms.Perm ks→ms.Pairwise (fun x y=>GrR.rk x.1≤GrR.rk y.1)→Q (.ref p) (upd H p (.lst (ms.map fun p=>V.ref p.2)))):=by
 intro pins s σ H xs us Q I r h
 obtain⟨a,ks,m,rfl,hS,hk,hn,q⟩:=h
 obtain⟨u,rfl,ru⟩:=Vals.one r
 cases ru
 obtain⟨its,rv,⟨o,n,e1,e2,_,e3⟩,_⟩:=I.list hS
 have ei:=Dw rv
 subst ei
 have at_:∀k x,(k,x)∈ks→RowAt s.heap (.ref x) k:=fun k x h=>I.rowAt (hk k x h).1
 refine MH e1 e2 e3 (Ul (k:=m)) (fun v hv=>?_) (by rw[e8];omega) fun h' b out c hb hg kp pm pw=>?_
 ·obtain⟨⟨k,x⟩,hx,rfl⟩:=gc.mp hv
  exact⟨k,at_ k x hx,(hk k x hx).2⟩
 ·obtain⟨ms,pm',rfl⟩:=BN pm rfl
  have hf:H b=none:=I.hok.none_of hb
  refine⟨.ref b,upd H b (.lst (ms.map fun p=>V.ref p.2)),I.laidF (t':=s.toks) kp hb ⟨?_,_,c,Dx ms,hg⟩,rfl,q b ms hf pm' ?_⟩
  ·rw[e8,pm'.length_eq,iH]
   omega
  ·rw[iw] at pw
   refine iG (fun{x y} hx hy z=>?_) pw
   rw[FG (at_ x.1 x.2 (pm'.mem_iff.mp hx)),FG (at_ y.1 y.2 (pm'.mem_iff.mp hy))] at z
   exact z
end
end L2
namespace L2.TL
open PySem PySem.Spec PyProof.Rows SrtG
section
variable{K:a9}{O:AH}{H:Hp}
theorem FH:∀{ks:List (List Int)} {xs:List V},Reps K O H xs (ks.map fun r=>T.tup (r.map T.int))→∃qs:List (List Int×Addr),xs=qs.map (fun p=>V.ref p.2)∧qs.map (·.1)=ks∧∀k x,(k,x)∈qs→H x=some (.tup (k.map V.int))
 | [],xs,r=> ⟨[],r.nil_inv,rfl,fun _ _ h=>by cases h⟩
 |p::ks,xs,r=>by
  obtain⟨v,vs',rfl,h,r'⟩:=Reps.cons_inv r
  obtain⟨a,ys,rfl,ha,r2⟩:=h.tup_inv
  cases Reps.ints (ns:=p) r2
  obtain⟨qs,rfl,e,hk⟩:=FH r'
  refine⟨(p,a)::qs,rfl,by rw[gH,e],fun k x h=>?_⟩
  rcases fu.mp h with h|h
  ·cases h;exact ha
  ·exact hk k x h
theorem FI:∀{qs:List (List Int×Addr)},(∀k x,(k,x)∈qs→H x=some (.tup (k.map V.int)))→Reps K O H (qs.map fun p=>V.ref p.2) ((qs.map (·.1)).map fun r=>T.tup (r.map T.int))
 | [],_=> .nil
 | (k,x)::qs,h=> .cons (.tup (h k x (gC ..)) (FE _)) (FI fun k x hk=>h k x (fk _ hk))
end
section
variable{Z:Zx}{ρ:List (Option T)}{O:AH}{e:Expr}{Φ:BU}{p pos:Pos}{ks:List (List Int)}
end
end L2.TL
namespace SrtG
open PySem PySem.Calls PySem.W PyProof.Rows
noncomputable def Fl:Nat→List Int→Int
 |0,_=>0
 |_+1,[]=>0
 |k+1,a::r=>a*16^k+Fl k r
noncomputable def FJ(k:Nat)(r:List Int):Prop:=r.length≤k∧∀z∈r,1≤z∧z<16
theorem Dy:∀{k:Nat} {r:List Int},FJ k r→0≤Fl k r∧Fl k r<16^k
 |0,[],_=>by show(0:Int)≤0∧(0:Int)<1;omega
 |0,_::_,h=>by have:=h.1;simp at this
 |k+1,[],_=> ⟨jM _,ot (by decide)⟩
 |k+1,a::r,h=>by
  have ih:=Dy (k:=k) (r:=r) ⟨by have:=h.1;simp at this;omega,fun z hz=>h.2 z (by simp[hz])⟩
  have ha:=h.2 a (by simp)
  have hp:(0:Int)<16^k:=ot (by decide)
  have e1:(0:Int)≤a*16^k:=Int.mul_nonneg (by omega) (iY hp)
  have e2:a*16^k≤15*16^k:=gI (by omega) (iY hp)
  show 0≤a*16^k+Fl k r∧a*16^k+Fl k r<16^(k+1)
  rw[oW]
  omega
theorem RY:∀{k:Nat} {r q:List Int},FJ k r→FJ k q→HT.BS r q=decide (Fl k r<Fl k q)
 |0,[],[],_,_=>by rw[HT.CA];rfl
 |0,_::_,_,h,_=>by have:=h.1;simp at this
 |0,_,_::_,_,h=>by have:=h.1;simp at this
 |k+1,[],[],_,_=>by rw[HT.CA];exact(decide_eq_false (by omega)).symm
 |k+1,[],b::q,_,h=>by
  have ha:=h.2 b (by simp)
  have ih:=Dy (k:=k) (r:=q) ⟨by have:=h.1;simp at this;omega,fun z hz=>h.2 z (by simp[hz])⟩
  have hp:(0:Int)<16^k:=ot (by decide)
  have e1:1*16^k≤b*16^k:=gI (by omega) (iY hp)
  rw[HT.DG]
  refine(decide_eq_true ?_).symm
  show(0:Int)<b*16^k+Fl k q
  omega
 |k+1,a::r,[],h,_=>by
  have ih:=Dy h
  rw[HT.DH]
  refine(decide_eq_false ?_).symm
  show¬Fl (k+1) (a::r)<0
  omega
 |k+1,a::r,b::q,h,h'=>by
  have hr:FJ k r:=⟨by have:=h.1;simp at this;omega,fun z hz=>h.2 z (by simp[hz])⟩
  have hq:FJ k q:=⟨by have:=h'.1;simp at this;omega,fun z hz=>h'.2 z (by simp[hz])⟩
  have i1:=Dy hr
  have i2:=Dy hq
  have hp:(0:Int)<16^k:=ot (by decide)
  show _=decide (a*16^k+Fl k r<b*16^k+Fl k q)
  by_cases c:a=b
  ·subst c
   have:=RY hr hq
   rw[show HT.BS (a::r) (a::q)=HT.BS r q by simp[HT.BS],this]
   congr 1
   apply propext
   constructor<;>intro<;>omega
  ·by_cases c2:a<b
   ·have e1:(a+1)*16^k≤b*16^k:=gI (by omega) (iY hp)
    rw[lh,lg] at e1
    rw[show HT.BS (a::r) (b::q)=true by simp[HT.BS,c2,c]]
    exact(decide_eq_true (by omega)).symm
   ·have e1:(b+1)*16^k≤a*16^k:=gI (by omega) (iY hp)
    rw[lh,lg] at e1
    rw[show HT.BS (a::r) (b::q)=false by simp[HT.BS,c2,c]]
    exact(decide_eq_false (by omega)).symm
section
variable{prog:Program}{w:World}{A:gx}{E:Value→Shared→Prop}{s:Shared}
theorem RowAt.tup{h:Heap}{v:Value}{r:List Int}(p:RowAt h v r):∃l its,v=.ref l∧IsTup h l its∧IntsAre its.toList r:=by
 obtain⟨x,o,xs,n,e1,e2,e3,e4,e5⟩:=p
 exact⟨x,xs.toArray,e1,⟨o,e2,e3,n,e4⟩,by simpa using e5⟩
theorem PC{x y:Value}{r q:List Int}{Q:Bool→Shared→Prop}(hx:RowAt s.heap x r)(hy:RowAt s.heap y q)(hu:A.units<cLine)(h:Q (HT.BS r q) s):wpAny (model prog w) A (oneLt' true x y) Q E s:=by
 obtain⟨l,its,rfl,hl,i1⟩:=hx.tup
 obtain⟨b,its2,rfl,hb,i2⟩:=hy.tup
 obtain⟨⟨cls,dd,data,sl⟩,ho,hc,n,hd⟩:=id hl
 obtain⟨⟨cls2,dd2,data2,sl2⟩,ho2,hc2,n2,hd2⟩:=id hb
 simp only at hc hd hc2 hd2
 subst hc hd hc2 hd2
 rw[oneLt'_eq]
 dsimp only
 rw[if_pos rfl]
 refine a8 (wpAny_cRoomFor hu ?_)
 refine a8 (wpAny_callSpecialIfBound?_slot ⟨_,ho,rfl⟩ PySem.F.slot_tuple_lt (mZ PySem.F.slot_tuple_lt ⟨_,ho,rfl⟩ PySem.F.entry_tuple_lt (PySem.F.args_tuple_lt_2 _ _) (HT.HQ l b its its2 n n2 dd dd2 sl sl2 r q i1 i2) ⟨ho,ho2,?_⟩))
 exact j3 h
theorem RZ(v:Value):pV v=(do
  let t←typeOf v
  if(t !=jO "tuple")=true then pure none else do
   let xs←Builtin.List.listItems v
   pure xs[0]?):=rfl
theorem PD{M:Model}{x:Value}{r:List Int}{Q:Option Value→Shared→Prop}(hx:RowAt s.heap x r)(h:∀o,(r=[]→o=none)→Q o s):wpAny M A (pV x) Q E s:=by
 obtain⟨p,o,xs,n,rfl,e2,e3,e4,e5⟩:=hx
 rw[RZ]
 refine a8 (lY ⟨o,e2,e3⟩ ?_)
 rw[if_neg (by decide)]
 refine a8 (oM e2 e4 (b8 (h _ fun e=>?_)))
 subst e
 cases e5
 rfl
theorem FT{M:Model}{Q:List (Option Value)→Shared→Prop}:∀{vs:List Value},(∀v∈vs,∃r,RowAt s.heap v r)→(∀os:List (Option Value),os.length=vs.length→(∀v,vs.head?=some v→RowAt s.heap v []→os.head?=some none)→Q os s)→wpAny M A (List.mapM pV vs) Q E s
 | [],_,h=>by
  rw[List.mapM_nil]
  exact b8 (h [] rfl fun v e=>by cases e)
 |v::vs,hv,h=>by
  rw[List.mapM_cons]
  obtain⟨r,hr⟩:=hv v (by simp)
  refine a8 (PD hr fun o ho=>?_)
  refine a8 (FT (fun u hu=>hv u (by simp[hu])) fun os hl _=>b8 (h (o::os) (by simp[hl]) fun u e hu=>?_))
  cases e
  have:r=[]:=by
   obtain⟨x,o1,xs,n,rfl,a2,a3,a4,a5⟩:=hr
   obtain⟨x',o2,xs',n',e1,b2,b3,b4,b5⟩:=hu
   cases e1
   rw[a2] at b2
   cases b2
   rw[a4] at b4
   injection b4 with b4 _
   have:xs=xs':=by simpa using b4
   subst this
   cases b5
   cases a5
   rfl
  rw[ho this]
  rfl
theorem Gq{M:Model}{Q:List Value→Shared→Prop}:∀{vs:List Value},(∀v∈vs,∃r,RowAt s.heap v r)→Q (vs.map fun _=>jO "tuple") s→wpAny M A (List.mapM typeOf vs) Q E s
 | [],_,h=>by
  rw[List.mapM_nil]
  exact b8 h
 |v::vs,hv,h=>by
  rw[List.mapM_cons]
  obtain⟨r,x,o,xs,n,rfl,e2,e3,_⟩:=hv v (by simp)
  exact a8 (lY ⟨o,e2,e3⟩ (a8 (Gq (fun u hu=>hv u (by simp[hu])) (b8 h))))
theorem PF{M:Model}{v:Value}{vs:List Value}{Q:j7→Shared→Prop}(h0:RowAt s.heap v [])(hv:∀u∈v::vs,∃r,RowAt s.heap u r)(h:Q oneType' s):wpAny M A (keyKind' (v::vs).toArray) Q E s:=by
 rw[keyKind'_eq,Array.mapM_eq_mapM_toList]
 refine a8 ?_
 rw[map_eq_pure_bind]
 refine a8 (FT hv fun os hl ho=>b8 ?_)
 have h1:=ho v rfl h0
 cases os with
 |nil=>cases h1
 |cons o os=>
  have h1:o=none:=by simpa using h1
  subst h1
  have c1:((none::os).toArray.all fun x:Option Value=>x.isSome)=false:=by simp
  have c2:(((none::os).toArray:Array (Option Value))[0]?.bind id).isSome=false:=by simp
  rw[c1,if_neg c9,c2,if_neg c9,oneTypeOnly'_eq,Array.mapM_eq_mapM_toList]
  refine a8 (a8 ?_)
  rw[map_eq_pure_bind]
  refine a8 (Gq hv (b8 ?_))
  show wpAny M A (pure (if((((v::vs).map fun _=>jO "tuple").toArray).all fun x=>x==jO "tuple")=true then some (jO "tuple") else none)) _ E s
  refine b8 ?_
  rw[if_pos (by simp)]
  exact b8 h
end
structure Rq(prog:Program)(w:World)(A:gx)(kd:j7)(U:Heap→Value→Prop)(rk:Heap→Value→Int):Prop where
 cmp:∀{E:Value→Shared→Prop} {s:Shared},Oc prog w A E s kd (fun k=>U s.heap k.1) (fun k=>rk s.heap k.1)
 kept:∀{h h':Heap} {v:Value},U h v→(∀b o,o.cls=.type "tuple"→h.get? b=some o→h'.get? b=some o)→U h' v∧rk h' v=rk h v
 kind:∀{E:Value→Shared→Prop} {s:Shared} {vs:List Value} {Q:j7→Shared→Prop},(∀v∈vs,U s.heap v)→(∃v,vs.head?=some v∧RowAt s.heap v [])→Q kd s→wpAny (model prog w) A (keyKind' vs.toArray) Q E s
section
variable{prog:Program}{w:World}{A:gx}{E:Value→Shared→Prop}{s:Shared}{kd:j7}{U:Heap→Value→Prop}{rk:Heap→Value→Int}
theorem YJ{vs:List Value}{Q:hV→Shared→Prop}(R:Rq prog w A kd U rk)(ok:∀v∈vs,U s.heap v)
  (h:∀st',kj st'=none→((arrOf st').map (·.2)).toList.Perm vs→((arrOf st').map (·.2)).toList.Pairwise (fun x y=>rk s.heap x≤rk s.heap y)→Q st' s):
  wpAny (model prog w) A ((pM).run (mz (kd) (vs.toArray.zip vs.toArray) #[] 7 none)) (fun r s'=>Q r.2 s') E s:=by
 have hz:(vs.toArray.zip vs.toArray)=(vs.map fun v=> (v,v)).toArray:=by
  apply lE
  rw[oJ]
  show vs.zip vs=vs.map fun v=> (v,v)
  exact EM vs
 have hU:AllU (fun k=>U s.heap k.1) (vs.toArray.zip vs.toArray):=fun i p e=>by
  rw[hz] at e
  have e':(vs.map fun v=> ((v,v):Keyed))[i]?=some p:=by rw[←gT] at e;exact e
  obtain⟨v,hv,rfl⟩:=gc.mp (fo e')
  exact ok v hv
 have hwp:wpS (model prog w) A E s pM (fun _ st'=>Q st' s) (mz (kd) (vs.toArray.zip vs.toArray) #[] 7 none):=by
  refine KN (a₀:=vs.toArray.zip vs.toArray) (rk:=fun k=>rk s.heap k.1) R.cmp hU ⟨rfl,rfl,k9.refl _⟩ rfl fun st' b srt=>?_
  have hpm:=b.perm
  rw[hz] at hpm
  have hsame:∀k,k∈(arrOf st').toList→k=(k.2,k.2):=fun k hk=>by
   obtain⟨v,_,rfl⟩:=gc.mp (hpm.mem_iff.mp hk)
   rfl
  refine h st' b.fl ?_ ?_
  ·rw[l9]
   have:=hpm.map (fun k:Keyed=>k.2)
   rw[show((vs.map fun v=> ((v,v):Keyed)).toArray.toList.map fun k:Keyed=>k.2)=vs from by
    show(vs.map fun v=> ((v,v):Keyed)).map (fun k:Keyed=>k.2)=vs
    rw[i6]
    exact qG vs] at this
   exact this
  ·rw[l9,iw]
   refine iO.mpr fun i j hi hj hij=>?_
   have hi':i< (arrOf st').size:=by rw[←fw];exact hi
   have hj':j< (arrOf st').size:=by rw[←fw];exact hj
   have q:=srt i j (mS hij) hj'
   rw[Ai hi',Ai hj'] at q
   have e1:=hsame (arrOf st').toList[i] (jk hi)
   have e2:=hsame (arrOf st').toList[j] (jk hj)
   rw[←(show(arrOf st').toList[i].1=(arrOf st').toList[i].2 from congrArg jw e1),←(show(arrOf st').toList[j].1=(arrOf st').toList[j].2 from congrArg jw e2)]
   exact q
 exact jG hwp (fun r s' q=>by rw[q.1];exact q.2) fun _ _ e=>e
theorem Um{a:Addr}{vs:List Value}{n:Nat}{P:qA→Shared→Prop}(ho:s.heap.get? a=some (gP "list" vs.toArray n))(R:Rq prog w A kd U rk)(ok:∀v∈vs,U s.heap v)(hfd:∃v,vs.head?=some v∧RowAt s.heap v [])(h2:2≤vs.length)(hn:vs.length≤9000000)
  (h:∀out c h',out.Perm vs→out.Pairwise (fun x y=>rk s.heap x≤rk s.heap y)→h'.get? a=some (gP "list" (l7 out) c)→(∀b o,b≠a→s.heap.get? b=some o→h'.get? b=some o)→P (.done (.ret .none)) {s with heap:=h'}):
  wpAny (model prog w) A (Builtin.«list.sort» ⟨[.ref a],[]⟩) P E s:=by
 obtain⟨e1,ho1⟩:∃e1,(s.heap.update a (iN fun _=> (#[]:Array Value))).get? a=some (gP "list" #[] e1):=⟨_,lF ho fun _=> #[]⟩
 have keep:∀b o,b≠a→s.heap.get? b=some o→(((s.heap.update a (iN fun _=> (#[]:Array Value))).push (gP "tuple" vs.toArray 0)).push (gP "list" #[] 0)).get? b=some o:=fun b o hb e=>
  e9 _ (e9 _ (by rw[j9 _ _ _ _ hb];exact e))
 have keepT:∀b o,o.cls=.type "tuple"→s.heap.get? b=some o→(((s.heap.update a (iN fun _=> (#[]:Array Value))).push (gP "tuple" vs.toArray 0)).push (gP "list" #[] 0)).get? b=some o:=fun b o ht e=>by
  refine keep b o (fun q=>?_) e
  rw[q,ho] at e
  cases e
  exact absurd (show jO "list" =jO "tuple" from ht) (by decide)
 have ho3:(((s.heap.update a (iN fun _=> (#[]:Array Value))).push (gP "tuple" vs.toArray 0)).push (gP "list" #[] 0)).get? a=some (gP "list" #[] e1):=e9 _ (e9 _ ho1)
 have ok3:∀v∈vs,U _ v:=fun v hv=> (R.kept (ok v hv) keepT).1
 have fd3:(∃v,vs.head?=some v∧RowAt s.heap v [])→∃v,vs.head?=some v∧RowAt (((s.heap.update a (iN fun _=> (#[]:Array Value))).push (gP "tuple" vs.toArray 0)).push (gP "list" #[] 0)) v []:=fun⟨v,hv,x,o,xs,n,e1,e2,e3,e4,e5⟩=> ⟨v,hv,x,o,xs,n,e1,keepT _ _ e3 e2,e3,e4,e5⟩
 have rk3:∀v∈vs,rk _ v=rk s.heap v:=fun v hv=> (R.kept (ok v hv) keepT).2
 rw[oY]
 refine a8 (oM ho rfl ?_)
 refine a8 (mi ho rfl ?_ (by rw[gj,iH];omega) (ip _))
 refine a8 (ng ho1 rfl ?_)
 refine a8 (pj ?_ (by show vs.length≤_;rw[iH];omega))
 refine a8 (mh ?_ (ip _))
 refine hZ ?_
 show wpAny (model prog w) A _ P E {s with heap:=((s.heap.update a (iN fun _=> (#[]:Array Value))).push (gP "tuple" vs.toArray 0)).push (gP "list" #[] 0)}
 generalize hG:((s.heap.update a (iN fun _=> (#[]:Array Value))).push (gP "tuple" vs.toArray 0)).push (gP "list" #[] 0)=G at keep ho3 ok3 fd3 rk3 ⊢
 dsimp only
 have hn2:¬vs.toArray.size<2:=by rw[gj];omega
 rw[if_neg hn2,if_neg hn2]
 refine a8 (R.kind (s:={s with heap:=G}) ok3 (fd3 hfd) ?_)
 refine a8 (jG (YJ (s:={s with heap:=G}) (Q:=fun st' s'=>s'={s with heap:=G}∧kj st'=none∧((arrOf st').map (·.2)).toList.Perm vs∧((arrOf st').map (·.2)).toList.Pairwise (fun x y=>rk G x≤rk G y)) R ok3 (fun st' a1 a2 a3=> ⟨rfl,a1,a2,a3⟩)) ?_ fun _ _ e=>e)
 rintro⟨⟨⟩,st'⟩ s' ⟨rfl,hfl,hpm,hpw⟩
 dsimp only
 have hsz:((arrOf st').map (·.2)).size=vs.length:=by rw[←fw];exact hpm.length_eq
 obtain⟨c2,hc2⟩:∃c2,(G.update a (iN fun _=> (arrOf st').map (·.2))).get? a=some (gP "list" ((arrOf st').map (·.2)) c2):=⟨_,lF ho3 fun _=> (arrOf st').map (·.2)⟩
 refine a8 (ng ho3 rfl ?_)
 refine a8 (mi ho3 rfl ?_ (ip _) (iq (qv hsz) (by rw[iH];omega)))
 rw[hfl]
 simp only[bne_self_eq_false,gD,if_false]
 refine b8 (h ((arrOf st').map (·.2)).toList c2 _ hpm ?_ hc2 fun b o hb e=>by rw[j9 _ _ _ _ hb];exact keep b o hb e)
 refine iG (fun{x y} hx hy q=>?_) hpw
 rw[rk3 _ (hpm.mem_iff.mp hx),rk3 _ (hpm.mem_iff.mp hy)] at q
 exact q
end
noncomputable def az(h:Heap)(v:Value):Int:=match v with
  | .ref x=>match h.get? x with
    |some o=>match o.data with
     | .seq xs _=>Fl 8 (xs.toList.filterMap RX)
     |_=>0
    |_=>0
  |_=>0
theorem FK{h:Heap}{v:Value}{r:List Int}(p:RowAt h v r):az h v=Fl 8 r:=by
 obtain⟨x,o,xs,n,e1,e2,_,e3,e4⟩:=p
 unfold az
 rw[e1]
 dsimp only
 rw[e2]
 dsimp only
 rw[e3]
 show Fl 8 (xs.filterMap RX)=_
 rw[JL e4]
theorem Uo{prog:Program}{w:World}{A:gx}(hu:A.units<cLine):Rq prog w A oneType' (fun h v=>∃r,RowAt h v r∧FJ 8 r) az where
 cmp:=by
  intro E s st x y Q hk hx hy h
  obtain⟨r,px,kx⟩:=hx
  obtain⟨q,py,ky⟩:=hy
  have h:Q (some (decide (az s.heap x.1<az s.heap y.1))) st:=h
  rw[FK px,FK py,←RY kx ky] at h
  rw[lt'_eq]
  refine fh (lX ?_)
  rw[hk]
  refine fh (mJ (lI ?_))
  rw[keyLt'_oneType]
  exact PC px py hu ⟨rfl,fm h⟩
 kept:=fun{h h' v} ⟨r,p,q⟩ k=>by
  have p':RowAt h' v r:=by
   obtain⟨x,o,xs,n,e1,e2,e3,e4,e5⟩:=p
   exact⟨x,o,xs,n,e1,k _ _ e3 e2,e3,e4,e5⟩
  exact⟨⟨r,p',q⟩,by rw[FK p,FK p']⟩
 kind:=fun{E s vs Q} ok ⟨v,hv,h0⟩ q=>by
  cases vs with
  |nil=>cases hv
  |cons u vs=>
   cases hv
   exact PF h0 (fun x hx=>by obtain⟨r,p,_⟩:=ok x hx;exact⟨r,p⟩) q
end SrtG
namespace L2
open PySem PySem.Spec PySem.Calls PyProof.Rows SrtG
section
variable{prog:Program}{w:World}{A:gx}{E:Value→Shared→Prop}{s:Shared}{kd:j7}{U:Heap→Value→Prop}{rk:Heap→Value→Int}
theorem YK{α:Type}{R:α→α→Prop}{vs:List α}(h:vs.length<2):vs.Pairwise R:=by
 cases vs with
 |nil=>exact .nil
 |cons x l=>
  cases l with
  |nil=>exact j5 _ _
  |cons y l=>simp only[fz] at h;omega
set_option maxHeartbeats 400000 in
theorem PH {l:Addr} {o:Obj} {vs:List Value} {n:Nat} {Q:Value→Shared→Prop} (ho:s.heap.get? l=some o) (hc:o.cls=.type "list") (hd:o.data=.seq vs.toArray n) (R:Rq prog w A.in1.in1 kd U rk) (hfd:∃v,vs.head?=some v∧RowAt s.heap v []) (ok:∀v∈vs,U s.heap v) (hn:vs.length≤9000000)
  (h:∀(h':Heap) (a:Addr) (out:List Value) (c:Nat),s.heap.get? a=none→h'.get? a=some (gP "list" out.toArray c)→(∀b o,s.heap.get? b=some o→h'.get? b=some o)→out.Perm vs→out.Pairwise (fun x y=>rk s.heap x≤rk s.heap y)→Q (.ref a) {s with heap:=h'}):
  wpAny (model prog w) A (call (.builtin "sorted") [.ref l]) Q E s:=by
 refine Calls.call_function_entry qE qf qh (ql _) ?_
 unfold Builtin.«sorted»
 refine a8 (m:=checkCount "sorted" 1 1 _) (b8 ?_)
 refine a8 (wpAny_collect_seq l (.inl rfl) ho hc hd (fun h1 hk1=>?_) (by rw[gj,iH];omega))
 show wpAny _ _ (newList vs>>=_) _ _ _
 refine a8 (mh ?_ (by rw[iH];omega))
 have hoL:(h1.push (gP "list" vs.toArray 0)).get? h1.objs.size=some (gP "list" vs.toArray 0):=gJ _ rfl
 have keep:∀b o,s.heap.get? b=some o→(h1.push (gP "list" vs.toArray 0)).get? b=some o:=fun b o e=>e9 _ (hk1 b o e)
 have ok1:∀v∈vs,U (h1.push (gP "list" vs.toArray 0)) v:=fun v hv=> (R.kept (ok v hv) fun b o _ e=>keep b o e).1
 have fd1:∃v,vs.head?=some v∧RowAt (h1.push (gP "list" vs.toArray 0)) v []:=by
  obtain⟨v,hv,x,o,xs,n,e1,e2,e3,e4,e5⟩:=hfd
  exact⟨v,hv,x,o,xs,n,e1,keep _ _ e2,e3,e4,e5⟩
 have fin:∀(out:List Value) (c:Nat) (h':Heap),out.Perm vs→out.Pairwise (fun x y=>rk (h1.push (gP "list" vs.toArray 0)) x≤rk (h1.push (gP "list" vs.toArray 0)) y)→h'.get? h1.objs.size=some (gP "list" (l7 out) c)→(∀b o,b≠h1.objs.size→(h1.push (gP "list" vs.toArray 0)).get? b=some o→h'.get? b=some o)→Q (.ref h1.objs.size) {s with heap:=h'}:=fun out c h' pm pw hg hk=>by
  refine h _ h1.objs.size out c ?_ hg (fun b o e=>?_) pm ?_
  ·cases e:s.heap.get? h1.objs.size with
   |none=>rfl
   |some o'=>exact absurd (gi (hk1 _ _ e)) (iQ _)
  ·exact hk b o (gL (gi (hk1 b o e))) (keep b o e)
  ·refine iG (fun{x y} hx hy q=>?_) pw
   rw[(R.kept (ok _ (pm.mem_iff.mp hx)) fun b o _ e=>keep b o e).2,(R.kept (ok _ (pm.mem_iff.mp hy)) fun b o _ e=>keep b o e).2] at q
   exact q
 show wpAny _ _ _ _ _ {s with heap:=h1.push (gP "list" vs.toArray 0)}
 refine a8 (hZ (jJ pq ⟨_,hoL,rfl⟩ oZ ?body (pE _)))
 by_cases hlen:vs.length<2
 ·refine StT.GR (s:={s with heap:=h1.push (gP "list" vs.toArray 0)}) hoL hlen fun c h2 hg hk=> ⟨_,rfl,b8 ⟨_,rfl,fin vs c h2 (.refl _) ?_ hg hk⟩⟩
  exact YK hlen
 ·exact Um (A:=A.in1.in1) (s:={s with heap:=h1.push (gP "list" vs.toArray 0)}) hoL R ok1 fd1 (by omega) hn fun out c h' pm pw hg hk=> ⟨_,rfl,b8 ⟨_,rfl,fin out c h' pm pw hg hk⟩⟩
end
section
variable{X:Cx}
set_option maxHeartbeats 400000 in
theorem JN (hu:X.A.units+2<cLine):BC X (.builtin "sorted") (fun xs H Q=>∃(a:Addr) (ks:List (List Int×Addr)),xs=[.ref a]∧SqL X.K H a (ks.map fun p=>V.ref p.2)∧(∀k x,(k,x)∈ks→FV X.K H x (k.map V.int)∧FJ 8 k)∧(∃x,ks.head?=some ([],x))∧ks.length≤9000000∧
  ∀(p:Addr) (ms:List (List Int×Addr)),H p=none→ms.Perm ks→ms.Pairwise (fun x y=>Fl 8 x.1≤Fl 8 y.1)→Q (.ref p) (upd H p (.lst (ms.map fun p=>V.ref p.2)))):=by
 intro pins s σ H xs us Q I r h
 obtain⟨a,ks,rfl,hS,hk,⟨x0,hh⟩,hn,q⟩:=h
 obtain⟨u,rfl,ru⟩:=Vals.one r
 cases ru
 obtain⟨its,rv,⟨o,n,e1,e2,_,e3⟩,_⟩:=I.list hS
 have ei:=Dw rv
 subst ei
 have at_:∀k x,(k,x)∈ks→RowAt s.heap (.ref x) k:=fun k x h=>I.rowAt (hk k x h).1
 refine PH e1 e2 e3 (Uo hu) ⟨.ref x0,by rw[List.head?_map,hh];rfl,at_ [] x0 (List.mem_of_mem_head? hh)⟩ (fun v hv=>?_) (by rw[e8];omega) fun h' b out c hb hg kp pm pw=>?_
 ·obtain⟨⟨k,x⟩,hx,rfl⟩:=gc.mp hv
  exact⟨k,at_ k x hx,(hk k x hx).2⟩
 ·obtain⟨ms,pm',rfl⟩:=BN pm rfl
  have hf:H b=none:=I.hok.none_of hb
  refine⟨.ref b,upd H b (.lst (ms.map fun p=>V.ref p.2)),I.laidF (t':=s.toks) kp hb ⟨?_,_,c,Dx ms,hg⟩,rfl,q b ms hf pm' ?_⟩
  ·rw[e8,pm'.length_eq,iH]
   omega
  ·rw[iw] at pw
   refine iG (fun{x y} hx hy z=>?_) pw
   rw[FK (at_ x.1 x.2 (pm'.mem_iff.mp hx)),FK (at_ y.1 y.2 (pm'.mem_iff.mp hy))] at z
   exact z
end
end L2
namespace L2.TL
open PySem PySem.Spec PyProof.Rows SrtG
section
variable{Z:Zx}{ρ:List (Option T)}{O:AH}{e:Expr}{Φ:BU}{p pos:Pos}{ks:List (List Int)}
set_option maxHeartbeats 400000 in
theorem MM (hu:Z.X.A.units+2<cLine) (mm:Z.X.mg "sorted" =none) (h:ET Z ρ O e (.lst (ks.map fun r=>T.tup (r.map T.int)))) (h0:ks.head?=some []) (hk:∀k∈ks,FJ 8 k) (hn:ks.length≤9000000) (k:∀ms:List (List Int),ms.Perm ks→ms.Pairwise (fun x y=>Fl 8 x≤Fl 8 y)→Φ (.lst (ms.map fun r=>T.tup (r.map T.int))) O) (hg:Gl Z.X "sorted":=by rfl)
  (he:fj [e] Z.X.env=(false,eval e Z.X.env)::fj [] Z.X.env:=by rfl):WE Z ρ O (.Call (.Name "sorted" p) [e] [] pos) Φ:=
 GV (JN hu) mm Iy (AN h AC he _ (fun H vs Q ok r q'=>by
  obtain⟨v,rfl,r1⟩:=r.one_inv
  obtain⟨a,xs,rfl,h1,_,r1⟩:=r1.lst_inv
  obtain⟨qs,rfl,rfl,hq⟩:=FH r1
  refine⟨a,qs,rfl,.inl (.inl h1),fun k x hx=> ⟨.inl (.inl (hq k x hx)),hk k (gc.mpr ⟨(k,x),hx,rfl⟩)⟩,?_,by simpa using hn,fun p ms hp pm pw2=>?_⟩
  ·cases qs with
   |nil=>cases h0
   |cons z qs=>
    have h0:z.1=[]:=by simpa using h0
    exact⟨z.2,by show some z=_;rw[←h0]⟩
  have r2:Reps Z.K O H (ms.map fun p=>V.ref p.2) ((ms.map (·.1)).map fun r=>T.tup (r.map T.int)):=FI fun k x hx=>hq k x (pm.mem_iff.mp hx)
  exact q' _ _ _ O (k (ms.map (·.1)) (pm.map _) (iw.mpr pw2)) (.new ok hp) (.lst AM (ok.none_of hp) (r2.kp (BP ok hp) ok)))) hg (by decide) (by decide) he
end
section
variable{Z:Zx}{ρ:List (Option T)}{O:AH}{e:Expr}{Φ:BU}{p pos:Pos}{ks:List (List Int)}
theorem MN{m:Nat}(mm:Z.X.mg "sorted" =none)(h:ET Z ρ O e (.lst (ks.map fun r=>T.tup (r.map T.int))))(hk:∀k∈ks,k.length=m+1∧∀z∈k,0≤z∧z<32)(hn:ks.length≤9000000)(k:∀ms:List (List Int),ms.Perm ks→ms.Pairwise (fun x y=>GrR.rk x≤GrR.rk y)→Φ (.lst (ms.map fun r=>T.tup (r.map T.int))) O)(hg:Gl Z.X "sorted":=by rfl)
  (he:fj [e] Z.X.env=(false,eval e Z.X.env)::fj [] Z.X.env:=by rfl):WE Z ρ O (.Call (.Name "sorted" p) [e] [] pos) Φ:=
 GV JM mm Iy (AN h AC he _ (fun H vs Q ok r q'=>by
  obtain⟨v,rfl,r1⟩:=r.one_inv
  obtain⟨a,xs,rfl,h1,_,r1⟩:=r1.lst_inv
  obtain⟨qs,rfl,rfl,hq⟩:=FH r1
  refine⟨a,qs,m,rfl,.inl (.inl h1),fun k x hx=> ⟨.inl (.inl (hq k x hx)),hk k (gc.mpr ⟨(k,x),hx,rfl⟩)⟩,by simpa using hn,fun p ms hp pm pw2=>?_⟩
  have r2:Reps Z.K O H (ms.map fun p=>V.ref p.2) ((ms.map (·.1)).map fun r=>T.tup (r.map T.int)):=FI fun k x hx=>hq k x (pm.mem_iff.mp hx)
  exact q' _ _ _ O (k (ms.map (·.1)) (pm.map _) (iw.mpr pw2)) (.new ok hp) (.lst AM (ok.none_of hp) (r2.kp (BP ok hp) ok)))) hg (by decide) (by decide) he
end
end L2.TL
namespace K34
open PySem L2 L2.TL PySem.Spec PyProof.Rows
noncomputable def top(i:Nat):Stmt:=gM.main.body.getD i (.Pass ⟨0,0,0,0⟩)
noncomputable abbrev MO:Stmt:=top 11
noncomputable abbrev JO:Stmt:=top 12
noncomputable abbrev JP:Stmt:=top 18
noncomputable abbrev IB:Stmt:=top 19
noncomputable abbrev Nf:Stmt:=top 20
noncomputable abbrev Ed:Stmt:=top 17
noncomputable abbrev JQ:Stmt:=top 13
noncomputable abbrev Uq:Stmt:=top 21
noncomputable abbrev JR:Stmt:=top 22
noncomputable abbrev Ra:Stmt:=top 27
noncomputable abbrev Rb:Stmt:=top 28
noncomputable abbrev dm:Stmt:=top 29
noncomputable abbrev YL:Stmt:=top 30
noncomputable abbrev MP:Stmt:=top 31
noncomputable abbrev YM:Stmt:=top 32
noncomputable abbrev Ng:Stmt:=top 33
noncomputable abbrev Rc:Stmt:=top 36
noncomputable abbrev cT:Stmt:=top 37
noncomputable abbrev cU:Stmt:=top 38
noncomputable abbrev Ki:Stmt:=top 39
noncomputable abbrev Re:Stmt:=top 40
noncomputable abbrev YN:Stmt:=top 41
noncomputable abbrev JS:Stmt:=top 42
noncomputable abbrev Gs:Stmt:=top 50
noncomputable abbrev IC:Stmt:=top 51
noncomputable abbrev ID:Stmt:=top 52
noncomputable abbrev Fm:Stmt:=top 53
noncomputable abbrev PJ:Stmt:=top 54
noncomputable abbrev Nh:Stmt:=top 48
structure Txt(mg:Str→Option Value):Prop where
 nInt:mg "int" =none
 nBool:mg "bool" =none
 nTuple:mg "tuple" =none
 nList:mg "list" =none
 nSet:mg "set" =none
 nRange:mg "range" =none
 nIsi:mg "isinstance" =none
 nMax:mg "max" =none
 nMin:mg "min" =none
 nLen:mg "len" =none
 nAll:mg "all" =none
 nSorted:mg "sorted" =none
 nRepr:mg "repr" =none
 nVE:mg "ValueError" =none
 nAny:mg "any" =none
 nEnum:mg "enumerate" =none
 iMost:∃t:Tok,mg "MOST_PLACES" =some (.int 16 t)
 iLP:∃t:Tok,mg "LEAST_PLACES" =some (.int 3 t)
 iLT:∃t:Tok,mg "LEAST_TIES" =some (.int 2 t)
 iMT:∃t:Tok,mg "MOST_TIES" =some (.int 15 t)
 iLR:∃t:Tok,mg "LEAST_RING" =some (.int 3 t)
 iMR:∃t:Tok,mg "MOST_RING" =some (.int 16 t)
noncomputable def Cu(t:T)(a b:Int):Bool:=match t with
 | .int i=>decide (a≤i)&&decide (i≤b)
 |_=>false
noncomputable def Br(n:Int)(p:Int×Int):Prop:=0≤p.1∧p.1<p.2∧p.2<n
theorem EB.cast{Z:Zx}{ρ:List (Option T)}{O:AH}{e:Expr}{k l:Bool}(h:EB Z ρ O e k)(z:k=l):EB Z ρ O e l:=z▸h
theorem ET.cast{Z:Zx}{ρ:List (Option T)}{O:AH}{e:Expr}{k l:T}(h:ET Z ρ O e k)(z:k=l):ET Z ρ O e l:=z▸h
section
variable{P:Program}{w:World}{K:a9}{mg:Str→Option Value}{base:Heap}
noncomputable def Ni:Cp:=NQ fun ts r=>∃t a b,ts=[t,.int a,.int b]∧Aj t=false∧r=.bl (Cu t a b)
theorem Ur:FnScope ["thing","least","most"] ["thing","least","most"] (AA MO):=⟨rfl,rfl,rfl,by decide+kernel,rfl,by decide+kernel,by decide+kernel⟩
theorem Rf{f:Addr}{fd:gE}(F:Fun K "is_whole" "is_whole" MO f fd)(T:Txt mg):FnOk P w K mg base (CXe P w) 1 f fd ["thing","least","most"] (DR K Ni):=by
 refine AV F Ur ?_ ?_
 ·rintro ts O Φ Ξ ⟨r,⟨t,a,b,rfl,_⟩,_⟩
  rfl
 ·rintro cdv A outer s H E O Ξ hr xf _ Φ ⟨_,⟨t,a,b,rfl,ht,rfl⟩,q⟩
  refine AD (BR (EW.eb (aX (Ql (Qr T.nIsi T.nInt af UI (ev 0) ht)) fun _=>Xn (Qr T.nIsi T.nBool ag Qq (ev 0) ht))) (fun h=>AG (AR (NL _ ?_))) (fun h=>Ba ?_))
  ·have:Cu t a b=false:=by
    cases t<;>first|rfl|cases h
   rw[this] at q;exact q
  ·cases t with
   |int i=>exact AG (AR (UC (ev 1) (ev 0) (ev 2) (by with_unfolding_all rfl) _ q))
   |bl i=>cases h
   |raw i=>cases ht
   |_=>cases h
end
noncomputable abbrev Rg:Stmt:=top 44
noncomputable abbrev Rh:Stmt:=top 45
noncomputable abbrev YO:Stmt:=top 46
noncomputable abbrev Ri:Stmt:=top 47
noncomputable def MQ(xs:List T):Prop:=∃a b c:Int,xs=[.int a,.int b,.int c]∧0≤a∧0≤c∧c<2147483648
section
variable{P:Program}{w:World}{K:a9}{mg:Str→Option Value}{base:Heap}
noncomputable def Gu(K:a9):Sp:=fun vs H Q _=>∃(a:Addr) (ns:List Int),vs=[.ref a,.int 0]∧SqL K H a (ns.map V.int)∧∀i,Q (.int i) H
theorem YQ:FnScope ["_law_script","_law_k"] ["_law_script","_law_k"] (AA Rg):=⟨rfl,rfl,rfl,by decide+kernel,rfl,by decide+kernel,by decide+kernel⟩
theorem Us{f:Addr}{fd:gE}(F:Fun K "_law_cell_at" "_law_cell_at" Rg f fd)(T:Txt mg):FnOk P w K mg base (CXe P w) 1 f fd ["_law_script","_law_k"] (Gu K):=by
 refine F.okX YQ (fun vs H Q E h=>?_) (fun cdv A outer s H vs Q E hr h=>?_)
 ·obtain⟨a,ns,rfl,_⟩:=h
  rfl
 ·obtain⟨a,ns,rfl,hS,k⟩:=h
  refine⟨_,DF (Pj (IU Vc (pv 1) (Ap Cd (by rfl) T.nLen Xz (AI (pv 0) Ar)) (Ak _)) (ED (Fu (QA Cc (pv 0) (pv 1) (fun _ _=>rfl)))) IS) (ED (Fu LJ)),?_⟩
  refine⟨_,rfl,_,rfl,a,_,rfl,.inl hS,_,_,rfl,rfl,_,rfl,?_⟩
  refine dQ (fun h1=>?_) (fun h1=>?_)
  ·have h1:(0:Int)< ((ns.map V.int).length:Int):=by simpa using h1
   cases ns with
   |nil=>simp at h1
   |cons n ns=>exact⟨_,rfl,_,rfl,a,_,0,.int n,rfl,rfl,hS,BG (j:=0) rfl,k n⟩
  ·exact k 0
noncomputable def Rj:Cp:=fun ts O Φ _=>∃n:Int,ts=[.int n]∧∀m:Int,0≤m→m<2147483629→Φ (.int m) O
theorem Rm:FnScope ["_law_seed"] ["_law_seed"] (AA Rh):=⟨rfl,rfl,rfl,by decide+kernel,rfl,by decide+kernel,by decide+kernel⟩
theorem Ut{f:Addr}{fd:gE}(F:Fun K "_law_next" "_law_next" Rh f fd):FnOk P w K mg base (CXe P w) 1 f fd ["_law_seed"] (DR K Rj):=by
 refine AV F Rm ?_ ?_
 ·rintro ts O Φ Ξ ⟨n,rfl,_⟩
  rfl
 ·rintro cdv A outer s H E O Ξ hr xf _ Φ ⟨n,rfl,q⟩
  have b1:=lG (n+7919) (show(2147483647:Int)≠0 by decide)
  have b2:=ko (n+7919) (show(0:Int)<2147483647 by decide)
  refine AD (AS 0 (ET.we (DP (Bp (ev 0) AB) AB (by decide)) ?_) Rm.nd)
  exact AG (AR (ET.we (DP (Bp (Bp (Ez (ev 0) (ev 0) (.inl ⟨by omega,by omega⟩)) (Ez AB (ev 0) (.inl ⟨by decide,by decide⟩))) AB) AB (by decide)) (q _ (lG _ (by decide)) (ko _ (by decide)))))
noncomputable def Vu:Cp:=fun ts O Φ _=>∃c:Int,ts=[.int c]∧∀(p:Addr) (xs:List T),O p=none→MQ xs→Φ (.raw (.ref p)) (Ad O p xs)
theorem Vv:FnScope ["_law_cell","_law_left"] ["_law_cell"] (AA YO):=⟨rfl,rfl,rfl,by decide+kernel,rfl,by decide+kernel,by decide+kernel⟩
theorem YR{f:Addr}{fd:gE}(F:Fun K "_law_pen_of" "_law_pen_of" YO f fd)(T:Txt mg):FnOk P w K mg base (CXe P w) 1 f fd ["_law_cell"] (DR K Vu):=by
 refine AV F Vv ?_ ?_
 ·rintro ts O Φ Ξ ⟨n,rfl,_⟩
  rfl
 ·rintro cdv A outer s H E O Ξ hr xf _ Φ ⟨n,rfl,q⟩
  refine AD (AS 1 (ET.we (JA T.nMax rfl (ev 0) (GU AB (ev 0))) ?_) Vv.nd)
  refine AG (AR (Cm (EA.wa (AN (ev 1) (AN (UK T.nInt (aT (ev 1) (Lw AB AB ⟨by decide,by decide,by decide⟩))) (AN (DP (ev 1) AB (by decide)) AC))) ⟨by show 3≤sizeLine;decide,fun a ha=>q a _ ha ?_⟩)))
  have b1:=lG (max n (0-n)) (show(1000003:Int)≠0 by decide)
  have b2:=ko (max n (0-n)) (show(0:Int)<1000003 by decide)
  exact⟨_,_,_,rfl,by omega,b1,by omega⟩
noncomputable def MR:Cp:=fun ts O Φ _=>∃(p:Addr) (xs:List T) (m:Int),ts=[.raw (.ref p),.int m]∧O p=some xs∧MQ xs∧0<m∧m<1000∧∀(r:Int) (xs':List T),0≤r→r<m→MQ xs'→Φ (.int r) (Ad O p xs')
theorem Rn:FnScope ["_law_pen","_law_many","_law_found"] ["_law_pen","_law_many"] (AA Ri):=⟨rfl,rfl,rfl,by decide+kernel,rfl,by decide+kernel,by decide+kernel⟩
theorem Uu{f:Addr}{fd:gE}(F:Fun K "_law_draw" "_law_draw" Ri f fd)(G:FnT P w K mg base "_law_next" 1 ["_law_seed"] Rj):FnOk P w K mg base (CXe P w) 2 f fd ["_law_pen","_law_many"] (DR K MR):=by
 refine AV F Rn ?_ ?_
 ·rintro ts O Φ Ξ ⟨p,xs,m,rfl,_⟩
  rfl
 ·rintro cdv A outer s H E O Ξ hr xf _ Φ ⟨p,_,m,rfl,hp,⟨a,b,c,rfl,a0,c0,c1⟩,m0,m1,q⟩
  refine AD (BR (Co (DQ hp (ev 0) AB) AB) (fun h=>?_) (fun h=>Ba ?_))
  ·refine AD (AS 2 (ET.we (DP (DQ hp (ev 0) AB) (ev 1) m0) ?_) Rn.nd)
   refine AD (GW (ET.we (De (DQ hp (ev 0) AB) (ev 1) ⟨m0,by omega⟩) (ET.we (ev 0) ⟨p,rfl,ET.we AB ⟨_,0,0,rfl,hp,rfl,?_⟩⟩)))
   exact AG (AR (ET.we (ev 2) (q _ _ (lG _ (by omega)) (ko _ m0) ⟨a/m,b,c,rfl,Int.ediv_nonneg a0 (by omega),c0,c1⟩)))
  ·refine AD (GW (AX G hr xf (Bw (EO Dl (AX G hr xf (EA.wa (AN (DQ hp (ev 0) AB) AC) ⟨c,rfl,fun u u0 u1=>?_⟩))))))
   refine ET.we AB (ER _ (BB ⟨u+7,rfl,fun r r0 r1=>ET.we (ev 0) ⟨p,rfl,ET.we AB ⟨_,2,2,rfl,hp,rfl,?_⟩⟩⟩))
   exact AG (AR (ET.we (DP (De (DQ AF (ev 0) AB) AB ⟨by decide,by decide⟩) (ev 1) m0) (q _ _ (lG _ (by omega)) (ko _ m0) ⟨a,b,r,rfl,a0,r0,by omega⟩)))
end
noncomputable abbrev Fn:Stmt:=top 49
section
variable{P:Program}{w:World}{K:a9}{mg:Str→Option Value}{base:Heap}
end
noncomputable def dr(m s:Int)(j:Nat):Int×Int:=(min (0+(j:Int)) ((0+(j:Int)+s)%m),max (0+(j:Int)) ((0+(j:Int)+s)%m))
noncomputable def MS(m:Int)(ss:List Int):List (Int×Int):=ss.flatMap fun s=> (gF m.toNat).map (dr m s)
section
variable{P:Program}{w:World}{K:a9}{mg:Str→Option Value}{base:Heap}
noncomputable def Kj:Cp:=fun ts O Φ _=>∃(m:Int) (ss:List Int),ts=[.int m,.tup (ss.map T.int)]∧0<m∧m≤16∧ss.length≤16∧(∀s∈ss,1≤s∧s<m)∧
 ∀qs:List (Int×Int),qs.Pairwise Ji→(∀q∈qs,Br m q)→qs.length≤256→(∀q,q∈qs↔q∈MS m ss)→Φ (.tup [.int m,.tup (qs.map Ab)]) O
theorem DV:FnScope ["_law_many","_law_steps","_law_ties","_law_step","_law_place","_law_other"] ["_law_many","_law_steps"] (AA Fn):=⟨rfl,rfl,rfl,by decide+kernel,rfl,by decide+kernel,by decide+kernel⟩
theorem PK{m s j:Int}(hs:1≤s∧s<m)(hj:0≤j∧j<m):Br m (min j ((j+s)%m),max j ((j+s)%m)):=by
 unfold Br
 by_cases h:j+s<m
 ·rw[mV (by omega) h]
  show 0≤min _ _∧min _ _<max _ _∧max _ _<_
  omega
 ·have e:j+s=(j+s-m)+m*1:=by omega
  rw[e,Int.add_mul_emod_self_left,mV (by omega) (by omega)]
  show 0≤min _ _∧min _ _<max _ _∧max _ _<_
  omega
theorem AZ:(1000:Nat)<sizeLine:=by decide
theorem PL{f:Addr}{fd:gE}(F:Fun K "_law_turned" "_law_turned" Fn f fd)(Tx:Txt mg):FnOk P w K mg base (CXe P w) 2 f fd ["_law_many","_law_steps"] (DR K Kj):=by
 refine AV F DV ?_ ?_
 ·rintro ts O Φ Ξ ⟨m,ss,rfl,_⟩
  rfl
 ·rintro cdv A outer s H E O Ξ hr xf _ Φ ⟨m,ss,rfl,m0,m1,hn,hs,q⟩
  have hu:(A.deeper (lz "_law_turned" (AA Fn) s.heap.objs.size f cdv)).units+8<cLine:=by have:=hr.un;omega
  have sb:=AZ
  refine AD (AS 2 (Cm (BB ⟨ip _,fun l hl=>?_⟩)) DV.nd)
  refine AD (Av AY.own rfl (DS (ev 1) _ ⟨fun i ρ' O'=>∃(qs:List (Int×Int)) (v3 v4 v5:Option T),ρ'=[some (.int m),some (.tup (ss.map T.int)),some (.raw (.ref l)),v3,v4,v5]∧O'=Ad O l (qs.map Ab)∧(∀q∈qs,Br m q)∧qs.length≤16*i∧∀q,q∈qs↔q∈MS m (ss.take i),⟨[],none,none,none,rfl,rfl,by simp,by simp,fun q=>by simp[MS]⟩,?_,?_⟩))
  ·rintro i t _ _ e ⟨qs,v3,v4,v5,rfl,rfl,hq,hz,hm⟩
   rw[fq] at e
   cases es:ss[i]? with
   |none=>rw[es] at e;cases e
   |some st=>
    rw[es] at e
    cases e
    have hst:=hs st (fo es)
    have hi:=(gh.mp es).1
    refine⟨[some (.int m),some (.tup (ss.map T.int)),some (.raw (.ref l)),some (.int st),v4,v5],AO 3 DV.nd (by show 3<6;decide),AG (Av AY.own rfl (EI.wi (BW Tx.nRange (ev 0) ⟨by omega,by omega⟩) ⟨fun j ρ' O'=>∃(qs:List (Int×Int)) (v4 v5:Option T),ρ'=[some (.int m),some (.tup (ss.map T.int)),some (.raw (.ref l)),some (.int st),v4,v5]∧O'=Ad O l (qs.map Ab)∧(∀q∈qs,Br m q)∧qs.length≤16*i+j∧∀q,q∈qs↔q∈MS m (ss.take i)∨q∈(gF j).map (dr m st),⟨qs,v4,v5,rfl,rfl,hq,by omega,fun q=>by rw[hm];simp⟩,?_,?_⟩))⟩
    ·rintro j t _ _ e ⟨qs,v4,v5,rfl,rfl,hq,hz,hm⟩
     obtain⟨hj,rfl⟩:=Bq e
     refine⟨[some (.int m),some (.tup (ss.map T.int)),some (.raw (.ref l)),some (.int st),some (.int (0+j)),v5],AO 4 DV.nd (by show 4<6;decide),?_⟩
     refine AD (AS 5 (ET.we (DP (Bp (ev 4) (ev 3)) (ev 0) m0) ?_) DV.nd)
     refine AG (Ao (Be (ET.we (ev 2) ⟨l,rfl,⟨_,AF⟩,ET.we (Bn (AN (NT Tx.nMin rfl (ev 4) (ev 5)) (AN (JA Tx.nMax rfl (ev 4) (ev 5)) AC))) ⟨_,AF,?_,?_⟩⟩)))
     ·rw[e8];omega
     ·refine⟨qs++[(min (0+(j:Int)) ((0+(j:Int)+st)%m),max (0+(j:Int)) ((0+(j:Int)+st)%m))],_,_,rfl,?_,fun z hz=>?_,by simp;omega,fun z=>?_⟩
      ·rw[BO,il];rfl
      ·rcases gu.mp hz with hz|hz
       ·exact hq z hz
       ·rw[b9.mp hz]
        exact PK hst ⟨by omega,by omega⟩
      ·rw[gu,hm,ny,il,gu,or_assoc]
       rfl
    ·rintro _ _ ⟨qs,v4,v5,rfl,rfl,hq,hz,hm⟩
     rw[Af] at hz hm
     refine⟨qs,_,_,_,rfl,rfl,hq,by omega,fun z=>?_⟩
     rw[hm,iV,es]
     unfold MS
     rw[List.flatMap_append,gu]
     simp
  ·rintro _ _ ⟨qs,v3,v4,v5,rfl,rfl,hq,hz,hm⟩
   rw[e8] at hz hm
   rw[iK] at hm
   refine BQ (p:=l) (n:=2) (ts:=qs.map Ab) AF hl rfl ?_
   rw[Am hl]
   refine AG (AR (Lv (Bw (ET.we (ev 0) (Bw (GX Tx.nTuple (EX (ps:=qs) Tx.nSorted Tx.nSet rfl hu (ev 2) (by omega) (fun z hz=>?_) fun rs h1 h2 h3=> ⟨_,rfl,BB ⟨by show 2≤sizeLine;decide,q rs h1 (fun z hz=>hq z ((h2 z).mp hz)) (by omega) (fun z=> (h2 z).trans (hm z))⟩⟩)))))))
   have:=hq z hz
   unfold Br at this
   omega
end
open Gr
section
variable{P:Program}{w:World}{K:a9}{mg:Str→Option Value}{base:Heap}{CP:Addr}
noncomputable def AW(qs:List (Int×Int))(i:Nat):List Int:=qs.filterMap fun p=>if p.1=(i:Int) then some p.2 else if p.2=(i:Int) then some p.1 else none
theorem Kl{qs:List (Int×Int)}{p:Int×Int}{i:Nat}:AW (qs++[p]) i=AW qs i++(if p.1=(i:Int) then[p.2] else if p.2=(i:Int) then[p.1] else[]):=by
 unfold AW
 rw[List.filterMap_append]
 congr 1
 by_cases h:p.1=(i:Int)
 ·simp[h]
 ·by_cases h2:p.2=(i:Int)
  ·simp[h,h2]
  ·simp[h,h2]
theorem Cv{qs:List (Int×Int)}{i:Nat}:(AW qs i).length≤qs.length:=List.length_filterMap_le ..
noncomputable def Gv(n:Int)(ps:List (Int×Int)):T:=.lst ((gF n.toNat).map fun i=> .lst ((AW ps i).map T.int))
structure Nst(n:Int)(O:AH)(l:Addr)(qs:List (Int×Int))(rs:List (Addr×List T)):Prop where
 len:(rs.length:Int)=n
 nd:(rs.map jw).Nodup
 ne:∀r∈rs,r.1≠l
 fr:∀r∈rs,O r.1=none
 val:∀(i:Nat) r,rs[i]?=some r→r.2=(AW qs i).map T.int
theorem Ee{rs:List (Addr×List T)}{i:Nat}{r:Addr×List T}{vs:List T}(h:rs[i]?=some r):(rs.set i (r.1,vs)).map jw=rs.map jw:=UR (us:=r.2) h
theorem bA{O:AH}{rs:List (Addr×List T)}{l:Addr}{i:Nat}{r:Addr×List T}{us:List T}(e:rs[i]?=some r)(hn:(rs.map jw).Nodup)(hl:∀r∈rs,r.1≠l):
  Ad (Ad (Jj O rs) l (rs.map HX)) r.1 us=Ad (Jj O (rs.set i (r.1,us))) l ((rs.set i (r.1,us)).map HX):=by
 rw[EU (hl r (fo e)),UQ (us:=r.2) hn e]
 congr 1
 have:=Ee (vs:=us) e
 have e1:∀rs:List (Addr×List T),rs.map HX=(rs.map jw).map fun a=>T.raw (.ref a):=fun rs=>by rw[i6];rfl
 rw[e1,e1,this]
theorem Nst.set2{n:Int}{O:AH}{l:Addr}{qs:List (Int×Int)}{rs:List (Addr×List T)}(h:Nst n O l qs rs){a b:Nat}(hab:a≠b){ra rb:Addr×List T}(ea:rs[a]?=some ra)(eb:rs[b]?=some rb):
  Nst n O l (qs++[((a:Int),(b:Int))]) ((rs.set a (ra.1,ra.2++[T.int b])).set b (rb.1,rb.2++[T.int a])):=by
 have eb':(rs.set a (ra.1,ra.2++[T.int b]))[b]?=some rb:=by rw[gQ hab];exact eb
 have m1:=Ee (vs:=ra.2++[T.int b]) ea
 have m2:=Ee (vs:=rb.2++[T.int a]) eb'
 have hm:∀r∈((rs.set a (ra.1,ra.2++[T.int b])).set b (rb.1,rb.2++[T.int a])),∃r'∈rs,r'.1=r.1:=fun r hr=>by
  have:r.1∈(((rs.set a (ra.1,ra.2++[T.int b])).set b (rb.1,rb.2++[T.int a])).map jw):=nC hr
  rw[m2,m1] at this
  obtain⟨r',h1,h2⟩:=gc.mp this
  exact⟨r',h1,h2⟩
 refine⟨by rw[kA,kA];exact h.len,by rw[m2,m1];exact h.nd,fun r hr=>?_,fun r hr=>?_,fun i r e=>?_⟩
 ·obtain⟨r',h1,h2⟩:=hm r hr
  rw[←h2];exact h.ne r' h1
 ·obtain⟨r',h1,h2⟩:=hm r hr
  rw[←h2];exact h.fr r' h1
 ·have la:=(gh.mp ea).1
  have lb:=(gh.mp eb).1
  rw[Kl,il]
  by_cases h1:i=b
  ·subst h1
   rw[gW (by rw[kA];exact lb)] at e
   cases e
   have:¬((a:Int)=(i:Int)):=by omega
   show rb.2++[T.int a]=_
   rw[h.val i rb eb]
   simp[this]
  ·rw[gQ (fun z=>h1 z.symm)] at e
   by_cases h2:i=a
   ·subst h2
    rw[gW la] at e
    cases e
    show ra.2++[T.int b]=_
    rw[h.val i ra ea]
    simp
   ·rw[gQ (fun z=>h2 z.symm)] at e
    have n1:¬((a:Int)=(i:Int)):=by omega
    have n2:¬((b:Int)=(i:Int)):=by omega
    rw[h.val i r e]
    simp[n1,n2]
theorem Nst.tree{n:Int}{O:AH}{l:Addr}{ps:List (Int×Int)}{rs:List (Addr×List T)}(h:Nst n O l ps rs):T.lst (rs.map fun r=>T.lst r.2)=Gv n ps:=by
 have hl:=h.len
 unfold Gv
 congr 1
 apply jA
 intro i
 rw[fq,fq]
 by_cases hi:i<rs.length
 ·rw[gm hi,j8 (by omega)]
  show some (T.lst rs[i].2)=_
  rw[h.val i rs[i] (gm hi)]
  rfl
 ·rw[kr (by omega),kr (by rw[iL];omega)]
  rfl
noncomputable def JT:Cp:=NQ fun ts r=>∃n ps,ts=[Fb n ps]∧0≤n∧n≤200∧Gi n ps∧ps.length≤200∧r=Gv n ps
theorem JU:FnScope ["web","nears","a","b"] ["web"] (AA JP):=⟨rfl,rfl,rfl,by decide+kernel,rfl,by decide+kernel,by decide+kernel⟩
theorem bB:(Ah ["place"] []).Nodup:=by decide+kernel
theorem Ro{f:Addr}{fd:gE}(F:Fun K "nears_of" "nears_of" JP f fd)(Tx:Txt mg):FnOk P w K mg base (CXe P w) 1 f fd ["web"] (DR K JT):=by
 refine AV F JU ?_ ?_
 ·rintro ts O Φ Ξ ⟨r,⟨n,ps,rfl,_⟩,_⟩
  rfl
 ·rintro cdv A outer s H E O Ξ hr xf _ Φ ⟨_,⟨n,ps,rfl,n0,n1,hw,hl,rfl⟩,q⟩
  have sb:=AZ
  refine AD (Hy (i:=1) (nc:=["place"]) (cap:=[]) (by rfl) JU.nd rfl (DE (AA JP) ["web","nears","a","b"] (by decide+kernel)) (EI.wi (BW Tx.nRange (Dq (ev 0) AB) ⟨by omega,by omega⟩) ?_))
  refine⟨fun i acc O'=>i≤200∧∃as:List Addr,acc=(as.map fun a=> (a,([]:List T))).map HX∧as.length=i∧as.Nodup∧(∀a∈as,O a=none)∧O'=Jj O (as.map fun a=> (a,[])),⟨by omega,[],rfl,rfl,by simp,(fun _ h=>by cases h),rfl⟩,?_,?_⟩
  ·rintro i t acc O' c e ⟨_,as,rfl,hal,hnd,hfr,rfl⟩ hc
   obtain⟨hi,rfl⟩:=Bq e
   refine⟨[some (.int (0+(i:Int)))],fun X' Oe He is=> ⟨?_,Iv (LY fun X' Oe He is=>?_)⟩⟩
   ·obtain⟨cl,s',H',fp,rfl⟩:=is
    exact AO 0 bB (by decide)
   ·obtain⟨cl,s',H',fp,rfl⟩:=is
    refine Cm (BB ⟨ip _,fun p hp=>?_⟩)
    have hpc:p≠c:=fun z=>by rw[z,AF] at hp;cases hp
    rw[Aa hpc] at hp
    have hpa:p∉as:=fun z=>by
     rw[Dt (rs:=as.map fun a=> (a,[])) (r:=(p,[])) (by rw[i6];simpa[Function.comp_def] using hnd) (nC z)] at hp
     cases hp
    have hpO:O p=none:=by
     rw[Dh fun r hr=>by
      obtain⟨a,ha,rfl⟩:=gc.mp hr
      exact fun z=>hpa (z▸ha)] at hp
     exact hp
    refine⟨Ad (Jj O (as.map fun a=> (a,[]))) p [],EU hpc,by rw[Aa hpc.symm];exact hc,by rw[e8,e8];omega,by omega,as++[p],by rw[il,il];rfl,by simp;omega,?_,fun a ha=>?_,?_⟩
    ·rw[gU]
     refine⟨hnd,by simp,fun a ha b hb z=>?_⟩
     rw[b9.mp hb] at z
     exact hpa (z▸ha)
    ·rcases gu.mp ha with ha|ha
     ·exact hfr a ha
     ·rw[b9.mp ha];exact hpO
    ·rw[il];exact(RD (r:=(p,[]))).symm
  ·rintro acc O' ⟨_,as,rfl,hal,hnd,hfr,rfl⟩ l hlO
   rw[Af] at hal
   have hkeys:((as.map fun a=> (a,([]:List T))).map jw)=as:=by rw[i6];simp[Function.comp_def]
   have nst0:Nst n O l [] (as.map fun a=> (a,([]:List T))):=by
    refine⟨by rw[e8];omega,by rw[hkeys];exact hnd,fun r hr z=>?_,fun r hr=>?_,fun i r e=>?_⟩
    ·rw[←z,Dt (by rw[hkeys];exact hnd) hr] at hlO
     cases hlO
    ·obtain⟨a,ha,rfl⟩:=gc.mp hr
     exact hfr a ha
    ·have:=fo e
     obtain⟨a,ha,rfl⟩:=gc.mp this
     rfl
   have hlO':O l=none:=by
    rw[Dh nst0.ne] at hlO
    exact hlO
   refine AD (Av AY.own rfl (EI.wi (DS (Dq (ev 0) AB)) ⟨fun j ρ' O'=>∃rs v2 v3,ρ'=[some (Fb n ps),some (.raw (.ref l)),v2,v3]∧O'=Ad (Jj O rs) l (rs.map HX)∧Nst n O l (ps.take j) rs,⟨_,none,none,rfl,rfl,by rw[pK];exact nst0⟩,?_,?_⟩))
   ·rintro j t _ _ e ⟨rs,v2,v3,rfl,rfl,nst⟩
    rw[fq] at e
    cases ec:ps[j]? with
    |none=>rw[ec] at e;cases e
    |some z=>
     rw[ec] at e
     cases e
     have hb:=hw z (fo ec)
     have hlen:=nst.len
     have htl:(ps.take j).length≤200:=by rw[gX];omega
     obtain⟨a,ea⟩:=gO hb.1
     obtain⟨b,eb⟩:=gO (show 0≤z.2 by omega)
     have ha:a<rs.length:=by omega
     have hb':b<rs.length:=by omega
     have hab:a≠b:=by omega
     have ga:=gm ha
     have gb:(rs.set a (rs[a].1,rs[a].2++[T.int b]))[b]?=some rs[b]:=by rw[gQ hab];exact gm hb'
     have m1:=Ee (vs:=rs[a].2++[T.int b]) ga
     have nd1:((rs.set a (rs[a].1,rs[a].2++[T.int b])).map jw).Nodup:=by rw[m1];exact nst.nd
     have ne1:∀r∈rs.set a (rs[a].1,rs[a].2++[T.int b]),r.1≠l:=fun r hr=>by
      have:r.1∈(rs.set a (rs[a].1,rs[a].2++[T.int b])).map jw:=nC hr
      rw[m1] at this
      obtain⟨r',h1,h2⟩:=gc.mp this
      rw[←h2];exact nst.ne r' h1
     have la:rs[a].2.length≤200:=by rw[nst.val a rs[a] ga,e8];exact iq Cv htl
     have lb:rs[b].2.length≤200:=by rw[nst.val b rs[b] (gm hb'),e8];exact iq Cv htl
     have ez:z=((a:Int),(b:Int)):=by rw[←ea,←eb]
     subst ez
     refine⟨[some (Fb n ps),some (.raw (.ref l)),some (.int a),some (.int b)],Df 2 3 rfl JU.nd (by show 2<4;decide) (by show 3<4;decide),?_⟩
     refine AD (Ao (Be (ET.we (DQ (ts:=rs.map HX) AF (ev 1) (ev 2) (BG (by rw[fq,ga];rfl))) ⟨rs[a].1,rfl,⟨rs[a].2,?_⟩,ET.we (ev 3) ⟨rs[a].2,?_,by omega,?_⟩⟩)))
     ·rw[Aa (nst.ne _ (jk ha))];exact Dt nst.nd (jk ha)
     ·rw[Aa (nst.ne _ (jk ha))];exact Dt nst.nd (jk ha)
     ·rw[bA ga nst.nd nst.ne]
      refine AG (Ao (Be (ET.we (DQ (ts:=(rs.set a (rs[a].1,rs[a].2++[T.int b])).map HX) AF (ev 1) (ev 3) (BG (by rw[fq,gb];rfl))) ⟨rs[b].1,rfl,⟨rs[b].2,?_⟩,ET.we (ev 2) ⟨rs[b].2,?_,by omega,?_⟩⟩)))
      ·rw[Aa (ne1 _ (fo gb))];exact Dt nd1 (fo gb)
      ·rw[Aa (ne1 _ (fo gb))];exact Dt nd1 (fo gb)
      ·rw[bA gb nd1 ne1]
       refine⟨_,_,_,rfl,rfl,?_⟩
       have:ps.take (j+1)=ps.take j++[((a:Int),(b:Int))]:=by
        rw[iV,ec];rfl
       rw[this]
       exact nst.set2 hab ga (gm hb')
   ·rintro _ _ ⟨rs,v2,v3,rfl,rfl,nst⟩
    rw[e8,iK] at nst
    refine RF nst.nd nst.ne nst.fr nst.fr ?_
    refine BQ (p:=l) (n:=1) (ts:=rs.map fun r=>T.lst r.2) AF hlO' rfl ?_
    rw[Am hlO']
    refine AG (AR (ET.we (ev 1) ?_))
    show Φ (T.lst (rs.map fun r=>T.lst r.2)) O
    rw[nst.tree]
    exact q
end
section
variable{P:Program}{w:World}{K:a9}{mg:Str→Option Value}{base:Heap}{CP:Addr}
theorem IE{n:Int}{ps:List (Int×Int)}(hw:Gi n ps){i:Nat}{v:Int}:v∈AW ps i↔Adj ps (i:Int) v:=by
 unfold AW Adj
 rw[jX]
 constructor
 ·rintro⟨p,hp,e⟩
  by_cases h:p.1=(i:Int)
  ·rw[if_pos h] at e
   cases e
   exact .inl (by rw[←h];exact hp)
  ·rw[if_neg h] at e
   by_cases h2:p.2=(i:Int)
   ·rw[if_pos h2] at e
    cases e
    exact .inr (by rw[←h2];exact hp)
   ·rw[if_neg h2] at e;cases e
 ·rintro(h|h)
  ·exact⟨_,h,by simp⟩
  ·have:=hw _ h
   simp only at this
   exact⟨_,h,by rw[if_neg (by omega)];simp⟩
theorem JV{m:Nat}{i:Nat}(h:i<m):Pz m (i:Int)=some i:=by
 unfold Pz
 rw[if_pos (by omega),if_pos (by omega)]
 rfl
structure WebN(n:Int)(ps:List (Int×Int)):Prop where
 n0:0≤n
 n1:n≤200
 hw:Gi n ps
 hl:ps.length≤200
noncomputable def BY:Option Nat→T
 |none=> .non
 |some d=> .int d
theorem Km{x:Option Nat}:Aj (BY x)=false:=by cases x<;>rfl
theorem Kn{x:Option Nat}:Ea (BY x)=x.isNone:=by cases x<;>rfl
noncomputable def Rp:List Str:=["nears","starts","fars","start","border","steps","beyond","place","near"]
theorem CJ:FnScope Rp ["nears","starts"] (AA IB):=⟨rfl,rfl,rfl,by decide+kernel,rfl,by decide+kernel,by decide+kernel⟩
theorem bD:(Ah ["near"] []).Nodup:=by decide+kernel
noncomputable def eT(i:Nat):Stmt:=(Aw IB).getD i (.Pass ⟨0,0,0,0⟩)
noncomputable def Ko:Stmt→List Stmt
 | .While _ b _ _=>b
 | .For _ _ b _ _=>b
 |_=> []
noncomputable def eU(i:Nat):Stmt:=(Ko (eT 4)).getD i (.Pass ⟨0,0,0,0⟩)
variable{f:Addr}{cdv:Value}{A:gx}{outer:List Env}{s:Shared}{H:Hp}{E:XK}{O:AH}{Ξ:Value→AH→Prop}{n:Int}{ps:List (Int×Int)}{S bs:List Int}{l lb:Addr}
noncomputable abbrev zF(P:Program)(w:World)(K:a9)(mg:Str→Option Value)(base:Heap)(f:Addr)(cdv:Value)(A:gx)(outer:List Env)(s:Shared)(H:Hp)(E:XK)(O:AH)(Ξ:Value→AH→Prop):Zx:=zB P w K mg base Rp "fars_from" (AA IB) f cdv A outer s H E O Ξ
noncomputable abbrev Fc(O:AH)(l lb:Addr)(fs:List (Option Nat))(Az:List Int):AH:=Ad (Ad O l (fs.map BY)) lb (Az.map T.int)
end
section
variable{P:Program}{w:World}{K:a9}{mg:Str→Option Value}{base:Heap}{CP:Addr}{f:Addr}{cdv:Value}{A:gx}{outer:List Env}{s:Shared}{H:Hp}{E:XK}{O:AH}{Ξ:Value→AH→Prop}{n:Int}{ps:List (Int×Int)}{S bs:List Int}{l lb:Addr}
end
open GrR
noncomputable abbrev Gx(rows:List (List Int)):T:=.lst (rows.map fun r=> .lst (r.map T.int))
noncomputable def Rw(rows:List (List Int))(u v:Int):Prop:=0≤u∧v∈rows.getD u.toNat []
structure RowsN(n:Int)(rows:List (List Int)):Prop where
 len:(rows.length:Int)=n
 n1:n≤200
 hw:ar n (Rw rows)
theorem Kq{rows:List (List Int)}{i:Nat}{v:Int}:v∈rows.getD i []↔Rw rows (i:Int) v:=by
 unfold Rw
 rw[iy]
 exact⟨fun h=> ⟨by omega,h⟩,fun h=>h.2⟩
theorem Nj{rows:List (List Int)}{i:Nat}(h:i<rows.length):atI (rows.map fun r=>T.lst (r.map T.int)) (i:Int)=some (.lst ((rows.getD i []).map T.int)):=
 BG (by rw[fq,gm h];simp[oG,h])
theorem Rr{R:Int→Int→Prop}{S:List Int}{v:Int}:IsD R S v 0↔v∈S:=by
 constructor
 ·rintro⟨w,_⟩
  cases w with
  |«at» h=>exact h
 ·intro h
  exact⟨.at h,fun j hj=>by omega⟩
section
variable{P:Program}{w:World}{K:a9}{mg:Str→Option Value}{base:Heap}{f:Addr}{cdv:Value}{A:gx}{outer:List Env}{s:Shared}{H:Hp}{E:XK}{O:AH}{Ξ:Value→AH→Prop}{n:Int}{rows:List (List Int)}{S bs:List Int}{l lb:Addr}
noncomputable def Nk:Cp:=fun ts O Φ _=>∃n rows S,ts=[Gx rows,.lst (S.map T.int)]∧RowsN n rows∧(∀z∈S,0≤z∧z<n)∧∀fs,All n (Rw rows) S fs→Φ (.lst (fs.map BY)) O
noncomputable abbrev Fd(n:Int)(rows:List (List Int))(S:List Int)(l:Addr)(v3:Option T)(bs:List Int)(k:Nat)(v6 v7 v8:Option T):List (Option T):=[some (Gx rows),some (.lst (S.map T.int)),some (.raw (.ref l)),v3,some (.lst (bs.map T.int)),some (.int (k:Int)),v6,v7,v8]
theorem PM{v3 v7:Option T}{k:Nat}{fs:List (Option Nat)}{Az ds:List Int}{u:Int}{v:Nat}{Φ:BU}{N Bk Ct:Lz}(hll:lb≠l)(n1:n≤200)(hv:(v:Int)<n)(m:Mid n (Rw rows) S k fs Az ds)(nd:Az.Nodup)(hw:ar n (Rw rows))(hS:∀z∈S,0≤z∧z<n)(hu:IsD (Rw rows) S u k)(a:Rw rows u v)
  (q:∀fs Az,Mid n (Rw rows) S k fs Az (ds++[(v:Int)])→Az.Nodup→N (Fd n rows S l v3 bs (k+1) (some (.raw (.ref lb))) v7 (some (.int v))) (Fc O l lb fs Az)):
  FZ (zF P w K mg base f cdv A outer s H E O Ξ) (Fd n rows S l v3 bs (k+1) (some (.raw (.ref lb))) v7 (some (.int v))) (Fc O l lb fs Az) (Ko ((Ko (eU 2)).getD 0 (.Pass ⟨0,0,0,0⟩))) {nx:=N,rt:=Φ,bk:=Bk,ct:=Ct}:=by
 have sb:=AZ
 have hl:=m.len
 have hlt:v<fs.length:=by omega
 have gl:Fc O l lb fs Az l=some (fs.map BY):=by
  show Ad (Ad O l _) lb _ l=_
  rw[Aa hll.symm,AF]
 have gv:atI (fs.map BY) (v:Int)=some (BY fs[v]):=BG (by rw[fq,gm hlt];rfl)
 refine AG (BR (MG Km (DQ gl (ev 2) (ev 8) gv)) (fun h=>?_) (fun h=>Ba ?_))
 ·rw[Kn] at h
  have hn:fs[(v:Int).toNat]?=some none:=by
   rw[iy,gm hlt]
   cases z:fs[v] with
   |none=>rfl
   |some d=>rw[z] at h;cases h
  have hb:Az.length≤n.toNat:=Gr.DT nd fun z hz=> (m.sub z hz).1.inb hw hS
  refine AD (GW (ET.we (ev 5) (ET.we (ev 2) ⟨l,rfl,ET.we (ev 8) ⟨_,_,v,rfl,gl,by rw[e8];exact JV hlt,?_⟩⟩)))
  have eo:Ad (Fc O l lb fs Az) l ((fs.map BY).set v (.int ((k+1:Nat):Int)))=Fc O l lb (fs.set v (some (k+1))) Az:=by
   show Ad (Ad (Ad O l _) lb _) l _=_
   rw[EU hll.symm,BO]
   show _=Ad (Ad O l ((fs.set v (some (k+1))).map BY)) lb _
   rw[oU]
   rfl
  rw[eo]
  refine AG (Ao (Be (ET.we (ev 6) ⟨lb,rfl,⟨_,AF⟩,ET.we (ev 8) ⟨Az.map T.int,AF,by rw[e8];omega,?_⟩⟩)))
  have m2:=m.hit (v:=(v:Int)) (by omega) hv hn hu a
  rw[iy] at m2
  have:=q _ _ m2 (by
   rw[gU]
   refine⟨nd,by simp,fun x hx y hy z=>?_⟩
   rw[b9.mp hy] at z
   exact m.fresh (by omega) hv hn (z▸hx))
  have e2:Ad (Fc O l lb (fs.set v (some (k+1))) Az) lb (Az.map T.int++[T.int v])=Fc O l lb (fs.set v (some (k+1))) (Az++[(v:Int)]):=by
   show Ad (Ad (Ad O l _) lb _) lb _=Ad (Ad O l _) lb _
   rw[BO,il]
   rfl
  rw[e2]
  exact this
 ·rw[Kn] at h
  cases z:fs[v] with
  |none=>rw[z] at h;cases h
  |some d=>exact q fs Az (m.miss (by omega) hv (d:=d) (by rw[iy,gm hlt,z])) nd
theorem MU{v3 v8:Option T}{k:Nat}{fs:List (Option Nat)}{Az ds:List Int}{u:Nat}{Φ:BU}{N Bk Ct:Lz}(hll:lb≠l)(hrl:(rows.length:Int)=n)(n1:n≤200)(hu0:(u:Int)<n)(m:Mid n (Rw rows) S k fs Az ds)(nd:Az.Nodup)(hw:ar n (Rw rows))(hS:∀z∈S,0≤z∧z<n)(hu:IsD (Rw rows) S u k)
  (q:∀v8 fs Az ds',Mid n (Rw rows) S k fs Az ds'→Az.Nodup→(∀v∈ds,v∈ds')→(∀v,Rw rows u v→v∈ds')→N (Fd n rows S l v3 bs (k+1) (some (.raw (.ref lb))) (some (.int u)) v8) (Fc O l lb fs Az)):
  FZ (zF P w K mg base f cdv A outer s H E O Ξ) (Fd n rows S l v3 bs (k+1) (some (.raw (.ref lb))) (some (.int u)) v8) (Fc O l lb fs Az) (Ko (eU 2)) {nx:=N,rt:=Φ,bk:=Bk,ct:=Ct}:=by
 refine AG (Av AY.own rfl (EI.wi (Ax (FA (ev 0) (ev 7) (Nj (by omega)))) ⟨fun j ρ' O'=>∃v8 fs Az ds',ρ'=Fd n rows S l v3 bs (k+1) (some (.raw (.ref lb))) (some (.int u)) v8∧O'=Fc O l lb fs Az∧Mid n (Rw rows) S k fs Az ds'∧Az.Nodup∧(∀v∈ds,v∈ds')∧∀v∈(rows.getD u []).take j,v∈ds',⟨v8,fs,Az,ds,rfl,rfl,m,nd,fun _ h=>h,fun v h=>by simp at h⟩,?_,?_⟩))
 ·rintro j t _ _ e ⟨v8,fs,Az,ds',rfl,rfl,m,nd,h1,h2⟩
  rw[fq] at e
  cases ec:(rows.getD u [])[j]? with
  |none=>rw[ec] at e;cases e
  |some z=>
   rw[ec] at e
   cases e
   have a:=Kq.mp (fo ec)
   have hb:=hw _ _ a
   obtain⟨v,rfl⟩:=gO hb.1
   refine⟨Fd n rows S l v3 bs (k+1) (some (.raw (.ref lb))) (some (.int u)) (some (.int v)),AO 8 CJ.nd (by show 8<9;decide),PM hll n1 hb.2 m nd hw hS hu a fun fs' bey' m' nd'=> ⟨_,_,_,_,rfl,rfl,m',nd',fun x hx=>iR _ (h1 x hx),fun x hx=>?_⟩⟩
   rw[iV,ec] at hx
   rcases gu.mp hx with hx|hx
   ·exact iR _ (h2 x hx)
   ·exact iD _ hx
 ·rintro _ _ ⟨v8,fs,Az,ds',rfl,rfl,m,nd,h1,h2⟩
  rw[e8,iK] at h2
  exact q v8 fs Az ds' m nd h1 fun v a=>h2 v (Kq.mpr a)
theorem MV{v3 v6 v7 v8:Option T}{k:Nat}{fs:List (Option Nat)}{Φ:BU}{N Bk Ct:Lz}(hlO:O l=none)(wn:RowsN n rows)(hS:∀z∈S,0≤z∧z<n)(h:Fr n (Rw rows) S k fs)(hb:∀v,v∈bs↔IsD (Rw rows) S v k)
  (q:∀v6 v7 v8 fs Az,Fr n (Rw rows) S (k+1) fs→(∀v,v∈Az↔IsD (Rw rows) S v (k+1))→N (Fd n rows S l v3 Az (k+1) v6 v7 v8) (Ad O l (fs.map BY))):
  FZ (zF P w K mg base f cdv A outer s H E O Ξ) (Fd n rows S l v3 bs k v6 v7 v8) (Ad O l (fs.map BY)) (Ko (eT 4)) {nx:=N,rt:=Φ,bk:=Bk,ct:=Ct}:=by
 have sb:=AZ
 refine AD (MA 5 Pl rfl (ET.we AB (fun H v w Q ok r1 r2 acc=> ⟨_,_,r1.int_inv,r2.int_inv,acc _ H (.int (((k+1:Nat):Int))) _ ?_ (.refl ok) (.int _)⟩)) CJ.nd)
 refine AD (AS 6 (Cm (BB ⟨ip _,fun lb hlb=>?_⟩)) CJ.nd)
 have hll:lb≠l:=fun z=>by rw[z,AF] at hlb;cases hlb
 have hlb':O lb=none:=by rw[Aa hll] at hlb;exact hlb
 refine AD (Av AY.own rfl (EI.wi (Ax (ev 4)) ⟨fun i ρ' O'=>∃v7 v8 fs Az ds,ρ'=Fd n rows S l v3 bs (k+1) (some (.raw (.ref lb))) v7 v8∧O'=Fc O l lb fs Az∧Mid n (Rw rows) S k fs Az ds∧Az.Nodup∧∀u∈bs.take i,∀v,Rw rows u v→v∈ds,⟨v7,v8,fs,[],[],rfl,rfl,h.mid,by simp,fun u hu=>by simp at hu⟩,?_,?_⟩))
 ·rintro i t _ _ e ⟨v7,v8,fs,Az,ds,rfl,rfl,m,nd,h1⟩
  rw[fq] at e
  cases ec:bs[i]? with
  |none=>rw[ec] at e;cases e
  |some z=>
   rw[ec] at e
   cases e
   have hz:=(hb z).mp (fo ec)
   have hi:=hz.1.inb wn.hw hS
   obtain⟨u,rfl⟩:=gO hi.1
   refine⟨Fd n rows S l v3 bs (k+1) (some (.raw (.ref lb))) (some (.int u)) v8,AO 7 CJ.nd (by show 7<9;decide),MU hll wn.len wn.n1 hi.2 m nd wn.hw hS hz fun v8 fs' bey' ds' m' nd' g1 g2=> ⟨_,_,_,_,ds',rfl,rfl,m',nd',fun x hx v a=>?_⟩⟩
   rw[iV,ec] at hx
   rcases gu.mp hx with hx|hx
   ·exact g1 v (h1 x hx v a)
   ·have:x=(u:Int):=by simpa using hx
    rw[this] at a
    exact g2 v a
 ·rintro _ _ ⟨v7,v8,fs,Az,ds,rfl,rfl,m,nd,h1⟩
  rw[e8,iK] at h1
  obtain⟨h2,h3⟩:=m.done fun u v hu a=>h1 u ((hb u).mpr hu) v a
  refine BQ (p:=lb) (n:=6) (ts:=Az.map T.int) AF hlb' rfl ?_
  rw[show DN (Fc O l lb fs Az) lb=Ad O l (fs.map BY) from Am (by rw[Aa hll];exact hlb')]
  exact AG (AS 4 (ET.we (ev 6) (q _ _ _ fs Az h2 h3)) CJ.nd)
theorem Rt{fd:gE}(F:Fun K "fars_from" "fars_from" IB f fd):FnOk P w K mg base (CXe P w) 1 f fd ["nears","starts"] (DR K Nk):=by
 refine AV F CJ ?_ ?_
 ·rintro ts O Φ Ξ ⟨n,rows,S,rfl,_⟩
  rfl
 ·rintro cdv A outer s H E O Ξ hr xf _ Φ ⟨n,rows,S,rfl,wn,hS,q⟩
  have sb:=AZ
  have n0:=wn.len
  have n1:=wn.n1
  refine AD (Hy (i:=2) (nc:=["near"]) (cap:=[]) (by rfl) CJ.nd rfl (DE (AA IB) Rp (by decide+kernel)) (EI.wi (Ax (ev 0)) ?_))
  refine⟨fun i acc O'=>i≤200∧acc=(gK i (none:Option Nat)).map BY∧O=O',⟨by omega,rfl,rfl⟩,?_,?_⟩
  ·rintro i t acc _ c e ⟨_,rfl,rfl⟩ hc
   have hi:i<rows.length:=by
    have:=(gh.mp e).1
    simpa using this
   refine⟨[some t],fun X' Oe He is=> ⟨?_,Iv (LY fun X' Oe He is=>?_)⟩⟩
   ·obtain⟨cl,s',H',fp,rfl⟩:=is
    exact AO 0 bD (by decide)
   ·obtain⟨cl,s',H',fp,rfl⟩:=is
    exact ET.we CH ⟨O,rfl,hc,by rw[e8,jD];omega,by omega,by rw[List.replicate_succ',il];rfl,rfl⟩
  ·rintro acc _ ⟨_,rfl,rfl⟩ l hlO
   rw[e8]
   refine AD (Av AY.own rfl (EI.wi (Ax (ev 1)) ⟨fun j ρ' O'=>∃(fs:List (Option Nat)) (v3:Option T),ρ'=[some (Gx rows),some (.lst (S.map T.int)),some (.raw (.ref l)),v3,none,none,none,none,none]∧O'=Ad O l (fs.map BY)∧(fs.length:Int)=n∧∀v:Int,0≤v→v<n→∀d,fs[v.toNat]?=some (some d)↔(d=0∧v∈S.take j),⟨_,none,rfl,rfl,by rw[jD];omega,fun v v0 v1 d=>?_⟩,?_,?_⟩))
   ·rw[jL]
    simp
   ·rintro j t _ _ e ⟨fs,v3,rfl,rfl,hl,hf⟩
    rw[fq] at e
    cases ec:S[j]? with
    |none=>rw[ec] at e;cases e
    |some z=>
     rw[ec] at e
     cases e
     have hz:=hS z (fo ec)
     obtain⟨v,rfl⟩:=gO hz.1
     have hlt:v<fs.length:=by omega
     refine⟨[some (Gx rows),some (.lst (S.map T.int)),some (.raw (.ref l)),some (.int v),none,none,none,none,none],AO 3 CJ.nd (by show 3<9;decide),?_⟩
     refine AG (GW (ET.we AB (ET.we (ev 2) ⟨l,rfl,ET.we (ev 3) ⟨_,_,v,rfl,AF,by rw[e8];exact JV hlt,?_⟩⟩)))
     refine⟨fs.set v (some 0),_,rfl,by rw[BO,oU];rfl,by rw[kA];exact hl,fun y y0 y1 d=>?_⟩
     rw[iV,ec]
     by_cases hy:y=(v:Int)
     ·subst hy
      rw[iy,gW hlt]
      simp[eq_comm]
     ·rw[gQ (by omega),hf y y0 y1 d]
      simp[hy]
   ·rintro _ _ ⟨fs,v3,rfl,rfl,hl,hf⟩
    rw[e8,iK] at hf
    have fr:Fr n (Rw rows) S 0 fs:=UU hl hf
    refine AD (AS 4 (ET.we (ev 1) ?_) CJ.nd)
    refine AD (AS 5 (ET.we AB ?_) CJ.nd)
    refine AD (RC AY.own (fun m ρ' O'=>∃(k:Nat) (bs:List Int) (fs:List (Option Nat)) (v3 v6 v7 v8:Option T),ρ'=Fd n rows S l v3 bs k v6 v7 v8∧O'=Ad O l (fs.map BY)∧Fr n (Rw rows) S k fs∧(∀v,v∈bs↔IsD (Rw rows) S v k)∧m=n.toNat+1-k) ⟨_,0,S,fs,v3,none,none,none,rfl,rfl,fr,fun v=>Rr.symm,rfl⟩ ?_)
    rintro m _ _ ⟨k,bs,fs,v3,v6,v7,v8,rfl,rfl,fr,hb,rfl⟩
    refine(show EB (zF P w K mg base f cdv A outer s H E O Ξ) (Fd n rows S l v3 bs k v6 v7 v8) (Ad O l (fs.map BY)) _ (!(bs.map T.int).isEmpty) from ES (t:=T.lst (bs.map T.int)) (ev 4) rfl) _ ?_
    cases bs with
    |nil=>
     refine OS ?_
     have al:=fr.all_end fun v hv=>by
      have:=(hb v).mpr hv
      cases this
     refine BQ (p:=l) (n:=2) (ts:=fs.map BY) AF hlO rfl ?_
     rw[Am hlO]
     exact AG (AR (ET.we (ev 2) (q fs al)))
    |cons b bs'=>
     refine LY (MV hlO wn hS fr hb fun v6 v7 v8 fs' Az fr' hb'=> ⟨_,?_,k+1,Az,fs',_,v6,v7,v8,rfl,rfl,fr',hb',rfl⟩)
     have:=((hb b).mp (by simp)).lt wn.hw hS
     omega
end
end K34
namespace L2.TL
open PySem PySem.Spec PyProof.Rows
section
variable{Z:Zx}{ρ:List (Option T)}{O:AH}{e:Expr}{p pos:Pos}{ns:List Int}{i:Int}
theorem Uv(hi:GS ns i)(m:Z.X.mg "min" =none)(hc:Z.X.calm=true)(h:ET Z ρ O e (.lst (ns.map T.int)))(hg:Gl Z.X "min":=by rfl)(he:fj [e] Z.X.env=(false,eval e Z.X.env)::fj [] Z.X.env:=by rfl):ET Z ρ O (.Call (.Name "min" p) [e] [] pos) (.int i):=
 BE (Oi hc) m Xy (AN h AC he) (fun Φ q H vs Q ok r k=>by
  obtain⟨v,rfl,r1⟩:=r.one_inv
  obtain⟨a,xs,rfl,h1,o1,r1⟩:=r1.lst_inv
  cases Reps.ints r1
  refine⟨a,ns,rfl,.inl (.inl (.inl h1)),lC hi.1,fun n hn=>?_⟩
  have:n=i:=pf (hn.2 i hi.1) (hi.2 n hn.1)
  rw[this]
  exact k _ H _ O q (.refl ok) (.int _)) hg (by decide) (by decide) he
theorem Uw(hi:NK ns i)(m:Z.X.mg "max" =none)(hc:Z.X.calm=true)(h:ET Z ρ O e (.lst (ns.map T.int)))(hg:Gl Z.X "max":=by rfl)(he:fj [e] Z.X.env=(false,eval e Z.X.env)::fj [] Z.X.env:=by rfl):ET Z ρ O (.Call (.Name "max" p) [e] [] pos) (.int i):=
 BE (Oj hc) m ai (AN h AC he) (fun Φ q H vs Q ok r k=>by
  obtain⟨v,rfl,r1⟩:=r.one_inv
  obtain⟨a,xs,rfl,h1,o1,r1⟩:=r1.lst_inv
  cases Reps.ints r1
  refine⟨a,ns,rfl,.inl (.inl (.inl h1)),lC hi.1,fun n hn=>?_⟩
  have:n=i:=pf (hi.2 n hn.1) (hn.2 i hi.1)
  rw[this]
  exact k _ H _ O q (.refl ok) (.int _)) hg (by decide) (by decide) he
theorem Kr:∀{ns:List Int},ns≠[]→∃i,GS ns i
 | [],h=>absurd rfl h
 | [a],_=> ⟨a,by simp,fun n hn=>by rw[b9.mp hn];exact jM _⟩
 |a::b::ns,_=>by
  obtain⟨i,h1,h2⟩:=Kr (ns:=b::ns) (by simp)
  refine⟨min a i,?_,fun n hn=>?_⟩
  ·rcases nH a i with h|h
   ·rw[pe h];simp
   ·rw[oH h];exact fk _ h1
  ·rcases fu.mp hn with rfl|hn
   ·exact Int.min_le_left ..
   ·exact kg (Int.min_le_right ..) (h2 n hn)
theorem Nl:∀{ns:List Int},ns≠[]→∃i,NK ns i
 | [],h=>absurd rfl h
 | [a],_=> ⟨a,by simp,fun n hn=>by rw[b9.mp hn];exact jM _⟩
 |a::b::ns,_=>by
  obtain⟨i,h1,h2⟩:=Nl (ns:=b::ns) (by simp)
  refine⟨max a i,?_,fun n hn=>?_⟩
  ·rcases nH a i with h|h
   ·rw[Int.max_eq_right h];exact fk _ h1
   ·rw[Int.max_eq_left h];simp
  ·rcases fu.mp hn with rfl|hn
   ·exact Int.le_max_left ..
   ·exact kg (h2 n hn) (Int.le_max_right ..)
end
end L2.TL
namespace K34
open PySem L2 L2.TL PySem.Spec PyProof.Rows Gr
section
variable{P:Program}{w:World}{K:a9}{mg:Str→Option Value}{base:Heap}{CN:Addr}
noncomputable def Nm(CN:Addr):Cp:=fun ts O Φ Ξ=>∃t a b,ts=[t,.int a,.int b]∧Aj t=false∧(Cu t a b=true→Φ .non O)∧(Cu t a b=false→Ξ (.ref CN) O)
theorem bE:FnScope ["thing","least","most"] ["thing","least","most"] (AA JO):=⟨rfl,rfl,rfl,by decide+kernel,rfl,by decide+kernel,by decide+kernel⟩
theorem YS{f:Addr}{fd:gE}(F:Fun K "need_number" "need_number" JO f fd)(mN:mg "NoNumber" =some (.ref CN))(xN:mj K CN Tj "ValueError.__new__" =true)(G:FnT P w K mg base "is_whole" 1 ["thing","least","most"] Ni):FnOk P w K mg base (CXe P w) 2 f fd ["thing","least","most"] (DR K (Nm CN)):=by
 refine UN F bE ?_ ?_
 ·rintro ts O Φ Ξ ⟨t,a,b,rfl,_⟩
  rfl
 ·rintro cdv A outer s H E O Ξ hr xo _ Φ ⟨t,a,b,rfl,ht,q1,q2⟩
  refine AG (BR (Ql (NN (Bx G hr xo.f (AE (ev 0) (AE (ev 1) (AE (ev 2) AC))) ⟨t,a,b,rfl,ht,rfl⟩))) (fun h=>AG (Ov xo rfl mN xN (q2 ?_))) (fun h=>Ba (q1 ?_)))
  ·cases z:Cu t a b with
   |true=>rw[z] at h;cases h
   |false=>rfl
  ·cases z:Cu t a b with
   |true=>rfl
   |false=>rw[z] at h;cases h
noncomputable def Bb(n:Int)(ps:List (Int×Int)):List Int:=(gF n.toNat).map fun i=> ((AW ps i).length:Int)
noncomputable def bG(cs:List Int):T:=if cs.all (fun c=>decide (c=cs.headD 0))=true then .int (cs.headD 0) else .non
noncomputable def MW:Cp:=NQ fun ts r=>∃n ps,ts=[Fb n ps]∧WebN n ps∧1≤n∧r=bG (Bb n ps)
theorem Ru:FnScope ["web","counts"] ["web"] (AA Nf):=⟨rfl,rfl,rfl,by decide+kernel,rfl,by decide+kernel,by decide+kernel⟩
theorem bH:(Ah ["near"] []).Nodup:=by decide+kernel
theorem YT{cs:List Int}{a b:Int}(ha:GS cs a)(hb:NK cs b):cs.all (fun c=>decide (c=cs.headD 0))=decide (a=b):=by
 have hne:cs≠[]:=fun z=>by rw[z] at ha;cases ha.1
 have hh:cs.headD 0∈cs:=by
  cases cs with
  |nil=>exact absurd rfl hne
  |cons x xs=>simp
 by_cases h:a=b
 ·subst h
  rw[decide_eq_true rfl,jm]
  intro c hc
  have h1:=ha.2 c hc
  have h2:=hb.2 c hc
  have h3:=ha.2 _ hh
  have h4:=hb.2 _ hh
  exact decide_eq_true (by omega)
 ·rw[decide_eq_false h]
  cases z:cs.all (fun c=>decide (c=cs.headD 0)) with
  |false=>rfl
  |true=>
   rw[jm] at z
   have h1:=of_decide_eq_true (z a ha.1)
   have h2:=of_decide_eq_true (z b hb.1)
   omega
theorem Ux{f:Addr}{fd:gE}(F:Fun K "even_by" "even_by" Nf f fd)(Tx:Txt mg)(G:FnT P w K mg base "nears_of" 1 ["web"] JT):FnOk P w K mg base (CXe P w) 2 f fd ["web"] (DR K MW):=by
 refine AV F Ru ?_ ?_
 ·rintro ts O Φ Ξ ⟨r,⟨n,ps,rfl,_⟩,_⟩
  rfl
 ·rintro cdv A outer s H E O Ξ hr xf _ Φ ⟨_,⟨n,ps,rfl,wn,n0,rfl⟩,q⟩
  have sb:=AZ
  have n1:=wn.n1
  have hlen:(Bb n ps).length=n.toNat:=by simp[Bb]
  have hne:Bb n ps≠[]:=fun z=>by rw[z] at hlen;simp at hlen;omega
  obtain⟨a,ha⟩:=Kr hne
  obtain⟨b,hb⟩:=Nl hne
  have e0:atI ((Bb n ps).map T.int) 0=some (.int ((Bb n ps).headD 0)):=by
   cases z:Bb n ps with
   |nil=>exact absurd z hne
   |cons x xs=>
    show atI _ ((0:Nat):Int)=_
    exact BG rfl
  refine AD (EV (i:=1) (nc:=["near"]) (cap:=[]) (by rfl) Ru.nd rfl (DE (AA Nf) ["web","counts"] (by decide+kernel)) (EI.wi (Ax (Bx G hr xf (AE (ev 0) AC) ⟨n,ps,rfl,wn.n0,wn.n1,wn.hw,wn.hl,rfl⟩)) (Gc (gF n.toNat) (fun i=>T.lst ((AW ps i).map T.int)) (fun i=>T.int (((AW ps i).map T.int).length:Int)) (by simp;omega) (fun x hx=> ⟨[some (.lst ((AW ps x).map T.int))],fun X' Oe He is O'=>?_⟩) ?_)))
  ·obtain⟨cl,s',H',fp,rfl⟩:=is
   exact⟨AO 0 bH (by decide),Iz Tx.nLen (ev 0)⟩
  ·have e1:(gF n.toNat).map (fun i=>T.int (((AW ps i).map T.int).length:Int))=(Bb n ps).map T.int:=by simp[Bb]
   rw[e1]
   refine AG (AR (ET.we (NP (Co (Uv ha Tx.nMin rfl (ev 1)) (Uw hb Tx.nMax rfl (ev 1))) (fun _=>FA (ev 1) AB e0) (fun _=>CH)) ?_))
   have:(if decide (a=b)=true then T.int ((Bb n ps).headD 0) else T.non)=bG (Bb n ps):=by
    unfold bG
    rw[YT ha hb]
   rw[this]
   exact q
end
theorem JW{n:Int}{ps:List (Int×Int)}{i:Nat}(hw:Gi n ps)(hp:ps.Pairwise Ji):(AW ps i).Pairwise (· < ·):=by
 unfold AW
 rw[List.pairwise_filterMap]
 refine iG ?_ hp
 intro p q hp hq h x hx y hy
 have a:=hw p hp
 have b:=hw q hq
 unfold Ji at h
 have f:∀(r:Int×Int) (z:Int),(if r.1=(i:Int) then some r.2 else if r.2=(i:Int) then some r.1 else none)=some z→(r.1=(i:Int)∧r.2=z)∨(r.1≠(i:Int)∧r.2=(i:Int)∧r.1=z):=fun r z e=>by
  by_cases h:r.1=(i:Int)
  ·rw[if_pos h] at e
   cases e
   exact .inl ⟨h,rfl⟩
  ·rw[if_neg h] at e
   by_cases h2:r.2=(i:Int)
   ·rw[if_pos h2] at e
    cases e
    exact .inr ⟨h,h2,rfl⟩
   ·rw[if_neg h2] at e;cases e
 rcases f p x hx with c|c<;>rcases f q y hy with d|d<;>omega
noncomputable def mm(p:Int×Int):Int×Int:=(min p.1 p.2,max p.1 p.2)
section
variable{P:Program}{w:World}{K:a9}{mg:Str→Option Value}{base:Heap}{CP CL:Addr}
theorem YU:(Ah ["a","b"] []).Nodup:=by decide+kernel
noncomputable def Ks:Cp:=fun ts O Φ _=>∃ps:List (Int×Int),ts=[.lst (ps.map Ab)]∧ps.length≤300∧(∀p∈ps,(0≤p.1∧p.1<65536)∧0≤p.2∧p.2<65536)∧
 ∀qs:List (Int×Int),qs.Pairwise Ji→(∀q,q∈qs↔q∈ps.map mm)→qs.length≤ps.length→Φ (.tup (qs.map Ab)) O
theorem Rv:FnScope ["pairs"] ["pairs"] (AA Ed):=⟨rfl,rfl,rfl,by decide+kernel,rfl,by decide+kernel,by decide+kernel⟩
theorem MX{f:Addr}{fd:gE}(F:Fun K "ties_of" "ties_of" Ed f fd)(Tx:Txt mg):FnOk P w K mg base (CXe P w) 1 f fd ["pairs"] (DR K Ks):=by
 refine AV F Rv ?_ ?_
 ·rintro ts O Φ Ξ ⟨ps,rfl,_⟩
  rfl
 ·rintro cdv A outer s H E O Ξ hr xf _ Φ ⟨ps,rfl,hl,hp,q⟩
  have hu:(A.deeper (lz "ties_of" (AA Ed) s.heap.objs.size f cdv)).units+8<cLine:=by have:=hr.un;omega
  have hz:ps.length≤sizeLine:=iq hl (by decide)
  refine AG (AR (GX Tx.nTuple (EX (ps:=ps.map mm) Tx.nSorted Tx.nSet rfl hu ?_ (by simpa using hl) ?_ fun qs h1 h2 h3=> ⟨_,rfl,q qs h1 h2 (by simpa using h3)⟩)))
  ·rw[i6]
   refine JB ["a","b"] [] ps Ab _ rfl (DE (AA Ed) ["pairs"] (by decide+kernel)) (Ax (ev 0)) hz fun x hx=> ⟨[some (.int x.1),some (.int x.2)],fun X' Oe He is O'=>?_⟩
   obtain⟨cl,s',H',fp,rfl⟩:=is
   exact⟨Df 0 1 rfl YU (by decide) (by decide),Bn (AE (NT Tx.nMin rfl (ev 0) (ev 1)) (AE (JA Tx.nMax rfl (ev 0) (ev 1)) AC))⟩
  ·intro z hz
   obtain⟨p,h1,rfl⟩:=gc.mp hz
   have:=hp p h1
   show 0≤max _ _∧max _ _<65536
   omega
end
section
variable{P:Program}{w:World}{K:a9}{mg:Str→Option Value}{base:Heap}{CP CL:Addr}
end
end K34
namespace L2.TL
open PySem PySem.Spec PyProof.Rows
section
variable{Z:Zx}{ρ:List (Option T)}{O:AH}{a:Expr}{t:T}{us:List T}{K:a9}{p1 pos:Pos}
theorem Uy{j:Nat}(hr:Aj t=false)(ha:ET Z ρ O a t):EB Z ρ O (.Compare a [.IsNot] [.Constant .none j p1] pos) (!Ea t):=Au Mt (Ak _) (fun Φ p H v w Q ok r1 r2 q=>by
 refine⟨r2.non_inv,?_⟩
 have e:decide (v=V.non)=Ea t:=by
  cases r1<;>first|rfl|cases hr
 rw[e]
 exact q _ H _ O p (.refl ok) (.bl _)) ha CH
end
noncomputable def AK(ns:List Int):T:=.tup (ns.map T.int)
theorem Cw:∀{ns:List Int},rdBs (ns.map T.int)=true
 | []=>rfl
 |n::ns=>by
  show(CI (.int n)&&rdBs (ns.map T.int))=true
  rw[Cw,CI];rfl
theorem Rx{ns:List Int}:CI (AK ns)=true:=by unfold AK;rw[CI];exact Cw
theorem IF:∀{L:List (List Int)},rdBs (L.map AK)=true
 | []=>rfl
 |x::L=>by
  show(CI (AK x)&&rdBs (L.map AK))=true
  rw[Rx,IF];rfl
theorem EI.cast{Z:Zx}{ρ:List (Option T)}{O:AH}{tg iter:Expr}{ts us:List T}(h:EI Z ρ O tg iter ts)(e:ts=us):EI Z ρ O tg iter us:=e▸h
theorem Dz:∀{ns:List Int},jF (dTs (ns.map T.int))≤1
 | []=>by simp[dTs,jF]
 |n::ns=>by
  have:=Dz (ns:=ns)
  simp only[gH,dTs,jF,dT,iC.depth]
  omega
end L2.TL
namespace K34
open PySem L2 L2.TL PySem.Spec PyProof.Rows Gr
noncomputable def Ef(fs:List (Option Nat)):List Int:=(fs.filter oA).map fun x=> ((x.getD 0:Nat):Int)
theorem Gy:∀{fs:List (Option Nat)},(fs.filter oA).map BY=(Ef fs).map T.int
 | []=>rfl
 |none::fs=>Gy (fs:=fs)
 |some d::fs=>by
  show T.int (d:Int)::(fs.filter oA).map BY=T.int (d:Int)::(Ef fs).map T.int
  rw[Gy]
theorem Uz{fs:List (Option Nat)}{z:Int}:z∈Ef fs↔∃(i d:Nat),fs[i]?=some (some d)∧z=d:=by
 unfold Ef
 rw[gc]
 constructor
 ·rintro⟨x,hx,rfl⟩
  obtain⟨h1,h2⟩:=gq.mp hx
  cases x with
  |none=>cases h2
  |some d=>
   obtain⟨i,hi⟩:=iA h1
   exact⟨i,d,hi,rfl⟩
 ·rintro⟨i,d,h,rfl⟩
  exact⟨some d,gq.mpr ⟨fo h,rfl⟩,rfl⟩
section
variable{P:Program}{w:World}{K:a9}{mg:Str→Option Value}{base:Heap}{CP CL:Addr}
end
end K34
namespace StT
open PySem PySem.SetTable PyProof.Rows
section
variable{prog:Program}{w:World}{A:gx}{E:Value→Shared→Prop}{s:Shared}
variable{a:Addr}{xs:List (Int×Tok)}{o:Obj}{es:Array (Int×Value)}{ep:Nat}{t:iX}
end
section
variable{prog:Program}{w:World}{A:gx}{E:Value→Shared→Prop}{s:Shared}
variable{a:Addr}{xs:List (Int×Tok)}{o:Obj}{es:Array (Int×Value)}{ep:Nat}{t:iX}
end
section
variable{prog:Program}{w:World}{A:gx}{E:Value→Shared→Prop}{s:Shared}
end
open PySem.Calls PySem.W
section
variable{prog:Program}{w:World}{A:gx}{E:Value→Shared→Prop}{s:Shared}
end
end StT
namespace L2
open PySem PySem.Spec PySem.Calls PyProof.Rows
section
variable{X:Cx}
end
end L2
namespace L2.TL
open PySem PySem.Spec PySem.Calls PyProof.Rows
section
variable{Z:Zx}{ρ:List (Option T)}{O:AH}{e:Expr}{Φ:BU}{pos p p1 pos1:Pos}
end
end L2.TL
namespace K34
open PySem L2 L2.TL PySem.Spec PyProof.Rows Gr
noncomputable def Ag(ps:List (Int×Int))(x:Int):List Int:=(ps.filter fun p=>decide (x∈[p.1,p.2])).map fun p=>p.1+p.2-x
theorem FL{ps:List (Int×Int)}{x v:Int}:v∈Ag ps x↔Adj ps x v:=by
 unfold Ag
 rw[gc]
 constructor
 ·rintro⟨p,hp,rfl⟩
  obtain⟨h1,h2⟩:=gq.mp hp
  have h2:x=p.1∨x=p.2:=by simpa using h2
  rcases h2 with h|h
  ·refine .inl ?_
   have e:(x,p.1+p.2-x)=p:=jd h (by show p.1+p.2-x=p.2;omega)
   rw[e];exact h1
  ·refine .inr ?_
   have e:(p.1+p.2-x,x)=p:=jd (by show p.1+p.2-x=p.1;omega) h
   rw[e];exact h1
 ·rintro(h|h)
  ·exact⟨_,gq.mpr ⟨h,by simp⟩,by show x+v-x=v;omega⟩
  ·exact⟨_,gq.mpr ⟨h,by simp⟩,by show v+x-x=v;omega⟩
theorem PN{ps:List (Int×Int)}{x:Int}:(Ag ps x).length≤ps.length:=by
 unfold Ag
 rw[e8]
 exact iM ..
section
variable{P:Program}{w:World}{K:a9}{mg:Str→Option Value}{base:Heap}
variable{f:Addr}{cdv:Value}{A:gx}{outer:List Env}{s:Shared}{H:Hp}{E:XK}{O:AH}{Ξ:Value→AH→Prop}{n:Int}{ps:List (Int×Int)}{S bs:List Int}{l:Addr}
end
end K34
namespace L2.TL
open PySem PySem.Spec PyProof.Rows
section
variable{Z:Zx}{ρ:List (Option T)}{O:AH}{e:Expr}{Φ:BU}{pos p:Pos}{ts:List T}
theorem PP(m:Z.X.mg "list" =none)(h:ET Z ρ O e (.lst ts))(q:∀a,O a=none→Φ (.raw (.ref a)) (Ad O a ts))(hg:Gl Z.X "list":=by rfl)(he:fj [e] Z.X.env=(false,eval e Z.X.env)::fj [] Z.X.env:=by rfl):WE Z ρ O (.Call (.Name "list" p) [e] [] pos) Φ:=
 FB Lr m ah (AN h AC he _ (fun H vs Q ok r k=>by
  obtain⟨v,rfl,r1⟩:=r.one_inv
  obtain⟨a,xs,rfl,h1,_,r1⟩:=r1.lst_inv
  exact⟨a,xs,rfl,.inl (.inl (.inl h1)),fun p hp=>k _ _ _ _ (q p (ok.none_of hp)) (.newO ok hp r1) (.raw _)⟩)) hg (by decide) (by decide) he
end
end L2.TL
namespace K34
open PySem L2 L2.TL PySem.Spec PyProof.Rows GrR
noncomputable def Kt:List Int→Option Int
 | []=>none
 |x::xs=>some (match Kt xs with|none=>x|some m=>min x m)
theorem Fo:∀(ns:List Int),FF ns (Kt ns)
 | []=>rfl
 |x::xs=>by
  have h:=Fo xs
  show FF (x::xs) (some (match Kt xs with|none=>x|some m=>min x m))
  cases e:Kt xs with
  |none=>
   rw[e] at h
   rw[show xs=[] from h]
   exact⟨by simp,fun n hn=>by rw[b9.mp hn];exact jM _⟩
  |some m=>
   rw[e] at h
   refine⟨?_,fun n hn=>?_⟩
   ·rcases nH x m with hx|hx
    ·show min x m∈_
     rw[pe hx];simp
    ·show min x m∈_
     rw[oH hx];exact fk _ h.1
   ·rcases fu.mp hn with rfl|hn
    ·exact Int.min_le_left ..
    ·exact kg (Int.min_le_right ..) (h.2 n hn)
noncomputable def Gz(rows:List (List Int))(a b:Int):List (List Int):=rows.set a.toNat ((rows.getD a.toNat []).filter fun v=>decide (v≠b))
noncomputable def HA(rows:List (List Int))(a b:Int):Option Nat:=(Jk (Rw (Gz rows a b)) [a] b).map (· +1)
theorem MY{rows:List (List Int)}{a b u v:Int}(a0:0≤a)(a1:a<rows.length):Rw (Gz rows a b) u v↔Rw rows u v∧¬(u=a∧v=b):=by
 unfold Rw Gz
 have hlt:a.toNat<rows.length:=by omega
 by_cases hu:u=a
 ·subst hu
  rw[iW,gW hlt]
  simp only[Option.getD_some,gq,decide_eq_true_eq]
  constructor
  ·rintro⟨h0,h1,h2⟩
   exact⟨⟨h0,h1⟩,fun z=>h2 z.2⟩
  ·rintro⟨⟨h0,h1⟩,h2⟩
   exact⟨h0,h1,fun z=>h2 ⟨trivial,z⟩⟩
 ·constructor
  ·rintro⟨h0,h1⟩
   rw[iW,gQ (by omega),←iW] at h1
   exact⟨⟨h0,h1⟩,fun z=>hu z.1⟩
  ·rintro⟨⟨h0,h1⟩,_⟩
   refine⟨h0,?_⟩
   rw[iW,gQ (by omega),←iW]
   exact h1
theorem YV{n:Int}{rows:List (List Int)}{a b:Int}(rn:RowsN n rows)(a0:0≤a)(a1:a<n):RowsN n (Gz rows a b):=
 ⟨by unfold Gz;rw[kA];exact rn.len,rn.n1,fun u v h=>rn.hw u v ((MY a0 (by have:=rn.len;omega)).mp h).1⟩
noncomputable def BZ(n:Int)(ps:List (Int×Int)):List (List Int):=(gF n.toNat).map fun i=>AW ps i
theorem PQ{n:Int}{ps:List (Int×Int)}:Gv n ps=Gx (BZ n ps):=by
 unfold Gv BZ
 show _=T.lst (((gF n.toNat).map fun i=>AW ps i).map fun r=>T.lst (r.map T.int))
 rw[i6]
 rfl
theorem Ku{n:Int}{ps:List (Int×Int)}{i:Nat}(h:(i:Int)<n):(BZ n ps).getD i []=AW ps i:=by
 unfold BZ
 rw[iW,fq,j8 (by omega)]
 rfl
theorem JX{n:Int}{ps:List (Int×Int)}(hw:Gr.Gi n ps){u v:Int}:Rw (BZ n ps) u v↔Gr.Adj ps u v:=by
 constructor
 ·rintro⟨h0,h⟩
  obtain⟨i,rfl⟩:=gO h0
  rw[iy] at h
  by_cases hi:(i:Int)<n
  ·rw[Ku hi] at h
   exact(IE hw).mp h
  ·unfold BZ at h
   rw[iW,fq,kr (by rw[iL];omega)] at h
   cases h
 ·intro a
  have hb:=a.symm.inb hw
  obtain⟨i,rfl⟩:=gO hb.1
  refine⟨by omega,?_⟩
  rw[iy,Ku hb.2.1]
  exact(IE hw).mpr a
theorem Nn{n:Int}{ps:List (Int×Int)}(wn:WebN n ps):RowsN n (BZ n ps):=
 ⟨by have:=wn.n0;unfold BZ;simp;omega,wn.n1,fun u v h=>by have:=((JX wn.hw).mp h).inb wn.hw;exact⟨this.1,this.2.1⟩⟩
section
variable{P:Program}{w:World}{K:a9}{mg:Str→Option Value}{base:Heap}{CP CL:Addr}
noncomputable def Vw:Cp:=NQ fun ts r=>∃xs:List (Option Nat),ts=[.lst (xs.map BY)]∧xs.length≤300∧r=JJ (Kt (Ef xs))
theorem bI:FnScope ["numbers"] ["numbers"] (AA JQ):=⟨rfl,rfl,rfl,by decide+kernel,rfl,by decide+kernel,by decide+kernel⟩
theorem bJ:(Ah ["number"] []).Nodup:=by decide+kernel
theorem Ry{f:Addr}{fd:gE}(F:Fun K "least_told" "least_told" JQ f fd)(Tx:Txt mg):FnOk P w K mg base (CXe P w) 1 f fd ["numbers"] (DR K Vw):=by
 refine AV F bI ?_ ?_
 ·rintro ts O Φ Ξ ⟨r,⟨xs,rfl,_⟩,_⟩
  rfl
 ·rintro cdv A outer s H E O Ξ hr xf _ Φ ⟨_,⟨xs,rfl,hl,rfl⟩,q⟩
  have sb:=AZ
  refine AG (AR (ET.we (Ub (Fo _) Tx.nMin rfl (ET.cast (Ds ["number"] [] xs BY BY oA rfl (DE (AA JQ) ["numbers"] (by decide+kernel)) (Ax (ev 0)) (by omega) fun x hx=> ⟨[some (BY x)],fun X' Oe He is O'=>?_⟩) (by rw[Gy]))) q))
  obtain⟨cl,s',H',fp,rfl⟩:=is
  refine⟨AO 0 bJ (by decide),EB.cast (Uy Km (ev 0)) ?_,fun _=>ev 0⟩
  cases x<;>rfl
noncomputable def Vx:Cp:=NQ fun ts r=>∃(n:Int) (rows:List (List Int)) (a b:Int),ts=[Gx rows,.int a,.int b]∧RowsN n rows∧(∀r∈rows,r.length≤300)∧(0≤a∧a<n)∧(0≤b∧b<n)∧r=BY (HA rows a b)
noncomputable def bK:List Str:=["nears","a","b","cut","far"]
theorem Rz:FnScope bK ["nears","a","b"] (AA Uq):=⟨rfl,rfl,rfl,by decide+kernel,rfl,by decide+kernel,by decide+kernel⟩
theorem bL:(Ah ["near"] [(("b" :Str),2)]).Nodup:=by decide+kernel
theorem YW{f:Addr}{fd:gE}(F:Fun K "ring_by_tie" "ring_by_tie" Uq f fd)(Tx:Txt mg)(G:FnT P w K mg base "fars_from" 1 ["nears","starts"] Nk):FnOk P w K mg base (CXe P w) 2 f fd ["nears","a","b"] (DR K Vx):=by
 refine AV F Rz ?_ ?_
 ·rintro ts O Φ Ξ ⟨r,⟨n,rows,a,b,rfl,_⟩,_⟩
  rfl
 ·rintro cdv A outer s H E O Ξ hr xf _ Φ ⟨_,⟨n,rows,a,b,rfl,rn,hlr,ha,hb,rfl⟩,q⟩
  have sb:=AZ
  have hl:=rn.len
  have n1:=rn.n1
  obtain⟨i,rfl⟩:=gO ha.1
  obtain⟨j,rfl⟩:=gO hb.1
  have hi:i<rows.length:=by omega
  have hri:(rows.getD i []).length≤300:=hlr _ (by rw[iW,gm hi];exact jk hi)
  refine AD (AS 3 (PP Tx.nList (ev 0) fun l hlO=>?_) Rz.nd)
  refine AD (GW (ET.we (t:=.lst (((rows.getD i []).filter fun v=>decide (v≠(j:Int))).map T.int)) (Ds ["near"] [("b",2)] (rows.getD i []) T.int T.int (fun v=>decide (v≠(j:Int))) rfl (DE (AA Uq) bK (by decide+kernel)) (Ax (FA (ev 0) (ev 1) (Nj hi))) (by omega) fun x hx=> ⟨[some (.int x),some (.int (j:Int))],fun X' Oe He is O'=>?_⟩) (ET.we (ev 3) ⟨l,rfl,ET.we (ev 1) ⟨_,_,i,rfl,AF,by rw[e8];exact JV hi,?_⟩⟩)))
  ·obtain⟨cl,s',H',fp,rfl⟩:=is
   refine⟨AO 0 bL (by decide),EB.cast (Xh (ev 0) (ev 1)) ?_,fun _=>ev 0⟩
   by_cases h:x=(j:Int)<;>simp[h]
  ·rw[BO]
   have eset:(rows.map fun r=>T.lst (r.map T.int)).set i (.lst (((rows.getD i []).filter fun v=>decide (v≠(j:Int))).map T.int))=(Gz rows (i:Int) (j:Int)).map fun r=>T.lst (r.map T.int):=by
    unfold Gz
    rw[oU,iy]
   rw[eset]
   refine BQ (p:=l) (n:=3) AF hlO rfl ?_
   rw[Am hlO]
   refine AD (AS 4 (NM Cc (fun _ _=>rfl) (AX G hr xf (EA.wa (AE (ev 3) (AE (Bo (ts:=[(i:Int)].map T.int) (AE (ev 1) AC) (by show 1≤sizeLine;decide)) AC)) ⟨n,Gz rows i j,[(i:Int)],rfl,YV rn ha.1 ha.2,fun z hz=>?_,fun fs al=>?_⟩))) Rz.nd)
   ·rw[b9.mp hz];exact ha
   ·have hlf:=al.len
    have hg:=al.get hb.1 hb.2
    rw[iy] at hg
    refine ET.we (ev 2) (Ir (t:=BY (Jk (Rw (Gz rows i j)) [(i:Int)] j)) (BG (by rw[fq,hg];rfl)) _ ?_)
    unfold HA at q
    generalize Jk (Rw (Gz rows i j)) [(i:Int)] j=x at q
    cases x with
    |none=>exact AG (AR (ET.we (NP (x:=true) (ta:=.non) (tb:=.non) (MG (t:=.non) rfl (ev 4)) (fun _=>CH) (fun h=>by cases h)) q))
    |some d=>exact AG (AR (ET.we (NP (x:=false) (ta:=.non) (tb:=.int ((d:Int)+1)) (MG (t:=.int (d:Int)) rfl (ev 4)) (fun h=>by cases h) (fun _=>Bp (ev 4) AB)) q))
theorem SA{n:Int}{ps:List (Int×Int)}(wn:WebN n ps):∀r∈BZ n ps,r.length≤300:=fun r hr=>by
 unfold BZ at hr
 obtain⟨i,_,rfl⟩:=gc.mp hr
 have:=Cv (qs:=ps) (i:=i)
 have:=wn.hl
 omega
end
end K34
namespace L2.TL
open PySem PySem.Spec PyProof.Rows
section
variable{Z:Zx}{ρ:List (Option T)}{O:AH}{a:Expr}{t:T}{p1 pos:Pos}
theorem YX{j:Nat}(hr:Aj t=false)(ha:ET Z ρ O a t):ET Z ρ O (.Compare a [.Is] [.Constant .none j p1] pos) (.bl (Ea t)):=Ey Pq (Ak _) (fun Φ p H v w Q ok r1 r2 q=>by
 refine⟨r2.non_inv,?_⟩
 have e:decide (v=V.non)=Ea t:=by
  cases r1<;>first|rfl|cases hr
 rw[e]
 exact q _ H _ O p (.refl ok) (.bl _)) ha CH
end
end L2.TL
namespace K34
open PySem L2 L2.TL PySem.Spec PyProof.Rows GrR
noncomputable def Bt(ps:List (Int×Int))(t:Int×Int):List (Int×Int):=ps.filter fun q=>decide (q≠t)
noncomputable def Eg(ps:List (Int×Int))(t:Int×Int):Option Nat:=(Jk (Gr.Adj (Bt ps t)) [t.1] t.2).map (· +1)
theorem DW{n:Int}{ps:List (Int×Int)}(hw:Gr.Gi n ps){a b u v:Int}:Gr.Adj (Bt ps (mm (a,b))) u v↔Gr.Adj ps u v∧¬(u=a∧v=b)∧¬(u=b∧v=a):=by
 have key:∀x y:Int,(x,y)∈Bt ps (mm (a,b))↔(x,y)∈ps∧¬(x=a∧y=b)∧¬(x=b∧y=a):=fun x y=>by
  unfold Bt
  rw[gq,decide_eq_true_eq]
  constructor
  ·rintro⟨h,hne⟩
   have hxy:=(hw _ h).2.1
   simp only at hxy
   refine⟨h,fun⟨e1,e2⟩=>hne ?_,fun⟨e1,e2⟩=>hne ?_⟩
   ·subst e1 e2;exact jd (by show x=min x y;omega) (by show y=max x y;omega)
   ·subst e1 e2;exact jd (by show x=min y x;omega) (by show y=max y x;omega)
  ·rintro⟨h,h1,h2⟩
   refine⟨h,fun e=>?_⟩
   have e1:x=min a b:=congrArg jw e
   have e2:y=max a b:=congrArg Prod.snd e
   rcases nH a b with hab|hab
   ·exact h1 ⟨by omega,by omega⟩
   ·exact h2 ⟨by omega,by omega⟩
 unfold Gr.Adj
 rw[key,key]
 constructor
 ·rintro(⟨h,h1,h2⟩| ⟨h,h1,h2⟩)
  ·exact⟨.inl h,h1,h2⟩
  ·exact⟨.inr h,fun z=>h2 ⟨z.2,z.1⟩,fun z=>h1 ⟨z.2,z.1⟩⟩
 ·rintro⟨h|h,h1,h2⟩
  ·exact .inl ⟨h,h1,h2⟩
  ·exact .inr ⟨h,fun z=>h2 ⟨z.2,z.1⟩,fun z=>h1 ⟨z.2,z.1⟩⟩
theorem SB{n:Int}{ps:List (Int×Int)}(wn:WebN n ps){a b:Int}(ad:Gr.Adj ps a b):HA (BZ n ps) a b=Eg ps (mm (a,b)):=by
 have ha:=ad.symm.inb wn.hw
 have hl:=(Nn wn).len
 have e1:Jk (Rw (Gz (BZ n ps) a b)) [a] b=Jk (Gr.Adj (Bt ps (mm (a,b)))) [a] b:=Hz fun d=>UV
  (fun u v h=> (MY ha.1 (by omega)).mpr ⟨(JX wn.hw).mpr ((DW wn.hw).mp h).1,((DW wn.hw).mp h).2.1⟩)
  (fun u v h=>by
   obtain⟨h1,h2⟩:=(MY ha.1 (by omega)).mp h
   by_cases hu:u=b∧v=a
   ·exact .inr hu.1
   ·exact .inl ((DW wn.hw).mpr ⟨(JX wn.hw).mp h1,h2,hu⟩))
 unfold HA Eg
 rw[e1]
 congr 1
 rcases nH a b with hab|hab
 ·have:mm (a,b)=(a,b):=jd (by show min a b=a;omega) (by show max a b=b;omega)
  rw[this]
 ·have:mm (a,b)=(b,a):=jd (by show min a b=b;omega) (by show max a b=a;omega)
  rw[this]
  exact Hz fun d=>UW fun u v h=>Gr.Adj.symm h
theorem SC{n:Int}{ps:List (Int×Int)}(hw:Gr.Gi n ps){p:Int×Int}(h:p∈ps):mm p=p∧mm (p.2,p.1)=p:=by
 have:=(hw _ h).2.1
 exact⟨jd (by show min p.1 p.2=p.1;omega) (by show max p.1 p.2=p.2;omega),jd (by show min p.2 p.1=p.1;omega) (by show max p.2 p.1=p.2;omega)⟩
section
variable{P:Program}{w:World}{K:a9}{mg:Str→Option Value}{base:Heap}{CP CL:Addr}
end
end K34
namespace L2.TL
open PySem PySem.Spec PyProof.Rows
section
variable{Z:Zx}{ρ:List (Option T)}{O:AH}{e lo:Expr}{p2 pos:Pos}{ts:List T}{i:Int}
end
end L2.TL
namespace K34
open PySem L2 L2.TL PySem.Spec PyProof.Rows Gr
noncomputable def HY(b:Int):Nat→Int
 |0=>0
 |n+1=>HY b n+b^n
noncomputable def grown(d:Int)(g:Nat):Int:=if g%2=1 then 1+d*HY (d-1) (g/2) else 2*HY (d-1) (g/2)
section
variable{P:Program}{w:World}{K:a9}{mg:Str→Option Value}{base:Heap}{CN CE CP CL:Addr}
noncomputable def VA(CN:Addr)(a b:Int):Cp:=fun ts O Φ Ξ=>∃t,ts=[t]∧Aj t=false∧(Cu t a b=true→Φ .non O)∧(Cu t a b=false→Ξ (.ref CN) O)
theorem YY:FnScope ["d"] ["d"] (AA Ra):=⟨rfl,rfl,rfl,by decide+kernel,rfl,by decide+kernel,by decide+kernel⟩
theorem VB{f:Addr}{fd:gE}(F:Fun K "need_ties" "need_ties" Ra f fd)(Tx:Txt mg)(G:FnT P w K mg base "need_number" 2 ["thing","least","most"] (Nm CN)):FnOk P w K mg base (CXe P w) 3 f fd ["d"] (DR K (VA CN 2 15)):=by
 refine AV F YY ?_ ?_
 ·rintro ts O Φ Ξ ⟨t,rfl,_⟩
  rfl
 ·rintro cdv A outer s H E O Ξ hr xf _ Φ ⟨t,rfl,ht,q1,q2⟩
  exact AG (Ao (AX G hr xf (EA.wa (AE (ev 0) (AE (Bv Tx.iLT) (AE (Bv Tx.iMT) AC))) ⟨t,2,15,rfl,ht,q1,q2⟩)))
theorem YZ:FnScope ["g"] ["g"] (AA Rb):=⟨rfl,rfl,rfl,by decide+kernel,rfl,by decide+kernel,by decide+kernel⟩
theorem VC{f:Addr}{fd:gE}(F:Fun K "need_ring" "need_ring" Rb f fd)(Tx:Txt mg)(G:FnT P w K mg base "need_number" 2 ["thing","least","most"] (Nm CN)):FnOk P w K mg base (CXe P w) 3 f fd ["g"] (DR K (VA CN 3 16)):=by
 refine AV F YZ ?_ ?_
 ·rintro ts O Φ Ξ ⟨t,rfl,_⟩
  rfl
 ·rintro cdv A outer s H E O Ξ hr xf _ Φ ⟨t,rfl,ht,q1,q2⟩
  exact AG (Ao (AX G hr xf (EA.wa (AE (ev 0) (AE (Bv Tx.iLR) (AE (Bv Tx.iMR) AC))) ⟨t,3,16,rfl,ht,q1,q2⟩)))
noncomputable def Yb(CN:Addr):Cp:=fun ts O Φ Ξ=>∃t u,ts=[t,u]∧Aj t=false∧Aj u=false∧(Cu t 2 15=true→Cu u 3 16=true→Φ .non O)∧(Cu t 2 15=false∨Cu u 3 16=false→Ξ (.ref CN) O)
theorem dt:FnScope ["d","g"] ["d","g"] (AA dm):=⟨rfl,rfl,rfl,by decide+kernel,rfl,by decide+kernel,by decide+kernel⟩
theorem bM{f:Addr}{fd:gE}(F:Fun K "need_ties_and_ring" "need_ties_and_ring" dm f fd)(G:FnT P w K mg base "need_ties" 3 ["d"] (VA CN 2 15))(G2:FnT P w K mg base "need_ring" 3 ["g"] (VA CN 3 16)):FnOk P w K mg base (CXe P w) 4 f fd ["d","g"] (DR K (Yb CN)):=by
 refine AV F dt ?_ ?_
 ·rintro ts O Φ Ξ ⟨t,u,rfl,_⟩
  rfl
 ·rintro cdv A outer s H E O Ξ hr xf _ Φ ⟨t,u,rfl,ht,hu,q1,q2⟩
  refine AD (Ao (AX G hr xf (EA.wa (AE (ev 0) AC) ⟨t,rfl,ht,fun h=>?_,fun h=>q2 (.inl h)⟩)))
  exact AG (Ao (AX G2 hr xf (EA.wa (AE (ev 1) AC) ⟨u,rfl,hu,fun h2=>q1 h h2,fun h=>q2 (.inr h)⟩)))
noncomputable def Vy:Cp:=NQ fun ts r=>∃(b:Int) (m:Nat),ts=[.int b,.int (m:Int)]∧(0≤b∧b<100)∧m≤100∧r=.int (HY b m)
noncomputable def du:List Str:=["base","many","total","power","step"]
theorem IG:FnScope du ["base","many"] (AA YL):=⟨rfl,rfl,rfl,by decide+kernel,rfl,by decide+kernel,by decide+kernel⟩
theorem Yc{f:Addr}{fd:gE}(F:Fun K "sum_of_powers" "sum_of_powers" YL f fd)(Tx:Txt mg):FnOk P w K mg base (CXe P w) 1 f fd ["base","many"] (DR K Vy):=by
 refine AV F IG ?_ ?_
 ·rintro ts O Φ Ξ ⟨r,⟨b,m,rfl,_⟩,_⟩
  rfl
 ·rintro cdv A outer s H E O Ξ hr xf _ Φ ⟨_,⟨b,m,rfl,hb,hm,rfl⟩,q⟩
  refine AD (AS 2 (ET.we AB ?_) IG.nd)
  refine AD (AS 3 (ET.we AB ?_) IG.nd)
  refine AD (Av AY.own rfl (EI.wi (BW Tx.nRange (ev 1) ⟨by omega,by omega⟩) ⟨fun i ρ' O'=>∃v4,ρ'=[some (.int b),some (.int (m:Int)),some (.int (HY b i)),some (.int (b^i)),v4]∧O=O',⟨none,by rw[Int.pow_zero];rfl,rfl⟩,?_,?_⟩))
  ·rintro i t _ _ e ⟨v4,rfl,rfl⟩
   refine⟨[some (.int b),some (.int (m:Int)),some (.int (HY b i)),some (.int (b^i)),some t],AO 4 IG.nd (by show 4<5;decide),?_⟩
   refine AD (MA 2 Pl rfl (ET.we (ev 3) (fun H v w Q ok r1 r2 acc=> ⟨_,_,r1.int_inv,r2.int_inv,acc _ H (.int (HY b (i+1))) _ ?_ (.refl ok) (.int _)⟩)) IG.nd)
   refine AG (MA 3 XS rfl (ET.we (ev 0) (fun H v w Q ok r1 r2 acc=> ⟨_,_,r1.int_inv,r2.int_inv,.inr ⟨by omega,by omega⟩,acc _ H (.int (b^(i+1))) _ ⟨_,rfl,rfl⟩ (.refl ok) (by rw[oW];exact .int _)⟩)) IG.nd)
  ·rintro _ _ ⟨v4,rfl,rfl⟩
   refine AG (AR (ET.we (t:=.int (HY b m)) (ev 2 ?_) q))
   rw[Af,iy]
   rfl
noncomputable def Np:Cp:=NQ fun ts r=>∃(d:Int) (g:Nat),ts=[.int d,.int (g:Int)]∧(1≤d∧d<100)∧g≤100∧r=.int (grown d g)
theorem Nq:FnScope ["d","g","powers"] ["d","g"] (AA MP):=⟨rfl,rfl,rfl,by decide+kernel,rfl,by decide+kernel,by decide+kernel⟩
theorem SD{f:Addr}{fd:gE}(F:Fun K "grown_places" "grown_places" MP f fd)(G:FnT P w K mg base "sum_of_powers" 1 ["base","many"] Vy):FnOk P w K mg base (CXe P w) 2 f fd ["d","g"] (DR K Np):=by
 refine AV F Nq ?_ ?_
 ·rintro ts O Φ Ξ ⟨r,⟨d,g,rfl,_⟩,_⟩
  rfl
 ·rintro cdv A outer s H E O Ξ hr xf _ Φ ⟨_,⟨d,g,rfl,hd,hg,rfl⟩,q⟩
  refine AD (AS 2 (ET.we (Bx G hr xf (AE (GU (ev 0) AB) (AE (De (ev 1) AB ⟨by decide,by decide⟩) AC)) ⟨d-1,g/2,rfl,⟨by omega,by omega⟩,by omega,rfl⟩) ?_) Nq.nd)
  refine AG (AR (ET.we (ET.cast (NP (Co (DP (ev 1) AB (by decide)) AB) (fun _=>Bp AB (Ez (ev 0) (ev 2) (.inl ⟨by omega,by omega⟩))) (fun _=>Ez AB (ev 2) (.inl ⟨by decide,by decide⟩))) ?_) q))
  unfold grown
  by_cases h:g%2=1
  ·rw[if_pos h,decide_eq_true (by omega:(g:Int)%2=1)];rfl
  ·rw[if_neg h,decide_eq_false (by omega:¬(g:Int)%2=1)];rfl
theorem FU{i a b:Int}(h0:a≤i)(h1:i≤b):Cu (.int i) a b=true:=by
 show(decide (a≤i)&&decide (i≤b))=true
 simp
 omega
end
open GrR
variable{n:Int}{ps:List (Int×Int)}{s:Nat}
theorem HB:∀u v,Gr.Adj ps u v→Gr.Adj ps v u:=fun _ _ h=>h.symm
theorem HC:∀u v,v∈Ag ps u↔Gr.Adj ps u v:=fun _ _=>FL
theorem FM(hw:Gr.Gi n ps){i:Nat}:AW ps i=Ag ps (i:Int):=by
 unfold AW Ag
 induction ps with
 |nil=>rfl
 |cons p ps ih=>
  have ih:=ih fun q hq=>hw q (fk _ hq)
  have hp:=hw p (by simp)
  by_cases h1:p.1=(i:Int)
  ·rw[i7,if_pos h1,jl,if_pos (by simp[h1]),gH,←ih,show p.1+p.2- (i:Int)=p.2 by omega]
  ·by_cases h2:p.2=(i:Int)
   ·rw[i7,if_neg h1,if_pos h2,jl,if_pos (by simp[h2]),gH,←ih,show p.1+p.2- (i:Int)=p.1 by omega]
   ·rw[i7,if_neg h1,if_neg h2,jl,if_neg (by simp only[fu,iU,or_false,decide_eq_true_eq];exact fun z=>z.elim (fun z=>h1 z.symm) (fun z=>h2 z.symm))]
    exact ih
theorem VD(hw:Gr.Gi n ps){u:Int}(h:u<0):Ag ps u=[]:=by
 cases e:Ag ps u with
 |nil=>rfl
 |cons v l=>
  have:Gr.Adj ps u v:=FL.mp (by rw[e];simp)
  have:=(this.symm.inb hw).1
  omega
theorem PR(hw:Gr.Gi n ps)(hp:ps.Pairwise Ji):∀u,(Ag ps u).Pairwise (· < ·):=fun u=>by
 by_cases h:u<0
 ·rw[VD hw h];exact gS.nil
 ·obtain⟨i,rfl⟩:=gO (show 0≤u by omega)
  rw[←FM hw]
  exact JW hw hp
theorem Kv(hw:Gr.Gi n ps):∀u v,Gr.Adj ps u v→0≤v∧v<n:=fun u v h=> ⟨(h.inb hw).1,(h.inb hw).2.1⟩
theorem Kw(hw:Gr.Gi n ps)(hp:ps.Pairwise Ji):∀u,(Ag ps u).Nodup:=fun u=>gS.imp (fun h=>by omega) (PR hw hp u)
noncomputable def LI(ps:List (Int×Int)):Option Int:=Kt (Ef (ps.map fun p=>Eg ps p))
theorem Eh(hw:Gr.Gi n ps){p:Int×Int}(hp:p∈ps):Gr.Adj (Bt ps p)=RI (Gr.Adj ps) p.1 p.2:=by
 funext u v
 have:=DW hw (a:=p.1) (b:=p.2) (u:=u) (v:=v)
 rw[(SC hw hp).1] at this
 exact propext this
theorem Kx{z:Int}:z∈Ef (ps.map fun p=>Eg ps p)↔∃p∈ps,∃d:Nat,Jk (Gr.Adj (Bt ps p)) [p.1] p.2=some d∧z=d+1:=by
 rw[Uz]
 constructor
 ·rintro⟨i,d,h,rfl⟩
  rw[fq] at h
  cases e:ps[i]? with
  |none=>rw[e] at h;cases h
  |some p=>
   rw[e] at h
   have h:Eg ps p=some d:=by simpa using h
   unfold Eg at h
   cases e2:Jk (Gr.Adj (Bt ps p)) [p.1] p.2 with
   |none=>rw[e2] at h;cases h
   |some d'=>
    rw[e2] at h
    have:d'+1=d:=by simpa using h
    exact⟨p,fo e,d',e2,by omega⟩
 ·rintro⟨p,hp,d,h,rfl⟩
  obtain⟨i,hi,rfl⟩:=mf hp
  refine⟨i,d+1,?_,by omega⟩
  rw[fq,gm hi]
  unfold Eg
  simp[h]
theorem Fp(hw:Gr.Gi n ps){r:List Int}(h:Ring (Gr.Adj ps) r):∃m,LI ps=some m∧m≤r.length:=by
 obtain⟨a,b,hab,w⟩:=RJ h
 have key:∃z,z∈Ef (ps.map fun p=>Eg ps p)∧z≤r.length:=by
  have hl:=h.len
  have fin:∀p∈ps,W (RI (Gr.Adj ps) p.1 p.2) [p.1] (r.length-1) p.2→∃z,z∈Ef (ps.map fun p=>Eg ps p)∧z≤r.length:=fun p hp w=>by
   obtain⟨d,hd,hD⟩:=w.least
   rw[←Eh hw hp] at hD
   exact⟨d+1,Kx.mpr ⟨p,hp,d,DU hD,rfl⟩,by omega⟩
  have sy:∀u v,RI (Gr.Adj ps) a b u v→RI (Gr.Adj ps) a b v u:=fun u v c=> ⟨c.1.symm,fun e=>c.2.2 ⟨e.2,e.1⟩,fun e=>c.2.1 ⟨e.2,e.1⟩⟩
  have sw:∀u v,RI (Gr.Adj ps) a b u v→RI (Gr.Adj ps) b a u v:=fun u v c=> ⟨c.1,c.2.2,c.2.1⟩
  rcases hab with hm|hm
  ·exact fin (a,b) hm (w.rev sy)
  ·exact fin (b,a) hm (w.mono sw)
 obtain⟨z,hz,hle⟩:=key
 have hm:=Fo (Ef (ps.map fun p=>Eg ps p))
 unfold LI
 cases e:Kt (Ef (ps.map fun p=>Eg ps p)) with
 |none=>rw[e] at hm;have hm:Ef (ps.map fun p=>Eg ps p)=[]:=hm;rw[hm] at hz;cases hz
 |some m=>
  rw[e] at hm
  exact⟨m,rfl,kg (hm.2 z hz) hle⟩
theorem SE(hw:Gr.Gi n ps){m:Int}(h:LI ps=some m):∃r,Ring (Gr.Adj ps) r∧(r.length:Int)=m:=by
 have hm:=Fo (Ef (ps.map fun p=>Eg ps p))
 unfold LI at h
 rw[h] at hm
 obtain⟨p,hp,d,hd,rfl⟩:=Kx.mp hm.1
 rw[Eh hw hp] at hd
 obtain⟨r,h1,h2⟩:=NY HB (fun u hu=> (hu.inb hw).2.2 rfl) (show Gr.Adj ps p.1 p.2 from .inl hp) (Fk.mp hd)
 exact⟨r,h1,by rw[h2];rfl⟩
theorem SF(hw:Gr.Gi n ps){r:List Int}(h:Ring (Gr.Adj ps) r):(r.length:Int)≤n∧3≤r.length:=by
 have:=Gr.DT (n:=n) h.nd (JH (Kv hw) h)
 have:=h.len
 omega
theorem JY(hw:Gr.Gi n ps){m:Int}(h:LI ps=some m):∃k:Nat,m=k∧3≤k∧(k:Int)≤n∧(∀M,Ring (Gr.Adj ps) M→k≤M.length)∧∃r,Ring (Gr.Adj ps) r∧r.length=k:=by
 obtain⟨r,h1,h2⟩:=SE hw h
 have hl:=SF hw h1
 refine⟨r.length,h2.symm,hl.2,hl.1,fun M hM=>?_,r,h1,rfl⟩
 obtain⟨m',e,hle⟩:=Fp hw hM
 rw[h] at e
 cases e
 omega
end K34
namespace L2
open PySem PySem.Spec PySem.Calls PyProof.Rows
section
variable{X:Cx}
end
end L2
namespace L2.TL
open PySem PySem.Spec PySem.Calls PyProof.Rows
section
variable{Z:Zx}{ρ:List (Option T)}{O:AH}{e:Expr}{p pos:Pos}{ns:List Int}
end
end L2.TL
namespace K34
open PySem L2 L2.TL PySem.Spec PyProof.Rows GrR
theorem bN{n:Int}{ps:List (Int×Int)}(wn:WebN n ps):Kt (Ef (ps.map fun p=>HA (BZ n ps) p.1 p.2))=LI ps:=by
 unfold LI
 congr 2
 refine me fun p hp=>?_
 rw[SB wn (show Gr.Adj ps p.1 p.2 from .inl hp)]
 exact congrArg (Eg ps) (SC wn.hw hp).1
theorem bO:(Ah ["a","b"] [(("nears" :Str),1)]).Nodup:=by decide+kernel
section
variable{P:Program}{w:World}{K:a9}{mg:Str→Option Value}{base:Heap}
noncomputable def Nr:Cp:=NQ fun ts r=>∃n ps,ts=[Fb n ps]∧WebN n ps∧r=JJ (LI ps)
theorem Nt:FnScope ["web","nears"] ["web"] (AA JR):=⟨rfl,rfl,rfl,by decide+kernel,rfl,by decide+kernel,by decide+kernel⟩
theorem SG{f:Addr}{fd:gE}(F:Fun K "shortest" "shortest" JR f fd)(G:FnT P w K mg base "nears_of" 1 ["web"] JT)(Gr:FnT P w K mg base "ring_by_tie" 2 ["nears","a","b"] Vx)(Gl:FnT P w K mg base "least_told" 1 ["numbers"] Vw):FnOk P w K mg base (CXe P w) 3 f fd ["web"] (DR K Nr):=by
 refine AV F Nt ?_ ?_
 ·rintro ts O Φ Ξ ⟨r,⟨n,ps,rfl,_⟩,_⟩
  rfl
 ·rintro cdv A outer s H E O Ξ hr xf _ Φ ⟨_,⟨n,ps,rfl,wn,rfl⟩,q⟩
  have sb:=AZ
  have hl:=wn.hl
  refine AD (AS 1 (ET.we (Bx G (hr.mono (by decide)) xf (AE (ev 0) AC) ⟨n,ps,rfl,wn.n0,wn.n1,wn.hw,wn.hl,rfl⟩) ?_) Nt.nd)
  rw[PQ,←bN wn] at*
  refine AG (AR (ET.we (Bx Gl (hr.mono (by decide)) xf (AE (JB ["a","b"] [("nears",1)] ps Ab (fun p=>BY (HA (BZ n ps) p.1 p.2)) rfl (DE (AA JR) ["web","nears"] (by decide+kernel)) (DS (Dq (ev 0) AB)) (by omega) fun p hp=> ⟨[some (.int p.1),some (.int p.2),some (Gx (BZ n ps))],fun X' Oe He is O'=>?_⟩) AC) ⟨ps.map fun p=>HA (BZ n ps) p.1 p.2,by rw[i6];rfl,by rw[e8];omega,rfl⟩) q))
  obtain⟨cl,s',H',fp,rfl⟩:=is
  have hb:=wn.hw p hp
  exact⟨Df 0 1 rfl bO (by decide) (by decide),Bx Gr hr Fj (AE (ev 2) (AE (ev 0) (AE (ev 1) AC))) ⟨n,BZ n ps,p.1,p.2,rfl,Nn wn,SA wn,by omega,by omega,rfl⟩⟩
end
structure WebR(n:Int)(ps:List (Int×Int)):Prop where
 wn:WebN n ps
 hp:ps.Pairwise Ji
 n0:1≤n
 n1:n≤20
section
variable{P:Program}{w:World}{K:a9}{mg:Str→Option Value}{base:Heap}
end
end K34
namespace L2
open PySem PySem.Spec PyProof.Rows
section
variable{X:Cx}{pos:Pos}
theorem bP{v w u:V}{us:List Value}(r:Vals [v,w,u] us):∃u1 u2 u3,us=[u1,u2,u3]∧RelV v u1∧RelV w u2∧RelV u u3:=by
 cases r with
 |cons p q=>
  cases q with
  |cons p' q'=>
   cases q' with
   |cons p2 q2=>
    cases q2
    exact⟨_,_,_,rfl,p,p',p2⟩
noncomputable def bQ(i j m:Nat)(ta:TA):TS:=fun D σ H=>ta σ H fun vs H1=>∃v w u,vs=[v,w,u]∧D.nx (((σ.set i (some v)).set j (some w)).set m (some u)) H1
theorem VE{i j m:Nat}{x y z:Str}{a b c:Expr}{ta:TA}{px py pz pt:Pos}{kt k2 pt2}(hc:X.calm=true)(hN:X.N.Nodup)(hi:X.N[i]?=some x)(hj:X.N[j]?=some y)(hm:X.N[m]?=some z)(hij:i≠j)(him:i≠m)(hjm:j≠m)
  (hx:X.env.scope.names.lookup x=some .local) (hy:X.env.scope.names.lookup y=some .local) (hz:X.env.scope.names.lookup z=some .local) (ha:PA X [a,b,c] ta)
  (hw:lK [.Tuple [.Name x px,.Name y py,.Name z pz] kt pt] (.Tuple [a,b,c] k2 pt2) X.env=pure (some [x,y,z]))
  (hs:lJ [.Tuple [.Name x px,.Name y py,.Name z pz] kt pt] (.Tuple [a,b,c] k2 pt2) pos.line X.env=pure false):
  PS X (.Assign [.Tuple [.Name x px,.Name y py,.Name z pz] kt pt] (.Tuple [a,b,c] k2 pt2) pos) (bQ i j m ta):=by
 intro pins s σ H D I h
 rw[exec_Assign_arm]
 refine a8 (lH ?_)
 rw[hs]
 refine a8 (b8 ?_)
 rw[if_neg (by decide)]
 refine a8 (Tuple_ (An (ha _ pins s σ H _ I h) fun us s1 ⟨vs,H1,I1,r1,q1⟩=>?_))
 obtain⟨v,w,u,e1,q1⟩:=q1
 subst e1
 obtain⟨u1,u2,u3,rfl,rv,rw',ru⟩:=bP r1
 refine i9 ?_ (by show 3≤sizeLine;decide)
 have I2:Inv X pins σ H1 {s1 with heap:=s1.heap.push {cls:=.type "tuple",data:=.seq [u1,u2,u3].toArray}}:=I1.kept (t':=s1.toks) fun b o e=>e9 _ e
 rw[hw]
 refine a8 (b8 ?_)
 show wpAny (model X.prog X.w) X.A (do rule "assign.swapped-stores";let items←unpackItems (.ref s1.heap.objs.size) 3 none;assignInOrder [fun v=>bindName X.env z v,fun v=>bindName X.env y v,fun v=>bindName X.env x v] items.reverse;pure qB) _ _ _
 refine a8 (kK (a8 (unpackItems_tuple (items:=#[u1,u2,u3]) (I.ok.hd hc) (IsTup.new s1.heap _) fun h' hx'=>?_)))
 have I3:=I2.kept (h':=h') (t':=s1.toks) fun b o e=>hx' b o (gL (gi e)) e
 show wpAny _ _ (assignInOrder [fun v=>bindName X.env z v,fun v=>bindName X.env y v,fun v=>bindName X.env x v] [u3,u2,u1]>>=fun _=>pure qB) _ _ _
 refine a8 (kl (mM (BL I3 hN hm (.inl hz) ru (fun s2 I4=>?_) (.inr hz))))
 refine kl (mM (BL I4 hN hj (.inl hy) rw' (fun s3 I5=>?_) (.inr hy)))
 refine kl (mM (BL I5 hN hi (.inl hx) rv (fun s4 I6=>og (b8 ?_)) (.inr hx)))
 have e:((σ.set m (some u)).set j (some w)).set i (some v)=((σ.set i (some v)).set j (some w)).set m (some u):=by
  rw[oB _ _ hij.symm,oB _ _ him.symm,oB _ _ hjm.symm]
 rw[e] at I6
 exact⟨_,H1,I6,q1⟩
end
end L2
namespace L2.TL
open PySem PySem.Spec PyProof.Rows
section
variable{Z:Zx}{ρ:List (Option T)}{O:AH}{Ψ:Es}
theorem dv{K:a9}{O:AH}{H:Hp}{vs:List V}{t u v:T}(r:Reps K O H vs [t,u,v]):∃a b c,vs=[a,b,c]∧Rep K O H a t∧Rep K O H b u∧Rep K O H c v:=by
 obtain⟨a,vs',rfl,h1,r'⟩:=Reps.cons_inv r
 obtain⟨b,c,rfl,h2,h3⟩:=r'.two_inv
 exact⟨a,b,c,rfl,h1,h2,h3⟩
theorem VF(i j m:Nat){x y z:Str}{a b c:Expr}{px py pz pt pos:Pos}{kt k2 pt2}(hc:Z.X.calm=true)(hN:Z.X.N.Nodup)(h:WA Z ρ O [a,b,c] fun ts O'=>∃t u v,ts=[t,u,v]∧Ψ.nx (((ρ.set i (some t)).set j (some u)).set m (some v)) O')
  (hi:Z.X.N[i]?=some x:=by rfl) (hj:Z.X.N[j]?=some y:=by rfl) (hm:Z.X.N[m]?=some z:=by rfl) (hij:i≠j:=by decide) (him:i≠m:=by decide) (hjm:j≠m:=by decide) (hx:Z.X.env.scope.names.lookup x=some .local:=by rfl) (hy:Z.X.env.scope.names.lookup y=some .local:=by rfl) (hz:Z.X.env.scope.names.lookup z=some .local:=by rfl)
  (hw:lK [.Tuple [.Name x px,.Name y py,.Name z pz] kt pt] (.Tuple [a,b,c] k2 pt2) Z.X.env=pure (some [x,y,z]):=by rfl)
  (hs:lJ [.Tuple [.Name x px,.Name y py,.Name z pz] kt pt] (.Tuple [a,b,c] k2 pt2) pos.line Z.X.env=pure false:=by rfl):
  WS Z ρ O (.Assign [.Tuple [.Name x px,.Name y py,.Name z pz] kt pt] (.Tuple [a,b,c] k2 pt2) pos) Ψ:=
 PS.weak (VE hc hN hi hj hm hij him hjm hx hy hz h hw hs) fun D σ H q=> ⟨q.1,fun vs H' ts O' ⟨t,u,v,e,p⟩ f r=>by
  subst e
  obtain⟨v1,v2,v3,rfl,r1,r2,r3⟩:=dv r
  exact⟨v1,v2,v3,rfl,q.2.nx _ O' _ H' p ⟨(((q.1.step f).rl.set r1).set r2).set r3,(q.1.step f).fr⟩ f.kp⟩⟩
variable{k:Nat}{x y z x2:Str}{ta tb tc td:T}{p1 p2 p3 p4 pos:Pos}
end
theorem Nu{Z:Zx}{ρ:List (Option T)}{O:AH}{a:Expr}{t:T}{p1 pos:Pos}{j:Nat}(hr:Aj t=false)(ha:ET Z ρ O a t):ET Z ρ O (.Compare a [.IsNot] [.Constant .none j p1] pos) (.bl (!Ea t)):=Ey Mt (Ak _) (fun Φ p H v w Q ok r1 r2 q=>by
 refine⟨r2.non_inv,?_⟩
 have e:decide (v=V.non)=Ea t:=by
  cases r1<;>first|rfl|cases hr
 rw[e]
 exact q _ H _ O p (.refl ok) (.bl _)) ha CH
end L2.TL
namespace K34
open PySem L2 L2.TL PySem.Spec PyProof.Rows GrR
noncomputable def bS(cs:List Int):Option Int:=if cs.all (fun c=>decide (c=cs.headD 0))=true then some (cs.headD 0) else none
theorem bT{cs:List Int}:bG cs=JJ (bS cs):=by
 unfold bG bS
 by_cases h:cs.all (fun c=>decide (c=cs.headD 0))=true
 ·rw[if_pos h,if_pos h];rfl
 ·rw[if_neg h,if_neg h];rfl
theorem SH{x:Option Int}{d:Int}:lA (dT (JJ x)) (dT (.int d))=decide (x=some d):=by
 cases x with
 |none=>rfl
 |some i=>
  show(i==d)=_
  rw[kB]
  simp
theorem VG{x:Option Int}:CI (JJ x)=true:=by cases x<;> (unfold JJ;rw[CI])
theorem VH{x:Option Int}:(dT (JJ x)).depth≤100:=by cases x<;> (show 0≤100;decide)
noncomputable def Sx(n:Int)(ps:List (Int×Int)):Option Int:=bS (Bb n ps)
noncomputable def Vz(ps:List (Int×Int))(g:Int):Bool:=match LI ps with
 |none=>false
 |some m=>decide (m<g)
noncomputable def bU(n:Int)(ps:List (Int×Int))(d g:Int):Bool:=decide (Sx n ps=some d)&&!Vz ps g
theorem SI{n:Int}{ps:List (Int×Int)}(wr:WebR n ps){d:Int}(h:Sx n ps=some d):0≤d∧d≤200∧∀i:Nat,(i:Int)<n→((AW ps i).length:Int)=d:=by
 unfold Sx bS at h
 split at h
 ·rename_i ha
  have h:=gZ.inj h
  rw[h] at ha
  have all:∀i:Nat,(i:Int)<n→((AW ps i).length:Int)=d:=fun i hi=>of_decide_eq_true (jm.mp ha _ (gc.mpr ⟨i,gG.mpr (by omega),rfl⟩))
  have h0:=all 0 (by have:=wr.n0;omega)
  have:=Cv (qs:=ps) (i:=0)
  have:=wr.wn.hl
  exact⟨by omega,by omega,all⟩
 ·cases h
section
variable{P:Program}{w:World}{K:a9}{mg:Str→Option Value}{base:Heap}{CN CE CG CR:Addr}
noncomputable def WB:Cp:=NQ fun ts r=>∃n ps g,ts=[Fb n ps,.int g]∧WebR n ps∧r=.bl (Vz ps g)
theorem WC:FnScope ["web","g","size"] ["web","g"] (AA YM):=⟨rfl,rfl,rfl,by decide+kernel,rfl,by decide+kernel,by decide+kernel⟩
theorem Yd{f:Addr}{fd:gE}(F:Fun K "has_shorter_ring" "has_shorter_ring" YM f fd)(G:FnT P w K mg base "shortest" 3 ["web"] Nr):FnOk P w K mg base (CXe P w) 4 f fd ["web","g"] (DR K WB):=by
 refine AV F WC ?_ ?_
 ·rintro ts O Φ Ξ ⟨r,⟨n,ps,g,rfl,_⟩,_⟩
  rfl
 ·rintro cdv A outer s H E O Ξ hr xf _ Φ ⟨_,⟨n,ps,g,rfl,wr,rfl⟩,q⟩
  refine AD (AS 2 (ET.we (Bx G hr xf (AE (ev 0) AC) ⟨n,ps,rfl,wr.wn,rfl⟩) ?_) WC.nd)
  unfold Vz at q
  cases e:LI ps with
  |none=>
   rw[e] at q
   exact AG (AR (ET.we (ET.cast (Iq (x:=false) (y:=false) (Nu (t:=.non) rfl (ev 2)) (fun h=>by cases h)) rfl) q))
  |some m=>
   rw[e] at q
   exact AG (AR (ET.we (ET.cast (Iq (x:=true) (y:=decide (m<g)) (Nu (t:=.int m) rfl (ev 2)) (fun _=>Lx (aS (ev 2) (ev 1)))) (by simp)) q))
noncomputable def SJ:Cp:=NQ fun ts r=>∃n ps d g,ts=[Fb n ps,.int d,.int g]∧WebR n ps∧r=.bl (bU n ps d g)
theorem Ye:FnScope ["web","d","g"] ["web","d","g"] (AA Ng):=⟨rfl,rfl,rfl,by decide+kernel,rfl,by decide+kernel,by decide+kernel⟩
theorem Yg{Z:Zx}{ρ:List (Option T)}{O:AH}{e:Expr}{n:Int}{ps:List (Int×Int)}{p pos:Pos}(G:FnT Z.X.prog Z.X.w Z.X.K Z.X.mg Z.X.base "even_by" 2 ["web"] MW)(hr:Room 2 Z.X.A)(xf:XFly Z.X Z.W)(wr:WebR n ps)(h:ET Z ρ O e (Fb n ps))(hn:Bd e=true:=by rfl)(hg:Gl Z.X "even_by":=by rfl):ET Z ρ O (.Call (.Name "even_by" p) [e] [] pos) (JJ (Sx n ps)):=
 ET.cast (Bx G hr xf (AE h AC hn) ⟨n,ps,rfl,wr.wn,wr.n0,rfl⟩ hg (he:=Dg hn)) (bT)
theorem VI{f:Addr}{fd:gE}(F:Fun K "does_fit" "does_fit" Ng f fd)(Ge:FnT P w K mg base "even_by" 2 ["web"] MW)(Gh:FnT P w K mg base "has_shorter_ring" 4 ["web","g"] WB):FnOk P w K mg base (CXe P w) 5 f fd ["web","d","g"] (DR K SJ):=by
 refine AV F Ye ?_ ?_
 ·rintro ts O Φ Ξ ⟨r,⟨n,ps,d,g,rfl,_⟩,_⟩
  rfl
 ·rintro cdv A outer s H E O Ξ hr xf _ Φ ⟨_,⟨n,ps,d,g,rfl,wr,rfl⟩,q⟩
  have hu:(A.deeper (lz "does_fit" (AA Ng) s.heap.objs.size f cdv)).units+101<cLine:=by have:=hr.un;omega
  exact AG (AR (ET.we (Iq (x:=decide (Sx n ps=some d)) (y:=!Vz ps g) (ET.cast (Ey (Qx hu) (Ak _) (Ow (u:=.int d) VG (by rw[CI]) VH) (Yg Ge (hr.mono (by decide)) xf wr (ev 0)) (ev 1)) (by rw[SH])) (fun _=>Lx (Xo (Bx Gh (hr.mono (by decide)) xf (AE (ev 0) (AE (ev 2) AC)) ⟨n,ps,g,rfl,wr,rfl⟩)))) q))
theorem Ky{t:T}{a b:Int}(h:Cu t a b=true):∃i,t=.int i∧a≤i∧i≤b:=by
 cases t<;>first| (exact⟨_,rfl,by simpa[Cu] using h⟩)|cases h
end
variable{n:Int}{ps:List (Int×Int)}{d:Int}{k:Nat}
theorem JZ(hw:Gr.Gi n ps):∀u,¬Gr.Adj ps u u:=fun u h=> (h.inb hw).2.2 rfl
theorem FO{c d:Nat}:∀k,((GrR.Ca (fun i=>c*d^i) k:Nat):Int)=c*HY d k
 |0=>by show(0:Int)=c*0;omega
 |k+1=>by
  show((GrR.Ca (fun i=>c*d^i) k+c*d^k:Nat):Int)=c*(HY d k+(d:Int)^k)
  rw[Int.natCast_add,FO k,Int.mul_add,Int.natCast_mul,o9]
theorem Yh(wr:WebR n ps){u:Int}(u0:0≤u)(u1:u<n):((Ag ps u).length:Int)≤n-1:=by
 have:=Gr.DT (n:=n) (L:=u::Ag ps u) (gB.mpr ⟨fun h=>JZ wr.wn.hw u ((HC u u).mp h),Kw wr.wn.hw wr.hp u⟩) fun z hz=>by
  rcases fu.mp hz with rfl|hz
  ·exact⟨u0,u1⟩
  ·exact Kv wr.wn.hw u z ((HC u z).mp hz)
 rw[fz] at this
 omega
theorem SK(wr:WebR n ps):Sx n ps=some d↔∀u:Int,0≤u→u<n→((Ag ps u).length:Int)=d:=by
 have n0:=wr.n0
 constructor
 ·intro h u u0 u1
  obtain⟨i,rfl⟩:=gO u0
  rw[←FM wr.wn.hw]
  exact(SI wr h).2.2 i u1
 ·intro h
  have e:∀c∈Bb n ps,c=d:=fun c hc=>by
   obtain⟨i,hi,rfl⟩:=gc.mp hc
   have:=gG.mp hi
   rw[FM wr.wn.hw]
   exact h i (by omega) (by omega)
  have hne:(Bb n ps).headD 0=d:=by
   cases z:Bb n ps with
   |nil=>
    have:=congrArg List.length z
    unfold Bb at this
    rw[e8,iL] at this
    simp at this
    omega
   |cons x xs=>exact e x (by rw[z];simp)
  unfold Sx bS
  rw[if_pos,hne]
  rw[jm]
  intro c hc
  rw[hne,e c hc]
  simp
theorem Ja{a:Int}:∀{N:Nat},0≤a→((gF N).map fun(i:Nat)=>if a=(i:Int) then(1:Nat) else 0).sum=if a<N then 1 else 0
 |0,h=>by rw[if_neg (by omega)];rfl
 |N+1,h=>by
  rw[ny,il,List.sum_append,Ja h]
  show _+((if a=(N:Int) then 1 else 0)+0)=_
  by_cases c:a=(N:Int)
  ·rw[if_neg (by omega),if_pos c,if_pos (by omega)]
   rfl
  ·by_cases c2:a< (N:Int)
   ·rw[if_pos c2,if_neg c,if_pos (by omega)]
    rfl
   ·rw[if_neg c2,if_neg c,if_neg (by omega)]
    rfl
theorem Jb{f g:Nat→Nat}:∀{xs:List Nat},(xs.map fun i=>f i+g i).sum=(xs.map f).sum+(xs.map g).sum
 | []=>rfl
 |x::xs=>by
  show f x+g x+(xs.map fun i=>f i+g i).sum=f x+(xs.map f).sum+(g x+(xs.map g).sum)
  rw[Jb]
  omega
theorem dw(hw:Gr.Gi n ps):((gF n.toNat).map fun i=> (AW ps i).length).sum=2*ps.length:=by
 induction ps with
 |nil=>
  have:((gF n.toNat).map fun i=> (AW [] i).length)=gK n.toNat 0:=by
   rw[List.eq_replicate_iff]
   refine⟨by simp,fun x hx=>?_⟩
   obtain⟨i,_,rfl⟩:=gc.mp hx
   rfl
  rw[this]
  simp
 |cons p ps ih=>
  have ih:=ih fun q hq=>hw q (fk _ hq)
  have hp:=hw p (by simp)
  have e:∀i:Nat,(AW (p::ps) i).length=((if p.1=(i:Int) then 1 else 0)+(if p.2=(i:Int) then 1 else 0))+(AW ps i).length:=fun i=>by
   unfold AW
   rw[i7]
   by_cases c1:p.1=(i:Int)
   ·rw[if_pos c1,if_pos c1,if_neg (by omega)]
    simp only[fz]
    omega
   ·rw[if_neg c1,if_neg c1]
    by_cases c2:p.2=(i:Int)
    ·rw[if_pos c2,if_pos c2]
     simp only[fz]
     omega
    ·rw[if_neg c2,if_neg c2]
     simp only
     omega
  rw[show(fun i=> (AW (p::ps) i).length)=fun(i:Nat)=> ((if p.1=(i:Int) then 1 else 0)+(if p.2=(i:Int) then 1 else 0))+(AW ps i).length from funext e,Jb,Jb,Ja hp.1,Ja (by omega),ih,if_pos (by omega),if_pos (by omega),fz]
  omega
theorem SL(wr:WebR n ps)(h:Sx n ps=some d):(n*d)%2=0:=by
 have e:=dw wr.wn.hw
 have n0:=wr.n0
 have:=(SI wr h).2.2
 obtain⟨D,rfl⟩:∃D:Nat,d=D:=⟨d.toNat,by have:=(SI wr h).1;omega⟩
 rw[show((gF n.toNat).map fun i=> (AW ps i).length)=gK n.toNat D from by
  rw[List.eq_replicate_iff]
  refine⟨by simp,fun x hx=>?_⟩
  obtain⟨i,hi,rfl⟩:=gc.mp hx
  have:=this i (by have:=gG.mp hi;omega)
  omega,List.sum_replicate_nat] at e
 have e2:n*(D:Int)=((n.toNat*D:Nat):Int):=by rw[Int.natCast_mul,kT (by omega)]
 rw[e2,e]
 omega
structure Fit(n:Int)(ps:List (Int×Int))(d:Int)(k:Nat):Prop where
 d2:2≤d
 dn:d≤n-1
 k3:3≤k
 kn:(k:Int)≤n
 gr:grown d k≤n
 ev2:(n*d)%2=0
 tg:grown d k=n→∀v:Int,0≤v→v<n→∃i,i≤k/2∧Gr.IsD ps [0] v i
theorem Yi(wr:WebR n ps)(he:Sx n ps=some d)(hs:LI ps=some (k:Int)):Fit n ps d k:=by
 have wn:=wr.wn
 have n0:=wr.n0
 have hd:=(SK wr).mp he
 obtain⟨k',e,k3,kn,least,r,rr,rk⟩:=JY wn.hw hs
 have:k'=k:=by omega
 subst this
 have sy:=HB (ps:=ps)
 have ir:=JZ wn.hw
 have hR:=HC (ps:=ps)
 have hn:=Kw wn.hw wr.hp
 have hb:=Kv wn.hw
 have h0:(0:Int)≤0∧(0:Int)<n:=⟨by omega,by omega⟩
 have S0:∀z∈[(0:Int)],0≤z∧z<n:=fun z hz=>by rw[b9.mp hz];exact h0
 have d2:2≤d:=by
  obtain⟨x,hx,h2⟩:=GrR.RV hR sy rr
  have hi:=GrR.JH hb rr x hx
  have:=hd x hi.1 hi.2
  omega
 obtain⟨D,rfl⟩:∃D:Nat,d=(D:Int)+1:=⟨(d-1).toNat,by omega⟩
 have hd':∀u,0≤u→u<n→(Ag ps u).length=D+1:=fun u u0 u1=>by have:=hd u u0 u1;omega
 have dn:(D:Int)+1≤n-1:=by
  have:=Yh wr (u:=0) (by omega) (by omega)
  rw[hd 0 (by omega) (by omega)] at this
  exact this
 obtain⟨b,hb0⟩:∃b,b∈Ag ps 0:=List.exists_mem_of_length_pos (by rw[hd' 0 (by omega) (by omega)];omega)
 have ad:Gr.Adj ps 0 b:=(hR 0 b).mp hb0
 have bi:=hb _ _ ad
 have Sb:∀z∈[(0:Int),b],0≤z∧z<n:=fun z hz=>by
  simp only[fu,iU,or_false] at hz
  rcases hz with rfl|rfl
  ·exact h0
  ·exact bi
 have e1:=FO (c:=D+1) (d:=D) (k'/2)
 have e2:=FO (c:=2) (d:=D) (k'/2)
 rw[Int.natCast_add,show((1:Nat):Int)=1 from rfl] at e1
 rw[show((2:Nat):Int)=2 from rfl] at e2
 have g1:k'%2=1→grown ((D:Int)+1) k'=((1+GrR.Ca (fun i=> (D+1)*D^i) (k'/2):Nat):Int):=fun c=>by
  unfold grown
  rw[if_pos c,show(D:Int)+1-1=D by omega,←e1]
  omega
 have g2:k'%2≠1→grown ((D:Int)+1) k'=((GrR.Ca (fun i=>2*D^i) (k'/2):Nat):Int):=fun c=>by
  unfold grown
  rw[if_neg c,show(D:Int)+1-1=D by omega,←e2]
 have b1:=GrR.Ug sy ir least hR hn hb hd' h0 (GrR.ML hb S0) (k'/2)
 have b2:=GrR.Uh sy ir least hR hn hb hd' ad (GrR.ML hb Sb) (k'/2) (by omega)
 refine⟨d2,dn,k3,kn,?_,SL wr he,fun ht v v0 v1=>?_⟩
 ·by_cases c:k'%2=1
  ·have:=GrR.RQ hb S0 (GrR.ML hb S0) (k'/2+1)
   rw[b1 (by omega)] at this
   rw[g1 c]
   omega
  ·have:=GrR.RQ hb Sb (GrR.ML hb Sb) (k'/2)
   rw[b2] at this
   rw[g2 c]
   omega
 ·by_cases c:k'%2=1
  ·rw[g1 c] at ht
   obtain⟨i,hi,q⟩:=GrR.Nc hb S0 (GrR.ML hb S0) (k'/2+1) (by rw[b1 (by omega)];omega) v0 v1
   exact⟨i,by omega,GrR.JF.mpr q⟩
  ·rw[g2 c] at ht
   obtain⟨i,hi,q⟩:=GrR.Nc hb Sb (GrR.ML hb Sb) (k'/2) (by rw[b2];omega) v0 v1
   obtain⟨j,hj,w⟩:=GrR.ax ad q.1
   obtain⟨m,hm,z⟩:=w.least
   exact⟨m,by omega,GrR.JF.mpr z⟩
variable{n:Int}{ps:List (Int×Int)}
theorem MZ:∀{xs ys:List (Int×Int)},xs.Pairwise Ji→ys.Pairwise Ji→(∀v,v∈xs↔v∈ys)→xs=ys
 | [],[],_,_,_=>rfl
 | [],y::ys,_,_,h=>by have:=(h y).mpr (by simp);cases this
 |x::xs,[],_,_,h=>by have:=(h x).mp (by simp);cases this
 |x::xs,y::ys,h1,h2,h=>by
  have a:=jH.mp h1
  have b:=jH.mp h2
  have irr:∀{p q:Int×Int},Ji p q→Ji q p→False:=fun{p q} h1 h2=>by unfold Ji at h1 h2;omega
  have e:x=y:=by
   rcases fu.mp ((h x).mp (by simp)) with e|hx
   ·exact e
   ·rcases fu.mp ((h y).mpr (by simp)) with e|hy
    ·exact e.symm
    ·exact(irr (a.1 y hy) (b.1 x hx)).elim
  subst e
  rw[MZ a.2 b.2 fun v=>?_]
  constructor
  ·intro hv
   rcases fu.mp ((h v).mp (by simp[hv])) with e|hv'
   ·subst e;exact(irr (a.1 v hv) (a.1 v hv)).elim
   ·exact hv'
  ·intro hv
   rcases fu.mp ((h v).mpr (by simp[hv])) with e|hv'
   ·subst e;exact(irr (b.1 v hv) (b.1 v hv)).elim
   ·exact hv'
noncomputable def Kz(m:Nat):List (Int×Int):=(gF m).flatMap fun(a:Nat)=> ((gF m).filter fun b=>decide (a<b)).map fun(b:Nat)=> ((a:Int),(b:Int))
theorem Nv{m:Nat}:(Kz m).Pairwise Ji:=by
 unfold Kz
 rw[List.pairwise_flatMap]
 constructor
 ·intro a _
  rw[iw]
  exact(lW _ ke).imp fun{x y} h=> .inr ⟨rfl,by show(x:Int)<y;omega⟩
 ·refine ke.imp fun{a b} h x hx y hy=>?_
  obtain⟨u,_,rfl⟩:=gc.mp hx
  obtain⟨v,_,rfl⟩:=gc.mp hy
  exact .inl (by show(a:Int)<b;omega)
theorem LA{m:Nat}{q:Int×Int}(h:Br (m:Int) q):q∈Kz m:=by
 unfold Br at h
 exact jW.mpr ⟨q.1.toNat,gG.mpr (by omega),gc.mpr ⟨q.2.toNat,gq.mpr ⟨gG.mpr (by omega),decide_eq_true (by omega)⟩,jd (by show((q.1.toNat:Nat):Int)=q.1;omega) (by show((q.2.toNat:Nat):Int)=q.2;omega)⟩⟩
theorem bV{N:Nat}(n0:1≤N)(n1:N≤16)(h1:ps.Pairwise Ji)(h2:∀q∈ps,Br (N:Int) q):WebR (N:Int) ps:=by
 have hl:ps.length≤200:=by
  have e:=MZ h1 (lW (fun q=>decide (q∈ps)) (Nv (m:=N))) fun q=>by
   rw[gq,decide_eq_true_eq]
   exact⟨fun h=> ⟨LA (h2 q h),h⟩,fun h=>h.2⟩
  have key:∀m,m≤16→(Kz m).length≤200:=by decide+kernel
  rw[e]
  exact iq (iM ..) (key N n1)
 exact⟨⟨by omega,by omega,h2,hl⟩,h1,by omega,by omega⟩
theorem fc:ig "ValueError" =some (.type "ValueError"):=by decide+kernel
theorem Ei{H H':Hp}{p:Addr}{o:HO}(s:Same H H')(hp:H' p=none):Same H (upd H' p o):=fun b u e=>by
 rw[AL (AQ (s b u e) hp)];exact s b u e
structure Asks(K:a9)(mg:Str→Option Value)(CN:Addr)(x:Str)(b:Bool):Prop where
 ex:∃C,mg x=some (.ref C)∧gz K (.ref CN) (.ref C)=some b
structure Kinds(K:a9)(mg:Str→Option Value)(CN:Addr)(b0 b1 b2 b3 b4 b5 b6 b7:Bool):Prop where
 a0:Asks K mg CN "NoPlace" b0
 a1:Asks K mg CN "NoNumber" b1
 a2:Asks K mg CN "NoLine" b2
 a3:Asks K mg CN "NoRing" b3
 a4:Asks K mg CN "NotEven" b4
 a5:Asks K mg CN "NoWeb" b5
 a6:Asks K mg CN "NoText" b6
 a7:Asks K mg CN "TooGreat" b7
 ve:gz K (.ref CN) (.type "ValueError")=some true
 eN:ExcCls K CN
section
variable{P:Program}{w:World}{K:a9}{mg:Str→Option Value}{base:Heap}{CP:Addr}
theorem Ma:FnScope ["_law_e","_law_marks"] ["_law_e"] (AA Nh):=⟨rfl,rfl,rfl,by decide+kernel,rfl,by decide+kernel,by decide+kernel⟩
theorem VJ{f:Addr}{fd:gE}{b0 b1 b2 b3 b4 b5 b6 b7:Bool}{y:Str}{j:Nat}(F:Fun K "_law_kind_of" "_law_kind_of" Nh f fd)(T:Txt mg)(U:Kinds K mg CP b0 b1 b2 b3 b4 b5 b6 b7)(hc:(([.bl b0,.bl b1,.bl b2,.bl b3]++[.bl b4,.bl b5,.bl b6,.bl b7]:List V).countP fun z=>LH z (.bl true))=1)(hj:([.bl b0,.bl b1,.bl b2,.bl b3]++[.bl b4,.bl b5,.bl b6,.bl b7]:List V)[j]?=some (.bl true))(hno:∀m z,m<j→([.bl b0,.bl b1,.bl b2,.bl b3]++[.bl b4,.bl b5,.bl b6,.bl b7]:List V)[m]?=some z→LH z (.bl true)=false)(hw:([.str "place",.str "number",.str "line",.str "ring",.str "even",.str "web",.str "text",.str "great"]:List V)[j]?=some (.str y)):FnH P w K mg base 1 f fd ["_law_e"] (EZ CP y):=by
 obtain⟨c0,m0,k0⟩:=U.a0.ex
 obtain⟨c1,m1,k1⟩:=U.a1.ex
 obtain⟨c2,m2,k2⟩:=U.a2.ex
 obtain⟨c3,m3,k3⟩:=U.a3.ex
 obtain⟨c4,m4,k4⟩:=U.a4.ex
 obtain⟨c5,m5,k5⟩:=U.a5.ex
 obtain⟨c6,m6,k6⟩:=U.a6.ex
 obtain⟨c7,m7,k7⟩:=U.a7.ex
 refine F.okH Ma (fun vs H Q E h=>?_) (fun cdv A outer s H vs Q hr h=>?_)
 ·obtain⟨x,rfl,_⟩:=h
  rfl
 ·obtain⟨x,rfl,hx,k⟩:=h
  refine⟨_,DF (LK (i:=1) Ma.nd rfl (oz rfl) (Fz
    (AI (Ap BD (by rfl) T.nIsi HW (AI (pv 0) (AI (Bc (v:=.ref c0) (by rfl) m0 rfl) Ar)))
    (AI (Ap BD (by rfl) T.nIsi HW (AI (pv 0) (AI (Bc (v:=.ref c1) (by rfl) m1 rfl) Ar)))
    (AI (Ap BD (by rfl) T.nIsi HW (AI (pv 0) (AI (Bc (v:=.ref c2) (by rfl) m2 rfl) Ar)))
    (AI (Ap BD (by rfl) T.nIsi HW (AI (pv 0) (AI (Bc (v:=.ref c3) (by rfl) m3 rfl) Ar))) Ar))))))
   (DF (LK (i:=1) Ma.nd rfl (oz rfl) (Vb LX (pv 1) (Fz
    (AI (Ap BD (by rfl) T.nIsi HW (AI (pv 0) (AI (Bc (v:=.ref c4) (by rfl) m4 rfl) Ar)))
    (AI (Ap BD (by rfl) T.nIsi HW (AI (pv 0) (AI (Bc (v:=.ref c5) (by rfl) m5 rfl) Ar)))
    (AI (Ap BD (by rfl) T.nIsi HW (AI (pv 0) (AI (Bc (v:=.ref c6) (by rfl) m6 rfl) Ar)))
    (AI (Ap BD (by rfl) T.nIsi HW (AI (pv 0) (AI (Bc (v:=.ref c7) (by rfl) m7 rfl) Ar))) Ar)))))))
   (DF (Pj (VZ (Ph (Jp (Ap BD (by rfl) T.nIsi HW (AI (pv 0) (AI (Mp (v:=.ty "ValueError") (by rfl) T.nVE fc rfl) Ar))) (fun _=>rfl)))
     (Pg (IU Jo (QC kW PySem.F.slot_list_count PySem.F.type_list_count QM (pv 1) (AI Pf Ar)) LJ (Ak _)))).pt
     (ED (Fu Bz)) IS)
   (ED (Fu (QA Cc (Fz (AI Bz (AI Bz (AI Bz (AI Bz (AI Bz (AI Bz (AI Bz (AI Bz Ar)))))))))
    (QC kW PySem.F.slot_list_index PySem.F.type_list_index QN (pv 1) (AI Pf Ar)) (fun _ _=>rfl)))))),?_⟩
  refine⟨_,rfl,_,.ref c0,_,_,b0,rfl,rfl,.inr ⟨x,CP,rfl,rfl,hx,U.eN⟩,k0,?_⟩
  refine⟨_,rfl,_,.ref c1,_,_,b1,rfl,rfl,.inr ⟨x,CP,rfl,rfl,hx,U.eN⟩,k1,?_⟩
  refine⟨_,rfl,_,.ref c2,_,_,b2,rfl,rfl,.inr ⟨x,CP,rfl,rfl,hx,U.eN⟩,k2,?_⟩
  refine⟨_,rfl,_,.ref c3,_,_,b3,rfl,rfl,.inr ⟨x,CP,rfl,rfl,hx,U.eN⟩,k3,(by show 4≤sizeLine;decide),fun p hp=>?_⟩
  have hx1:Rd (upd H p (.lst [.bl b0,.bl b1,.bl b2,.bl b3])) x (FX CP x):=hx.upd hp
  refine⟨_,rfl,?_⟩
  refine⟨_,rfl,_,.ref c4,_,_,b4,rfl,rfl,.inr ⟨x,CP,rfl,rfl,hx1,U.eN⟩,k4,?_⟩
  refine⟨_,rfl,_,.ref c5,_,_,b5,rfl,rfl,.inr ⟨x,CP,rfl,rfl,hx1,U.eN⟩,k5,?_⟩
  refine⟨_,rfl,_,.ref c6,_,_,b6,rfl,rfl,.inr ⟨x,CP,rfl,rfl,hx1,U.eN⟩,k6,?_⟩
  refine⟨_,rfl,_,.ref c7,_,_,b7,rfl,rfl,.inr ⟨x,CP,rfl,rfl,hx1,U.eN⟩,k7,(by show 4≤sizeLine;decide),fun p2 hp2=>?_⟩
  have np:p≠p2:=fun z=>by rw[z,AM] at hp2;cases hp2
  refine⟨p,p2,_,_,rfl,rfl,(by rw[AL np];exact AM),AM,(by show 8≤sizeLine;decide),fun p3 hp3=>?_⟩
  have s1:Same H (upd H p (.lst [.bl b0,.bl b1,.bl b2,.bl b3])):=Ei (Same.refl H) hp
  have s2:=Ei (o:=.lst [.bl b4,.bl b5,.bl b6,.bl b7]) s1 hp2
  have s3:=Ei (o:=.lst ([.bl b0,.bl b1,.bl b2,.bl b3]++[.bl b4,.bl b5,.bl b6,.bl b7])) s2 hp3
  refine⟨_,rfl,_,.ty "ValueError",_,_,true,rfl,rfl,.inr ⟨x,CP,rfl,rfl,hx.same s3,U.eN⟩,U.ve,true,rfl,?_⟩
  refine OS ?_
  refine⟨_,rfl,.inl ⟨rfl,_,SqL.of AM⟩,p3,_,_,rfl,rfl,SqL.of AM,rfl,rfl,rfl,_,rfl,?_⟩
  have ec:(!decide (V.int ((([.bl b0,.bl b1,.bl b2,.bl b3]++[.bl b4,.bl b5,.bl b6,.bl b7]:List V).countP fun z=>LH z (.bl true):Nat):Int)=V.int 1))=false:=by rw[hc];rfl
  rw[ec]
  refine OS ?_
  refine⟨(by show 8≤sizeLine;decide),fun p4 hp4=>?_⟩
  have n4:p3≠p4:=fun z=>by rw[z,AM] at hp4;cases hp4
  refine⟨_,rfl,.inl ⟨rfl,_,SqL.of (by rw[AL n4];exact AM)⟩,p3,_,_,j,rfl,rfl,SqL.of (by rw[AL n4];exact AM),rfl,rfl,⟨.bl true,hj,rfl⟩,hno,?_⟩
  exact⟨p4,_,(j:Int),_,rfl,rfl,SqL.of AM,BG hw,k _ (Ei s3 hp4)⟩
theorem bW{xs:List V}{j:Nat}(h:((gF j).all fun m=>match xs[m]? with|some z=>!LH z (.bl true)|none=>true)=true):∀m z,m<j→xs[m]?=some z→LH z (.bl true)=false:=fun m z hm e=>by
 have:=jm.mp h m (gG.mpr hm)
 rw[e] at this
 simpa using this
theorem HD{f:Addr}{fd:gE}(F:Fun K "_law_kind_of" "_law_kind_of" Nh f fd)(T:Txt mg)(U:Kinds K mg CP false true false false false false false false):FnH P w K mg base 1 f fd ["_law_e"] (EZ CP "number"):=VJ (j:=1) F T U rfl rfl (bW (by decide)) rfl
end
variable{N:Nat}{ss:List Int}{q:Int×Int}{u v:Int}
structure Stp(N:Nat)(ss:List Int):Prop where
 pw:ss.Pairwise (· < ·)
 hs:∀s∈ss,1≤s∧s*2≤N
noncomputable def ZS(N:Nat)(ss:List Int)(q:Int×Int):Bool:=decide (q.2-q.1∈ss)||decide ((N:Int)- (q.2-q.1)∈ss)
noncomputable def CK(N:Nat)(ss:List Int):List (Int×Int):=(Kz N).filter (ZS N ss)
theorem Jc:q∈CK N ss↔Br N q∧(q.2-q.1∈ss∨(N:Int)- (q.2-q.1)∈ss):=by
 unfold CK ZS
 rw[gq,Bool.or_eq_true,decide_eq_true_eq,decide_eq_true_eq]
 refine⟨fun h=> ⟨?_,h.2⟩,fun h=> ⟨LA h.1,h.2⟩⟩
 have h:=h.1
 unfold Kz at h
 obtain⟨a,ha,h⟩:=jW.mp h
 obtain⟨b,hb,rfl⟩:=gc.mp h
 have hb:=gq.mp hb
 have h1:=gG.mp ha
 have h2:=gG.mp hb.1
 have h3:=of_decide_eq_true hb.2
 unfold Br
 simp only
 omega
theorem WD:(CK N ss).Pairwise Ji:=lW _ Nv
theorem SM:∀q∈CK N ss,Br N q:=fun q h=> (Jc.mp h).1
theorem IH(n0:1≤N)(n1:N≤16):WebR (N:Int) (CK N ss):=bV n0 n1 WD SM
theorem DX:Gr.Gi (N:Int) (CK N ss):=SM
theorem Cy(h:Stp N ss):Gr.Adj (CK N ss) u v↔(0≤u∧u<N)∧(0≤v∧v<N)∧∃s∈ss,v=u+s∨u=v+s∨u+N=v+s∨v+N=u+s:=by
 unfold Gr.Adj
 rw[Jc,Jc]
 unfold Br
 simp only
 constructor
 ·rintro(⟨h,e|e⟩| ⟨h,e|e⟩)
  ·exact⟨by omega,by omega,_,e,.inl (by omega)⟩
  ·exact⟨by omega,by omega,_,e,.inr (.inr (.inl (by omega)))⟩
  ·exact⟨by omega,by omega,_,e,.inr (.inl (by omega))⟩
  ·exact⟨by omega,by omega,_,e,.inr (.inr (.inr (by omega)))⟩
 ·rintro⟨hu,hv,s,hs,e⟩
  have b:=h.hs s hs
  rcases e with e|e|e|e
  ·exact .inl ⟨by omega,.inl (by rw[show v-u=s by omega];exact hs)⟩
  ·exact .inr ⟨by omega,.inl (by rw[show u-v=s by omega];exact hs)⟩
  ·exact .inl ⟨by omega,.inr (by rw[show(N:Int)- (v-u)=s by omega];exact hs)⟩
  ·exact .inr ⟨by omega,.inr (by rw[show(N:Int)- (u-v)=s by omega];exact hs)⟩
noncomputable def HE(N:Nat)(ss:List Int):Int:=(ss.length:Int)*2- ((ss.filter fun s=>decide (s*2=(N:Int))).length:Int)
noncomputable def Yj(N:Nat)(u s:Int):Int:=if u+s<N then u+s else u+s-N
noncomputable def ZT(N:Nat)(u s:Int):Int:=if s≤u then u-s else u-s+N
noncomputable def bX(N:Nat)(ss:List Int)(u:Int):List Int:=ss.map (Yj N u)++(ss.filter fun s=>!decide (s*2=(N:Int))).map (ZT N u)
theorem Yk(h:Stp N ss)(u0:0≤u)(u1:u<N):v∈bX N ss u↔Gr.Adj (CK N ss) u v:=by
 rw[Cy h]
 unfold bX
 rw[gu,gc,gc]
 constructor
 ·rintro(⟨s,hs,rfl⟩| ⟨s,hs,rfl⟩)
  ·have b:=h.hs s hs
   unfold Yj
   split
   ·exact⟨by omega,by omega,s,hs,.inl rfl⟩
   ·exact⟨by omega,by omega,s,hs,.inr (.inr (.inr (by omega)))⟩
  ·have hs:=(gq.mp hs).1
   have b:=h.hs s hs
   unfold ZT
   split
   ·exact⟨by omega,by omega,s,hs,.inr (.inl (by omega))⟩
   ·exact⟨by omega,by omega,s,hs,.inr (.inr (.inl (by omega)))⟩
 ·rintro⟨hu,hv,s,hs,e⟩
  have b:=h.hs s hs
  by_cases c:s*2=(N:Int)
  ·refine .inl ⟨s,hs,?_⟩
   unfold Yj
   split<;>omega
  ·have hf:s∈ss.filter fun s=>!decide (s*2=(N:Int)):=gq.mpr ⟨hs,by rw[decide_eq_false c];rfl⟩
   rcases e with e|e|e|e
   ·refine .inl ⟨s,hs,?_⟩
    unfold Yj
    split<;>omega
   ·refine .inr ⟨s,hf,?_⟩
    unfold ZT
    split<;>omega
   ·refine .inr ⟨s,hf,?_⟩
    unfold ZT
    split<;>omega
   ·refine .inl ⟨s,hs,?_⟩
    unfold Yj
    split<;>omega
theorem bZ(h:Stp N ss)(u0:0≤u)(u1:u<N):(bX N ss u).Nodup:=by
 unfold bX
 rw[gU]
 refine⟨?_,?_,?_⟩
 ·rw[iI,iw]
  refine h.pw.imp_of_mem fun{x y} hx hy l=>?_
  have:=h.hs x hx
  have:=h.hs y hy
  unfold Yj
  split<;>split<;>omega
 ·rw[iI,iw]
  refine(h.pw.filter _).imp_of_mem fun{x y} hx hy l=>?_
  have:=h.hs x (gq.mp hx).1
  have:=h.hs y (gq.mp hy).1
  unfold ZT
  split<;>split<;>omega
 ·intro a ha b hb e
  obtain⟨x,hx,rfl⟩:=gc.mp ha
  obtain⟨y,hy,rfl⟩:=gc.mp hb
  have hy:=gq.mp hy
  have:=h.hs x hx
  have:=h.hs y hy.1
  have:¬y*2=(N:Int):=fun z=>by have:=hy.2;rw[decide_eq_true z] at this;cases this
  unfold Yj ZT at e
  split at e<;>split at e<;>omega
theorem Nw{α:Type}{p:α→Bool}:∀{xs:List α},(xs.filter fun x=>!p x).length+(xs.filter p).length=xs.length
 | []=>rfl
 |x::xs=>by
  have ih:=Nw (p:=p) (xs:=xs)
  rw[jl,jl]
  cases p x<;>simp only[lO,nX,if_true,if_false,fz,gD]<;>omega
theorem Mb(h:Stp N ss)(n0:1≤N)(n1:N≤16)(u0:0≤u)(u1:u<N):((Ag (CK N ss) u).length:Int)=HE N ss:=by
 have wr:=IH (ss:=ss) n0 n1
 rw[GrR.CZ (Kw wr.wn.hw wr.hp u) (bZ h u0 u1) fun v=>by rw[HC,Yk h u0 u1]]
 unfold bX HE
 rw[gw,e8,e8]
 have:=Nw (p:=fun s=>decide (s*2=(N:Int))) (xs:=ss)
 omega
theorem SN(h:Stp N ss)(n0:1≤N)(n1:N≤16):Sx (N:Int) (CK N ss)=some (HE N ss):=(SK (IH n0 n1)).mpr fun u u0 u1=>Mb h n0 n1 u0 u1
theorem Jd:∀{l m:List Int},l.Nodup→(∀v∈l,v∈m)→l.length≤m.length
 | [],_,_,_=>ip _
 |x::l,m,nd,h=>by
  have nd:=gB.mp nd
  have hx:=h x (by simp)
  have:=Jd (m:=m.erase x) nd.2 fun v hv=> (List.mem_erase_of_ne (fun e:v=x=>nd.1 (e▸hv))).mpr (h v (by simp[hv]))
  rw[mq hx] at this
  have:=lC hx
  rw[fz]
  omega
theorem PU(h:Stp N ss)(h2:1<ss.length):∃r,GrR.Ring (Gr.Adj (CK N ss)) r∧r.length=4:=by
 match ss,h,h2 with
 | [],_,h2=>simp at h2
 | [_],_,h2=>simp at h2
 |a::b::L,h,_=>
  have ha:=h.hs a (by simp)
  have hb:=h.hs b (by simp)
  have ab:a<b:=(jH.mp h.pw).1 b (by simp)
  have A:∀{u v:Int},0≤u→u<N→0≤v→v<N→(v=u+a∨u=v+a∨v=u+b∨u=v+b)→Gr.Adj (CK N (a::b::L)) u v:=fun h1 h2 h3 h4 e=> (Cy h).mpr ⟨⟨h1,h2⟩,⟨h3,h4⟩,by
   rcases e with e|e|e|e
   ·exact⟨a,by simp,.inl e⟩
   ·exact⟨a,by simp,.inr (.inl e)⟩
   ·exact⟨b,by simp,.inl e⟩
   ·exact⟨b,by simp,.inr (.inl e)⟩⟩
  refine⟨[0,a,a+b,b],⟨by simp,?_,⟨A (by omega) (by omega) (by omega) (by omega) (by omega),A (by omega) (by omega) (by omega) (by omega) (by omega),A (by omega) (by omega) (by omega) (by omega) (by omega),trivial⟩,fun x z hx hz=>?_⟩,rfl⟩
  ·simp only[gB,fu,iU,or_false,not_or,not_false_eq_true,List.nodup_nil,and_true]
   omega
  ·have hx:some (0:Int)=some x:=hx
   have hz:some b=some z:=hz
   have hx:=gZ.inj hx
   have hz:=gZ.inj hz
   subst hx
   subst hz
   exact A (by omega) (by omega) (by omega) (by omega) (by omega)
theorem SO(n3:3≤N){r:List Int}(h:GrR.Ring (Gr.Adj (CK N [1])) r):N≤r.length:=by
 have st:Stp N [1]:=⟨by simp,fun s hs=>by rw[b9.mp hs];omega⟩
 have sy:=HB (ps:=CK N [1])
 have ad:∀{u v},Gr.Adj (CK N [1]) u v→(0≤u∧u<N)∧(0≤v∧v<N)∧(v=u+1∨u=v+1∨u+N=v+1∨v+N=u+1):=fun{u v} z=>by
  obtain⟨h1,h2,s,hs,e⟩:=(Cy st).mp z
  rw[b9.mp hs] at e
  exact⟨h1,h2,e⟩
 have nx:∀x∈r,(if x+1<N then x+1 else 0)∈r:=fun x hx=>by
  obtain⟨L,M,rfl⟩:=List.append_of_mem hx
  have h':=GrR.RW h
  have hm:∀v,v∈(x::M)++L→v∈L++x::M:=fun v hv=>by simp only[gu] at hv ⊢;exact hv.symm
  match hh:M++L,h' with
  | [],h'=>
   have:=h'.len
   rw[gY,hh] at this
   simp at this
  | [_],h'=>
   have:=h'.len
   rw[gY,hh] at this
   simp at this
  |y::z::K,h'=>
   rw[gY,hh] at h'
   have hne:(z::K)≠[]:=by simp
   have hl:(x::y::z::K).getLast?=some (GrR.lst (z::K)):=by
    rw[iB,iB];exact GrR.Gp hne
   have hlm:=jK (GrR.Gp hne)
   have a1:=ad h'.ch.1
   have a2:=ad (h'.cl x _ rfl hl)
   have ne:y≠GrR.lst (z::K):=fun w=>by
    have nd:=h'.nd
    rw[gB,gB] at nd
    exact nd.2.1 (w▸hlm)
   have e:(if x+1<N then x+1 else 0)=y∨(if x+1<N then x+1 else 0)=GrR.lst (z::K):=by split<;>omega
   refine hm _ ?_
   rw[gY,hh]
   rcases e with e|e
   ·rw[e];simp
   ·rw[e];exact fk _ (fk _ hlm)
 have h0:(0:Int)∈r:=by
  have key:∀(k:Nat) (x:Int),x∈r→x+k+1=N→(0:Int)∈r:=fun k=>by
   induction k with
   |zero=>intro x hx e;have:=nx x hx;rwa[if_neg (by omega)] at this
   |succ k ih=>intro x hx e;have:=nx x hx;rw[if_pos (by omega)] at this;exact ih _ this (by omega)
  match r,h with
  |x::r,h=>
   have:=GrR.JH (Kv (DX (ss:=[1]) (N:=N))) h x (by simp)
   exact key (N-1-x).toNat x (by simp) (by omega)
  | [],h=>exact absurd h.len (by decide)
 have al:∀i:Nat,i<N→(i:Int)∈r:=fun i=>by
  induction i with
  |zero=>exact fun _=>h0
  |succ i ih=>
   intro hi
   have:=nx _ (ih (by omega))
   rw[if_pos (by omega)] at this
   exact this
 have:=Jd (l:=(gF N).map fun(i:Nat)=> (i:Int)) (m:=r) (iI.mpr (by
  rw[iw]
  exact ke.imp fun h=>by omega)) fun v hv=>by
   obtain⟨i,hi,rfl⟩:=gc.mp hv
   exact al i (gG.mp hi)
 rwa[e8,iL] at this
theorem ba(h:Stp N ss)(n0:1≤N)(n1:N≤16)(hd:1<HE N ss):∃k:Nat,LI (CK N ss)=some (k:Int)∧Fit (N:Int) (CK N ss) (HE N ss) k:=by
 have wr:=IH (ss:=ss) n0 n1
 have hb:=Kv wr.wn.hw
 have h0:(0:Int)≤0∧(0:Int)<N:=⟨by omega,by omega⟩
 obtain⟨M,rm⟩:=GrR.RS (d:=(HE N ss-1).toNat) (p:=0) HB (JZ wr.wn.hw) HC (Kw wr.wn.hw wr.hp) hb (fun u u0 u1=>by have:=Mb h n0 n1 u0 u1;omega) (by omega) h0 (GrR.ML hb fun z hz=>by rw[b9.mp hz];exact h0)
 obtain⟨m,hm,_⟩:=Fp wr.wn.hw rm
 obtain⟨k,rfl,_⟩:=JY wr.wn.hw hm
 exact⟨k,hm,Yi wr (SN h n0 n1) hm⟩
theorem Yl(h:Stp N ss)(h2:1<ss.length):∃m,LI (CK N ss)=some m∧m≤4:=by
 obtain⟨r,hr,hl⟩:=PU h h2
 obtain⟨m,hm,l⟩:=Fp DX hr
 exact⟨m,hm,by omega⟩
theorem SQ(n3:3≤N):Stp N [1]:=⟨by simp,fun s hs=>by rw[b9.mp hs];omega⟩
theorem Mc(n3:3≤N):HE N [1]=2:=by
 unfold HE
 rw[jl,if_neg (by rw[decide_eq_true_eq];omega)]
 rfl
theorem Ym(n3:3≤N)(n1:N≤16):LI (CK N [1])=some (N:Int):=by
 obtain⟨k,hk,F⟩:=ba (SQ n3) (by omega) n1 (by rw[Mc n3];decide)
 obtain⟨k',e,_,_,_,r,hr,hl⟩:=JY DX hk
 have:=SO n3 hr
 have:=F.kn
 rw[hk]
 congr 1
 omega
noncomputable def Aq:Nat→List (List Int)
 |0=> [[]]
 |k+1=>Aq k++(Aq k).map fun r=>r++[((k+1:Nat):Int)]
noncomputable def Up(k:Nat)(ss:List Int):Prop:=ss.Pairwise (· < ·)∧∀s∈ss,1≤s∧s≤k
theorem BF:∀{k:Nat} {ss:List Int},ss∈Aq k↔Up k ss
 |0,ss=>by
  show ss∈[[]]↔_
  rw[b9]
  constructor
  ·rintro rfl
   exact⟨.nil,fun _ h=>by cases h⟩
  ·intro h
   cases ss with
   |nil=>rfl
   |cons s l=>have:=h.2 s (by simp);omega
 |k+1,ss=>by
  show ss∈Aq k++(Aq k).map (fun r=>r++[((k+1:Nat):Int)])↔_
  rw[gu,BF,gc]
  constructor
  ·rintro(h| ⟨r,hr,rfl⟩)
   ·exact⟨h.1,fun s hs=>by have:=h.2 s hs;omega⟩
   ·have hr:=BF.mp hr
    refine⟨kH.mpr ⟨hr.1,by simp,fun a ha b hb=>?_⟩,fun s hs=>?_⟩
    ·rw[b9.mp hb]
     have:=hr.2 a ha
     omega
    ·rcases gu.mp hs with hs|hs
     ·have:=hr.2 s hs
      omega
     ·rw[b9.mp hs]
      omega
  ·intro h
   rcases List.eq_nil_or_concat ss with rfl| ⟨l,x,rfl⟩
   ·exact .inl ⟨.nil,fun _ h=>by cases h⟩
   ·rw[List.concat_eq_append] at h ⊢
    have pw:=kH.mp h.1
    have hx:=h.2 x (by simp)
    by_cases c:x=((k+1:Nat):Int)
    ·refine .inr ⟨l,BF.mpr ⟨pw.1,fun s hs=>?_⟩,by rw[c]⟩
     have:=h.2 s (by simp[hs])
     have:=pw.2.2 s hs x (by simp)
     omega
    ·refine .inl ⟨h.1,fun s hs=>?_⟩
     have:=h.2 s hs
     rcases gu.mp hs with hs'|hs'
     ·have:=pw.2.2 s hs' x (by simp)
      omega
     ·rw[b9.mp hs'] at this ⊢
      omega
theorem HF:Up (N/2) ss↔Stp N ss:=⟨fun h=> ⟨h.1,fun s hs=>by have:=h.2 s hs;omega⟩,fun h=> ⟨h.pw,fun s hs=>by have:=h.hs s hs;omega⟩⟩
theorem HG:∀k,(Aq k).length=2^k
 |0=>rfl
 |k+1=>by
  show(Aq k++(Aq k).map (fun r=>r++[((k+1:Nat):Int)])).length=_
  rw[gw,e8,HG k,nF]
  omega
theorem Ej{k:Nat}(h:k≤8):(Aq k).length≤256:=by
 rw[HG]
 exact Nat.pow_le_pow_right (by decide) h
theorem II:∀k,(Aq k).head?=some []
 |0=>rfl
 |k+1=>by
  show(Aq k++_).head?=_
  rw[List.head?_append,II k]
  rfl
theorem Md{k:Nat}(h:Up k ss):ss.length≤k:=by
 have:=Jd (l:=ss) (m:=(gF k).map fun(i:Nat)=> ((i+1:Nat):Int)) (iI.mpr (h.1.imp fun h=>by omega)) fun v hv=>by
  have:=h.2 v hv
  exact gc.mpr ⟨(v-1).toNat,gG.mpr (by omega),by omega⟩
 rwa[e8,iL] at this
theorem Me{k:Nat}(k8:k≤8)(h:Up k ss):SrtG.FJ 8 ss:=⟨iq (Md h) k8,fun z hz=>by have:=h.2 z hz;omega⟩
theorem HH(n1:N≤16)(h:Stp N ss):ss.length≤8:=iq (Md (HF.mpr h)) (by omega)
noncomputable def SR(N:Nat)(ss:List Int):List (Int×Int):=ss.flatMap fun s=> (gF N).map fun(p:Nat)=> ((p:Int),((p:Int)+s)%(N:Int))
noncomputable def ZU(p:Int×Int):Int×Int:=(min p.1 p.2,max p.1 p.2)
theorem VL:(SR N ss).length=N*ss.length:=by
 unfold SR
 induction ss with
 |nil=>simp
 |cons s l ih=>
  rw[mU,gw,ih,e8,iL,fz,qr]
  omega
theorem Ny{s:Int}{p:Nat}(hp:p<N)(h1:1≤s)(h2:s*2≤N):((p:Int)+s)%(N:Int)=if(p:Int)+s<N then(p:Int)+s else(p:Int)+s-N:=by
 split
 ·exact mV (by omega) (by omega)
 ·rw[←Int.sub_emod_right,mV (by omega) (by omega)]
theorem Yn(h:Stp N ss):∀q∈SR N ss,(0≤q.1∧q.1<N)∧0≤q.2∧q.2<N:=fun q hq=>by
 obtain⟨s,hs,hq⟩:=jW.mp hq
 obtain⟨p,hp,rfl⟩:=gc.mp hq
 have:=gG.mp hp
 have:=h.hs s hs
 simp only
 rw[Ny (by omega) (by omega) (by omega)]
 split<;>omega
theorem SS(h:Stp N ss){qs:List (Int×Int)}(q1:qs.Pairwise Ji)(q2:∀q,q∈qs↔q∈(SR N ss).map ZU):qs=CK N ss:=by
 refine MZ q1 WD fun q=>?_
 rw[q2,gc,Jc]
 unfold Br
 constructor
 ·rintro⟨x,hx,rfl⟩
  obtain⟨s,hs,hq⟩:=jW.mp hx
  obtain⟨p,hp,rfl⟩:=gc.mp hq
  have:=gG.mp hp
  have:=h.hs s hs
  unfold ZU
  simp only
  rw[Ny (by omega) (by omega) (by omega)]
  split
  ·rw[pe (by omega),Int.max_eq_right (by omega)]
   exact⟨by omega,.inl (by rw[show(p:Int)+s-p=s by omega];exact hs)⟩
  ·rw[oH (by omega),Int.max_eq_left (by omega)]
   exact⟨by omega,.inr (by rw[show(N:Int)- ((p:Int)- ((p:Int)+s-N))=s by omega];exact hs)⟩
 ·rintro⟨P,e⟩
  rcases e with e|e
  ·have:=h.hs _ e
   refine⟨(q.1,q.2),jW.mpr ⟨_,e,gc.mpr ⟨q.1.toNat,gG.mpr (by omega),?_⟩⟩,?_⟩
   ·rw[Ny (by omega) (by omega) (by omega),if_pos (by omega)]
    exact jd (by simp only;omega) (by simp only;omega)
   ·unfold ZU
    exact jd (by simp only;omega) (by simp only;omega)
  ·have:=h.hs _ e
   refine⟨(q.2,q.1),jW.mpr ⟨_,e,gc.mpr ⟨q.2.toNat,gG.mpr (by omega),?_⟩⟩,?_⟩
   ·rw[Ny (by omega) (by omega) (by omega),if_neg (by omega)]
    exact jd (by simp only;omega) (by simp only;omega)
   ·unfold ZU
    exact jd (by simp only;omega) (by simp only;omega)
section
variable{P:Program}{w:World}{K:a9}{mg:Str→Option Value}{base:Heap}{CN:Addr}
noncomputable def SU(CN:Addr):Cp:=fun ts O Φ Ξ=>∃t,ts=[t]∧Aj t=false∧(Cu t 3 16=true→Φ .non O)∧(Cu t 3 16=false→Ξ (.ref CN) O)
theorem Yo:FnScope ["many"] ["many"] (AA Rc):=⟨rfl,rfl,rfl,by decide+kernel,rfl,by decide+kernel,by decide+kernel⟩
theorem VM{f:Addr}{fd:gE}(F:Fun K "need_many" "need_many" Rc f fd)(Tx:Txt mg)(G:FnT P w K mg base "need_number" 2 ["thing","least","most"] (Nm CN)):FnOk P w K mg base (CXe P w) 3 f fd ["many"] (DR K (SU CN)):=by
 refine AV F Yo ?_ ?_
 ·rintro ts O Φ Ξ ⟨t,rfl,_⟩
  rfl
 ·rintro cdv A outer s H E O Ξ hr xf _ Φ ⟨t,rfl,ht,q1,q2⟩
  exact AG (Ao (AX G hr xf (EA.wa (AE (ev 0) (AE (Bv Tx.iLP) (AE (Bv Tx.iMost) AC))) ⟨t,3,16,rfl,ht,q1,q2⟩)))
theorem bb:(Ah ["step"] [(("many" :Str),0)]).Nodup:=by decide+kernel
noncomputable def bf:Cp:=NQ fun ts r=>∃(N:Nat) (ss:List Int),ts=[.int (N:Int),.tup (ss.map T.int)]∧3≤N∧N≤16∧Stp N ss∧r=Fb (N:Int) (CK N ss)
noncomputable def eV:List Str:=["many","steps","pairs","step"]
theorem Yp:FnScope eV ["many","steps"] (AA cT):=⟨rfl,rfl,rfl,by decide+kernel,rfl,by decide+kernel,by decide+kernel⟩
theorem bg:(Ah ["place"] [(("step" :Str),3),(("many" :Str),0)]).Nodup:=by decide+kernel
theorem bh{f:Addr}{fd:gE}(F:Fun K "web_turned" "web_turned" cT f fd)(Tx:Txt mg)(G:FnT P w K mg base "ties_of" 2 ["pairs"] Ks):FnOk P w K mg base (CXe P w) 3 f fd ["many","steps"] (DR K bf):=by
 refine AV F Yp ?_ ?_
 ·rintro ts O Φ Ξ ⟨r,⟨N,ss,rfl,_⟩,_⟩
  rfl
 ·rintro cdv A outer s H E O Ξ hr xf _ Φ ⟨_,⟨N,ss,rfl,n0,n1,st,rfl⟩,q⟩
  have sb:=AZ
  have sl:=HH n1 st
  have pl:∀i,(SR N (ss.take i)).length≤16*8:=fun i=>by
   rw[VL]
   rw[gX]
   exact Nat.mul_le_mul n1 (by omega)
  refine AD (AS 2 (Cm (BB ⟨ip _,fun l hl=>?_⟩)) Yp.nd)
  refine AD (Av AY.own rfl (EI.wi (DS (ev 1)) ⟨fun i ρ' O'=>∃v3:Option T,ρ'=[some (.int (N:Int)),some (.tup (ss.map T.int)),some (.raw (.ref l)),v3]∧O'=Ad O l ((SR N (ss.take i)).map Ab),⟨none,rfl,rfl⟩,?_,?_⟩))
  ·rintro i t _ _ e ⟨v3,rfl,rfl⟩
   rw[fq] at e
   cases es:ss[i]? with
   |none=>rw[es] at e;cases e
   |some x=>
    rw[es] at e
    cases e
    have pi:=pl i
    refine⟨[some (.int (N:Int)),some (.tup (ss.map T.int)),some (.raw (.ref l)),some (.int x)],AO 3 Yp.nd (by show 3<4;decide),?_⟩
    refine AG (Ao (Ox (ET.we (ev 2) ⟨l,rfl,⟨_,AF⟩,ET.we (t:=.lst (((gF N).map fun(p:Nat)=> ((p:Int),((p:Int)+x)%(N:Int))).map Ab)) (ET.cast (JB ["place"] [("step",3),("many",0)] (gF N) (fun(j:Nat)=>T.int (j:Int)) (fun(p:Nat)=>Ab ((p:Int),((p:Int)+x)%(N:Int))) rfl (DE (AA cT) eV (by decide+kernel)) (EI.cast (BW Tx.nRange (ev 0) ⟨by omega,by omega⟩) (by unfold FD;simp)) (by rw[iL];omega) fun y hy=> ⟨[some (.int (y:Int)),some (.int x),some (.int (N:Int))],fun X' Oe He is O'=>?_⟩) (by rw[i6];rfl)) ⟨_,_,rfl,AF,by simp only[e8,iL];omega,_,rfl,?_⟩⟩)))
    ·obtain⟨cl,s',H',fp,rfl⟩:=is
     exact⟨AO 0 bg (by decide),JC (ev 0) (DP (Bp (ev 0) (ev 1)) (ev 2) (by omega))⟩
    ·rw[BO,←il,iV,es]
     unfold SR
     rw[List.flatMap_append]
     congr 3
     simp
  ·rintro _ _ ⟨v3,rfl,rfl⟩
   have pi:=pl (ss.map T.int).length
   rw[e8,iK] at pi ⊢
   refine BQ (p:=l) (n:=2) (ts:=(SR N ss).map Ab) AF hl rfl ?_
   rw[Am hl]
   refine AG (AR (Lv (KY (ET.we (ev 0) (KY (AX G (hr.mono (by decide)) xf (EA.wa (AE (ev 2) AC) ⟨SR N ss,rfl,by omega,fun p hp=>by have:=Yn st p hp;omega,fun qs q1 q2 _=>BB ⟨by show 2≤sizeLine;decide,?_⟩⟩)))))))
   have:=SS st q1 q2
   subst this
   exact q
noncomputable def bj:Cp:=NQ fun ts r=>∃(N:Nat) (ss:List Int),ts=[.int (N:Int),.tup (ss.map T.int)]∧3≤N∧N≤16∧Stp N ss∧r=.int (HE N ss)
theorem dy:FnScope ["many","steps"] ["many","steps"] (AA cU):=⟨rfl,rfl,rfl,by decide+kernel,rfl,by decide+kernel,by decide+kernel⟩
theorem bo{f:Addr}{fd:gE}(F:Fun K "ties_turned" "ties_turned" cU f fd)(Tx:Txt mg):FnOk P w K mg base (CXe P w) 1 f fd ["many","steps"] (DR K bj):=by
 refine AV F dy ?_ ?_
 ·rintro ts O Φ Ξ ⟨r,⟨N,ss,rfl,_⟩,_⟩
  rfl
 ·rintro cdv A outer s H E O Ξ hr xf _ Φ ⟨_,⟨N,ss,rfl,n0,n1,st,rfl⟩,q⟩
  have sb:=AZ
  have sl:=HH n1 st
  refine AG (AR (ET.we (ET.cast (GU (Ez (UJ Tx.nLen (ev 1)) AB (.inr ⟨by decide,by decide⟩)) (Iz Tx.nLen (Ds ["step"] [("many",0)] ss T.int T.int (fun s=>decide (s*2=(N:Int))) rfl (DE (AA cU) ["many","steps"] (by decide+kernel)) (DS (ev 1)) (by omega) fun x hx=> ⟨[some (.int x),some (.int (N:Int))],fun X' Oe He is O'=>?_⟩))) ?_) q))
  ·obtain⟨cl,s',H',fp,rfl⟩:=is
   exact⟨AO 0 bb (by decide),Co (Ez (ev 0) AB (.inr ⟨by decide,by decide⟩)) (ev 1),fun _=>ev 0⟩
  ·rw[e8,e8]
   rfl
end
section
variable{P:Program}{w:World}{K:a9}{mg:Str→Option Value}{base:Heap}{CN:Addr}
noncomputable def SV:Cp:=fun ts O Φ _=>∃N:Nat,ts=[.int (N:Int)]∧3≤N∧N≤16∧∀L:List (List Int),L.Perm (Aq (N/2))→L.Pairwise (fun x y=>SrtG.Fl 8 x≤SrtG.Fl 8 y)→Φ (.lst (L.map AK)) O
noncomputable def WH:List Str:=["many","rows","step"]
theorem Je:FnScope WH ["many"] (AA Ki):=⟨rfl,rfl,rfl,by decide+kernel,rfl,by decide+kernel,by decide+kernel⟩
theorem bp:(Ah ["row"] [(("step" :Str),2)]).Nodup:=by decide+kernel
theorem VN{f:Addr}{fd:gE}(F:Fun K "all_steps" "all_steps" Ki f fd)(Tx:Txt mg):FnOk P w K mg base (CXe P w) 1 f fd ["many"] (DR K SV):=by
 refine AV F Je ?_ ?_
 ·rintro ts O Φ Ξ ⟨N,rfl,_⟩
  rfl
 ·rintro cdv A outer s H E O Ξ hr xf _ Φ ⟨N,rfl,n0,n1,q⟩
  have sb:=AZ
  have hu:(A.deeper (lz "all_steps" (AA Ki) s.heap.objs.size f cdv)).units+2<cLine:=by have:=hr.un;omega
  refine AD (AS 1 (ET.we (t:=.lst ((Aq 0).map AK)) (Bo (ts:=[.tup []]) (AE (Bn AC) AC) (by show 1≤sizeLine;decide)) ?_) Je.nd)
  refine AD (Av AY.own rfl (EI.wi (CY Tx.nRange AB (Bp (De (ev 0) AB ⟨by decide,by decide⟩) AB) ⟨by decide,by decide,by omega,by omega⟩) ⟨fun i ρ' O'=>∃v2:Option T,ρ'=[some (.int (N:Int)),some (.lst ((Aq i).map AK)),v2]∧O'=O,⟨none,rfl,rfl⟩,?_,?_⟩))
  ·rintro i t _ _ e ⟨v2,rfl,rfl⟩
   obtain⟨hi,rfl⟩:=Bq e
   have la:=Ej (k:=i) (by omega)
   refine⟨[some (.int (N:Int)),some (.lst ((Aq i).map AK)),some (.int (1+i))],AO 2 Je.nd (by show 2<3;decide),?_⟩
   refine AG (AS 1 (ET.we (t:=.lst ((Aq (i+1)).map AK)) (ET.cast (Fh (ev 1) (JB ["row"] [("step",2)] (Aq i) AK (fun r=>AK (r++[((i+1:Nat):Int)])) rfl (DE (AA Ki) WH (by decide+kernel)) (Ax (ev 1)) (by omega) fun x hx=> ⟨[some (AK x),some (.int (1+i))],fun X' Oe He is O'=>?_⟩) (by rw[e8,e8];omega)) ?_) ?_) Je.nd)
   ·obtain⟨cl,s',H',fp,rfl⟩:=is
    have xl:=Md (BF.mp hx)
    refine⟨AO 0 bp (by decide),ET.cast (UM (ts:=x.map T.int) (us:=[.int (1+i)]) (ev 0) (Bn (AE (ev 1) AC)) (by rw[e8,List.length_singleton];omega)) ?_⟩
    unfold AK
    rw[il,show((i+1:Nat):Int)=1+i by omega]
    rfl
   ·show T.lst _=T.lst ((Aq i++(Aq i).map (fun r=>r++[((i+1:Nat):Int)])).map AK)
    rw[il,i6]
    rfl
   ·exact⟨_,rfl,rfl⟩
  ·rintro _ _ ⟨v2,rfl,rfl⟩
   rw[Af,show((N:Int)/2+1-1).toNat=N/2 by omega]
   exact AG (AR (MM (ks:=Aq (N/2)) hu Tx.nSorted (ev 1) (II _) (fun k hk=>Me (by omega) (BF.mp hk)) (iq (Ej (by omega)) (by decide)) fun ms pm pw=>q ms pm pw))
theorem Nz:∀{k:Nat} {x y:List Int},x.length=y.length→SrtG.FJ k x→SrtG.FJ k y→(SrtG.Fl k x<SrtG.Fl k y↔GrR.rk x<GrR.rk y)
 |0,[],[],_,_,_=>by show(0:Int)<0↔(0:Int)<0;exact Iff.rfl
 |_+1,[],[],_,_,_=>by show(0:Int)<0↔(0:Int)<0;exact Iff.rfl
 |0,_::_,_,_,h,_=>by have:=h.1;simp at this
 |_,[],_::_,h,_,_=>by cases h
 |_,_::_,[],h,_,_=>by cases h
 |k+1,a::x,b::y,h,hx,hy=>by
  have hl:x.length=y.length:=by simpa using h
  have rx:SrtG.FJ k x:=⟨by have:=hx.1;simp at this;omega,fun z hz=>hx.2 z (by simp[hz])⟩
  have ry:SrtG.FJ k y:=⟨by have:=hy.1;simp at this;omega,fun z hz=>hy.2 z (by simp[hz])⟩
  have ih:=Nz hl rx ry
  have b1:=SrtG.Dy rx
  have b2:=SrtG.Dy ry
  have c1:=SrtG.FS (r:=x) fun z hz=>by have:=rx.2 z hz;omega
  have c2:=SrtG.FS (r:=y) fun z hz=>by have:=ry.2 z hz;omega
  show a*16^k+SrtG.Fl k x<b*16^k+SrtG.Fl k y↔_
  rw[SrtG.Ay,SrtG.Ay,hl]
  rw[hl] at c1
  generalize (16:Int)^k=B at*
  generalize (32:Int)^y.length=C at*
  rcases Int.lt_trichotomy a b with c|c|c
  ·have e1:(a+1)*B≤b*B:=gI (by omega) (by omega)
   have e2:(a+1)*C≤b*C:=gI (by omega) (by omega)
   rw[lh,lg] at e1 e2
   constructor<;>intro<;>omega
  ·subst c
   constructor<;>intro<;>omega
  ·have e1:(b+1)*B≤a*B:=gI (by omega) (by omega)
   have e2:(b+1)*C≤a*C:=gI (by omega) (by omega)
   rw[lh,lg] at e1 e2
   constructor<;>intro<;>omega
theorem Mf:∀{x y:List Int},x.length=y.length→(∀z∈x,0≤z∧z<32)→(∀z∈y,0≤z∧z<32)→GrR.rk x=GrR.rk y→x=y
 | [],[],_,_,_,_=>rfl
 | [],_::_,h,_,_,_=>by cases h
 |_::_,[],h,_,_,_=>by cases h
 |a::x,b::y,h,hx,hy,e=>by
  have hl:x.length=y.length:=by simpa using h
  have rx:=fun z (hz:z∈x)=>hx z (by simp[hz])
  have ry:=fun z (hz:z∈y)=>hy z (by simp[hz])
  have c1:=SrtG.FS rx
  have c2:=SrtG.FS ry
  rw[SrtG.Ay,SrtG.Ay,hl] at e
  rw[hl] at c1
  have ih:=Mf hl rx ry
  generalize (32:Int)^y.length=C at*
  rcases Int.lt_trichotomy a b with c|c|c
  ·have e2:(a+1)*C≤b*C:=gI (by omega) (by omega)
   rw[lh,lg] at e2
   omega
  ·subst c
   rw[ih (by omega)]
  ·have e2:(b+1)*C≤a*C:=gI (by omega) (by omega)
   rw[lh,lg] at e2
   omega
noncomputable def WJ(n:Nat)(L:List (List Int)):Prop:=∀x∈L,x.length=n∧∀z∈x,0≤z∧z<32
theorem IJ{n:Nat}{L:List (List Int)}(nd:L.Nodup)(hl:WJ n L)(h:L.Pairwise (fun x y=>GrR.rk x≤GrR.rk y)):L.Pairwise (fun x y=>GrR.rk x<GrR.rk y):=by
 have:=(gS.and h (iI.mp nd))
 refine this.imp_of_mem fun{x y} hx hy z=>?_
 have h2:GrR.rk x≠GrR.rk y:=fun e=>z.2 (Mf ((hl x hx).1.trans (hl y hy).1.symm) (hl x hx).2 (hl y hy).2 e)
 have h1:GrR.rk x≤GrR.rk y:=z.1
 show GrR.rk x<GrR.rk y
 omega
theorem Fq:∀k,(Aq k).Nodup
 |0=>by show[[]].Nodup;simp
 |k+1=>by
  show(Aq k++(Aq k).map fun r=>r++[((k+1:Nat):Int)]).Nodup
  have ih:=iI.mp (Fq k)
  refine gU.mpr ⟨Fq k,iI.mpr (iw.mpr (ih.imp fun h e=>h (List.append_cancel_right e))),fun a ha b hb e=>?_⟩
  obtain⟨r,hr,rfl⟩:=gc.mp hb
  have:=(BF.mp ha).2 ((k+1:Nat):Int) (by rw[e];simp)
  omega
theorem LB{N:Nat}:∀{ss:List Int},ss.Pairwise (· < ·)→(ss.filter fun s=>decide (s*2=(N:Int))).length≤1
 | [],_=>by simp
 |s::l,h=>by
  have h':=jH.mp h
  by_cases c:s*2=(N:Int)
  ·rw[jl,if_pos (decide_eq_true c),List.filter_eq_nil_iff.mpr fun z hz=>by have:=h'.1 z hz;rw[decide_eq_true_eq];omega]
   simp
  ·rw[jl,if_neg (by rw[decide_eq_false c];exact c9)]
   exact LB h'.2
theorem DY{N:Nat}{ss:List Int}{d:Int}(h:Stp N ss)(e:HE N ss=d):ss.length=((d+1)/2).toNat:=by
 have:=LB (N:=N) h.pw
 unfold HE at e
 omega
noncomputable def BA(N:Nat)(d:Int)(g:Nat)(ss:List Int):Prop:=grown d g≤N∧Stp N ss∧HE N ss=d∧bU (N:Int) (CK N ss) d (g:Int)=true
noncomputable def SW:Cp:=fun ts O Φ _=>∃(N:Nat) (d:Int) (g:Nat),ts=[.int (N:Int),.int d,.int (g:Int)]∧3≤N∧N≤16∧(2≤d∧d≤15)∧3≤g∧g≤16∧∀L:List (List Int),L.length≤256→(∀ss,ss∈L↔BA N d g ss)→L.Pairwise (fun x y=>GrR.rk x<GrR.rk y)→∀l,O l=none→Φ (.raw (.ref l)) (Ad O l (L.map AK))
noncomputable def Yq:List Str:=["many","d","g","rows"]
theorem WK:FnScope Yq ["many","d","g"] (AA Re):=⟨rfl,rfl,rfl,by decide+kernel,rfl,by decide+kernel,by decide+kernel⟩
theorem Yr:(Ah ["steps"] [(("many" :Str),0),(("d" :Str),1)]).Nodup:=by decide+kernel
theorem Ys:(Ah ["steps"] [(("many" :Str),0),(("d" :Str),1),(("g" :Str),2)]).Nodup:=by decide+kernel
theorem Yt{f:Addr}{fd:gE}(F:Fun K "steps_that_fit" "steps_that_fit" Re f fd)(Gg:FnT P w K mg base "grown_places" 2 ["d","g"] Np)(Ga:FnT P w K mg base "all_steps" 1 ["many"] SV)(Gt:FnT P w K mg base "ties_turned" 1 ["many","steps"] bj)(Gw:FnT P w K mg base "web_turned" 3 ["many","steps"] bf)(Gd:FnT P w K mg base "does_fit" 5 ["web","d","g"] SJ):FnOk P w K mg base (CXe P w) 6 f fd ["many","d","g"] (DR K SW):=by
 refine AV F WK ?_ ?_
 ·rintro ts O Φ Ξ ⟨N,d,g,rfl,_⟩
  rfl
 ·rintro cdv A outer s H E O Ξ hr xf _ Φ ⟨N,d,g,rfl,n0,n1,hd,g0,g1,q⟩
  have sb:=AZ
  refine AD (BR (k:=decide ((N:Int)<grown d g)) (aV (Bx Gg (hr.mono (by decide)) xf (AE (ev 1) (AE (ev 2) AC)) ⟨d,g,rfl,by omega,by omega,rfl⟩) (ev 0)) (fun h=>?_) (fun h=>Ba ?_))
  ·have h:=of_decide_eq_true h
   exact AG (AR (Cm (BB ⟨ip _,q [] (by simp) (fun ss=> ⟨fun z=>by(cases z),fun z=>absurd z.1 (by omega)⟩) .nil⟩)))
  ·have h:=of_decide_eq_false h
   refine AD (EV (i:=3) (nc:=["steps"]) (cap:=[("many",0),("d",1)]) (by rfl) WK.nd rfl (DE (AA Re) Yq (by decide+kernel)) (Iu (AX Ga (hr.mono (by decide)) xf (EA.wa (AE (ev 0) AC) ⟨N,rfl,n0,n1,fun L pm pw=> ⟨_,rfl,?_⟩⟩))))
   have hL:L.length≤256:=by rw[pm.length_eq];exact Ej (by omega)
   have hst:∀x∈L,Stp N x:=fun x hx=>HF.mp (BF.mp (pm.mem_iff.mp hx))
   refine By L AK AK (fun ss=>decide (HE N ss=d)) (by omega) (fun x hx=> ⟨[some (AK x),some (.int (N:Int)),some (.int d)],fun X' Oe He is O'=>?_⟩) ?_
   ·obtain⟨cl,s',H',fp,rfl⟩:=is
    exact⟨AO 0 Yr (by decide),Co (Bx Gt (hr.mono (by decide)) Fj (AE (ev 1) (AE (ev 0) AC)) ⟨N,x,rfl,n0,n1,hst x hx,rfl⟩) (ev 2),fun _=>ev 0⟩
   ·have fl:(L.filter fun ss=>decide (HE N ss=d)).length≤256:=iq (iM ..) hL
    refine AG (AR (YH (nc:=["steps"]) (cap:=[("many",0),("d",1),("g",2)]) rfl (DE (AA Re) Yq (by decide+kernel)) (EI.wi (Ax (ev 3)) (By (L.filter fun ss=>decide (HE N ss=d)) AK AK (fun ss=>bU (N:Int) (CK N ss) d (g:Int)) (by omega) (fun x hx=> ⟨[some (AK x),some (.int (N:Int)),some (.int d),some (.int (g:Int))],fun X' Oe He is O'=>?_⟩) (q _ (iq (iM ..) fl) (fun ss=>?_) ?ord)))))
    ·obtain⟨cl,s',H',fp,rfl⟩:=is
     exact⟨AO 0 Ys (by decide),NN (Bx Gd hr Fj (AE (Bx Gw (hr.mono (by decide)) Fj (AE (ev 1) (AE (ev 0) AC)) ⟨N,x,rfl,n0,n1,hst x (gq.mp hx).1,rfl⟩) (AE (ev 2) (AE (ev 3) AC))) ⟨_,_,d,g,rfl,IH (by omega) n1,rfl⟩),fun _=>ev 0⟩
    ·rw[gq,gq,pm.mem_iff,BF,HF,decide_eq_true_eq]
     exact⟨fun z=> ⟨by omega,z.1.1,z.1.2,z.2⟩,fun z=> ⟨⟨z.2.1,z.2.2.1⟩,z.2.2.2⟩⟩
    ·have hm:∀x∈L.filter (fun ss=>decide (HE N ss=d)),Stp N x∧HE N x=d:=fun x hx=> ⟨hst x (gq.mp hx).1,of_decide_eq_true (gq.mp hx).2⟩
     have pw2:=pw.filter (fun ss=>decide (HE N ss=d))
     have pw3:(L.filter fun ss=>decide (HE N ss=d)).Pairwise (fun x y=>GrR.rk x≤GrR.rk y):=pw2.imp_of_mem fun{x y} hx hy z=>by
      have e:=Nz ((DY (hm y hy).1 (hm y hy).2).trans (DY (hm x hx).1 (hm x hx).2).symm) (Me (by omega) (HF.mpr (hm y hy).1)) (Me (by omega) (HF.mpr (hm x hx).1))
      have:=e.mpr
      omega
     exact(IJ (n:=((d+1)/2).toNat) ((pm.nodup_iff.mpr (Fq _)).filter _) (fun x hx=> ⟨DY (hm x hx).1 (hm x hx).2,fun z hz=>by have:=(hm x hx).1.hs z hz;omega⟩) pw3).filter _
noncomputable def WL(CN:Addr):Cp:=fun ts O Φ Ξ=>∃t u v:T,ts=[t,u,v]∧Aj t=false∧Aj u=false∧Aj v=false∧(Cu t 3 16=false∨Cu u 2 15=false∨Cu v 3 16=false→Ξ (.ref CN) O)∧
 ∀(N:Nat) (d:Int) (g:Nat),t=.int (N:Int)→u=.int d→v=.int (g:Int)→3≤N→N≤16→(2≤d∧d≤15)→3≤g→g≤16→∀L:List (List Int),L.length≤256→(∀ss,ss∈L↔BA N d g ss)→L.Pairwise (fun x y=>GrR.rk x<GrR.rk y)→∀l,O l=none→Φ (.raw (.ref l)) (Ad O l (L.map AK))
theorem bu:FnScope ["many","d","g"] ["many","d","g"] (AA YN):=⟨rfl,rfl,rfl,by decide+kernel,rfl,by decide+kernel,by decide+kernel⟩
theorem Yu{f:Addr}{fd:gE}(F:Fun K "by_turns" "by_turns" YN f fd)(Gm:FnT P w K mg base "need_many" 3 ["many"] (SU CN))(Gt:FnT P w K mg base "need_ties_and_ring" 4 ["d","g"] (Yb CN))(G:FnT P w K mg base "steps_that_fit" 6 ["many","d","g"] SW):FnOk P w K mg base (CXe P w) 7 f fd ["many","d","g"] (DR K (WL CN)):=by
 refine AV F bu ?_ ?_
 ·rintro ts O Φ Ξ ⟨t,u,v,rfl,_⟩
  rfl
 ·rintro cdv A outer s H E O Ξ hr xf _ Φ ⟨t,u,v,rfl,ht,hu,hv,q1,q2⟩
  refine AD (Ao (AX Gm (hr.mono (by decide)) xf (EA.wa (AE (ev 0) AC) ⟨t,rfl,ht,fun h1=>?_,fun h=>q1 (.inl h)⟩)))
  refine AD (Ao (AX Gt (hr.mono (by decide)) xf (EA.wa (AE (ev 1) (AE (ev 2) AC)) ⟨u,v,rfl,hu,hv,fun h2 h3=>?_,fun h=>q1 (.inr h)⟩)))
  obtain⟨i,rfl,i0,i1⟩:=Ky h1
  obtain⟨d,rfl,d0,d1⟩:=Ky h2
  obtain⟨j,rfl,j0,j1⟩:=Ky h3
  obtain⟨N,rfl⟩:=gO (show 0≤i by omega)
  obtain⟨g,rfl⟩:=gO (show 0≤j by omega)
  exact AG (AR (AX G hr xf (EA.wa (AE (ev 0) (AE (ev 1) (AE (ev 2) AC))) ⟨N,d,g,rfl,by omega,by omega,⟨d0,d1⟩,by omega,by omega,q2 N d g rfl rfl rfl (by omega) (by omega) ⟨d0,d1⟩ (by omega) (by omega)⟩)))
noncomputable def Cz(d:Int)(g N:Nat)(ss:List Int):Prop:=3≤N∧N≤16∧BA N d g ss∧(∀rs,BA N d g rs→GrR.rk ss≤GrR.rk rs)∧∀M,3≤M→M<N→∀rs,¬BA M d g rs
noncomputable def HI(CN:Addr):Cp:=fun ts O Φ Ξ=>∃u v:T,ts=[u,v]∧Aj u=false∧Aj v=false∧(Cu u 2 15=false∨Cu v 3 16=false→Ξ (.ref CN) O)∧
 ∀(d:Int) (g:Nat),u=.int d→v=.int (g:Int)→(2≤d∧d≤15)→3≤g→g≤16→((∀M,3≤M→M≤16→∀rs,¬BA M d g rs)→Φ .non O)∧∀(N:Nat) (ss:List Int),Cz d g N ss→Φ (.tup [.int (N:Int),AK ss]) O
noncomputable def VO:List Str:=["d","g","many","rows"]
theorem HJ:FnScope VO ["d","g"] (AA JS):=⟨rfl,rfl,rfl,by decide+kernel,rfl,by decide+kernel,by decide+kernel⟩
theorem PV{f:Addr}{fd:gE}(F:Fun K "least_by_turns" "least_by_turns" JS f fd)(Tx:Txt mg)(Gt:FnT P w K mg base "need_ties_and_ring" 4 ["d","g"] (Yb CN))(G:FnT P w K mg base "steps_that_fit" 6 ["many","d","g"] SW):FnOk P w K mg base (CXe P w) 7 f fd ["d","g"] (DR K (HI CN)):=by
 refine AV F HJ ?_ ?_
 ·rintro ts O Φ Ξ ⟨u,v,rfl,_⟩
  rfl
 ·rintro cdv A outer s H E O Ξ hr xf _ Φ ⟨u,v,rfl,hu,hv,q1,q2⟩
  refine AD (Ao (AX Gt (hr.mono (by decide)) xf (EA.wa (AE (ev 0) (AE (ev 1) AC)) ⟨u,v,rfl,hu,hv,fun h2 h3=>?_,q1⟩)))
  obtain⟨d,rfl,d0,d1⟩:=Ky h2
  obtain⟨j,rfl,j0,j1⟩:=Ky h3
  obtain⟨g,rfl⟩:=gO (show 0≤j by omega)
  have hd:2≤d∧d≤15:=⟨d0,d1⟩
  have g0:3≤g:=by omega
  have g1:g≤16:=by omega
  have q2:=q2 d g rfl rfl hd g0 g1
  refine AD (Av AY.own rfl (EI.wi (CY Tx.nRange (Bv Tx.iLP) (Bp (Bv Tx.iMost) AB) ⟨by decide,by decide,by decide,by decide⟩) ⟨fun i ρ' O'=>∃v2 v3:Option T,ρ'=[some (.int d),some (.int (g:Int)),v2,v3]∧O'=O∧∀M,3≤M→M<i+3→∀rs,¬BA M d g rs,⟨none,none,rfl,rfl,fun M h1 h2=>absurd h2 (by omega)⟩,?_,?_⟩))
  ·rintro i t _ _ e ⟨v2,v3,rfl,rfl,no⟩
   obtain⟨hi,rfl⟩:=Bq e
   have hi:i<14:=by omega
   rw[show(3:Int)+(i:Int)=((i+3:Nat):Int) by omega]
   refine⟨[some (.int d),some (.int (g:Int)),some (.int ((i+3:Nat):Int)),v3],AO 2 HJ.nd (by show 2<4;decide),?_⟩
   refine AD (AS 3 (AX G hr xf (EA.wa (AE (ev 2) (AE (ev 0) (AE (ev 1) AC))) ⟨i+3,d,g,rfl,by omega,by omega,hd,g0,g1,fun L hL hm pw l hl=>?_⟩)) HJ.nd)
   refine BQ (p:=l) (n:=3) AF hl rfl ?_
   rw[Am hl]
   cases L with
   |nil=>exact AG (BR (k:=false) (ES (t:=.lst []) (ev 3) rfl) (fun h=>by cases h) fun _=>Ba ⟨_,_,rfl,rfl,fun M h1 h2 rs z=>by
     by_cases c:M=i+3
     ·subst c
      have:=(hm rs).mpr z
      cases this
     ·exact no M h1 (by omega) rs z⟩)
   |cons x L=>exact AG (BR (k:=true) (ES (t:=.lst (AK x::L.map AK)) (ev 3) rfl) (fun _=>AG (AR (ET.we (Bn (AE (ev 2) (AE (FA (t:=AK x) (ev 3) AB (BG (j:=0) rfl)) AC))) (q2.2 (i+3) x ⟨by omega,by omega,(hm x).mp (by simp),fun rs z=>by
     rcases fu.mp ((hm rs).mpr z) with rfl|hz
     ·exact jM _
     ·exact iY ((jH.mp pw).1 rs hz),no⟩)))) fun h=>by cases h)
  ·rintro _ _ ⟨v2,v3,rfl,rfl,no⟩
   rw[Af] at no
   exact AG (AR (ET.we CH (q2.1 fun M h1 h2=>no M h1 (by omega))))
end
variable{N:Nat}{ss:List Int}{d:Int}{g:Nat}{u v t:Int}
noncomputable def Jl(N:Nat)(t u:Int):Int:=if u+t<N then u+t else u+t-N
theorem SX(t0:0≤t)(t1:t<N)(u0:0≤u)(u1:u<N):0≤Jl N t u∧Jl N t u<N:=by unfold Jl;split<;>omega
theorem Fs(t0:0≤t)(t1:t<N)(u0:0≤u)(u1:u<N)(v0:0≤v)(v1:v<N)(e:Jl N t u=Jl N t v):u=v:=by unfold Jl at e;split at e<;>split at e<;>omega
theorem OA(h:Stp N ss)(t0:0≤t)(t1:t<N)(a:Gr.Adj (CK N ss) u v):Gr.Adj (CK N ss) (Jl N t u) (Jl N t v):=by
 obtain⟨hu,hv,s,hs,e⟩:=(Cy h).mp a
 have b:=h.hs s hs
 refine(Cy h).mpr ⟨SX t0 t1 hu.1 hu.2,SX t0 t1 hv.1 hv.2,s,hs,?_⟩
 unfold Jl
 split<;>split<;>omega
theorem bw{R R':Int→Int→Prop}{σ:Int→Int}{S:List Int}{k:Nat}(h:∀u v,R u v→R' (σ u) (σ v))(w:W R S k v):W R' (S.map σ) k (σ v):=by
 induction w with
 |«at» hm=>exact .at (gc.mpr ⟨_,hm,rfl⟩)
 |go _ r ih=>exact .go ih (h _ _ r)
theorem Yv{R:Int→Int→Prop}{a b:Int}:∀u v,RI R a b u v→RI R b a u v:=fun _ _ c=> ⟨c.1,c.2.2,c.2.1⟩
theorem Mh(h:Stp N ss){r:List Int}(hr:Ring (Gr.Adj (CK N ss)) r):∃y,(0,y)∈CK N ss∧∃k,k≤r.length-1∧GrR.IsD (Gr.Adj (Bt (CK N ss) (0,y))) [0] y k:=by
 obtain⟨a,b,ab,w⟩:=RJ hr
 have ia:=((Cy h).mp ab).1
 have ib:=((Cy h).mp ab).2.1
 obtain⟨t,t0,t1,tb⟩:∃t:Int,0≤t∧t<N∧Jl N t b=0:=by
  by_cases c:b=0
  ·exact⟨0,by omega,by omega,by unfold Jl;split<;>omega⟩
  ·exact⟨N-b,by omega,by omega,by unfold Jl;split<;>omega⟩
 have hab:=OA h t0 t1 ab
 have w2:W (RI (Gr.Adj (CK N ss)) (Jl N t a) (Jl N t b)) ([b].map (Jl N t)) (r.length-1) (Jl N t a):=bw (fun u v c=>by
  have iu:=((Cy h).mp c.1).1
  have iv:=((Cy h).mp c.1).2.1
  exact⟨OA h t0 t1 c.1,fun e=>c.2.1 ⟨Fs t0 t1 iu.1 iu.2 ia.1 ia.2 e.1,Fs t0 t1 iv.1 iv.2 ib.1 ib.2 e.2⟩,fun e=>c.2.2 ⟨Fs t0 t1 iu.1 iu.2 ib.1 ib.2 e.1,Fs t0 t1 iv.1 iv.2 ia.1 ia.2 e.2⟩⟩) w
 rw[gH,l8,tb] at w2
 rw[tb] at hab
 have hm:(0,Jl N t a)∈CK N ss:=by
  rcases hab with z|z
  ·have:=(SM _ z).2.1
   have:=(SM _ z).1
   simp only at*
   omega
  ·exact z
 obtain⟨k,hk,D⟩:=(w2.mono Yv).least
 refine⟨Jl N t a,hm,k,hk,?_⟩
 rw[Eh DX hm]
 exact D
theorem Mi{y:Int}(n0:1≤N)(h:(0,y)∈CK N ss):(0,y)∈(CK N ss).take N:=by
 obtain⟨M,rfl⟩:∃M,N=M+1:=⟨N-1,by omega⟩
 have hy:=SM _ h
 have hin:=(gq.mp h).2
 unfold Br at hy
 simp only at hy
 have e:Kz (M+1)=((gF (M+1)).filter fun b=>decide (0<b)).map (fun(b:Nat)=> ((0:Int),(b:Int)))++((gF M).map Nat.succ).flatMap fun(a:Nat)=> ((gF (M+1)).filter fun b=>decide (a<b)).map fun(b:Nat)=> ((a:Int),(b:Int)):=by
  unfold Kz
  conv=>lhs;arg 2;rw[List.range_succ_eq_map]
  rw[mU]
  rfl
 have e2:CK (M+1) ss=((((gF (M+1)).filter fun b=>decide (0<b)).map (fun(b:Nat)=> ((0:Int),(b:Int)))).filter (ZS (M+1) ss))++((((gF M).map Nat.succ).flatMap fun(a:Nat)=> ((gF (M+1)).filter fun b=>decide (a<b)).map fun(b:Nat)=> ((a:Int),(b:Int))).filter (ZS (M+1) ss)):=by
  unfold CK
  rw[e,mD]
 have hl:((((gF (M+1)).filter fun b=>decide (0<b)).map (fun(b:Nat)=> ((0:Int),(b:Int)))).filter (ZS (M+1) ss)).length≤M+1:=by
  refine iq (iM ..) ?_
  rw[e8]
  refine iq (iM ..) ?_
  rw[iL]
  exact fv _
 have hA:(0,y)∈(((gF (M+1)).filter fun b=>decide (0<b)).map (fun(b:Nat)=> ((0:Int),(b:Int)))).filter (ZS (M+1) ss):=
  gq.mpr ⟨gc.mpr ⟨y.toNat,gq.mpr ⟨gG.mpr (by omega),decide_eq_true (by omega)⟩,by rw[kT (by omega)]⟩,hin⟩
 rw[e2,List.take_append,lB hl]
 exact iR _ hA
noncomputable def Mj(N:Nat)(ss:List Int)(g:Nat):Prop:=∀p∈(CK N ss).take N,∀k,GrR.IsD (Gr.Adj (Bt (CK N ss) p)) [p.1] p.2 k→g≤k+1
theorem HL{ps:List (Int×Int)}{g:Int}:Vz ps g=false↔∀m,LI ps=some m→g≤m:=by
 unfold Vz
 cases LI ps with
 |none=>exact⟨(fun _ _ h=>by cases h),fun _=>rfl⟩
 |some m=>
  constructor
  ·intro h m' e
   cases e
   have:=of_decide_eq_false h
   omega
  ·intro h
   exact decide_eq_false (by have:=h m rfl;omega)
theorem SY(st:Stp N ss)(n0:3≤N):Mj N ss g↔Vz (CK N ss) (g:Int)=false:=by
 rw[HL]
 constructor
 ·intro h m hm
  obtain⟨r,hr,hl⟩:=SE DX hm
  obtain⟨y,hy,k,hk,D⟩:=Mh st hr
  have:=h _ (Mi (by omega) hy) k D
  have:=hr.len
  omega
 ·intro h p hp k D
  have hp:=lV hp
  rw[Eh DX hp] at D
  obtain⟨r,hr,hl⟩:=NY HB (JZ DX) (show Gr.Adj (CK N ss) p.1 p.2 from .inl hp) D
  obtain⟨m,hm,le⟩:=Fp DX hr
  have:=h m hm
  omega
theorem PX:((gF 14).all fun d=> (gF 14).all fun g=> (gF 14).all fun k=>!decide (g≤k)||decide (grown ((d+2:Nat):Int) (g+3)≤grown ((d+2:Nat):Int) (k+3)))=true:=by decide+kernel
theorem VP{k:Nat}(d0:2≤d)(d1:d≤15)(g0:3≤g)(k1:k≤16)(h:g≤k):grown d g≤grown d k:=by
 have:=jm.mp (jm.mp (jm.mp PX (d-2).toNat (gG.mpr (by omega))) (g-3) (gG.mpr (by omega))) (k-3) (gG.mpr (by omega))
 rw[show(((d-2).toNat+2:Nat):Int)=d by omega,show g-3+3=g by omega,show k-3+3=k by omega,decide_eq_true (by omega:g-3≤k-3)] at this
 exact of_decide_eq_true (by simpa using this)
theorem SZ(n0:3≤N)(n1:N≤16)(hd:2≤d∧d≤15)(g0:3≤g):BA N d g ss↔Stp N ss∧HE N ss=d∧Mj N ss g:=by
 constructor
 ·rintro⟨_,st,ht,hf⟩
  have:=(iE .. |>.mp hf).2
  exact⟨st,ht,(SY st n0).mpr (by simpa using this)⟩
 ·rintro⟨st,ht,no⟩
  have no:=(SY st n0).mp no
  obtain⟨k,hk,F⟩:=ba st (by omega) n1 (by omega)
  have:=HL.mp no _ hk
  have kn:=F.kn
  have gr:=F.gr
  rw[ht] at gr
  have:=VP (k:=k) hd.1 hd.2 g0 (by omega) (by omega)
  refine⟨by omega,st,ht,?_⟩
  unfold bU
  rw[SN st (by omega) n1,ht,decide_eq_true rfl,no]
  rfl
theorem HM{M:Nat}{rs:List Int}(a:Cz d g N ss)(b:Cz d g M rs):N=M∧ss=rs:=by
 have e:N=M:=by
  rcases jQ N M with c|c|c
  ·exact absurd a.2.2.1 (b.2.2.2.2 N a.1 c ss)
  ·exact c
  ·exact absurd b.2.2.1 (a.2.2.2.2 M b.1 c rs)
 subst e
 have sa:=a.2.2.1.2.1
 have sb:=b.2.2.1.2.1
 have h1:=a.2.2.2.1 rs b.2.2.1
 have h2:=b.2.2.2.1 ss a.2.2.1
 have:=a.2.1
 exact⟨rfl,Mf ((DY sa a.2.2.1.2.2.1).trans (DY sb b.2.2.1.2.2.1).symm) (fun z hz=>by have:=sa.hs z hz;omega) (fun z hz=>by have:=sb.hs z hz;omega) (by omega)⟩
theorem Yw{l:List Int}(h:l.length=1):∃x,l=[x]:=by
 match l,h with
 | [x],_=>exact⟨x,rfl⟩
theorem IL:BA 16 2 16 [1]:=by
 have st:=SQ (N:=16) (by decide)
 refine⟨by decide+kernel,st,Mc (by decide),?_⟩
 unfold bU Vz
 rw[SN st (by decide) (by decide),Mc (by decide),Ym (by decide) (by decide)]
 decide
theorem Mk{ss:List Int}(h:Cz 2 16 N ss):N=16∧ss=[1]:=by
 have hg:(16:Int)≤N:=by
  have:=h.2.2.1.1
  rw[show grown 2 16=16 by decide+kernel] at this
  exact this
 have e:N=16:=by have:=h.2.1;omega
 subst e
 have st:=h.2.2.1.2.1
 obtain⟨x,rfl⟩:=Yw (DY st h.2.2.1.2.2.1)
 have hx:=st.hs x (by simp)
 have:=h.2.2.2.1 [1] IL
 rw[SrtG.Ay,SrtG.Ay] at this
 have e2:x=1:=by simp at this;omega
 exact⟨rfl,by rw[e2]⟩
theorem VQ{M:Nat}{rs:List Int}:¬BA M 3 5 rs:=fun h=>by
 have st:=h.2.1
 have hl:=DY st h.2.2.1
 obtain⟨m,hm,m4⟩:=Yl st (by rw[hl];decide)
 have hf:=(iE .. |>.mp h.2.2.2).2
 have:=HL.mp (by simpa using hf) m hm
 omega
section
variable{ps qs:List (Int×Int)}{a b u v:Int}{i j:Nat}{here met later:List Int}
theorem Ek:Gr.IsD qs [a] v 0↔v=a:=by
 constructor
 ·rintro⟨w,_⟩
  cases w with
  |«at» h=>exact b9.mp h
 ·rintro rfl
  exact⟨.at (by simp),fun j hj=>by omega⟩
structure Lay(qs:List (Int×Int))(a:Int)(i:Nat)(here met:List Int):Prop where
 nd:met.Nodup
 hm:∀v,v∈met↔∃k,k≤i∧Gr.IsD qs [a] v k
 hh:∀v,v∈here↔Gr.IsD qs [a] v i
theorem Sa:Lay qs a 0 [a] [a]:=⟨by simp,fun v=>by
 rw[b9]
 constructor
 ·intro h
  exact⟨0,fv _,Ek.mpr h⟩
 ·rintro⟨k,hk,h⟩
  have:k=0:=by omega
  subst this
  exact Ek.mp h,fun v=>by rw[b9,Ek]⟩
structure Mdl(qs:List (Int×Int))(here met:List Int)(j:Nat)(later:List Int):Prop where
 nd:later.Nodup
 ok:∀v,v∈later↔v∉met∧∃u∈here.take j,Gr.Adj qs u v
theorem Sd:Mdl qs here met 0 []:=⟨by simp,fun v=>by simp⟩
noncomputable def LD(met later:List Int)(v:Int):Bool:=!decide (v∈met)&&!decide (v∈later)
noncomputable def Se(a b u v:Int):Bool:=!decide ((u,v)=(a,b))
theorem Mdl.step(m:Mdl qs here met j later)(hu:here[j]?=some u)(nn:(Ag ps u).Nodup)(hR:∀v,v∉met→(Gr.Adj qs u v↔Gr.Adj ps u v∧¬(u=a∧v=b))):Mdl qs here met (j+1) (later++((Ag ps u).filter (LD met later)).filter (Se a b u)):=by
 refine⟨gU.mpr ⟨m.nd,(nn.filter _).filter _,fun x hx y hy e=>?_⟩,fun v=>?_⟩
 ·subst e
  have:=(gq.mp (gq.mp hy).1).2
  unfold LD at this
  rw[decide_eq_true hx] at this
  simp at this
 ·rw[gu,m.ok,gq,gq,FL,iV,hu]
  unfold LD Se
  constructor
  ·rintro(h| ⟨⟨h1,h2⟩,h3⟩)
   ·obtain⟨h1,w,hw,h2⟩:=h
    exact⟨h1,w,iR _ hw,h2⟩
   ·rw[iE] at h2
    have n1:v∉met:=by simpa using h2.1
    refine⟨n1,u,by simp,(hR v n1).mpr ⟨h1,fun e=>?_⟩⟩
    rw[e.1,e.2] at h3
    simp at h3
  ·rintro⟨h1,w,hw,h2⟩
   by_cases c:∃w∈here.take j,Gr.Adj qs w v
   ·exact .inl ⟨h1,c⟩
   ·have hl:v∉later:=fun z=>c ((m.ok v).mp z).2
    have e:w=u:=by
     rcases gu.mp hw with hw|hw
     ·exact absurd ⟨w,hw,h2⟩ c
     ·simpa using hw
    subst e
    have:=(hR v h1).mp h2
    refine .inr ⟨⟨this.1,by simp[h1,hl]⟩,?_⟩
    simp only[jc,decide_eq_false_iff_not]
    intro z
    exact this.2 ⟨congrArg jw z,congrArg Prod.snd z⟩
theorem Mdl.done(L:Lay qs a i here met)(m:Mdl qs here met here.length later):Lay qs a (i+1) later (met++later):=by
 have ok:∀v,v∈later↔Gr.IsD qs [a] v (i+1):=fun v=>by
  rw[m.ok,iK]
  constructor
  ·rintro⟨h1,u,hu,h2⟩
   have hu:=(L.hh u).mp hu
   refine⟨.go hu.1 h2,fun k hk w=>?_⟩
   obtain⟨e,he,D⟩:=w.least
   exact h1 ((L.hm v).mpr ⟨e,by omega,D⟩)
  ·intro D
   refine⟨fun h=>?_,?_⟩
   ·obtain⟨k,hk,D2⟩:=(L.hm v).mp h
    have:=D2.uniq D
    omega
   ·obtain⟨u,hu,ad⟩:=D.prev
    exact⟨u,(L.hh u).mpr hu,ad⟩
 refine⟨gU.mpr ⟨L.nd,m.nd,fun x hx y hy e=> ((m.ok y).mp hy).1 (e▸hx)⟩,fun v=>?_,ok⟩
 rw[gu,L.hm,ok]
 constructor
 ·rintro(⟨k,hk,h⟩|h)
  ·exact⟨k,by omega,h⟩
  ·exact⟨i+1,fv _,h⟩
 ·rintro⟨k,hk,h⟩
  by_cases c:k=i+1
  ·subst c;exact .inr h
  ·exact .inl ⟨k,by omega,h⟩
end
noncomputable def dz:Scope:={kind:=.function,names:=[(".0",.local),("_law_place",.cell),("_law_web",.cell)],isGenerator:=false,isCoroutine:=false}
section
variable{P:Program}{w:World}{K:a9}{mg:Str→Option Value}{base:Heap}
noncomputable def cV:List Str:=["_law_web","_law_g","_law_many","_law_place","_law_one","_law_other","_law_near","_law_here","_law_met","_law_size","_law_later","_law_some"]
theorem Fe:FnScope cV ["_law_web","_law_g"] (AA Gs):=⟨rfl,rfl,rfl,by decide+kernel,rfl,by decide+kernel,by decide+kernel⟩
theorem Yx:(Ah ["_law_place"] [(("_law_web" :Str),0)]).Nodup:=by decide+kernel
theorem Yy:(Ah ["_law_one","_law_other"] [(("_law_place" :Str),0)]).Nodup:=by decide+kernel
theorem Yz:(Ah ["_law_there"] [(("_law_later" :Str),10),(("_law_met" :Str),8)]).Nodup:=by decide+kernel
theorem ZA:(Ah ["_law_there"] [(("_law_one" :Str),4),(("_law_other" :Str),5),(("_law_place" :Str),3)]).Nodup:=by decide+kernel
theorem Sf{ts:List T}{k:Nat}:Ou ts none (some (k:Int))=ts.take k:=by
 unfold Ou
 rw[HT.Px,HT.TU,pL,Nat.sub_zero]
 rcases Nat.le_total k ts.length with h|h
 ·rw[Nat.min_eq_left h]
 ·rw[Nat.min_eq_right h,iK,lB h]
noncomputable abbrev fg(N:Nat)(ps:List (Int×Int)):T:=.lst ((gF N).map fun(i:Nat)=>T.lst ((Ag ps (i:Int)).map T.int))
noncomputable abbrev Ml(N:Nat)(ps:List (Int×Int))(g:Nat)(v3 v4 v5 v7 v8 v9 v10 v11:Option T):List (Option T):=[some (Fb (N:Int) ps),some (.int (g:Int)),some (.int (N:Int)),v3,v4,v5,some (fg N ps),v7,v8,v9,v10,v11]
noncomputable def bz:Cp:=NQ fun ts r=>∃(N:Nat) (ss:List Int) (g:Nat) (x:Bool),ts=[Fb (N:Int) (CK N ss),.int (g:Int)]∧3≤N∧N≤16∧3≤g∧g≤16∧(x=true↔Mj N ss g)∧r=.bl x
noncomputable abbrev CM(xs:List Int):T:=.lst (xs.map T.int)
theorem cA{f:Addr}{fd:gE}(F:Fun K "_law_no_shorter" "_law_no_shorter" Gs f fd)(Tx:Txt mg):FnOk P w K mg base (CXe P w) 1 f fd ["_law_web","_law_g"] (DR K bz):=by
 refine AV F Fe ?_ ?_
 ·rintro ts O Φ Ξ ⟨r,⟨N,ss,g,x,rfl,_⟩,_⟩
  rfl
 ·rintro cdv A outer s0 H E O Ξ hr xf _ Φ ⟨_,⟨N,ss,g,x,rfl,n0,n1,g0,g1,hx,rfl⟩,q⟩
  have sb:=AZ
  have wr:=IH (ss:=ss) (N:=N) (by omega) n1
  have hw:=wr.wn.hw
  have hl:=wr.wn.hl
  have hu:(A.deeper (lz "_law_no_shorter" (AA Gs) s0.heap.objs.size f cdv)).units+102<cLine:=by have:=hr.un;omega
  have bad:¬Mj N ss g→Φ (.bl false) O:=fun h=>by
   have:x=false:=by
    cases x with
    |false=>rfl
    |true=>exact absurd (hx.mp rfl) h
   rw[this] at q
   exact q
  generalize hps:CK N ss=ps at*
  refine AD (AS 2 (ET.we (Dq (t:=.int (N:Int)) (ev 0) AB) ?_) Fe.nd)
  refine AD (EV (i:=6) (nc:=["_law_place"]) (cap:=[("_law_web",0)]) (by rfl) Fe.nd rfl (DE (AA Gs) cV (by decide+kernel)) (EI.wi (EI.cast (BW Tx.nRange (ev 2) ⟨by omega,by omega⟩) (show _=(gF N).map (fun(i:Nat)=>T.int ((i:Nat):Int)) by unfold FD;simp)) (Gc (gF N) (fun(i:Nat)=>T.int ((i:Nat):Int)) (fun(i:Nat)=>T.lst ((Ag ps (i:Int)).map T.int)) (by rw[iL];omega) (fun x hx=> ⟨[some (.int (x:Int)),some (Fb (N:Int) ps)],fun X' Oe He is O'=>?near⟩) ?_)))
  case near=>
   obtain⟨cl,s',H',fp,rfl⟩:=is
   refine⟨AO 0 Yx (by decide),ET.cast (Ds ["_law_one","_law_other"] [("_law_place",0)] ps Ab (fun p=> .int (p.1+p.2- (x:Int))) (fun p=>decide ((x:Int)∈[p.1,p.2])) rfl (DE dz ["_law_place","_law_web"] (by decide+kernel)) (DS (Dq (ev 1) AB)) (by omega) fun y hy=> ⟨[some (.int y.1),some (.int y.2),some (.int (x:Int))],fun X'' Oe' He' is' O''=>?_⟩) ?_⟩
   ·obtain⟨cl',s'',H'',fp',rfl⟩:=is'
    exact⟨Df 0 1 rfl Yy (by decide) (by decide),EB.cast (Au (Qy hu) rfl (RA (t:=.int (x:Int)) (us:=[y.1,y.2].map T.int) (by rw[CI]) Cw (by show 0≤100;decide)) (ev 2) (Bn (AE (ev 0) (AE (ev 1) AC)) (by show 2≤sizeLine;decide))) Bf,fun _=>GU (Bp (ev 0) (ev 1)) (ev 2)⟩
   ·unfold Ag
    rw[i6]
    rfl
  refine AD (Av AY.own rfl (EI.wi (EI.cast (DS (YB (Dq (t:=.tup (ps.map Ab)) (ev 0) AB) (ev 2))) (show _=(ps.take N).map Ab by rw[Sf,List.map_take])) ⟨fun i ρ' O'=>O=O'∧∃v3 v4 v5 v7 v8 v9 v10 v11,ρ'=Ml N ps g v3 v4 v5 v7 v8 v9 v10 v11∧∀p∈(ps.take N).take i,∀k,GrR.IsD (Gr.Adj (Bt ps p)) [p.1] p.2 k→g≤k+1,⟨rfl,none,none,none,none,none,none,none,none,rfl,by simp⟩,?_,?_⟩))
  ·rintro i t _ _ e ⟨rfl,v3,v4,v5,v7,v8,v9,v10,v11,rfl,al⟩
   rw[fq] at e
   cases ep:(ps.take N)[i]? with
   |none=>rw[ep] at e;cases e
   |some p=>
    rw[ep] at e
    cases e
    have hpm:=fo ep
    have hp:=lV hpm
    have pP:=hw p hp
    have hwq:Gr.Gi (N:Int) (Bt ps p):=fun z hz=>hw z (gq.mp hz).1
    have hS:∀z∈[p.1],0≤z∧z< (N:Int):=fun z hz=>by rw[b9.mp hz];omega
    refine⟨Ml N ps g v3 (some (.int p.1)) (some (.int p.2)) v7 v8 v9 v10 v11,Df 4 5 rfl Fe.nd (by show 4<12;decide) (by show 5<12;decide),?_⟩
    refine AD (Xr (n:=12) (ET.we (t:=.tup [CM [p.1],CM [p.1]]) (Bn (AE (Bo (ts:=[p.1].map T.int) (AE (ev 4) AC) (by show 1≤sizeLine;decide)) (AE (Bo (ts:=[p.1].map T.int) (AE (ev 4) AC) (by show 1≤sizeLine;decide)) AC)) (by show 2≤sizeLine;decide)) ⟨Ml N ps g v3 (some (.int p.1)) (some (.int p.2)) (some (CM [p.1])) (some (CM [p.1])) v9 v10 v11,Df 7 8 rfl Fe.nd (by show 7<12;decide) (by show 8<12;decide),?_⟩))
    refine AG (Av AY.own rfl (EI.wi (CY Tx.nRange AB (ev 1) ⟨by decide,by decide,by omega,by omega⟩) ⟨fun j ρ' O'=>O=O'∧∃here met v3 v9 v10 v11,ρ'=Ml N ps g v3 (some (.int p.1)) (some (.int p.2)) (some (CM here)) (some (CM met)) v9 v10 v11∧Lay (Bt ps p) p.1 j here met∧∀k,1≤k→k≤j→¬Gr.IsD (Bt ps p) [p.1] p.2 k,⟨rfl,[p.1],[p.1],v3,v9,v10,v11,rfl,Sa,fun k h1 h2=>absurd h2 (by omega)⟩,?_,?_⟩))
    ·rintro j t _ _ e ⟨rfl,here,met,v3,v9,v10,v11,rfl,L,no⟩
     obtain⟨hj,rfl⟩:=Bq e
     have inb:∀v∈met,0≤v∧v< (N:Int):=fun v hv=>by
      obtain⟨k,_,D⟩:=(L.hm v).mp hv
      exact D.1.inb hwq hS
     have inh:∀v∈here,0≤v∧v< (N:Int):=fun v hv=> ((L.hh v).mp hv).1.inb hwq hS
     have ml:met.length≤16:=by have:=Gr.DT L.nd inb;omega
     have ma:p.1∈met:=(L.hm p.1).mpr ⟨0,by omega,Ek.mpr rfl⟩
     refine⟨Ml N ps g v3 (some (.int p.1)) (some (.int p.2)) (some (CM here)) (some (CM met)) (some (.int (2+(j:Int)))) v10 v11,AO 9 Fe.nd (by show 9<12;decide),?_⟩
     refine AD (AS 10 (ET.we (t:=CM []) (Bo (ts:=[]) AC (ip _)) ?_) Fe.nd)
     refine AD (Av AY.own rfl (EI.wi (Ax (ev 7)) ⟨fun k ρ' O'=>O=O'∧∃later v3 v11,ρ'=Ml N ps g v3 (some (.int p.1)) (some (.int p.2)) (some (CM here)) (some (CM met)) (some (.int (2+(j:Int)))) (some (CM later)) v11∧Mdl (Bt ps p) here met k later,⟨rfl,[],v3,v11,rfl,Sd⟩,?_,?_⟩))
     ·rintro k t _ _ e ⟨rfl,later,v3,v11,rfl,m⟩
      rw[fq] at e
      cases eu:here[k]? with
      |none=>rw[eu] at e;cases e
      |some u=>
       rw[eu] at e
       cases e
       have iu:=inh u (fo eu)
       obtain⟨y,rfl⟩:=gO iu.1
       have nl:=PN (ps:=ps) (x:=(y:Int))
       have lin:∀v∈later,0≤v∧v< (N:Int):=fun v hv=>by
        obtain⟨_,z,_,ad⟩:=(m.ok v).mp hv
        exact⟨(ad.inb hwq).1,(ad.inb hwq).2.1⟩
       have ll:later.length≤16:=by have:=Gr.DT m.nd lin;omega
       have m':=m.step (ps:=ps) (a:=p.1) (b:=p.2) eu (Kw hw wr.hp _) fun v hv=>by
        have:=DW hw (a:=p.1) (b:=p.2) (u:=(y:Int)) (v:=v)
        rw[(SC hw hp).1] at this
        rw[this]
        exact⟨fun z=> ⟨z.1,z.2.1⟩,fun z=> ⟨z.1,z.2,fun e=>hv (e.2▸ma)⟩⟩
       refine⟨Ml N ps g (some (.int (y:Int))) (some (.int p.1)) (some (.int p.2)) (some (CM here)) (some (CM met)) (some (.int (2+(j:Int)))) (some (CM later)) v11,AO 3 Fe.nd (by show 3<12;decide),?_⟩
       refine AD (EV (i:=11) (nc:=["_law_there"]) (cap:=[("_law_later",10),("_law_met",8)]) (by rfl) Fe.nd rfl (DE (AA Gs) cV (by decide+kernel)) (EI.wi (Ax (FA (t:=CM (Ag ps (y:Int))) (ev 6) (ev 3) (BG ?att))) (By (Ag ps (y:Int)) T.int T.int (LD met later) (by omega) (fun v hv=> ⟨[some (.int v),some (CM later),some (CM met)],fun X' Oe He is O'=>?flt⟩) ?_)))
       case att=>
        rw[fq,j8 (by omega)]
        rfl
       case flt=>
        obtain⟨cl,s',H',fp,rfl⟩:=is
        exact⟨AO 0 Yz (by decide),EW.eb (Qm (EB.cast (Au (Qz hu) rfl (ME (t:=.int v) (us:=met.map T.int) (by rw[CI]) Cw (by show 0≤100;decide)) (ev 0) (ev 2)) (by rw[Bf])) fun _=>NO (EB.cast (Au (Qz hu) rfl (ME (t:=.int v) (us:=later.map T.int) (by rw[CI]) Cw (by show 0≤100;decide)) (ev 0) (ev 1)) (by rw[Bf]))),fun _=>ev 0⟩
       have fl:=iM (LD met later) (Ag ps (y:Int))
       have fl2:=iM (Se p.1 p.2 (y:Int)) ((Ag ps (y:Int)).filter (LD met later))
       refine AG (AS 10 (ET.we (t:=CM (later++((Ag ps (y:Int)).filter (LD met later)).filter (Se p.1 p.2 (y:Int)))) (ET.cast (Fh (ev 10) (Ds ["_law_there"] [("_law_one",4),("_law_other",5),("_law_place",3)] ((Ag ps (y:Int)).filter (LD met later)) T.int T.int (Se p.1 p.2 (y:Int)) rfl (DE (AA Gs) cV (by decide+kernel)) (Ax (ev 11)) (by omega) fun v hv=> ⟨[some (.int v),some (.int p.1),some (.int p.2),some (.int (y:Int))],fun X' Oe He is O'=>?flg⟩) (by rw[e8,e8];omega)) (by show _=T.lst (List.map T.int _);rw[il])) ?_) Fe.nd)
       case flg=>
        obtain⟨cl,s',H',fp,rfl⟩:=is
        exact⟨AO 0 ZA (by decide),EB.cast (Au (JD (Nat.lt_of_succ_lt hu)) (Ak _) (Ow (NX ((y:Int),v)) (NX (p.1,p.2)) (MF _)) (JC (ev 3) (ev 0)) (JC (ev 1) (ev 2))) (by rw[RB];rfl),fun _=>ev 0⟩
       exact⟨rfl,_,_,_,rfl,m'⟩
     ·rintro _ _ ⟨rfl,later,v3,v11,rfl,m⟩
      rw[e8] at m
      have L':=m.done L
      have lin:∀v∈later,0≤v∧v< (N:Int):=fun v hv=> ((L'.hh v).mp hv).1.inb hwq hS
      have ll:later.length≤16:=by have:=Gr.DT m.nd lin;omega
      refine AD (BR (k:=decide (p.2∈later)) (EB.cast (Au (Qy hu) rfl (ME (t:=.int p.2) (us:=later.map T.int) (by rw[CI]) Cw (by show 0≤100;decide)) (ev 5) (ev 10)) Bf) (fun h=>?_) (fun h=>Ba ?_))
      ·have h:=(L'.hh p.2).mp (of_decide_eq_true h)
       refine AG (AR (ET.we NL (bad fun z=>?_)))
       rw[←hps] at hpm h
       have:=z p hpm (j+1) (GrR.JF.mp h)
       omega
      ·have h:=of_decide_eq_false h
       refine AD (AS 8 (ET.we (t:=CM (met++later)) (ET.cast (Fh (ev 8) (ev 10) (by rw[e8,e8];omega)) (by show _=T.lst (List.map T.int _);rw[il])) ?_) Fe.nd)
       refine AG (AS 7 (ET.we (t:=CM later) (ev 10) ?_) Fe.nd)
       refine⟨rfl,later,met++later,_,_,_,_,rfl,L',fun k h1 h2=>?_⟩
       by_cases c:k=j+1
       ·subst c
        exact fun z=>h ((L'.hh _).mpr z)
       ·exact no k h1 (by omega)
    ·rintro _ _ ⟨rfl,here,met,v3,v9,v10,v11,rfl,L,no⟩
     rw[Af] at no
     refine⟨rfl,_,_,_,_,_,_,_,_,rfl,fun z hz k D=>?_⟩
     rw[iV,ep] at hz
     rcases gu.mp hz with hz|hz
     ·exact al z hz k D
     ·have:z=p:=by simpa using hz
      subst this
      have D':=GrR.JF.mpr D
      by_cases c:k=0
      ·subst c
       have:=Ek.mp D'
       omega
      ·by_cases c2:k+1<g
       ·exact absurd D' (no k (by omega) (by omega))
       ·omega
  ·rintro _ _ ⟨rfl,v3,v4,v5,v7,v8,v9,v10,v11,rfl,al⟩
   rw[e8,iK] at al
   have:x=true:=hx.mpr (by unfold Mj;rw[hps];exact al)
   rw[this] at q
   exact AG (AR (ET.we NL q))
end
end K34
namespace L2.TL
open PySem PySem.Spec PyProof.Rows
theorem VR{Z:Zx}{ρ:List (Option T)}{O:AH}{a b:Expr}{pos:Pos}{i j:Int}(ha:ET Z ρ O a (.int i))(hb:ET Z ρ O b (.int j)):ET Z ρ O (.BinOp a .BitAnd b pos) (.int (mW i j)):=DO Wv ER ha hb
end L2.TL
namespace K34
open PySem L2 L2.TL PySem.Spec PyProof.Rows
theorem ZC{x j:Nat}:decide (mW ((x:Int)/2^j) 1=1)=x.testBit j:=by
 have e:(x:Int)/2^j=((x/2^j:Nat):Int):=by rw[Int.natCast_ediv,o9];rfl
 have e2:mW ((x/2^j:Nat):Int) 1=(((x/2^j)%2:Nat):Int):=by
  unfold mW
  rw[decide_eq_true (Int.natCast_nonneg _),decide_eq_true (by decide:(0:Int)≤1)]
  show(((x/2^j:Nat):Int).toNat&&&1:Nat)=(_:Int)
  rw[iy,Nat.and_one_is_mod]
 rw[e,e2,Nat.testBit_eq_decide_div_mod_eq]
 exact decide_eq_decide.mpr ⟨fun h=>by omega,fun h=>by omega⟩
noncomputable def HN(M x:Nat):List Int:=((gF M).filter fun j=>x.testBit j).map fun(j:Nat)=>1+(j:Int)
theorem VS{M x:Nat}(h:x<2^M):HN (M+1) x=HN M x:=by
 unfold HN
 rw[ny,mD,jl,if_neg (by rw[Nat.testBit_lt_two_pow h];exact c9),List.filter_nil,i8]
theorem Sg{M y:Nat}(h:y<2^M):HN (M+1) (2^M+y)=HN M y++[((M+1:Nat):Int)]:=by
 unfold HN
 rw[ny,mD,jl,if_pos (by rw[Nat.testBit_two_pow_add_eq,Nat.testBit_lt_two_pow h];rfl),List.filter_nil,il,List.filter_congr (q:=fun j=>y.testBit j) fun j hj=>Nat.testBit_two_pow_add_gt (gG.mp hj) y]
 congr 1
 simp only[gH,l8]
 congr 1
 omega
theorem OB:∀M,(gF (2^M)).map (HN M)=Aq M
 |0=>rfl
 |M+1=>by
  show _=Aq M++(Aq M).map fun r=>r++[((M+1:Nat):Int)]
  rw[←OB M,show 2^(M+1)=2^M+2^M by rw[nF];omega,List.range_add,il,i6,i6]
  congr 1
  ·exact me fun x hx=>VS (gG.mp hx)
  ·exact me fun x hx=>Sg (gG.mp hx)
theorem ZD{M x:Nat}(h:x<2^M):(Aq M)[x]?=some (HN M x):=by
 rw[←OB,fq,j8 h]
 rfl
open Classical in
noncomputable def cB (N:Nat) (ss:List Int) (g:Nat):Bool:=decide (Mj N ss g)
theorem OC{N g:Nat}{ss:List Int}:cB N ss g=true↔Mj N ss g:=by
 unfold cB
 exact @decide_eq_true_iff _ (Classical.propDecidable _)
noncomputable def PY(N:Nat)(d:Int)(g:Nat)(ss:List Int):Bool:=decide (HE N ss=d)&&cB N ss g
theorem Sh{N g:Nat}{d:Int}{ss:List Int}(n0:3≤N)(n1:N≤16)(hd:2≤d∧d≤15)(g0:3≤g):ss∈(Aq (N/2)).filter (PY N d g)↔BA N d g ss:=by
 rw[SZ n0 n1 hd g0,gq,BF,HF]
 unfold PY
 rw[iE,decide_eq_true_eq,OC]
theorem ZE{N:Nat}{ss:List Int}:MS (N:Int) ss=(SR N ss).map ZU:=by
 unfold MS SR
 rw[List.map_flatMap]
 congr 1
 funext s
 rw[i6,iy]
 refine me fun j _=>?_
 unfold dr ZU
 simp only[Function.comp,qx]
theorem PZ{N:Nat}{ss:List Int}(st:Stp N ss)(n0:3≤N)(n1:N≤16):(((CK N ss).filter fun p=>decide ((0:Int)∈[p.1,p.2])).length:Int)=HE N ss:=by
 have:=Mb st (by omega) n1 (u:=0) (by omega) (by omega)
 unfold Ag at this
 rwa[e8] at this
section
variable{P:Program}{w:World}{K:a9}{mg:Str→Option Value}{base:Heap}
noncomputable def Mm:Cp:=fun ts O Φ _=>∃(N:Nat) (d:Int) (g:Nat),ts=[.int (N:Int),.int d,.int (g:Int)]∧3≤N∧N≤16∧(2≤d∧d≤15)∧3≤g∧g≤16∧∀L:List (List Int),L.length≤256→(∀ss,ss∈L↔BA N d g ss)→L.Pairwise (fun x y=>GrR.rk x<GrR.rk y)→Φ (.lst (L.map AK)) O
noncomputable def eB:List Str:=["_law_many","_law_d","_law_g","_law_found","_law_number","_law_steps","_law_web"]
theorem Si:FnScope eB ["_law_many","_law_d","_law_g"] (AA IC):=⟨rfl,rfl,rfl,by decide+kernel,rfl,by decide+kernel,by decide+kernel⟩
theorem cC:(Ah ["_law_step"] [(("_law_number" :Str),4)]).Nodup:=by decide+kernel
theorem cD:(Ah ["_law_tie"] []).Nodup:=by decide+kernel
theorem VT{f:Addr}{fd:gE}(F:Fun K "_law_fitting" "_law_fitting" IC f fd)(Tx:Txt mg)(Gt:FnT P w K mg base "_law_turned" 2 ["_law_many","_law_steps"] Kj)(Gn:FnT P w K mg base "_law_no_shorter" 1 ["_law_web","_law_g"] bz):FnOk P w K mg base (CXe P w) 3 f fd ["_law_many","_law_d","_law_g"] (DR K Mm):=by
 refine AV F Si ?_ ?_
 ·rintro ts O Φ Ξ ⟨N,d,g,rfl,_⟩
  rfl
 ·rintro cdv A outer s0 H E O Ξ hr xf _ Φ ⟨N,d,g,rfl,n0,n1,hd,g0,g1,q⟩
  have sb:=AZ
  have hu:(A.deeper (lz "_law_fitting" (AA IC) s0.heap.objs.size f cdv)).units+102<cLine:=by have:=hr.un;omega
  have la:=Ej (k:=N/2) (by omega)
  have l2:=HG (N/2)
  have eM:((N:Int)/2).toNat=N/2:=by omega
  refine AD (AS 3 (Cm (BB ⟨ip _,fun l hl=>?_⟩)) Si.nd)
  refine AD (Av AY.own rfl (EI.wi (EI.cast (BW Tx.nRange (k:=((2^(N/2):Nat):Int)) (ET.cast (YE AB (De (ev 0) AB ⟨by decide,by decide⟩) ⟨by omega,by omega,by decide⟩) (by rw[eM,lg,o9];rfl)) ⟨by omega,by omega⟩) (show _=(gF (2^(N/2))).map (fun(i:Nat)=>T.int (i:Int)) by unfold FD;rw[iy];simp)) ⟨fun i ρ' O'=>∃v4 v5 v6:Option T,ρ'=[some (.int (N:Int)),some (.int d),some (.int (g:Int)),some (.raw (.ref l)),v4,v5,v6]∧O'=Ad O l ((((Aq (N/2)).take i).filter (PY N d g)).map AK),⟨none,none,none,rfl,by simp⟩,?_,?_⟩))
  ·rintro i t _ _ e ⟨v4,v5,v6,rfl,rfl⟩
   rw[fq] at e
   cases ei:(gF (2^(N/2)))[i]? with
   |none=>rw[ei] at e;cases e
   |some x=>
    rw[ei] at e
    cases e
    have hi:i<2^(N/2):=by have:=(gh.mp ei).1;rwa[iL] at this
    have:x=i:=by rw[j8 hi] at ei;exact(gZ.inj ei).symm
    subst this
    have at_:=ZD hi
    have st:Stp N (HN (N/2) x):=HF.mp (BF.mp (fo at_))
    have wr:=IH (ss:=HN (N/2) x) (N:=N) (by omega) n1
    have hpl:=wr.wn.hl
    have sl:=HH n1 st
    have fl:=iM (PY N d g) ((Aq (N/2)).take x)
    rw[gX] at fl
    refine⟨[some (.int (N:Int)),some (.int d),some (.int (g:Int)),some (.raw (.ref l)),some (.int (x:Int)),v5,v6],AO 4 Si.nd (by show 4<7;decide),?_⟩
    refine AD (AS 5 (ET.we (t:=AK (HN (N/2) x)) (Qs Tx.nTuple (ET.cast (Ds ["_law_step"] [("_law_number",4)] (gF (N/2)) (fun(j:Nat)=>T.int (1+(j:Int))) (fun(j:Nat)=>T.int (1+(j:Int))) (fun j=>x.testBit j) rfl (DE (AA IC) eB (by decide+kernel)) (EI.cast (CY Tx.nRange AB (Bp (De (ev 0) AB ⟨by decide,by decide⟩) AB) ⟨by decide,by decide,by omega,by omega⟩) (by unfold FD;rw[show((N:Int)/2+1-1).toNat=N/2 by omega])) (by rw[iL];omega) fun j hj=> ⟨[some (.int (1+(j:Int))),some (.int (x:Int))],fun X' Oe He is O'=>?c1⟩) ?c2)) ?_) Si.nd)
    case c1=>
     obtain⟨cl,s',H',fp,rfl⟩:=is
     refine⟨AO 0 cC (by decide),EB.cast (Co (VR (YF (ev 1) (GU (ev 0) AB) (by omega)) AB) AB) ?_,fun _=>ev 0⟩
     rw[show((1:Int)+(j:Int)-1).toNat=j by omega]
     exact ZC
    case c2=>
     unfold HN
     rw[i6]
     rfl
    refine AD (AS 6 (AX Gt (hr.mono (by decide)) xf (EA.wa (AE (ev 0) (AE (ev 5) AC)) ⟨(N:Int),HN (N/2) x,rfl,by omega,by omega,by omega,fun z hz=>by have:=st.hs z hz;omega,fun qs q1 _ _ q2=>?_⟩)) Si.nd)
    have eq:=SS st q1 fun z=> (q2 z).trans (by rw[ZE])
    subst eq
    have step:((((Aq (N/2)).take (x+1)).filter (PY N d g)).map AK)=((((Aq (N/2)).take x).filter (PY N d g)).map AK)++(if PY N d g (HN (N/2) x)=true then[AK (HN (N/2) x)] else[]):=by
     rw[iV,at_,mD,il]
     congr 1
     show([HN (N/2) x].filter (PY N d g)).map AK=_
     rw[jl]
     split<;>rfl
    refine AG (BR (k:=PY N d g (HN (N/2) x)) (EW.eb (Qm (x:=decide (HE N (HN (N/2) x)=d)) (y:=cB N (HN (N/2) x) g) (EB.cast (Co (Iz Tx.nLen (Ds ["_law_tie"] [] (CK N (HN (N/2) x)) Ab Ab (fun p=>decide ((0:Int)∈[p.1,p.2])) rfl (DE (AA IC) eB (by decide+kernel)) (DS (Dq (t:=.tup ((CK N (HN (N/2) x)).map Ab)) (ev 6) AB)) (by omega) fun p hp=> ⟨[some (Ab p)],fun X' Oe He is O'=>?c3⟩)) (ev 1)) (by rw[e8,PZ st n0 n1])) fun _=>NO (NN (Bx Gn (hr.mono (by decide)) xf (AE (ev 6) (AE (ev 2) AC)) ⟨N,HN (N/2) x,g,cB N (HN (N/2) x) g,rfl,n0,n1,g0,g1,OC,rfl⟩)))) (fun h=>?_) (fun h=>Ba ?_))
    case c3=>
     obtain⟨cl,s',H',fp,rfl⟩:=is
     exact⟨AO 0 cD (by decide),EB.cast (Au (Qy hu) rfl (RA (t:=.int 0) (us:=[p.1,p.2].map T.int) (by rw[CI]) Cw (by show 0≤100;decide)) AB (ev 0)) Bf,fun _=>ev 0⟩
    ·refine AG (Ao (Be (ET.we (ev 3) ⟨l,rfl,⟨_,AF⟩,ET.we (ev 5) ⟨_,AF,by rw[e8];omega,_,_,_,rfl,?_⟩⟩)))
     rw[BO,step,if_pos h]
    ·refine⟨_,_,_,rfl,?_⟩
     rw[step,h,if_neg c9,i8]
  ·rintro _ _ ⟨v4,v5,v6,rfl,rfl⟩
   rw[e8,iL,←l2,iK]
   refine BQ (p:=l) (n:=3) AF hl rfl ?_
   rw[Am hl]
   have fl:=iM (PY N d g) (Aq (N/2))
   have nd:((Aq (N/2)).filter (PY N d g)).Nodup:=(Fq _).filter _
   have sm:WJ ((d+1)/2).toNat ((Aq (N/2)).filter (PY N d g)):=fun ss hs=>by
    have gs:=(Sh n0 n1 hd g0).mp hs
    exact⟨DY gs.2.1 gs.2.2.1,fun z hz=>by have:=gs.2.1.hs z hz;omega⟩
   refine AG (AR (MN (m:=((d+1)/2).toNat-1) (ks:=(Aq (N/2)).filter (PY N d g)) Tx.nSorted (ev 3) (fun k hk=> ⟨by have:=(sm k hk).1;omega,(sm k hk).2⟩) (by omega) fun ms pm pw=>?_))
   refine q ms (by rw[pm.length_eq];omega) (fun ss=>pm.mem_iff.trans (Sh n0 n1 hd g0)) (IJ (pm.nodup_iff.mpr nd) (fun x hx=>sm x (pm.mem_iff.mp hx)) pw)
end
noncomputable def PO(O0:AH)(p:Addr)(O:AH):Prop:=∃xs,O=Ad O0 p xs∧MQ xs
theorem PO.at{O0 O:AH}{p:Addr}(h:PO O0 p O):∃xs,O p=some xs∧MQ xs:=by
 obtain⟨xs,rfl,px⟩:=h
 exact⟨xs,AF,px⟩
theorem PO.step{O0 O:AH}{p:Addr}{xs:List T}(h:PO O0 p O)(px:MQ xs):PO O0 p (Ad O p xs):=by
 obtain⟨ys,rfl,_⟩:=h
 exact⟨xs,BO,px⟩
theorem PO.start{O:AH}{p:Addr}{xs:List T}(h:O p=some xs)(px:MQ xs):PO O p O:=⟨xs,(Qu h).symm,px⟩
section
variable{P:Program}{w:World}{K:a9}{mg:Str→Option Value}{base:Heap}
section
variable{Z:Zx}{ρ:List (Option T)}{O O0 O1:AH}{a b:Expr}{Φ:BU}{pos q:Pos}{p c:Addr}{m:Int}{acc:List T}
theorem DA(G:FnT Z.X.prog Z.X.w Z.X.K Z.X.mg Z.X.base "_law_draw" 2 ["_law_pen","_law_many"] MR)(hr:Room 2 Z.X.A)(xf:XFly Z.X Z.W)(po:PO O0 p O)(ha:ET Z ρ O a (.raw (.ref p)))(hb:ET Z ρ O b (.int m))(m0:0<m)(m1:m<1000)(k:∀r O',0≤r→r<m→PO O0 p O'→Φ (.int r) O')(hg:Gl Z.X "_law_draw":=by rfl)
  (he:fj [a,b] Z.X.env=(false,eval a Z.X.env)::fj [b] Z.X.env:=by rfl) (he2:fj [b] Z.X.env=(false,eval b Z.X.env)::fj [] Z.X.env:=by rfl) (hpl:(jS pos (fj [b] Z.X.env)).any (·.1)=false:=by rfl):WE Z ρ O (.Call (.Name "_law_draw" q) [a,b] [] pos) Φ:=by
 obtain⟨xs,hp,px⟩:=po.at
 exact AX G hr xf (EA.wa (AN ha (AN hb AC he2) he) ⟨p,xs,m,rfl,hp,px,m0,m1,fun r xs' r0 r1 px'=>k r _ r0 r1 (po.step px')⟩) hg (by decide) he hpl
end
end
end K34
namespace L2.TL
open PySem PySem.Spec PyProof.Rows
theorem Jf:∀{ns:List Int},(∀z∈ns,z.natAbs<10^12)→shBs (ns.map T.int)=true
 | [],_=>rfl
 |n::ns,h=>by
  show(EY (.int n)&&shBs (ns.map T.int))=true
  rw[Jf fun z hz=>h z (fk _ hz),EY,decide_eq_true (h n (gC ..))]
  rfl
theorem Jg:∀{ns:List Int},(∀z∈ns,z.natAbs<10^12)→kh (dTs (ns.map T.int))≤43*ns.length
 | [],_=>fv _
 |n::ns,h=>by
  show pZ (dT (.int n))+1+kh (dTs (ns.map T.int))≤_
  have h1:=Jg fun z hz=>h z (fk _ hz)
  have h2:=Gf (h n (gC ..))
  rw[fz]
  omega
theorem LF:∀{L:List (List Int)},(∀x∈L,∀z∈x,z.natAbs<10^12)→shBs (L.map AK)=true
 | [],_=>rfl
 |x::L,h=>by
  show(EY (.tup (x.map T.int))&&shBs (L.map AK))=true
  rw[LF fun y hy=>h y (fk _ hy),EY,Jf (h x (gC ..))]
  rfl
theorem LG{m:Nat}:∀{L:List (List Int)},(∀x∈L,(∀z∈x,z.natAbs<10^12)∧x.length≤m)→kh (dTs (L.map AK))≤(43*m+1)*L.length
 | [],_=>fv _
 |x::L,h=>by
  show kh (dTs (x.map T.int))+1+kh (dTs (L.map AK))≤_
  have h1:=LG fun y hy=>h y (fk _ hy)
  have h2:=Jg (h x (gC ..)).1
  have h3:=(h x (gC ..)).2
  rw[fz,qr]
  omega
theorem DB:∀{L:List (List Int)},jF (dTs (L.map AK))≤2
 | []=>by simp[dTs,jF]
 |x::L=>by
  have h1:=DB (L:=L)
  have h2:=Dz (ns:=x)
  simp only[gH,dTs,jF,AK,dT,iC.depth]
  omega
end L2.TL
namespace K34
open PySem L2 L2.TL PySem.Spec PyProof.Rows
theorem IM{p:Nat→Prop}(h:∃n,p n):∃n,p n∧∀m,m<n→¬p m:=by
 obtain⟨n,hn⟩:=h
 induction n using nu with
 |_ n ih=>
  by_cases c:∃m,m<n∧p m
  ·obtain⟨m,hm,hp⟩:=c
   exact ih m hm hp
  ·exact⟨n,hn,fun m hm hp=>c ⟨m,hm,hp⟩⟩
theorem Mn(d:Int)(g:Nat):(∃N ss,Cz d g N ss)∨∀M,3≤M→M≤16→∀rs,¬BA M d g rs:=by
 by_cases c:∃M,3≤M∧M≤16∧∃rs,BA M d g rs
 ·obtain⟨N,⟨n0,n1,rs,hr⟩,hN⟩:=IM c
  obtain⟨k,⟨ss,hs,hk⟩,hm⟩:=IM (p:=fun k=>∃ss,BA N d g ss∧(GrR.rk ss).toNat=k) ⟨_,rs,hr,rfl⟩
  have pos:∀ss,BA N d g ss→0≤GrR.rk ss:=fun ss h=> (SrtG.FS fun z hz=>by have:=h.2.1.hs z hz;omega).1
  refine .inl ⟨N,ss,n0,n1,hs,fun qs hq=>?_,fun M m0 m1 qs hq=>hN M m1 ⟨m0,by omega,qs,hq⟩⟩
  have h1:=pos ss hs
  have h2:=pos qs hq
  by_cases c:(GrR.rk qs).toNat<k
  ·exact absurd ⟨qs,hq,rfl⟩ (hm _ c)
  ·omega
 ·exact .inr fun M m0 m1 rs h=>c ⟨M,m0,m1,rs,h⟩
section
variable{P:Program}{w:World}{K:a9}{mg:Str→Option Value}{base:Heap}{CN CR:Addr}
structure CatT(P:Program)(w:World)(K:a9)(mg:Str→Option Value)(base:Heap)(CN CR:Addr):Prop where
 ex:∃fR fdR,FnH P w K mg base 1 fR fdR ["_law_e"] (EZ CN "number")∧mg "_law_kind_of" =some (.ref fR)∧jq K (.ref fR)=true∧Binds K fdR ["_law_e"] []
 mR:mg "RingError" =some (.ref CR)
 bR:jN K CR (.type "BaseException")=some true
 kN:ji K (.ref CN) (.ref CR)=some true
 gb:FnT P w K mg base "by_turns" 7 ["many","d","g"] (WL CN)
 gl:FnT P w K mg base "least_by_turns" 7 ["d","g"] (HI CN)
theorem ZF{k:Nat}{f C:Addr}{fd:gE}{qs:List Str}{y:Str}(F:FnH P w K mg base k f fd qs (EZ C y)):FnH P w K mg base k f fd qs (dg C (.str y)):=
 have im:∀vs H Q E,dg C (.str y) vs H Q E→EZ C y vs H Q E:=fun _ _ _ _ ⟨x,e,r,q⟩=> ⟨x,e,r,fun H' s=>q _ H' s fun _ _=> .str y⟩
 ⟨fun vs H Q E s=>F.len vs H Q E (im _ _ _ _ s),fun A outer s H args us vs Q r e b v q=>F.run A outer s H args us vs Q r e b v (im _ _ _ _ q)⟩
noncomputable def WM:Cp:=fun ts O Φ _=>∃(i:Nat) (t u v:T),ts=[.int (i:Int),t,u,v]∧i<2∧Aj t=false∧Aj u=false∧Aj v=false∧
 (i=0→(Cu t 3 16=false∨Cu u 2 15=false∨Cu v 3 16=false→Φ (.str "number") O)∧∀(N:Nat) (d:Int) (g:Nat),t=.int (N:Int)→u=.int d→v=.int (g:Int)→3≤N→N≤16→(2≤d∧d≤15)→3≤g→g≤16→∀L:List (List Int),L.length≤256→(∀ss,ss∈L↔BA N d g ss)→L.Pairwise (fun x y=>GrR.rk x<GrR.rk y)→∀l,O l=none→Φ (.raw (.ref l)) (Ad O l (L.map AK)))∧
 (i=1→(Cu u 2 15=false∨Cu v 3 16=false→Φ (.str "number") O)∧∀(d:Int) (g:Nat),u=.int d→v=.int (g:Int)→(2≤d∧d≤15)→3≤g→g≤16→((∀M,3≤M→M≤16→∀rs,¬BA M d g rs)→Φ .non O)∧∀(N:Nat) (ss:List Int),Cz d g N ss→Φ (.tup [.int (N:Int),AK ss]) O)
noncomputable def VU:List Str:=["_law_way","_law_many","_law_d","_law_g","_law_e"]
theorem WN:FnScope VU ["_law_way","_law_many","_law_d","_law_g"] (AA ID):=⟨rfl,rfl,rfl,by decide+kernel,rfl,by decide+kernel,by decide+kernel⟩
theorem cE{f:Addr}{fd:gE}(F:Fun K "_law_told" "_law_told" ID f fd)(B:CatT P w K mg base CN CR):FnOk P w K mg base (CXe P w) 8 f fd ["_law_way","_law_many","_law_d","_law_g"] (DR K WM):=by
 refine AV F WN ?_ ?_
 ·rintro ts O Φ Ξ ⟨i,t,u,v,rfl,_⟩
  rfl
 ·rintro cdv A outer s H E O Ξ hr xf _ Φ ⟨i,t,u,v,rfl,hi,ht,hu,hv,q1,q2⟩
  obtain⟨fR,fdR,FN,mF,kF,bF⟩:=B.ex
  refine AG (Uc (i:=4) (fun cls O'=>O'=O∧cls=.ref CN∧Φ (.str "number") O) (fun pins E' H1 fr xf1=>?_) (fun cls O' h=> ⟨CN,.inl h.2.1,B.kN⟩) (fun y cls O' C x o H1 hc h1 fr hz=>?_) rfl rfl rfl WN.nd rfl rfl B.mR B.bR rfl (by decide))
  ·match i,hi,q1,q2 with
   |0,_,q1,_=>
    have q:=q1 rfl
    refine AG (AR (Qn (Co (i:=((0:Nat):Int)) (j:=0) (ev 0) AB _ ?_)))
    rw[if_pos (by decide)]
    exact Kg (Z:=⟨Bh (zB P w K mg base VU "_law_told" (AA ID) f cdv A outer s H E O Ξ).X pins E',O,H1,fun cls O'=>O'=O∧cls=.ref CN∧Φ (.str "number") O⟩) B.gb hr xf1 (EA.wa (AE (ev 1) (AE (ev 2) (AE (ev 3) AC))) ⟨t,u,v,rfl,ht,hu,hv,fun h=> ⟨rfl,rfl,q.1 h⟩,q.2⟩)
   |1,_,_,q2=>
    have q:=q2 rfl
    refine AG (AR (Qn (Co (i:=((1:Nat):Int)) (j:=0) (ev 0) AB _ ?_)))
    rw[if_neg (by decide)]
    exact Kg (Z:=⟨Bh (zB P w K mg base VU "_law_told" (AA ID) f cdv A outer s H E O Ξ).X pins E',O,H1,fun cls O'=>O'=O∧cls=.ref CN∧Φ (.str "number") O⟩) B.gl hr xf1 (EA.wa (AE (ev 2) (AE (ev 3) AC)) ⟨u,v,rfl,hu,hv,fun h=> ⟨rfl,rfl,q.1 h⟩,q.2⟩)
  ·obtain⟨rfl,rfl,q⟩:=hc
   have exc:=HK.exc (y:=y) h1 fr hz
   have rH:RoomH 1 (zH (zB P w K mg base VU "_law_told" (AA ID) f cdv A outer s H E O' Ξ) y O' (upd H1 x o)).X.A:=Room.toH (hr.mono (by decide))
   obtain rfl:=HK.cls_ref h1
   exact AG (AR (ET.we (RL (ZF FN) mF kF bF rH exc (ev 4)) q))
noncomputable def WO:Cp:=fun ts O Φ _=>∃(d:Int) (g:Nat),ts=[.int d,.int (g:Int)]∧(2≤d∧d≤15)∧3≤g∧g≤16∧((∀M,3≤M→M≤16→∀rs,¬BA M d g rs)→Φ .non O)∧∀(N:Nat) (ss:List Int),Cz d g N ss→Φ (.tup [.int (N:Int),AK ss]) O
noncomputable def eC:List Str:=["_law_d","_law_g","_law_many","_law_found"]
theorem Sj:FnScope eC ["_law_d","_law_g"] (AA Fm):=⟨rfl,rfl,rfl,by decide+kernel,rfl,by decide+kernel,by decide+kernel⟩
theorem cF{f:Addr}{fd:gE}(F:Fun K "_law_least" "_law_least" Fm f fd)(Tx:Txt mg)(G:FnT P w K mg base "_law_fitting" 3 ["_law_many","_law_d","_law_g"] Mm):FnOk P w K mg base (CXe P w) 4 f fd ["_law_d","_law_g"] (DR K WO):=by
 refine AV F Sj ?_ ?_
 ·rintro ts O Φ Ξ ⟨d,g,rfl,_⟩
  rfl
 ·rintro cdv A outer s H E O Ξ hr xf _ Φ ⟨d,g,rfl,hd,g0,g1,q1,q2⟩
  have hu:(A.deeper (lz "_law_least" (AA Fm) s.heap.objs.size f cdv)).units+101<cLine:=by have:=hr.un;omega
  refine AD (Av AY.own rfl (EI.wi (CY Tx.nRange AB AB ⟨by decide,by decide,by decide,by decide⟩) ⟨fun i ρ' O'=>∃v2 v3:Option T,ρ'=[some (.int d),some (.int (g:Int)),v2,v3]∧O'=O∧∀M,3≤M→M<i+3→∀rs,¬BA M d g rs,⟨none,none,rfl,rfl,fun M h1 h2=>absurd h2 (by omega)⟩,?_,?_⟩))
  ·rintro i t _ _ e ⟨v2,v3,rfl,rfl,no⟩
   obtain⟨hi,rfl⟩:=Bq e
   have hi:i<14:=by omega
   rw[show(3:Int)+(i:Int)=((i+3:Nat):Int) by omega]
   refine⟨[some (.int d),some (.int (g:Int)),some (.int ((i+3:Nat):Int)),v3],AO 2 Sj.nd (by show 2<4;decide),?_⟩
   refine AD (AS 3 (AX G hr xf (EA.wa (AE (ev 2) (AE (ev 0) (AE (ev 1) AC))) ⟨i+3,d,g,rfl,by omega,by omega,hd,g0,g1,fun L hL hm pw=>?_⟩)) Sj.nd)
   have dp:(dT (.lst (L.map AK))).depth≤100:=by show jF _+1≤100;have:=DB (L:=L);omega
   have rd:CI (.lst (L.map AK))=true:=by rw[CI];exact IF
   cases L with
   |nil=>exact AG (BR (k:=false) (EB.cast (Au (JD hu) (Ak _) (Ow (t:=.lst []) (u:=.lst []) rd rd dp) (ev 3) (Bo (ts:=[]) AC (ip _))) rfl) (fun h=>by cases h) fun _=>Ba ⟨_,_,rfl,rfl,fun M h1 h2 rs z=>by
     by_cases c:M=i+3
     ·subst c
      have:=(hm rs).mpr z
      cases this
     ·exact no M h1 (by omega) rs z⟩)
   |cons x L=>exact AG (BR (k:=true) (EB.cast (Au (JD hu) (Ak _) (Ow (t:=.lst (AK x::L.map AK)) (u:=.lst []) rd (by rw[CI];rfl) dp) (ev 3) (Bo (ts:=[]) AC (ip _))) rfl) (fun _=>AG (AR (ET.we (Bn (AE (ev 2) (AE (FA (t:=AK x) (ev 3) AB (BG (j:=0) rfl)) AC))) (q2 (i+3) x ⟨by omega,by omega,(hm x).mp (by simp),fun rs z=>by
     rcases fu.mp ((hm rs).mpr z) with rfl|hz
     ·exact jM _
     ·exact iY ((jH.mp pw).1 rs hz),no⟩)))) fun h=>by cases h)
  ·rintro _ _ ⟨v2,v3,rfl,rfl,no⟩
   rw[Af] at no
   exact AG (AR (ET.we CH (q1 fun M h1 h2=>no M h1 (by omega))))
end
noncomputable def ZV(i:Nat):Stmt:=(Aw PJ).getD i (.Pass ⟨0,0,0,0⟩)
noncomputable def eD:Stmt→Expr
 | .For _ e _ _ _=>e
 |_=> .Constant .none 0 ⟨0,0,0,0⟩
noncomputable def Sk:Stmt→List Stmt
 | .For _ _ b _ _=>b
 |_=> []
noncomputable def cW(i:Nat):Stmt:=(Sk (ZV 0)).getD i (.Pass ⟨0,0,0,0⟩)
noncomputable def ZG:List Str:=["_law_script","_law_cell","_law_pen","_law_many","_law_d","_law_g","_law_due","_law_turn","_law_found","_law_odd","_law_far","_law_said"]
theorem DZ:FnScope ZG ["_law_script"] (AA PJ):=⟨rfl,rfl,rfl,by decide+kernel,rfl,by decide+kernel,by decide+kernel⟩
noncomputable def VV:List T:=[.int 17,.int 2,.int (-1),.bl true,.non,.str "3",.int (10^30)]
noncomputable def OD:List T:=[.int 16,.int 1,.int (-1),.bl true,.non,.str "3",.int (10^30)]
theorem ZH:∀t∈VV,Aj t=false∧Cu t 3 16=false:=by
 intro t ht
 unfold VV at ht
 simp only[fu,iU,or_false] at ht
 rcases ht with rfl|rfl|rfl|rfl|rfl|rfl|rfl<;>exact⟨rfl,by decide+kernel⟩
theorem ZI:∀t∈OD,Aj t=false∧Cu t 2 15=false:=by
 intro t ht
 unfold OD at ht
 simp only[fu,iU,or_false] at ht
 rcases ht with rfl|rfl|rfl|rfl|rfl|rfl|rfl<;>exact⟨rfl,by decide+kernel⟩
theorem Pa{N:Nat}{ss:List Int}(h:Stp N ss)(n1:N≤16):EY (.tup [.int (N:Int),AK ss])=true∧(dT (.tup [.int (N:Int),AK ss])).weight≤2^20∧(dT (.tup [.int (N:Int),AK ss])).depth≤100:=by
 have sm:∀z∈ss,z.natAbs<10^12:=fun z hz=>by have:=h.hs z hz;omega
 have nN:((N:Int)).natAbs<10^12:=by omega
 have l:=HH n1 h
 have w1:=Jg sm
 have w2:=Gf nN
 have d1:=Dz (ns:=ss)
 refine⟨?_,?_,?_⟩
 ·show(EY (.int (N:Int))&&(EY (.tup (ss.map T.int))&&true))=true
  rw[EY,EY,Jf sm,decide_eq_true nN]
  rfl
 ·show pZ (dT (.int (N:Int)))+1+(kh (dTs (ss.map T.int))+1+0)≤_
  omega
 ·simp only[AK,dT,dTs,iC.depth,jF] at*
  omega
theorem Mo{N g:Nat}{d:Int}{L:List (List Int)}(n1:N≤16)(hl:L.length≤256)(hm:∀ss,ss∈L↔BA N d g ss):shBs (L.map AK)=true∧(dT (.lst (L.map AK))).weight≤2^20∧(dT (.lst (L.map AK))).depth≤100:=by
 have sm:∀x∈L,(∀z∈x,z.natAbs<10^12)∧x.length≤8:=fun x hx=>by
  have st:=((hm x).mp hx).2.1
  exact⟨fun z hz=>by have:=st.hs z hz;omega,HH n1 st⟩
 have w:=LG sm
 have dp:=DB (L:=L)
 refine⟨LF fun x hx=> (sm x hx).1,?_,?_⟩
 ·show kh _≤_
  omega
 ·show jF _+1≤100
  omega
section
variable{P:Program}{w:World}{K:a9}{mg:Str→Option Value}{base:Heap}{f:Addr}{cdv:Value}{A:gx}{outer:List Env}{s:Shared}{H:Hp}{E:XK}{CN:Addr}
noncomputable abbrev zL(P:Program)(w:World)(K:a9)(mg:Str→Option Value)(base:Heap)(f:Addr)(cdv:Value)(A:gx)(outer:List Env)(s:Shared)(H:Hp)(E:XK):Zx:=zB P w K mg base ZG "law" (AA PJ) f cdv A outer s H E Vq (fun _ _=>False)
structure Has(P:Program)(w:World)(K:a9)(mg:Str→Option Value)(base:Heap)(CN:Addr):Prop where
 tx:Txt mg
 gp:FnT P w K mg base "_law_pen_of" 1 ["_law_cell"] Vu
 gd:FnT P w K mg base "_law_draw" 2 ["_law_pen","_law_many"] MR
 gf:FnT P w K mg base "_law_fitting" 3 ["_law_many","_law_d","_law_g"] Mm
 gt:FnT P w K mg base "_law_told" 8 ["_law_way","_law_many","_law_d","_law_g"] WM
 ge:FnT P w K mg base "_law_least" 4 ["_law_d","_law_g"] WO
 gl:FnT P w K mg base "least_by_turns" 7 ["d","g"] (HI CN)
noncomputable def OE(K:a9):Sp:=fun vs H Q _=>∃(a:Addr) (ns:List Int),vs=[.ref a]∧SqL K H a (ns.map V.int)∧ns.length≤63∧∀H',Q (.bl true) H'
noncomputable def eE:BU:=fun t _=>t=.bl true
noncomputable abbrev FP(a:Addr)(v1 v2 v3 v4 v5 v6 v7 v8 v9 v10 v11:Option T):List (Option T):=[some (.raw (.ref a)),v1,v2,v3,v4,v5,v6,v7,v8,v9,v10,v11]
theorem Sl{ρ:List (Option T)}{a:Addr}{ns:List Int}{Φ:BU}{fC:Addr}{fdC:gE}(hr:Room 8 (zL P w K mg base f cdv A outer s H E).X.A)(xf:XFly (zL P w K mg base f cdv A outer s H E).X (zL P w K mg base f cdv A outer s H E).W)(hS:SqL K H a (ns.map V.int))(hn:ns.length≤63)(hρ:ρ[0]?=some (some (.raw (.ref a))))
  (FC:FnOk P w K mg base (CXe P w) 1 fC fdC ["_law_script","_law_k"] (Gu K)) (mC:mg "_law_cell_at" =some (.ref fC)) (kC:jq K (.ref fC)=true) (bC:Binds K fdC ["_law_script","_law_k"] [])
  (k:∀ms:List Int,ms.length≤64→Φ (.lst (ms.map T.int)) Vq):HWE (zL P w K mg base f cdv A outer s H E) ρ Vq (eD (ZV 0)) Φ:=by
 have sb:=AZ
 refine⟨?_⟩
 refine EO LX ?_
 refine Qh (KY (Qt FC mC kC bC (hr.mono (by decide)) xf (AE (ev 0 hρ) (AE AB AC)) ?_))
 intro σ H1 vs Q as r acc
 obtain⟨v,u,rfl,r1,r2⟩:=r.two_inv
 cases r1.raw_inv
 cases r2.int_inv
 refine⟨a,ns,rfl,Vr as.fr.kp hS,fun c=>acc _ _ _ _ ?_ (.refl as.ok) (.int c)⟩
 refine BB ⟨by show 1≤sizeLine;decide,?_⟩
 refine YC rfl hS (ev 0 hρ) AB AB fun ms hm=>?_
 exact NU (ts:=[T.int c]) (us:=ms.map T.int) (by simp;omega) _ (k (c::ms) (by simp;omega))
noncomputable def ZJ(O O':AH)(v:Option T):Prop:=O'=O∨∃l ts,O l=none∧O'=Ad O l ts∧v=some (.raw (.ref l))
theorem IP{O O':AH}{a:Addr}{v1 v2 v3 v4 v5 v6 v7 v8 v9 v10 v11:Option T}{ss:List Stmt}{Ψ:Es}(h:ZJ O O' v8)(q:∀v8,HS (zL P w K mg base f cdv A outer s H E) (FP a v1 v2 v3 v4 v5 v6 v7 v8 v9 v10 v11) O ss Ψ):HS (zL P w K mg base f cdv A outer s H E) (FP a v1 v2 v3 v4 v5 v6 v7 v8 v9 v10 v11) O' ss Ψ:=by
 rcases h with rfl| ⟨l,ts,hl,rfl,rfl⟩
 ·exact q v8
 ·refine⟨BQ (p:=l) (n:=8) (ts:=ts) AF rfl rfl ?_⟩
  rw[Am hl]
  exact(q _).out
theorem ZK{N:Nat}{d:Int}{g:Nat}(n0:3≤N)(n1:N≤16)(hd:2≤d∧d≤15)(g0:3≤g)(g1:g≤16):¬(Cu (.int (N:Int)) 3 16=false∨Cu (.int d) 2 15=false∨Cu (.int (g:Int)) 3 16=false):=by
 rw[FU (by omega) (by omega),FU hd.1 hd.2,FU (by omega) (by omega)]
 rintro(h|h|h)<;>cases h
theorem Sm{O:AH}{a:Addr}{v1 v2 v7 v8 v9 v10 v11:Option T}{N:Nat}{d:Int}{g:Nat}{L:List (List Int)}{Φ:BU}{Nx Bk Ct:Lz}(B:Has P w K mg base CN)(hr:Room 8 (zL P w K mg base f cdv A outer s H E).X.A)(xf:XFly (zL P w K mg base f cdv A outer s H E).X (zL P w K mg base f cdv A outer s H E).W)
  (n0:3≤N) (n1:N≤16) (hd:2≤d∧d≤15) (g0:3≤g) (g1:g≤16) (hl:L.length≤256) (hm:∀ss,ss∈L↔BA N d g ss) (pw:L.Pairwise (fun x y=>GrR.rk x<GrR.rk y))
  (k:∀v8 O',ZJ O O' v8→Nx (FP a v1 v2 (some (.int (N:Int))) (some (.int d)) (some (.int (g:Int))) (some (.lst (L.map AK))) v7 v8 v9 v10 v11) O'):
  HS (zL P w K mg base f cdv A outer s H E) (FP a v1 v2 (some (.int (N:Int))) (some (.int d)) (some (.int (g:Int))) (some (.lst (L.map AK))) v7 v8 v9 v10 v11) O (Sk (cW 3)) {nx:=Nx,rt:=Φ,bk:=Bk,ct:=Ct}:=by
 have sb:=AZ
 have hg:(zL P w K mg base f cdv A outer s H E).X.A.guards=some []:=hr.gd
 have hu:(zL P w K mg base f cdv A outer s H E).X.A.units+101<cLine:=by have:=hr.un;omega
 obtain⟨sh,fit,dp⟩:=Mo n1 hl hm
 refine BJ (AS 8 (AX B.gt hr xf (EA.wa (AE AB (AE (ev 3) (AE (ev 4) (AE (ev 5) AC)))) ⟨0,.int (N:Int),.int d,.int (g:Int),rfl,by decide,rfl,rfl,rfl,fun _=> ⟨fun h=>absurd h (ZK n0 n1 hd g0 g1),fun N' d' g' e1 e2 e3 _ _ _ _ _ L' _ hm' pw' l hl'=>?_⟩,fun h=>by cases h⟩)) DZ.nd)
 have eN:N'=N:=by injection e1 with e;omega
 have eg:g'=g:=by injection e3 with e;omega
 have ed:d'=d:=by injection e2 with e;exact e.symm
 subst eN eg ed
 have eL:L'=L:=GrR.Vs pw' pw fun ss=> (hm' ss).trans (hm ss).symm
 subst eL
 refine BJ (BR (k:=false) (EB.cast (Au Jo (Ak _) MD (RG AF hg hu B.tx.nRepr (ev 8) sh fit dp) (JE (t:=.lst (L'.map AK)) hg hu B.tx.nRepr (ev 6) rfl (by unfold EY;exact sh) fit dp)) (by simp)) (fun h=>by cases h) (fun _=>Ba ?_))
 refine MC (Ao (Be (ET.we (ev 8) ⟨l,rfl,⟨_,AF⟩,ET.we AB ⟨_,AF,by rw[e8];omega,?_⟩⟩)))
 rw[BO]
 exact k _ _ (.inr ⟨l,_,hl',rfl,rfl⟩)
theorem Pb{ρ:List (Option T)}{O:AH}{d:Int}{g:Nat}(B:Has P w K mg base CN)(hr:Room 8 (zL P w K mg base f cdv A outer s H E).X.A)(xf:XFly (zL P w K mg base f cdv A outer s H E).X (zL P w K mg base f cdv A outer s H E).W)
  (hd:2≤d∧d≤15) (g0:3≤g) (g1:g≤16) (h4:ρ[4]?=some (some (.int d))) (h5:ρ[5]?=some (some (.int (g:Int)))):EB (zL P w K mg base f cdv A outer s H E) ρ O (match cW 5 with| .If c _ _ _=>c|_=> .Constant .none 0 ⟨0,0,0,0⟩) false:=by
 have hgd:(zL P w K mg base f cdv A outer s H E).X.A.guards=some []:=hr.gd
 have hu:(zL P w K mg base f cdv A outer s H E).X.A.units+101<cLine:=by have:=hr.un;omega
 have nb:¬(Cu (.int d) 2 15=false∨Cu (.int (g:Int)) 3 16=false):=by
  rw[FU hd.1 hd.2,FU (by omega) (by omega)]
  rintro(h|h)<;>cases h
 have same:∀{d':Int} {g':Nat},T.int d=.int d'→T.int (g:Int)=.int (g':Int)→d'=d∧g'=g:=fun{d' g'} e1 e2=>by
  injection e1 with e1
  injection e2 with e2
  exact⟨e1.symm,by omega⟩
 rcases Mn d g with⟨N,ss,la⟩|no
 ·obtain⟨sh,wt,dp⟩:=Pa la.2.2.1.2.1 la.2.1
  refine EB.cast (Au Jo (Ak _) MD (JE (t:=.tup [.int (N:Int),AK ss]) hgd hu B.tx.nRepr (BI B.gt hr xf (AE AB (AE AB (AE (ev 4 h4) (AE (ev 5 h5) AC)))) fun Φ q=> ⟨1,.int 0,.int d,.int (g:Int),rfl,by decide,rfl,rfl,rfl,(fun h=>by cases h),fun _=> ⟨fun h=>absurd h nb,fun d' g' e1 e2 _ _ _=>?c1⟩⟩) rfl sh wt dp) (JE (t:=.tup [.int (N:Int),AK ss]) hgd hu B.tx.nRepr (BI B.ge (hr.mono (by decide)) xf (AE (ev 4 h4) (AE (ev 5 h5) AC)) fun Φ q=> ⟨d,g,rfl,hd,g0,g1,fun z=>absurd la.2.2.1 (z N la.1 la.2.1 ss),fun N' ss' la'=>?c2⟩) rfl sh wt dp)) (by simp)
  case c1=>
   obtain⟨rfl,rfl⟩:=same e1 e2
   refine⟨fun z=>absurd la.2.2.1 (z N la.1 la.2.1 ss),fun N' ss' la'=>?_⟩
   obtain⟨rfl,rfl⟩:=HM la' la
   exact q
  case c2=>
   obtain⟨rfl,rfl⟩:=HM la' la
   exact q
 ·refine EB.cast (Au Jo (Ak _) MD (Ke B.tx.nRepr (BI B.gt hr xf (AE AB (AE AB (AE (ev 4 h4) (AE (ev 5 h5) AC)))) fun Φ q=> ⟨1,.int 0,.int d,.int (g:Int),rfl,by decide,rfl,rfl,rfl,(fun h=>by cases h),fun _=> ⟨fun h=>absurd h nb,fun d' g' e1 e2 _ _ _=>?c1⟩⟩)) (Ke B.tx.nRepr (BI B.ge (hr.mono (by decide)) xf (AE (ev 4 h4) (AE (ev 5 h5) AC)) fun Φ q=> ⟨d,g,rfl,hd,g0,g1,fun _=>q,fun N' ss' la'=>absurd la'.2.2.1 (no N' la'.1 la'.2.1 ss')⟩))) (by simp)
  case c1=>
   obtain⟨rfl,rfl⟩:=same e1 e2
   exact⟨fun _=>q,fun N' ss' la'=>absurd la'.2.2.1 (no N' la'.1 la'.2.1 ss')⟩
theorem Sn:lA (dT (.lst ([T.str "number",.str "number",.str "number"]++[.str "number",.str "number"]))) (dT (.lst (gK (5:Int).toNat (T.str "number"))))=true:=by decide+kernel
theorem VW{O:AH}{a:Addr}{v1 v2 v4 v5 v6 v7 v8 v11:Option T}{N:Nat}{t u:T}{Φ:BU}{Nx Bk Ct:Lz}(B:Has P w K mg base CN)(hr:Room 8 (zL P w K mg base f cdv A outer s H E).X.A)(xf:XFly (zL P w K mg base f cdv A outer s H E).X (zL P w K mg base f cdv A outer s H E).W)
  (n0:3≤N) (n1:N≤16) (ht:Aj t=false∧Cu t 3 16=false) (hu':Aj u=false∧Cu u 2 15=false)
  (k:∀v11,Nx (FP a v1 v2 (some (.int (N:Int))) v4 v5 v6 v7 v8 (some t) (some u) v11) O):
  HS (zL P w K mg base f cdv A outer s H E) (FP a v1 v2 (some (.int (N:Int))) v4 v5 v6 v7 v8 (some t) (some u) v11) O ((Sk (ZV 0)).drop 8) {nx:=Nx,rt:=Φ,bk:=Bk,ct:=Ct}:=by
 have hu:(zL P w K mg base f cdv A outer s H E).X.A.units+101<cLine:=by have:=hr.un;omega
 have no:∀{x:T} {a b i:Int},Cu x a b=false→x=.int i→a≤i→i≤b→False:=fun{x a b i} h e h1 h2=>by
  rw[e,FU h1 h2] at h
  cases h
 refine BJ (AS 11 (ET.we (t:=.lst [.str "number",.str "number",.str "number"]) (Bo (AE (BI B.gt hr xf (AE AB (AE (ev 9) (AE AB (AE AB AC)))) fun Φ q=> ⟨0,t,.int 3,.int 3,rfl,by decide,ht.1,rfl,rfl,fun _=> ⟨fun _=>q,fun N' d' g' e1 _ _ m0 m1 _ _ _=> (no ht.2 e1 (by omega) (by omega)).elim⟩,fun h=>by cases h⟩)
  (AE (BI B.gt hr xf (AE AB (AE (ev 3) (AE (ev 10) (AE AB AC)))) fun Φ q=> ⟨0,.int (N:Int),u,.int 3,rfl,by decide,rfl,hu'.1,rfl,fun _=> ⟨fun _=>q,fun N' d' g' _ e2 _ _ _ hd _ _=> (no hu'.2 e2 hd.1 hd.2).elim⟩,fun h=>by cases h⟩)
  (AE (BI B.gt hr xf (AE AB (AE (ev 3) (AE AB (AE (ev 9) AC)))) fun Φ q=> ⟨0,.int (N:Int),.int 3,t,rfl,by decide,rfl,rfl,ht.1,fun _=> ⟨fun _=>q,fun N' d' g' _ _ e3 _ _ _ m0 m1=> (no ht.2 e3 (by omega) (by omega)).elim⟩,fun h=>by cases h⟩) AC))) (by show 3≤sizeLine;decide)) ?_) DZ.nd)
 refine MC (BR (k:=false) (EB.cast (Au (JD hu) (Ak _) (Ow (t:=.lst ([T.str "number",.str "number",.str "number"]++[.str "number",.str "number"])) (u:=.lst (gK (5:Int).toNat (T.str "number"))) (by decide+kernel) (by decide+kernel) (by decide+kernel)) (Fh (ev 11) (Bo (AE (BI B.gt hr xf (AE AB (AE AB (AE (ev 10) (AE AB AC)))) fun Φ q=> ⟨1,.int 0,u,.int 3,rfl,by decide,rfl,hu'.1,rfl,(fun h=>by cases h),fun _=> ⟨fun _=>q,fun d' g' e2 _ hd _ _=> (no hu'.2 e2 hd.1 hd.2).elim⟩⟩)
  (AE (BI B.gt hr xf (AE AB (AE AB (AE AB (AE (ev 9) AC)))) fun Φ q=> ⟨1,.int 0,.int 3,t,rfl,by decide,rfl,rfl,ht.1,(fun h=>by cases h),fun _=> ⟨fun _=>q,fun d' g' _ e3 _ m0 m1=> (no ht.2 e3 (by omega) (by omega)).elim⟩⟩) AC)) (by show 2≤sizeLine;decide)) (by show 3+2≤sizeLine;decide)) (UT (t:=.str "number") (Bo (AE Qf AC) (by show 1≤sizeLine;decide)) AB ⟨by decide,by decide⟩)) (by rw[Sn];rfl)) (fun h=>by cases h) (fun _=>Ba (k _)))
theorem cG{ρ:List (Option T)}{O:AH}:HET (zL P w K mg base f cdv A outer s H E) ρ O (match cW 6 with| .Assign _ (.Subscript e _ _) _=>e|_=> .Constant .none 0 ⟨0,0,0,0⟩) (.lst VV):=
 .lst (.cons .int (.cons .int (.cons ⟨Qi AB⟩ (.cons .bl (.cons .non (.cons .str (.cons ⟨Lw AB AB ⟨by decide,by decide,by decide⟩⟩ .nil))))))) (by show 7≤sizeLine;decide)
theorem cH{ρ:List (Option T)}{O:AH}:HET (zL P w K mg base f cdv A outer s H E) ρ O (match cW 7 with| .Assign _ (.Subscript e _ _) _=>e|_=> .Constant .none 0 ⟨0,0,0,0⟩) (.lst OD):=
 .lst (.cons .int (.cons .int (.cons ⟨Qi AB⟩ (.cons .bl (.cons .non (.cons .str (.cons ⟨Lw AB AB ⟨by decide,by decide,by decide⟩⟩ .nil))))))) (by show 7≤sizeLine;decide)
end
section
variable{P:Program}{w:World}{K:a9}{mg:Str→Option Value}{base:Heap}{f:Addr}{cdv:Value}{A:gx}{outer:List Env}{s:Shared}{H:Hp}{E:XK}{CN:Addr}
theorem So{O O1:AH}{a p:Addr}{v1 v4 v5 v6 v7 v8 v9 v10 v11:Option T}{N:Nat}{Φ:BU}{Nx Bk Ct:Lz}(B:Has P w K mg base CN)(hr:Room 8 (zL P w K mg base f cdv A outer s H E).X.A)(xf:XFly (zL P w K mg base f cdv A outer s H E).X (zL P w K mg base f cdv A outer s H E).W)(po:PO O p O1)(n0:3≤N)(n1:N≤16)
  (k:∀v4 v5 v6 v7 v8 v9 v10 v11 O',Nx (FP a v1 (some (.raw (.ref p))) (some (.int (N:Int))) v4 v5 v6 v7 v8 v9 v10 v11) O'):
  HS (zL P w K mg base f cdv A outer s H E) (FP a v1 (some (.raw (.ref p))) (some (.int (N:Int))) v4 v5 v6 v7 v8 v9 v10 v11) O1 ((Sk (ZV 0)).drop 4) {nx:=Nx,rt:=Φ,bk:=Bk,ct:=Ct}:=by
 refine BJ (YI 4 5 rfl DZ.nd (KY (EO Dl (ET.we AB (DA B.gd (hr.mono (by decide)) xf po (ev 2) AB (by decide) (by decide) fun r1 O2 r10 r11 po2=>ER _ (KY (EO Dl (ET.we AB (DA B.gd (hr.mono (by decide)) xf po2 (ev 2) AB (by decide) (by decide) fun r2 O3 r20 r21 po3=>ER _ (BB ⟨_,_,rfl,?_⟩))))))))))
 obtain⟨g,hg⟩:∃g:Nat,(3:Int)+r2=(g:Int):=⟨(3+r2).toNat,by omega⟩
 rw[hg]
 refine BJ (BR (k:=false) (Pb (d:=2+r1) (g:=g) B hr xf (by omega) (by omega) (by omega) rfl rfl) (fun h=>by cases h) (fun _=>Ba ?_))
 refine BJ (AS 9 (NM Cc (fun _ _=>rfl) (ET.we cG.out (DA B.gd (hr.mono (by decide)) xf po3 (ev 2) AB (by decide) (by decide) fun r3 O4 r30 r31 po4=>?_))) DZ.nd)
 obtain⟨t,et,mt⟩:=EF (L:=VV) r30 r31
 refine Ir et _ ?_
 refine BJ (AS 10 (NM Cc (fun _ _=>rfl) (ET.we cH.out (DA B.gd (hr.mono (by decide)) xf po4 (ev 2) AB (by decide) (by decide) fun r4 O5 r40 r41 po5=>?_))) DZ.nd)
 obtain⟨u,eu,mu⟩:=EF (L:=OD) r40 r41
 refine Ir eu _ ?_
 exact VW B hr xf n0 n1 (ZH t mt) (ZI u mu) fun _=>k _ _ _ _ _ _ _ _ _
theorem Sq{O:AH}{a:Addr}{v2 v3 v4 v5 v6 v7 v8 v9 v10 v11:Option T}{c:Int}{Φ:BU}{Nx Bk Ct:Lz}(B:Has P w K mg base CN)(hr:Room 8 (zL P w K mg base f cdv A outer s H E).X.A)(xf:XFly (zL P w K mg base f cdv A outer s H E).X (zL P w K mg base f cdv A outer s H E).W)
  (k:∀v2 v3 v4 v5 v6 v7 v8 v9 v10 v11 O',Nx (FP a (some (.int c)) v2 v3 v4 v5 v6 v7 v8 v9 v10 v11) O'):HS (zL P w K mg base f cdv A outer s H E) (FP a (some (.int c)) v2 v3 v4 v5 v6 v7 v8 v9 v10 v11) O (Sk (ZV 0)) {nx:=Nx,rt:=Φ,bk:=Bk,ct:=Ct}:=by
 refine BJ (AS 2 (AX B.gp (hr.mono (by decide)) xf (EA.wa (AE (ev 1) AC) ⟨c,rfl,fun p xs hp px=>?_⟩)) DZ.nd)
 refine BJ (VF 3 4 5 rfl DZ.nd (KY (EO Dl (ET.we AB (DA B.gd (hr.mono (by decide)) xf (PO.start AF px) (ev 2) AB (by decide) (by decide) fun r1 O2 r10 r11 po2=>ER _ (KY (EO Dl (ET.we AB (DA B.gd (hr.mono (by decide)) xf po2 (ev 2) AB (by decide) (by decide) fun r2 O3 r20 r21 po3=>ER _ (KY (EO Dl (ET.we AB (DA B.gd (hr.mono (by decide)) xf po3 (ev 2) AB (by decide) (by decide) fun r3 O4 r30 r31 po4=>ER _ (BB ⟨_,_,_,rfl,?_⟩))))))))))))))
 obtain⟨N,hN⟩:∃N:Nat,(3:Int)+r1=(N:Int):=⟨(3+r1).toNat,by omega⟩
 obtain⟨g,hg⟩:∃g:Nat,(3:Int)+r3=(g:Int):=⟨(3+r3).toNat,by omega⟩
 rw[hN,hg]
 refine BJ (AS 6 (AX B.gf (hr.mono (by decide)) xf (EA.wa (AE (ev 3) (AE (ev 4) (AE (ev 5) AC))) ⟨N,2+r2,g,rfl,by omega,by omega,by omega,by omega,by omega,fun L hl hm pw=>?_⟩)) DZ.nd)
 refine BJ (Av AY.own rfl (EI.wi (BW B.tx.nRange AB ⟨by decide,by decide⟩) ⟨fun i ρ' O'=>∃v7 v8:Option T,ρ'=FP a (some (.int c)) (some (.raw (.ref p))) (some (.int (N:Int))) (some (.int (2+r2))) (some (.int (g:Int))) (some (.lst (L.map AK))) v7 v8 v9 v10 v11∧ZJ O4 O' v8,⟨_,_,rfl,.inl rfl⟩,?_,?_⟩))
 ·rintro i t _ O' e ⟨v7,v8,rfl,hh⟩
  exact⟨_,AO 7 DZ.nd (by show 7<12;decide),(IP hh fun v8=>Sm B hr xf (by omega) (by omega) (by omega) (by omega) (by omega) hl hm pw fun v8 O'' h=> ⟨_,_,rfl,h⟩).out⟩
 ·rintro _ O' ⟨v7,v8,rfl,hh⟩
  exact IP hh fun v8=>So B hr xf po4 (by omega) (by omega) fun _ _ _ _ _ _ _ _ _=>k _ _ _ _ _ _ _ _ _ _ _
theorem VX{ρ:List (Option T)}{O:AH}{Ψ:Es}(B:Has P w K mg base CN)(hr:Room 8 (zL P w K mg base f cdv A outer s H E).X.A)(xf:XFly (zL P w K mg base f cdv A outer s H E).X (zL P w K mg base f cdv A outer s H E).W)(hk:Ψ.rt (.bl true) O):HS (zL P w K mg base f cdv A outer s H E) ρ O [ZV 1] Ψ:=by
 have hu:(zL P w K mg base f cdv A outer s H E).X.A.units+101<cLine:=by have:=hr.un;omega
 have nb:∀{d g:Int},2≤d→d≤15→3≤g→g≤16→¬(Cu (.int d) 2 15=false∨Cu (.int g) 3 16=false):=fun{d g} h1 h2 h3 h4=>by
  rw[FU h1 h2,FU h3 h4]
  rintro(h|h)<;>cases h
 have i1:∀{d d':Int},T.int d=.int d'→d'=d:=fun e=>by injection e with e;exact e.symm
 have i2:∀{g g':Nat},T.int (g:Int)=.int (g':Int)→g'=g:=fun e=>by injection e with e;omega
 refine MC (AR (ET.we (t:=.bl true) (ET.cast (Iq (x:=true) (y:=true) (ET.cast (Ey (Qx hu) (Ak _) (Ow (t:=.tup [.int 16,AK [1]]) (u:=.tup [.int 16,AK [1]]) (by decide+kernel) (by decide+kernel) (by decide+kernel)) (BI B.gl (hr.mono (by decide)) xf (AE AB (AE AB AC)) fun Φ q=> ⟨.int 2,.int 16,rfl,rfl,rfl,fun h=>absurd h (nb (by decide) (by decide) (by decide) (by decide)),fun d' g' e1 e2 _ _ _=>?c1⟩) (Bn (AE AB (AE (Bn (AE AB AC)) AC)))) (congrArg T.bl (by decide+kernel))) fun _=>Lx (ET.cast (YX (t:=.non) rfl (BI B.gl (hr.mono (by decide)) xf (AE AB (AE AB AC)) fun Φ q=> ⟨.int 3,.int 5,rfl,rfl,rfl,fun h=>absurd h (nb (by decide) (by decide) (by decide) (by decide)),fun d' g' e1 e2 _ _ _=>?c2⟩)) rfl)) rfl) hk))
 case c1=>
  have h1:=i1 e1
  have h2:=i2 (g:=16) e2
  subst h1 h2
  refine⟨fun z=>absurd IL (z 16 (by decide) (by decide) [1]),fun N ss la=>?_⟩
  obtain⟨rfl,rfl⟩:=Mk la
  exact q
 case c2=>
  have h1:=i1 e1
  have h2:=i2 (g:=5) e2
  subst h1 h2
  exact⟨fun _=>q,fun N ss la=>absurd la.2.2.1 VQ⟩
theorem Sr{a:Addr}{ns:List Int}{fC:Addr}{fdC:gE}(B:Has P w K mg base CN)(hr:Room 8 (zL P w K mg base f cdv A outer s H E).X.A)(xf:XFly (zL P w K mg base f cdv A outer s H E).X (zL P w K mg base f cdv A outer s H E).W)(hS:SqL K H a (ns.map V.int))(hn:ns.length≤63)
  (FC:FnOk P w K mg base (CXe P w) 1 fC fdC ["_law_script","_law_k"] (Gu K)) (mC:mg "_law_cell_at" =some (.ref fC)) (kC:jq K (.ref fC)=true) (bC:Binds K fdC ["_law_script","_law_k"] []):HS (zL P w K mg base f cdv A outer s H E) (Dr ZG [.raw (.ref a)]) Vq (Aw PJ) {nx:=fun _ O'=>eE .non O',rt:=eE}:=by
 refine BJ (UO AY.own rfl (Sl hr xf hS hn rfl FC mC kC bC fun ms hm=> ⟨ms.map T.int,rfl,fun i ρ' O'=>∃v1 v2 v3 v4 v5 v6 v7 v8 v9 v10 v11,ρ'=FP a v1 v2 v3 v4 v5 v6 v7 v8 v9 v10 v11,⟨none,none,none,none,none,none,none,none,none,none,none,rfl⟩,?_,?_⟩) (by intro _;rfl))
 ·rintro i t _ O1 e ⟨v1,v2,v3,v4,v5,v6,v7,v8,v9,v10,v11,rfl⟩
  rw[fq] at e
  cases ec:ms[i]? with
  |none=>rw[ec] at e;cases e
  |some c=>
   rw[ec] at e
   cases e
   exact⟨FP a (some (.int c)) v2 v3 v4 v5 v6 v7 v8 v9 v10 v11,AO 1 DZ.nd (by show 1<12;decide),Sq B hr xf fun _ _ _ _ _ _ _ _ _ _ _=> ⟨_,_,_,_,_,_,_,_,_,_,_,rfl⟩⟩
 ·rintro _ _ ⟨v1,v2,v3,v4,v5,v6,v7,v8,v9,v10,v11,rfl⟩
  exact VX B hr xf rfl
theorem ZL{fd:gE}{fC:Addr}{fdC:gE}(F:Fun K "law" "law" PJ f fd)(B:Has P w K mg base CN)
  (FC:FnOk P w K mg base (CXe P w) 1 fC fdC ["_law_script","_law_k"] (Gu K)) (mC:mg "_law_cell_at" =some (.ref fC)) (kC:jq K (.ref fC)=true) (bC:Binds K fdC ["_law_script","_law_k"] []):
  FnOk P w K mg base (CXe P w) 9 f fd ["_law_script"] (OE K):=by
 refine aj F DZ (fun vs H Q E h=>?_) (fun cdv A outer s H vs Q E hr h=>?_)
 ·obtain⟨a,ns,rfl,_⟩:=h
  rfl
 ·obtain⟨a,ns,rfl,hS,hn,k⟩:=h
  refine⟨[.raw (.ref a)],Vq,eE,fun _ _=>False,.cons (.raw _) .nil,Qv,fun xf=>Sr B hr xf hS hn FC mC kC bC,fun v H' t O' p f r=>?_,fun cls O' H' z=>z.elim⟩
  have p:t=T.bl true:=p
  subst p
  cases r.bl_inv
  exact k H'
end
theorem Ss{P:Program}{w:World}{K:a9}{mg:Str→Option Value}{base:Heap}{C CR CNoPlace CNoNumber CNoLine CNoRing CNotEven CNoWeb CNoText CTooGreat:Addr}{b0 b1 b2 b3 b4 b5 b6 b7:Bool}(M:Mg P w K mg base)(mNoPlace:Cn K "NoPlace" CNoPlace)(mNoNumber:Cn K "NoNumber" CNoNumber)(mNoLine:Cn K "NoLine" CNoLine)(mNoRing:Cn K "NoRing" CNoRing)(mNotEven:Cn K "NotEven" CNotEven)(mNoWeb:Cn K "NoWeb" CNoWeb)(mNoText:Cn K "NoText" CNoText)(mTooGreat:Cn K "TooGreat" CTooGreat)(g:Xg K CR)(x:Xk K C CR CNoPlace CNoNumber CNoLine CNoRing CNotEven CNoWeb CNoText CTooGreat b0 b1 b2 b3 b4 b5 b6 b7):Kinds K mg C b0 b1 b2 b3 b4 b5 b6 b7:=
 ⟨⟨_,M.mm mNoPlace,x.e0⟩,⟨_,M.mm mNoNumber,x.e1⟩,⟨_,M.mm mNoLine,x.e2⟩,⟨_,M.mm mNoRing,x.e3⟩,⟨_,M.mm mNotEven,x.e4⟩,⟨_,M.mm mNoWeb,x.e5⟩,⟨_,M.mm mNoText,x.e6⟩,⟨_,M.mm mTooGreat,x.e7⟩,x.ve,⟨x.g1,x.g2,x.g3,x.g4,x.g5,g.g6,g.g7⟩⟩
theorem ZM{l:o7}{w:World}{K:a9}{h:Heap}{mg:Str→Option Value}{fa CR CNoPlace CNoNumber CNoLine CNoRing CNotEven CNoWeb CNoText CTooGreat:Addr}{tMOST_PLACES tLEAST_PLACES tLEAST_TIES tMOST_TIES tLEAST_RING tMOST_RING:Tok}(X:K.In h)(G:h.Ns iP mg)(hfa:mg "law" =some (.ref fa))
  (H0:Fx K "is_whole" MO) (H1:Fx K "need_number" JO) (H2:Fx K "least_told" JQ) (H3:Fx K "ties_of" Ed) (H4:Fx K "nears_of" JP) (H5:Fx K "fars_from" IB) (H6:Fx K "even_by" Nf) (H7:Fx K "ring_by_tie" Uq) (H8:Fx K "shortest" JR) (H9:Fx K "need_ties" Ra) (H10:Fx K "need_ring" Rb) (H11:Fx K "need_ties_and_ring" dm) (H12:Fx K "sum_of_powers" YL) (H13:Fx K "grown_places" MP) (H14:Fx K "has_shorter_ring" YM) (H15:Fx K "does_fit" Ng) (H16:Fx K "need_many" Rc) (H17:Fx K "web_turned" cT) (H18:Fx K "ties_turned" cU) (H19:Fx K "all_steps" Ki) (H20:Fx K "steps_that_fit" Re) (H21:Fx K "by_turns" YN) (H22:Fx K "least_by_turns" JS) (H23:Fx K "_law_cell_at" Rg) (H24:Fx K "_law_next" Rh) (H25:Fx K "_law_pen_of" YO) (H26:Fx K "_law_draw" Ri) (H27:Fx K "_law_kind_of" Nh) (H28:Fx K "_law_turned" Fn) (H29:Fx K "_law_no_shorter" Gs) (H30:Fx K "_law_fitting" IC) (H31:Fx K "_law_told" ID) (H32:Fx K "_law_least" Fm) (H33:Fx K "law" PJ)
  (zint:Zn K "int") (zbool:Zn K "bool") (ztuple:Zn K "tuple") (zlist:Zn K "list") (zset:Zn K "set") (zrange:Zn K "range") (zisinstance:Zn K "isinstance") (zmax:Zn K "max") (zmin:Zn K "min") (zlen:Zn K "len") (zall:Zn K "all") (zsorted:Zn K "sorted") (zrepr:Zn K "repr") (zValueError:Zn K "ValueError") (zany:Zn K "any") (zenumerate:Zn K "enumerate") (vMOST_PLACES:jP K iP "MOST_PLACES" =some (some (.int 16 tMOST_PLACES))) (vLEAST_PLACES:jP K iP "LEAST_PLACES" =some (some (.int 3 tLEAST_PLACES))) (vLEAST_TIES:jP K iP "LEAST_TIES" =some (some (.int 2 tLEAST_TIES))) (vMOST_TIES:jP K iP "MOST_TIES" =some (some (.int 15 tMOST_TIES))) (vLEAST_RING:jP K iP "LEAST_RING" =some (some (.int 3 tLEAST_RING))) (vMOST_RING:jP K iP "MOST_RING" =some (some (.int 16 tMOST_RING))) (mNoPlace:Cn K "NoPlace" CNoPlace) (mNoNumber:Cn K "NoNumber" CNoNumber) (mNoLine:Cn K "NoLine" CNoLine) (mNoRing:Cn K "NoRing" CNoRing) (mNotEven:Cn K "NotEven" CNotEven) (mNoWeb:Cn K "NoWeb" CNoWeb) (mNoText:Cn K "NoText" CNoText) (mTooGreat:Cn K "TooGreat" CTooGreat) (mR:Cn K "RingError" CR) (gR:Xg K CR)
  (yNoNumber:Xk K CNoNumber CR CNoPlace CNoNumber CNoLine CNoRing CNotEven CNoWeb CNoText CTooGreat false true false false false false false false) (xNoNumber:mj K CNoNumber Tj "ValueError.__new__" =true)
  :∃fd:gE,(∀(s:Shared) (v:Value),pT s fd ⟨[v],[]⟩ [("_law_script",v)])∧∀base:Heap,K.In base→base.Ns iP mg→FnOk l.prog w K mg base (CXe l.prog w) 9 fa fd ["_law_script"] (OE K):=by
 obtain⟨f0,d0,h0⟩:=H0
 obtain⟨f1,d1,h1⟩:=H1
 obtain⟨f2,d2,h2⟩:=H2
 obtain⟨f3,d3,h3⟩:=H3
 obtain⟨f4,d4,h4⟩:=H4
 obtain⟨f5,d5,h5⟩:=H5
 obtain⟨f6,d6,h6⟩:=H6
 obtain⟨f7,d7,h7⟩:=H7
 obtain⟨f8,d8,h8⟩:=H8
 obtain⟨f9,d9,h9⟩:=H9
 obtain⟨f10,d10,h10⟩:=H10
 obtain⟨f11,d11,h11⟩:=H11
 obtain⟨f12,d12,h12⟩:=H12
 obtain⟨f13,d13,h13⟩:=H13
 obtain⟨f14,d14,h14⟩:=H14
 obtain⟨f15,d15,h15⟩:=H15
 obtain⟨f16,d16,h16⟩:=H16
 obtain⟨f17,d17,h17⟩:=H17
 obtain⟨f18,d18,h18⟩:=H18
 obtain⟨f19,d19,h19⟩:=H19
 obtain⟨f20,d20,h20⟩:=H20
 obtain⟨f21,d21,h21⟩:=H21
 obtain⟨f22,d22,h22⟩:=H22
 obtain⟨f23,d23,h23⟩:=H23
 obtain⟨f24,d24,h24⟩:=H24
 obtain⟨f25,d25,h25⟩:=H25
 obtain⟨f26,d26,h26⟩:=H26
 obtain⟨f27,d27,h27⟩:=H27
 obtain⟨f28,d28,h28⟩:=H28
 obtain⟨f29,d29,h29⟩:=H29
 obtain⟨f30,d30,h30⟩:=H30
 obtain⟨f31,d31,h31⟩:=H31
 obtain⟨f32,d32,h32⟩:=H32
 obtain⟨f33,d33,h33⟩:=H33
 have e:=hfa.symm.trans (PySem.W.mg_of X G h33.a)
 cases e
 have mm:∀{x:Str} {v:Value},jP K iP x=some (some v)→mg x=some v:=fun e=>PySem.W.mg_of X G e
 have nn:∀{x:Str},Zn K x→mg x=none:=fun e=>PySem.W.mg_none_of X G e
 have Tx:Txt mg:=⟨nn zint,nn zbool,nn ztuple,nn zlist,nn zset,nn zrange,nn zisinstance,nn zmax,nn zmin,nn zlen,nn zall,nn zsorted,nn zrepr,nn zValueError,nn zany,nn zenumerate,⟨tMOST_PLACES,mm vMOST_PLACES⟩,⟨tLEAST_PLACES,mm vLEAST_PLACES⟩,⟨tLEAST_TIES,mm vLEAST_TIES⟩,⟨tMOST_TIES,mm vMOST_TIES⟩,⟨tLEAST_RING,mm vLEAST_RING⟩,⟨tMOST_RING,mm vMOST_RING⟩⟩
 refine⟨d33,fun s v=>?_,fun base _ _=>?_⟩
 ·obtain⟨⟨_,_,_,_,_,_,_,_,_,rfl,_⟩,_⟩:=h33.F
  exact .of_eq rfl
 have M:Mg l.prog w K mg base:=⟨mm⟩
 have UNoNumber:=Ss M mNoPlace mNoNumber mNoLine mNoRing mNotEven mNoWeb mNoText mTooGreat gR yNoNumber
 have G0:=h0.t M (Rf h0.F Tx) (h0.b3 rfl fun _ _ _ _ _ _ _ _ _=>rfl)
 have G1:=h1.t M (YS h1.F (mm mNoNumber) xNoNumber G0) (h1.b3 rfl fun _ _ _ _ _ _ _ _ _=>rfl)
 have G2:=h2.t M (Ry h2.F Tx) (h2.b1 rfl fun _ _ _ _ _ _ _=>rfl)
 have G3:=h3.t M (FnOk.mono (k:=2) (MX h3.F Tx) (by decide)) (h3.b1 rfl fun _ _ _ _ _ _ _=>rfl)
 have G4:=h4.t M (Ro h4.F Tx) (h4.b1 rfl fun _ _ _ _ _ _ _=>rfl)
 have G5:=h5.t M (Rt h5.F) (h5.b2 rfl fun _ _ _ _ _ _ _ _=>rfl)
 have G6:=h6.t M (Ux h6.F Tx G4) (h6.b1 rfl fun _ _ _ _ _ _ _=>rfl)
 have G7:=h7.t M (YW h7.F Tx G5) (h7.b3 rfl fun _ _ _ _ _ _ _ _ _=>rfl)
 have G8:=h8.t M (SG h8.F G4 G7 G2) (h8.b1 rfl fun _ _ _ _ _ _ _=>rfl)
 have G9:=h9.t M (VB h9.F Tx G1) (h9.b1 rfl fun _ _ _ _ _ _ _=>rfl)
 have G10:=h10.t M (VC h10.F Tx G1) (h10.b1 rfl fun _ _ _ _ _ _ _=>rfl)
 have G11:=h11.t M (bM h11.F G9 G10) (h11.b2 rfl fun _ _ _ _ _ _ _ _=>rfl)
 have G12:=h12.t M (Yc h12.F Tx) (h12.b2 rfl fun _ _ _ _ _ _ _ _=>rfl)
 have G13:=h13.t M (SD h13.F G12) (h13.b2 rfl fun _ _ _ _ _ _ _ _=>rfl)
 have G14:=h14.t M (Yd h14.F G8) (h14.b2 rfl fun _ _ _ _ _ _ _ _=>rfl)
 have G15:=h15.t M (VI h15.F G6 G14) (h15.b3 rfl fun _ _ _ _ _ _ _ _ _=>rfl)
 have G16:=h16.t M (VM h16.F Tx G1) (h16.b1 rfl fun _ _ _ _ _ _ _=>rfl)
 have G17:=h17.t M (bh h17.F Tx G3) (h17.b2 rfl fun _ _ _ _ _ _ _ _=>rfl)
 have G18:=h18.t M (bo h18.F Tx) (h18.b2 rfl fun _ _ _ _ _ _ _ _=>rfl)
 have G19:=h19.t M (VN h19.F Tx) (h19.b1 rfl fun _ _ _ _ _ _ _=>rfl)
 have G20:=h20.t M (Yt h20.F G13 G19 G18 G17 G15) (h20.b3 rfl fun _ _ _ _ _ _ _ _ _=>rfl)
 have G21:=h21.t M (Yu h21.F G16 G11 G20) (h21.b3 rfl fun _ _ _ _ _ _ _ _ _=>rfl)
 have G22:=h22.t M (PV h22.F Tx G11 G20) (h22.b2 rfl fun _ _ _ _ _ _ _ _=>rfl)
 have W23:FnOk l.prog w K mg base (CXe l.prog w) 1 f23 _ _ (Gu K):=Us h23.F Tx
 have G24:=h24.t M (Ut h24.F) (h24.b1 rfl fun _ _ _ _ _ _ _=>rfl)
 have G25:=h25.t M (YR h25.F Tx) (h25.b1 rfl fun _ _ _ _ _ _ _=>rfl)
 have G26:=h26.t M (Uu h26.F G24) (h26.b2 rfl fun _ _ _ _ _ _ _ _=>rfl)
 have C:CatT l.prog w K mg base CNoNumber CR:=⟨⟨f27,d27,HD h27.F Tx UNoNumber,mm h27.a,h27.F.kp,(h27.b1 rfl fun _ _ _ _ _ _ _=>rfl)⟩,mm mR,gR.bR,yNoNumber.kit,G21,G22⟩
 have G28:=h28.t M (PL h28.F Tx) (h28.b2 rfl fun _ _ _ _ _ _ _ _=>rfl)
 have G29:=h29.t M (cA h29.F Tx) (h29.b2 rfl fun _ _ _ _ _ _ _ _=>rfl)
 have G30:=h30.t M (VT h30.F Tx G28 G29) (h30.b3 rfl fun _ _ _ _ _ _ _ _ _=>rfl)
 have G31:=h31.t M (cE h31.F C) (h31.b4 rfl fun _ _ _ _ _ _ _ _ _ _=>rfl)
 have G32:=h32.t M (cF h32.F Tx G30) (h32.b2 rfl fun _ _ _ _ _ _ _ _=>rfl)
 exact ZL h33.F ⟨Tx,G25,G26,G30,G31,G32,G22⟩ W23 (mm h23.a) h23.F.kp (h23.b2 rfl fun _ _ _ _ _ _ _ _=>rfl)
theorem walk{l:o7}{q:Program}{loose:List Str}{XP:(Str→Option Value)→Heap→Prop}{YP:World→Heap→Prop}{d:DefRec}{K:Params→a9}(hn:l.most=some 63)(hdf:d.params.defaults=[])
  (hY:∀(w:World) (h:Heap),YP w h→(K w.params).In h)
  (F:∀(w:World) (mg:Str→Option Value) (fa:Addr) (h:Heap),(K w.params).In h→h.Ns iP mg→mg d.name=some (.ref fa)→
   ∃fd:gE,(∀(s:Shared) (u:Value),pT s fd ⟨[u],[]⟩ [("_law_script",u)])∧∀base:Heap,(K w.params).In base→base.Ns iP mg→FnOk l.prog w (K w.params) mg base (CXe l.prog w) 9 fa fd ["_law_script"] (OE (K w.params))):
  PySem.W.WalkO q loose XP YP l.row.toRowW d [] (fun f vs=>PySem.call f vs):=
 L2.Tc (n:=63) (k:=9) (x:="_law_script") (CX:=fun w=>CXe l.prog w) (sp:=fun w=>OE (K w.params)) hn (by decide) hdf ⟨rfl,by decide,by decide,rfl⟩ hY F (fun _ _ a ns hl _ hS=> ⟨a,ns,rfl,hS,hl,fun _=>rfl⟩) fun _ _ _ _ _ z=>z.never
end K34
open PySem PySem.W PyProof.Rows
set_option maxRecDepth 100000 in
set_option maxHeartbeats 0 in
theorem PySem.Challenge.cw_noshortring_k34_fewest_by_turns_holds : PySem.Challenge.rw_noshortring_k34_fewest_by_turns.Holds := by
 w_on;o_law
 refine PySem.W.holds_open (q:=K34.kq) (loose:=[]) (Xt:=fun s=>qo K34.kq [] s&&pY [] s) (XP:=PySem.W.XL K34.kq []) (Yf:=fun s=>K34.ka.map s.heap.get?) (Ya:=fun w=> (K34.Kk w.params).map fun(p:Addr×Obj)=>some p.2) (YP:=qF K34.Kk) (N:=6308) K34.left (qF.of fun _=>by kernel_rfl) qF.keeps (fun s e=>xl_of s (Bool.and_eq_true_iff.mp e).1) XL.keeps (by rfl) (by rfl) (by rfl) (fun s e=>recFacts_of (Bool.and_eq_true_iff.mp e).2) (by rfl) (by first|assumption|decide+kernel) (by first|k_qdec|decide+kernel) ⟨rfl,rfl,rfl,rfl,rfl,by decide+kernel⟩ ?hw ?hc
 (case hw=>w_witness2)
 k_fill
 refine K34.walk (l:=PySem.Challenge.rw_noshortring_k34_fewest_by_turns) rfl rfl (fun w h Y=>Y) ?F
 case F=>
  intro w mg fa h KX G hmg
  refine' K34.ZM KX G hmg ?H0 ?H1 ?H2 ?H3 ?H4 ?H5 ?H6 ?H7 ?H8 ?H9 ?H10 ?H11 ?H12 ?H13 ?H14 ?H15 ?H16 ?H17 ?H18 ?H19 ?H20 ?H21 ?H22 ?H23 ?H24 ?H25 ?H26 ?H27 ?H28 ?H29 ?H30 ?H31 ?H32 ?H33 ?zint ?zbool ?ztuple ?zlist ?zset ?zrange ?zisinstance ?zmax ?zmin ?zlen ?zall ?zsorted ?zrepr ?zValueError ?zany ?zenumerate ?vMOST_PLACES ?vLEAST_PLACES ?vLEAST_TIES ?vMOST_TIES ?vLEAST_RING ?vMOST_RING ?mNoPlace ?mNoNumber ?mNoLine ?mNoRing ?mNotEven ?mNoWeb ?mNoText ?mTooGreat ?mR ?gR ?yNoNumber ?xNoNumber
  case H0|H1|H2|H3|H4|H5|H6|H7|H8|H9|H10|H11|H12|H13|H14|H15|H16|H17|H18|H19|H20|H21|H22|H23|H24|H25|H26|H27|H28|H29|H30|H31|H32|H33=> (refine' L2.TL.fi ?a ?l ?q ?k;(case a=>k_is);(case l=>k_is);(case q=>k_is);(case k=>k_is))
  case zint|zbool|ztuple|zlist|zset|zrange|zisinstance|zmax|zmin|zlen|zall|zsorted|zrepr|zValueError|zany|zenumerate=> (delta L2.TL.Zn;k_is)
  case mNoPlace|mNoNumber|mNoLine|mNoRing|mNotEven|mNoWeb|mNoText|mTooGreat|mR=> (delta L2.TL.Cn;k_is)
  case vMOST_PLACES=>k_is
  case vLEAST_PLACES=>k_is
  case vLEAST_TIES=>k_is
  case vMOST_TIES=>k_is
  case vLEAST_RING=>k_is
  case vMOST_RING=>k_is
  case gR=>exact⟨by k_is,by k_is,by k_is⟩
  case yNoNumber=>exact⟨by kit_is,by kit_is,by kit_is,by kit_is,by kit_is,by kit_is,by kit_is,by kit_is,by kit_is,rfl,by kit_is,by k_is,by k_is,by k_is,by k_is,by k_is⟩
  case xNoNumber=>k_exc
