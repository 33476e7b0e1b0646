import PyProof.Rows.All
import Wide.All
import OpenK.AllK
import Wide.FinOn
import Lean
import PyProof.EqAt
import PyProof.EqKinds
import PyProof.TupleCall
import PySem.Challenge.RW_noshortring_k35_whole_turns
noncomputable section
open Array renaming length_toList→fg,getElem?_toList→fT,getElem?_eq_some_iff→gO,toList_extract→gW,toList_reverse→iE,toList_append→jI,toList_push→j5,ext'→kT,toList_map→k6,getD→mW,toList_zip→nJ,replicate→n6
open Bool renaming false_ne_true→e6,false_eq_true→fJ,not_eq_true'→iN,eq_iff_iff→iR,and_eq_true→iV,not_true→kM,not_false→mT,not_eq_false'→mU,and_false→mV,true_and→oT
open Classical renaming byContradiction→iY
open False renaming elim→kc
open ForInStep renaming yield→jq
open Int renaming eq_ofNat_of_zero_le→fX,toNat_natCast→gJ,le_of_lt→iT,mul_le_mul_of_nonneg_right→jx,le_refl→jz,le_trans→jK,emod_lt_of_pos→jR,emod_nonneg→kI,min_eq_right→k4,toNat_of_nonneg→lg,min_eq_left→lC,max_eq_right→l7,max_eq_left→mq,le_total→mB,emod_eq_of_lt→nh,le_antisymm→nZ,pow_pos→oy
open List renaming mem_singleton→b9,length_map→e8,getElem?_map→fc,mem_cons→fh,mem_of_getElem?→fk,size_toArray→fm,mem_map→fo,length_cons→fu,mem_cons_of_mem→fv,getElem?_eq_getElem→fz,getElem?_eq_some_iff→fD,length_append→fE,nodup_cons→fH,mem_append→fI,map_cons→fL,mem_filter→fO,mem_cons_self→fQ,getElem?_append_right→fR,mem_range→fW,range→fY,getElem?_set_ne→fZ,Pairwise→gc,cons_append→gj,getElem?_set_self→gm,nodup_append→gu,getElem?_append_left→gz,extract_eq_drop_take→gB,not_mem_nil→gC,length_take→gD,lookup_cons→gE,getElem?_of_mem→gF,getLast?_cons_cons→gG,mem_append_right→gI,getD_eq_getElem?_getD→gN,pairwise_map→gP,pairwise_iff_getElem→gR,nodup_iff_pairwise_ne→gY,map_map→gZ,length_range→ig,filterMap_cons→iw,map_append→iy,replicate→iA,getElem_mem→iB,all_eq_true→iK,getLast?_append→iP,length_nil→iQ,take_length→iS,getLast?_eq_some_iff→iX,take_add_one→i6,ext_getElem?→i7,append_assoc→i8,take_append_drop→ja,getElem?_drop→jd,mem_of_getLast?→je,mem_append_left→jf,getElem?_replicate→jg,pairwise_lt_range→jm,append_nil→jo,perm_append_comm→js,length_replicate→jt,mem_flatMap→jv,mem_filterMap→jw,pairwise_append→jy,pairwise_cons→jQ,getElem?_eq_none→jS,drop_eq_getElem_cons→jV,length_set→jZ,getElem?_take_of_lt→j9,getElem?_range→ki,pairwise_singleton→ko,length_drop→kr,getElem?_cons_succ→ku,filter_cons→kv,Perm→kz,length_pos_of_mem→kG,length_filter_le→kO,getD→kZ,getElem_of_mem→k9,length_erase_of_mem→lx,length_eq_zero_iff→lK,toArray→lQ,reverse_cons→lR,map_nil→lS,getElem_map→l0,forIn_cons→mn,reverse_append→mw,mem_map_of_mem→mx,zip_cons_cons→mQ,getLast?_cons→mR,getElem?_take→mS,flatMap_cons→m8,zipIdx_cons→nH,map_set→nR,of_mem_zip→nY,take_zero→ot,map_id→ou,forIn_nil→ow,map_drop→oR,cons→pU
open List.Pairwise renaming imp_of_mem→ip,nil→j4,filter→kS,map→m9
open Nat renaming le_refl→fj,lt_of_lt_of_le→fM,ne_of_lt→fS,le_trans→gL,zero_le→gT,lt_irrefl→gU,lt_succ_of_lt→jl,zero_add→j0,lt_trichotomy→j3,lt_succ_self→km,ne_of_gt→kY,not_lt_zero→lB,le_of_lt→lP,le_of_not_lt→lZ,lt_of_le_of_lt→mO,le_of_succ_le→m7,pow_succ→nQ,add_assoc→oQ,mod_lt→oX,succ_pos→pk,succ_add→pq,mul_comm→pz,lt_trans→pA,le_of_eq→pB
open Option renaming some→gh,isSome→nB
open Or renaming inr→nA,inl→om
open Prod renaming ext→iu,fst→jb
open Prod.mk renaming injEq→oP
open PyProof.Rows renaming wpS_bind→e7,wpS_pure→fb,seqObj→fV,SortSt→gq,wpS_forRange→gK,slot_tuple_getitem→iq,wpS_mono→iW,SortKind→jG,callWith_type1→jJ,failedOf→jN,IntsAre→jT,wpS_modify→kA,get?_update_seq→kH,envOfC→kQ,listUpdate_at→lr,wpS_get→lz,wpS_lift→l9,seqEpoch_at→me,AllBare→mD,setPending→mJ,assignInOrder_cons→mL,listItems_at→nL,list_sort_plain→nU,entry_list_sort→nV,slot_list_sort→n8,args_list_sort→oh,sortRuns'→oA,minRun'→oF,firstOfTuple'→oK,plain_sorted→oY,entry_sorted→o6,args_sorted1→pe,kind_sorted→pI
open PyProof.Rows.F renaming plain_set_update_loop→iZ
open PyProof.Rows.SortSt renaming mk'→lX
open PySem renaming wpAny_bind→a7,Shared→a9,wpAny_pure→b6,starEach→e9,Spec→fw,FuncData→fF,Around→fG,bootBuiltins→gk,wpAny_holding→gx,sizeLine_eq→gM,mainGlobals→gS,wpAny_call_entry→hV,compareOp→hZ,wpAny_newObj_type→ic,SetTable→ie,wpAny_callSpecial?_slot→iz,PyData→iD,wpAny_seqItems→iH,wpAny_setState_of→iL,foldedSetIterable→iM,wpAny_setField_rec→iO,wpAny_field→i5,cellsFrom→i9,wpAny_truthy_bool→jh,wpAny_rule→jB,codeAny_builtin→jC,backTo→jD,assignEach→jE,wpAny_mono→jM,wpAny_passesOwn→jX,wpAny_attempt→j6,Builtin→j8,IsPair→kb,mem_of_lookup→kg,binaryOp→kl,plainId_quiet→kJ,codeAny_call_builtin→kR,wpAny_typeOf→kU,codeAny→kW,wpAny_standAt→lh,wpAny_newList→lj,wpAny_pyIter_tuple→lD,wpAny_Call_Name_kw→lE,pyNext→lF,wpAny_letGo→lH,sliceBounds→lI,wpAny_tryCatch→lL,rawInt→lM,wpAny_forIn_list→lU,wpAny_askSetting→lV,wpAny_updateSeq_pair→ma,wpAny_of_eq→md,wpAny_loadPart'→mi,wpAny_execs_nil→mj,letOwnedTupleGo→ml,codeAny_mono→mz,swapsWith→mE,pickOrder→mF,PassesOwn→mG,wpAny_newTuple→mH,firstArgMember→mK,wpAny_pyIter_list→mX,ofAClassStatement→mY,Keyword→ng,wpAny_onRaise→ni,swapsWithSole→nj,swappedStores→nr,attributeBase→nu,wpAny_isInstance→nC,wpAny_eqBool_int→nD,noFill_tuple_add→nE,checkBuiltinCall→nF,wpAny_call→nK,argBest→nM,IsPart→nS,wpAny_updateSeq→nT,newFunctionEnv→n9,keywordEach→oa,isSubtype_type→og,Operator→oq,seqItems?→oC,pushCells→oD,getItem→oG,callerA→oH,Fin→oI,seq_tuple_add→oJ,frameOf→oN,setEntries→oU,pyIter→oV,builtinsNs→oW,entryPlaceOf→o7,concat_meets→o8,compEnvC→o9,ZipApart→pf,Within→ph,BindsTo→pD,Result→pF,seqIndex_of→pH,backToKw→pQ
open PySem.Around renaming under_plainId→jA
open PySem.Builtin.List renaming listTooLong→ly
open PySem.Builtin.Slice renaming slicePlaces→jW,sliceAdjust→k7
open PySem.Builtin.SmallTypes renaming nextOf→gH,ownedTupleIsFree→jc
open PySem.Builtin.Tuple renaming tupleExact→ke
open PySem.Challenge renaming pw_noshortring_k35_whole_turns→fU
open PySem.Data renaming cell→pG
open PySem.EntryCells renaming newEntry→my
open PySem.F renaming slot_tuple_iterator_next→jk,plain_min_loop→jL,slot_zip_next→kN,args_tuple_add_2→lu,entry_tuple_add→lJ,slot_tuple_add→lO,slot_tuple_lt→lT,entry_min_loop→nI
open PySem.Heap renaming get?_push_of_some→c9,lt_size→fq,get?_push_size→fK,size_push→iJ,get?_update_other→iU,SameBut→jn,get?_update_ne→jH,get?_update_self→jU,ExtBut→oz,FlyingW→pC
open PySem.Heap.SameBut renaming update→kj
open PySem.NameKind renaming cell→kL
open PySem.Obj renaming mapSeq→gQ,putSet→mM
open PySem.PyData renaming eqv→ju,depthAll→jY,eqvAll→l8
open PySem.SeqAt renaming EqAt→il
open PySem.SetTable renaming insertAt→jr,runEnd→kP,sizeAbove→oB,fill→oM
open PySem.SetTable.below renaming go→pP
open PySem.SetTable.probe renaming go→mf
open PySem.Str renaming ofString→kB
open PySem.Value renaming type→ji,none→jF,bool→lW,int→nG,str→pE
open PySem.W renaming Frag→a8,kitOne→fP,openGood→gX,kia_one→iI,nsIn→jj,kitCls→jO,keepIn→jP,excIn→j7,hideAll_get→kh,Looks→kK,fnOf→kX,hideAll→lA,of_hideAll→lG,findIn→lN,eq_sortI→lY,looks_findIn→mh,methodObj→mZ,mroIn→ny,clsIn→nz,instObj→nW,OpenLaw→nX,lookIn→oi,codeIn→oj,recOk→oO,xlAt→pj,InK→pJ
open PySem.W.Fast renaming te14364793385576792824→iC,tw4187177175401517315→iF,te4187177175401517315→iG
open PySem.pickOrder renaming go→oZ
open Sum renaming inr→nO,inl→nP
open True renaming intro→nN
set_option Elab.async false
set_option linter.all false
set_option maxRecDepth 100000
namespace L2
open PySem PySem.Spec PyProof.Rows
abbrev JT:=Sum Int Str
def VB:JT→Value→Bool
 | .inl k,v=>Value.isInt k v
 | .inr x,v=>Value.isStrOf x v
def br(w:World):JT→Int
 | .inl k=>hashInt k
 | .inr x=>hashStr w x
theorem Ah:∀{k:JT} {v:Value},VB k v=true→(∃i t,k=nP i∧v=nG i t)∨(∃x t,k=nO x∧v=pE x t)
 | .inl i,v,h=>by
  obtain⟨t,e⟩:=Value.isInt_shape (k:=i) (v:=v) h
  exact .inl ⟨i,t,rfl,e⟩
 | .inr x,v,h=>by
  obtain⟨t,e⟩:=Value.isStrOf_shape (x:=x) (v:=v) h
  exact .inr ⟨x,t,rfl,e⟩
theorem Vo(a b:Int):decide ((nP a:JT)=nP b)=(a==b):=by
 by_cases e:a=b
 ·subst e;simp
 ·have h:¬(nP a:JT)=nP b:=fun q=>e (nP.inj q)
  rw[decide_eq_false h]
  exact(beq_eq_false_iff_ne.mpr e).symm
theorem Vp(a b:Str):decide ((nO a:JT)=nO b)=decide (a=b):=by
 by_cases e:a=b
 ·subst e;simp
 ·have h:¬(nO a:JT)=nO b:=fun q=>e (nO.inj q)
  rw[decide_eq_false h,decide_eq_false e]
theorem Vq(a:Int)(b:Str):decide ((nP a:JT)=nO b)=false:=decide_eq_false (fun q=>nomatch q)
theorem Vr(a:Str)(b:Int):decide ((nO a:JT)=nP b)=false:=decide_eq_false (fun q=>nomatch q)
def Hv(prog:Program)(w:World):PySem.KeyKind prog w JT where
 is:=VB
 hash:=br w
 inj:=fun v a b ha hb=>by
  rcases Ah ha with⟨i,t,rfl,rfl⟩| ⟨x,t,rfl,rfl⟩
  ·rcases Ah hb with⟨j,u,rfl,e⟩| ⟨y,u,rfl,e⟩
   ·injection e with e1 _;rw[e1]
   ·exact nomatch e
  ·rcases Ah hb with⟨j,u,rfl,e⟩| ⟨y,u,rfl,e⟩
   ·exact nomatch e
   ·injection e with e1 _;rw[e1]
 byValue:=fun k v h=>by
  rcases Ah h with⟨i,t,rfl,rfl⟩| ⟨x,t,rfl,rfl⟩<;>rfl
 pyHash:=fun hv h=>by
  rcases Ah hv with⟨i,t,rfl,rfl⟩| ⟨x,t,rfl,rfl⟩
  ·exact wpAny_pyHash_int h
  ·exact wpAny_pyHash_str h
 eqBool:=fun hu hv h=>by
  rcases Ah hu with⟨i,t,rfl,rfl⟩| ⟨x,t,rfl,rfl⟩
  ·rcases Ah hv with⟨j,u,rfl,rfl⟩| ⟨y,u,rfl,rfl⟩
   ·rw[Vo] at h;exact nD h
   ·rw[Vq] at h;exact il.int_str i t y u _ _ _ _ h
  ·rcases Ah hv with⟨j,u,rfl,rfl⟩| ⟨y,u,rfl,rfl⟩
   ·rw[Vr] at h;exact il.str_int x t j u _ _ _ _ h
   ·rw[Vp] at h;exact wpAny_eqBool_str h
 «strs»:=fun k x t v h=>by
  rcases Ah h with⟨i,u,rfl,e⟩| ⟨y,u,rfl,e⟩
  ·exact nomatch e
  ·injection e with e1 _
   subst e1
   cases v<;>rfl
inductive V where
 |non|bl (b:Bool)|int (i:Int)|str (x:Str)|byt (b:Array UInt8)|flt (b:UInt64)|ref (a:Addr)|ty (n:String)
 deriving DecidableEq
def RelV:V→Value→Prop
 | .non,u=>u=jF
 | .bl b,u=>u=lW b
 | .int i,u=>∃t,u=nG i t
 | .str x,u=>∃t,u=pE x t
 | .byt b,u=>∃t,u=Value.bytes b t
 | .flt b,u=>∃t,u=Value.float b t
 | .ref a,u=>u=Value.ref a
 | .ty n,u=>u=ji n
abbrev Vals:List V→List Value→Prop:=Paired RelV
theorem Vals.length{xs:List V}{us:List Value}(r:Vals xs us):xs.length=us.length:=Paired.length r
theorem Vals.get:∀{xs:List V} {us:List Value} {i:Nat} {x:V},Vals xs us→xs[i]?=some x→∃u,us[i]?=some u∧RelV x u
 |_,_,_,_,.nil,e=>by simp at e
 |_,_,0,_,.cons r _,e=>by simp at e;subst e;exact⟨_,rfl,r⟩
 |_,_,i+1,x,.cons _ t,e=>by
  obtain⟨u,h1,h2⟩:=Vals.get (i:=i) (x:=x) t (by simpa using e)
  exact⟨u,by simpa using h1,h2⟩
theorem Vals.set{x:V}{u:Value}(r:RelV x u):∀{xs:List V} {us:List Value} (i:Nat),Vals xs us→Vals (xs.set i x) (us.set i u)
 |_,_,_,.nil=> .nil
 |_,_,0,.cons _ t=> .cons r t
 |_,_,i+1,.cons q t=> .cons q (Vals.set r i t)
theorem Vals.append:∀{xs ys:List V} {us ws:List Value},Vals xs us→Vals ys ws→Vals (xs++ys) (us++ws)
 |_,_,_,_,.nil,s=>s
 |_,_,_,_,.cons r t,s=> .cons r (Vals.append t s)
theorem Vals.take:∀{xs:List V} {us:List Value} (n:Nat),Vals xs us→Vals (xs.take n) (us.take n)
 |_,_,0,_=> .nil
 |_,_,_+1,.nil=> .nil
 |_,_,n+1,.cons r t=> .cons r (Vals.take n t)
theorem Vals.drop:∀{xs:List V} {us:List Value} (n:Nat),Vals xs us→Vals (xs.drop n) (us.drop n)
 |_,_,0,r=>r
 |_,_,_+1,.nil=> .nil
 |_,_,n+1,.cons _ t=>Vals.drop n t
def SM:Option V→Option Value→Prop
 |some v,some u=>RelV v u
 |none,none=>True
 |_,_=>False
def KV{κ:Type}:List (κ×V)→List (κ×Value)→Prop:=Paired fun(p:κ×V) (q:κ×Value)=>p.1=q.1∧RelV p.2 q.2
def kV:JT→V
 | .inl i=> .int i
 | .inr x=> .str x
inductive HO where
 /-- a list -/
 | lst (xs:List V)
 /-- a tuple (never changes) -/
 | tup (xs:List V)
 /-- a dict whose keys are ints and texts; one whose keys are tuples of ints and texts (the empty one is both) -/
 | dK (kvs:List (JT × V)) | dT (kvs:List (List JT × V))
 /-- a set of ints: its members,its size -/
 | set (S:Int→Bool) (n:Nat)
 /-- an instance of the class at C,its dict at dx,its attributes -/
 | ins (C dx:Addr) (fs:List (Str × V))
 /-- the dict of the instance at x -/
 | own (x:Addr)
 /-- the dict of an exception -/
 | xd (fs:List (Str × V))
 /-- a bound method,f of x -/
 | met (f x:Addr)
 /-- a range object lo,lo + 1,.. below hi -/
 | rng (lo hi:Int)
 /-- a thing that is known to the object (the script; a dict while a loop walks it): read,never written while it is so -/
 | frz (o:Obj) (u:HO)
 /-- a code object's table -/
 | tbl (ps:Array Value)
 /-- any other thing,by what is true of its one object (a def of one's own: SetO a S n:=HO.ext fun h => ..) -/
 | ext (φ:Heap→Prop)
abbrev Hp:=Addr→Option HO
def upd(H:Hp)(a:Addr)(o:HO):Hp:=fun b=>if b=a then some o else H b
theorem AY{H:Hp}{a:Addr}{o:HO}:upd H a o a=some o:=by unfold upd;rw[if_pos rfl]
theorem AO{H:Hp}{a b:Addr}{o:HO}(h:b≠a):upd H a o b=H b:=by unfold upd;rw[if_neg h]
theorem AM{H:Hp}{a b:Addr}{o:HO}(h:H a=some o)(h':H b=none):a≠b:=by
 intro e;subst e;rw[h] at h';cases h'
section
variable(P:Program)(w:World)
def ObjOk(H:Hp)(h:Heap)(a:Addr):HO→Prop
 | .lst xs=>xs.length≤sizeLine∧∃(its:List Value) (n:Nat),Vals xs its∧h.get? a=some {cls:=.type "list",data:=.seq its.toArray n}
 | .tup xs=>xs.length≤sizeLine∧∃its:List Value,Vals xs its∧IsTup h a its.toArray
 | .dK kvs=>kvs.length≤sizeLine∧(a==sysModules)=false∧∃vs,KV kvs vs∧h.DictOf (Hv P w) a vs
 | .dT kvs=>kvs.length≤sizeLine∧(a==sysModules)=false∧∃xs:List (List JT×Addr×Value),
   Paired (fun(p:List JT×V) (q:List JT×Addr×Value)=>p.1=q.1∧H q.2.1=some (.tup (p.1.map kV))∧RelV p.2 q.2.2) kvs xs∧
   ∃o es ep,h.get? a=some o∧o.ExactDict∧o.data=.dict es ep∧es.toList=xs.map (entryOfKey (tupleKind (Hv P w)))∧(xs.map (·.1)).Nodup
 | .set S n=>h.SetOf (intKind P w) a S n
 | .ins C dx fs=>H dx=some (.own a)∧fs.length≤1000∧dx≠a∧h.get? a=some (nW C dx)∧
   ∃mA,h.Ns1 dx mA∧(∀f,SM (fs.lookup f) (mA f))∧ph mA (fs.map (·.1))
 | .own _=>∃o,h.get? a=some o
 | .xd fs=>∃mA,h.Ns1 a mA∧∀f,SM (fs.lookup f) (mA f)
 | .rng lo hi=>∃t u v,h.get? a=some {cls:=.type "range",data:=.fields #[.int lo t,.int hi u,.int 1 v]}
 | .frz o u=>h.get? a=some o∧ObjOk H h a u
 | .tbl ps=>h.get? a=some {cls:=.none,data:=.fields ps}
 | .met f x=>h.get? a=some (mZ (.ref f) (.ref x))
 | .ext φ=>φ h∧(∃o,h.get? a=some o)∧∀h1 h2:Heap,φ h1→(∀o,h1.get? a=some o→h2.get? a=some o)→φ h2
def HOk(H:Hp)(h:Heap):Prop:=∀a o,H a=some o→ObjOk P w H h a o
end
section
variable{P:Program}{w:World}{H H':Hp}{h h':Heap}{a:Addr}{o:HO}
theorem ObjOk.lt(x:ObjOk P w H h a o):a<h.objs.size:=by
 cases o with
 |lst xs=>obtain⟨_,_,_,_,e⟩:=x;exact fq e
 |tup xs=>obtain⟨_,_,_,p⟩:=x;exact p.lt
 |dK kvs=>obtain⟨_,_,_,_,o,_,_,e,_⟩:=x;exact fq e
 |dT kvs=>obtain⟨_,_,_,_,o,_,_,e,_⟩:=x;exact fq e
 |set S n=>obtain⟨o,_,_,_,e,_⟩:=x;exact fq e
 |ins C dx fs=>obtain⟨_,_,_,e,_⟩:=x;exact fq e
 |own y=>obtain⟨_,e⟩:=x;exact fq e
 |xd fs=>obtain⟨_,⟨_,_,_,e,_⟩,_⟩:=x;exact fq e
 |rng lo hi=>obtain⟨_,_,_,e⟩:=x;exact fq e
 |frz ob u=>obtain⟨e,_⟩:=x;exact fq e
 |tbl ps=>exact fq (show h.get? a=some _ from x)
 |met f y=>exact fq (show h.get? a=some _ from x)
 |ext φ=>obtain⟨_,⟨_,e⟩,_⟩:=x;exact fq e
theorem Paired.mapP{α β:Type}{F G:α→β→Prop}:∀{l₁:List α} {l₂:List β},Paired F l₁ l₂→(∀a b,F a b→G a b)→Paired G l₁ l₂
 |_,_,.nil,_=> .nil
 |_,_,.cons r t,f=> .cons (f _ _ r) (Paired.mapP t f)
theorem ObjOk.stay(x:ObjOk P w H h a o)(k:∀b u,(b=a∨H b=some (.own a))→h.get? b=some u→h'.get? b=some u)
  (ho:∀b,H b=some (.own a)→H' b=some (.own a)) (ht:∀b xs,H b=some (.tup xs)→H' b=some (.tup xs)):ObjOk P w H' h' a o:=by
 induction o with
 |lst xs=>obtain⟨z,its,n,r,e⟩:=x;exact⟨z,its,n,r,k _ _ (.inl rfl) e⟩
 |tup xs=>obtain⟨z,its,r,ob,e,c⟩:=x;exact⟨z,its,r,ob,k _ _ (.inl rfl) e,c⟩
 |dK kvs=>obtain⟨z,y,vs,r,ob,es,ep,e,c⟩:=x;exact⟨z,y,vs,r,ob,es,ep,k _ _ (.inl rfl) e,c⟩
 |dT kvs=>
  obtain⟨z,y,xs,r,ob,es,ep,e,c⟩:=x
  exact⟨z,y,xs,Paired.mapP r fun p q z=> ⟨z.1,ht _ _ z.2.1,z.2.2⟩,ob,es,ep,k _ _ (.inl rfl) e,c⟩
 |set S n=>obtain⟨ob,es,ep,t,e,c⟩:=x;exact⟨ob,es,ep,t,k _ _ (.inl rfl) e,c⟩
 |ins C dx fs=>
  obtain⟨d,z,ne,e,mA,⟨od,es,ep,e2,c⟩,r⟩:=x
  exact⟨ho _ d,z,ne,k _ _ (.inl rfl) e,mA,⟨od,es,ep,k _ _ (.inr d) e2,c⟩,r⟩
 |own y=>obtain⟨ob,e⟩:=x;exact⟨ob,k _ _ (.inl rfl) e⟩
 |xd fs=>obtain⟨mA,⟨od,es,ep,e,c⟩,r⟩:=x;exact⟨mA,⟨od,es,ep,k _ _ (.inl rfl) e,c⟩,r⟩
 |rng lo hi=>obtain⟨t,u,v,e⟩:=x;exact⟨t,u,v,k _ _ (.inl rfl) e⟩
 |frz ob u ih=>obtain⟨e,q⟩:=x;exact⟨k _ _ (.inl rfl) e,ih q⟩
 |tbl ps=>
  have e:h.get? a=some {cls:=.none,data:=.fields ps}:=x
  show h'.get? a=some {cls:=.none,data:=.fields ps}
  exact k a _ (.inl rfl) e
 |met f y=>
  have e:h.get? a=some (mZ (.ref f) (.ref y)):=x
  show h'.get? a=some (mZ (.ref f) (.ref y))
  exact k a _ (.inl rfl) e
 |ext φ=>obtain⟨p,⟨o,e⟩,st⟩:=x;exact⟨st _ _ p fun o q=>k _ _ (.inl rfl) q,⟨o,k _ _ (.inl rfl) e⟩,st⟩
theorem HOk.lt(x:HOk P w H h)(e:H a=some o):a<h.objs.size:=(x a o e).lt
theorem HOk.fresh(x:HOk P w H h)(e:h.objs.size≤a):H a=none:=by
 cases q:H a with
 |none=>rfl
 |some u=>exact absurd (fM (x.lt q) e) (gU _)
theorem HOk.kept(x:HOk P w H h)(k:∀b u,h.get? b=some u→h'.get? b=some u):HOk P w H h':=fun a o e=>
 (x a o e).stay (fun b u _ q=>k b u q) (fun _ q=>q) fun _ _ q=>q
theorem HOk.laid(x:HOk P w H h)(k:∀b u,h.get? b=some u→h'.get? b=some u)(hp:h.objs.size≤a)(new:ObjOk P w (upd H a o) h' a o):HOk P w (upd H a o) h':=fun b u e=>by
 have hn:=x.fresh hp
 by_cases hb:b=a
 ·subst hb;rw[AY] at e;cases e;exact new
 ·rw[AO hb] at e
  exact(x b u e).stay (fun c v _ q=>k c v q) (fun c q=>by rw[AO (AM q hn)];exact q) fun c xs q=>by rw[AO (AM q hn)];exact q
end
def Rd(H:Hp)(a:Addr)(u:HO):Prop:=H a=some u∨∃o,H a=some (.frz o u)
theorem Rd.ok{P:Program}{w:World}{H:Hp}{h:Heap}{a:Addr}{u:HO}(r:Rd H a u)(x:HOk P w H h):ObjOk P w H h a u:=by
 rcases r with r| ⟨o,r⟩
 ·exact x a u r
 ·obtain⟨_,q⟩:=x a _ r
  exact q
def bV:Option HO→Prop
 |some (.lst _)=>True
 |some (.dK _)=>True
 |some (.dT _)=>True
 |some (.set _ _)=>True
 |some (.ins _ _ _)=>True
 |some (.ext _)=>True
 |_=>False
section
variable{P:Program}{w:World}{H:Hp}{h h':Heap}{x e:Addr}{o':HO}
theorem HOk.write(ok:HOk P w H h)(mu:bV (H x))(he:e=x∨H e=some (.own x))(k:∀b u,b≠e→h.get? b=some u→h'.get? b=some u)(heo:∃u,h'.get? e=some u)
  (new:ObjOk P w (upd H x o') h' x o'):HOk P w (upd H x o') h':=fun b u q=>by
 have nown:∀c y,H c=some (.own y)→c≠x:=fun c y r z=>by subst z;rw[r] at mu;exact mu
 have ntup:∀c xs,H c=some (.tup xs)→c≠x:=fun c xs r z=>by subst z;rw[r] at mu;exact mu
 by_cases hb:b=x
 ·subst hb;rw[AY] at q;cases q;exact new
 ·rw[AO hb] at q
  by_cases hbe:b=e
  ·have q':H b=some (.own x):=by
    rcases he with z|z
    ·exact absurd (hbe.trans z) hb
    ·rw[hbe];exact z
   rw[q] at q';cases q'
   obtain⟨v,hv⟩:=heo
   exact⟨v,by rw[hbe];exact hv⟩
  ·refine(ok b u q).stay (fun c v hc r=>k c v ?_ r) (fun c r=>by rw[AO (nown c b r)];exact r) fun c xs r=>by rw[AO (ntup c xs r)];exact r
   rcases hc with rfl|hc
   ·exact hbe
   ·rintro rfl
    rcases he with z|z
    ·exact nown c b hc z
    ·rw[hc] at z;cases z;exact hb rfl
end
structure Un(fs ex:List Addr)(H H':Hp)(h h':Heap):Prop where
 keep:∀b o,h.get? b=some o→H b=none→b∉fs→b∉ex→h'.get? b=some o
 slot:∀b o,h.get? b=some o→H b=none→b∈fs→b∉ex→∃sl,h'.get? b=some {o with slots:=sl}
 free:∀b o,h.get? b=some o→H b=none→b∉ex→H' b=none
 there:∀b o,h.get? b=some o→b∉ex→∃o',h'.get? b=some o'
 tups:∀b xs,H b=some (.tup xs)→H' b=some (.tup xs)
 frzs:∀b o u,H b=some (.frz o u)→H' b=some (.frz o u)
 tbls:∀b ps,H b=some (.tbl ps)→∃more,H' b=some (.tbl (ps++more))
section
variable{fs fs' ex ex':List Addr}{H H1 H2:Hp}{h h1 h2 h':Heap}{a x e:Addr}{o:HO}
theorem Un.any(u:Un fs ex H H1 h h1){b:Addr}{ob:Obj}(q:h.get? b=some ob)(n:H b=none)(hx:b∉ex):∃sl,h1.get? b=some {ob with slots:=sl}:=by
 by_cases hb:b∈fs
 ·exact u.slot b ob q n hb hx
 ·exact⟨ob.slots,u.keep b ob q n hb hx⟩
theorem Un.kept(k:∀b u,h.get? b=some u→h'.get? b=some u):Un fs ex H H h h':=
 ⟨fun b ob q _ _ _=>k b ob q,fun b ob q _ _ _=> ⟨ob.slots,k b ob q⟩,fun _ _ _ n _=>n,fun b ob q _=> ⟨ob,k b ob q⟩,fun _ _ q=>q,fun _ _ _ q=>q,fun _ ps q=> ⟨#[],by rw[q];simp⟩⟩
theorem Un.refl:Un fs ex H H h h:=Un.kept fun _ _ q=>q
theorem Un.laid(k:∀b u,h.get? b=some u→h'.get? b=some u)(hp:h.objs.size≤a)(hn:H a=none):Un fs ex H (upd H a o) h h' where
 keep:=fun b u q _ _ _=>k b u q
 slot:=fun b u q _ _ _=> ⟨u.slots,k b u q⟩
 free:=fun b u q n _=>by rw[AO (fS (fM (fq q) hp))];exact n
 there:=fun b u q _=> ⟨u,k b u q⟩
 tups:=fun b xs q=>by rw[AO (AM q hn)];exact q
 frzs:=fun b u xs q=>by rw[AO (AM q hn)];exact q
 tbls:=fun b ps q=> ⟨#[],by rw[AO (AM q hn),q];simp⟩
theorem Un.write(mu:bV (H x))(he:e=x∨H e=some (.own x))(k:∀b u,b≠e→h.get? b=some u→h'.get? b=some u)(heo:∃u,h'.get? e=some u):Un fs ex H (upd H x o) h h':=by
 have hx:∀b,H b=none→b≠x:=fun b n z=>by subst z;rw[n] at mu;exact mu
 have hb:∀b,H b=none→b≠e:=fun b n z=>by
  subst z
  rcases he with r|r
  ·exact hx b n r
  ·rw[n] at r;cases r
 have hm:∀b u,H b=some u→¬bV (some u)→b≠x:=fun b u q nm z=>by subst z;rw[q] at mu;exact nm mu
 refine⟨fun b u q n _ _=>k b u (hb b n) q,fun b u q n _ _=> ⟨u.slots,k b u (hb b n) q⟩,fun b u q n _=>by rw[AO (hx b n)];exact n,fun b u q _=>?_,
  fun b xs q=>by rw[AO (hm b _ q fun z=>z)];exact q,fun b u xs q=>by rw[AO (hm b _ q fun z=>z)];exact q,fun b ps q=> ⟨#[],by rw[AO (hm b _ q fun z=>z),q];simp⟩⟩
 by_cases hbe:b=e
 ·subst hbe;exact heo
 ·exact⟨u,k b u hbe q⟩
end
def bW(h:Heap)(H:Hp):List Addr:=(fY h.objs.size).filter fun a=> (H a).isSome
def Hw(h:Heap)(H:Hp):Heap:=lA h (bW h H)
theorem Nl(h:Heap)(H:Hp):(Hw h H).objs.size=h.objs.size:=PySem.W.hideAll_size _ _
theorem Ou{h:Heap}{H:Hp}{b:Addr}{o:Obj}(e:h.get? b=some o)(n:H b=none):(Hw h H).get? b=some o:=
 kh _ e fun hm=>by
  have q:(H b).isSome=true:=(fO.mp hm).2
  rw[n] at q;simp at q
theorem SN{h:Heap}{H:Hp}{b:Addr}{o:Obj}(e:(Hw h H).get? b=some o):h.get? b=some o∧H b=none:=by
 have e':h.get? b=some o:=lG (bW h H) e
 refine⟨e',?_⟩
 cases q:H b with
 |none=>rfl
 |some x=>
  have hm:b∈bW h H:=fO.mpr ⟨fW.mpr (fq e'),by simp[q]⟩
  have z:(Hw h H).get? b=none:=PySem.W.hideAll_none (bW h H) hm
  rw[z] at e;cases e
structure Mod(K:a8)(mg:Str→Option Value)(base:Heap):Prop where
 kin:K.In base
 glob:base.Ns gS mg
 blt:∃mb,base.Ns oW mb∧∀x:Str,x≠"__name__"→mb x=gk x
 nolimit:base.NoLimit
structure Cx where
 prog:Program
 w:World
 K:a8
 mg:Str→Option Value
 base:Heap
 A:fG
 N:List Str
 s₀:a9
 H₀:Hp
 env:Env
 outer:List Env
 stack:List Env
 ex:List Addr
 fn:Str→Bool
 calm:Bool
 pn:List (Addr×Obj)
 xe:Value→a9→Prop
def Gq(l:List Env):List Addr:=l.filterMap (·.frame)
abbrev Cx.fs(X:Cx):List Addr:=Gq X.outer
def Yo(sc:Scope)(x:Str):Prop:=sc.names.lookup x=some .local∨sc.names.lookup x=some .cell∨sc.names.lookup x=some .free
def SG(sc:Scope)(x:Str):Prop:=sc.names.lookup x=some .local∨sc.names.lookup x=some .cell
def bu(env:Env)(h:Heap)(m:Str→Option Value)(x:Str)(u:Value):Prop:=
 (env.kindOf x=some .local∧m x=some u)∨((env.kindOf x=some .cell∨env.kindOf x=some .free)∧∃c,env.cells.lookup x=some c∧h.IsCell c (some u))
structure Cx.Ok(X:Cx):Prop where
 mod:Mod X.K X.mg X.base
 kind:X.env.scope.kind=.function
 glob:X.env.globals=gS
 blt:X.env.builtins=oW
 above:X.s₀.heap.objs.size≤X.env.locals
 inj:∀x y c,X.env.cells.lookup x=some c→X.env.cells.lookup y=some c→x=y
 has:∀x,(X.env.kindOf x=some .cell∨X.env.kindOf x=some .free)→∃c,X.env.cells.lookup x=some c
 cab:∀x c,X.fn x=true→X.env.cells.lookup x=some c→X.s₀.heap.objs.size≤c
 hd:X.calm=true→X.A.handled=none
 frames:X.A.frames=some X.stack
 stk:X.stack=X.outer∨(X.stack=X.env::X.outer∧X.env.frame=some X.env.locals)
 exf:∀b∈X.ex,b≠X.env.locals∧∀x c,X.env.cells.lookup x=some c→c≠b
 bs:∀b o,X.base.get? b=some o→X.s₀.heap.get? b=some o∧X.H₀ b=none
 bsz:X.base.objs.size≤X.s₀.heap.objs.size
 noex:∀b o,X.base.get? b=some o→b∉X.ex
 exfs:∀b∈X.ex,b∉X.fs
 funs:X.s₀.heap.FunFrames X.base X.outer
 frf:∀b∈X.fs,X.H₀ b=none
structure Inv(X:Cx)(pins:List (Addr×Obj))(σ:List (Option V))(H:Hp)(s:a9):Prop where
 ok:X.Ok
 os:s.os=X.s₀.os
 bare:mD s.gens
 base:Un X.fs X.ex X.H₀ H X.s₀.heap s.heap
 loc:∃m,s.heap.Ns X.env.locals m∧∀(i:Nat) (x:Str) (v:V),X.N[i]?=some x→σ[i]?=some (some v)→Yo X.env.scope x→∃u,RelV v u∧bu X.env s.heap m x u
 cell:∀x c,X.env.cells.lookup x=some c→∃v,s.heap.IsCell c v
 free:H X.env.locals=none
 freeC:∀x c,X.env.cells.lookup x=some c→H c=none
 pin:∀p∈X.pn++pins,s.heap.get? p.1=some p.2∧H p.1=none∧p.1≠X.env.locals∧p.1∉X.fs∧∀v,p.2.data≠.cell v
 hok:HOk X.prog X.w H s.heap
 len:σ.length=X.N.length
section
variable{X:Cx}{pins:List (Addr×Obj)}{σ:List (Option V)}{H H':Hp}{s:a9}{h':Heap}
theorem Cx.Ok.nofr(ok:X.Ok){b:Addr}{o:Obj}(e:X.base.get? b=some o):b∉X.fs:=fun hb=>by
 have:=(ok.funs.mem hb).1
 rw[e] at this;cases this
theorem Inv.bs(I:Inv X pins σ H s):∀b o,X.base.get? b=some o→s.heap.get? b=some o∧H b=none:=fun b o e=>
 ⟨I.base.keep b o (I.ok.bs b o e).1 (I.ok.bs b o e).2 (I.ok.nofr e) (I.ok.noex b o e),I.base.free b o (I.ok.bs b o e).1 (I.ok.bs b o e).2 (I.ok.noex b o e)⟩
theorem Inv.bk(I:Inv X pins σ H s):∀b o,X.base.get? b=some o→s.heap.get? b=some o:=fun b o e=> (I.bs b o e).1
theorem Inv.mod(I:Inv X pins σ H s):Mod X.K X.mg X.base:=I.ok.mod
theorem Inv.kIn(I:Inv X pins σ H s):X.K.In s.heap:=I.ok.mod.kin.keeps I.bk
theorem Inv.lt(I:Inv X pins σ H s):X.env.locals<s.heap.objs.size:=let⟨_,hn,_⟩:=I.loc;hn.lt
theorem Inv.sz(I:Inv X pins σ H s):X.s₀.heap.objs.size≤s.heap.objs.size:=gL I.ok.above (lP I.lt)
theorem Inv.nofs(I:Inv X pins σ H s){a:Addr}(h:s.heap.objs.size≤a):a∉X.fs:=fun hb=>by
 obtain⟨_,o,ho,_⟩:=I.ok.funs.mem hb
 exact absurd (fM (fq ho) (gL I.sz h)) (gU _)
theorem Inv.cne(I:Inv X pins σ H s):∀x c,X.env.cells.lookup x=some c→c≠X.env.locals:=fun x c e z=>by
 obtain⟨v,o,ho,hd⟩:=I.cell x c e
 obtain⟨m,⟨o',es,ep,ho',hd',_⟩,_⟩:=I.loc
 rw[z,ho'] at ho;cases ho;rw[hd'] at hd;cases hd
theorem Inv.funs(I:Inv X pins σ H s):s.heap.FunFrames X.base X.outer:=by
 have all:∀(l:List Env),(∀b∈Gq l,b∈X.fs)→X.s₀.heap.FunFrames X.base l→s.heap.FunFrames X.base l:=by
  intro l
  induction l with
  |nil=>intro _ _;trivial
  |cons env r ih=>
   intro hs hl
   obtain⟨hk,⟨L,o,hf,hn,ho,hd⟩,hr⟩:=hl
   have hL:L∈X.fs:=hs L (by unfold Gq;rw[iw,hf];exact fQ)
   obtain⟨sl,e⟩:=I.base.slot L o ho (I.ok.frf L hL) hL fun z=>I.ok.exfs L z hL
   exact⟨hk,⟨L,_,hf,hn,e,hd⟩,ih (fun b hb=>hs b (by unfold Gq;rw[iw,hf];exact fv _ hb)) hr⟩
 exact all X.outer (fun _ hb=>hb) I.ok.funs
theorem Inv.stack(I:Inv X pins σ H s):s.heap.FunFrames X.base X.stack:=by
 rcases I.ok.stk with e| ⟨e,hf⟩
 ·rw[e];exact I.funs
 ·rw[e]
  obtain⟨m,hn,_⟩:=I.loc
  refine .cons (by rw[I.ok.kind];decide) hf hn ?_ I.funs
  exact Heap.get?_none_of_le (gL I.ok.bsz I.ok.above)
theorem Inv.stkSub(I:Inv X pins σ H s):∀b∈Gq X.stack,b∈X.env.locals::X.fs:=fun b hb=>by
 rcases I.ok.stk with e| ⟨e,hf⟩
 ·rw[e] at hb;exact fv _ hb
 ·rw[e] at hb
  unfold Gq at hb
  rw[iw,hf] at hb
  exact hb
theorem Inv.stkFree(I:Inv X pins σ H s):∀b∈Gq X.stack,H b=none:=fun b hb=>by
 rcases fh.mp (I.stkSub b hb) with e|hb
 ·rw[e];exact I.free
 ·obtain⟨_,o,ho,_⟩:=I.ok.funs.mem hb
  exact I.base.free b o ho (I.ok.frf b hb) fun z=>I.ok.exfs b z hb
theorem Inv.step{g':Array GenState}{t':Nat}{d':Drawn}{ch:List Addr}(I:Inv X pins σ H s)
  (hch:∀b∈ch,(b∈X.ex∨X.s₀.heap.objs.size≤b)∧b≠X.env.locals∧(∀x c,X.env.cells.lookup x=some c→c≠b)∧∀p∈X.pn++pins,p.1≠b)
  (keep:∀b o,b≠X.env.locals→b∉X.fs→b∉ch→s.heap.get? b=some o→H b=none→h'.get? b=some o)
  (slot:∀b o,b≠X.env.locals→b∈X.fs→b∉ch→s.heap.get? b=some o→H b=none→∃sl,h'.get? b=some {o with slots:=sl}) (free:∀b o,b∉ch→s.heap.get? b=some o→H b=none→H' b=none)
  (there:∀b o,b∉ch→s.heap.get? b=some o→∃o',h'.get? b=some o')
  (tups:∀b xs,H b=some (.tup xs)→H' b=some (.tup xs)) (frzs:∀b o u,H b=some (.frz o u)→H' b=some (.frz o u)) (tbls:∀b ps,H b=some (.tbl ps)→∃more,H' b=some (.tbl (ps++more)))
  (ns:∀m,s.heap.Ns X.env.locals m→h'.Ns X.env.locals m) (hok:HOk X.prog X.w H' h') (hg:mD g'):
  Inv X pins σ H' {s with heap:=h',gens:=g',drawn:=d',toks:=t'}:=by
 have neL:∀b o,X.s₀.heap.get? b=some o→b≠X.env.locals:=fun b o e=>fS (fM (fq e) I.ok.above)
 have neC:∀b o,X.s₀.heap.get? b=some o→b∉X.ex→b∉ch:=fun b o e hx hb=>by
  rcases(hch b hb).1 with z|z
  ·exact hx z
  ·exact absurd (fM (fq e) z) (gU _)
 have cellK:∀x c,X.env.cells.lookup x=some c→∀v,s.heap.IsCell c v→h'.IsCell c v:=fun x c e v ⟨o,ho,hd⟩=>by
  have nch:c∉ch:=fun z=> (hch c z).2.2.1 x c e rfl
  by_cases hc:c∈X.fs
  ·obtain⟨sl,q⟩:=slot c o (I.cne x c e) hc nch ho (I.freeC x c e)
   exact⟨_,q,hd⟩
  ·exact⟨o,keep c o (I.cne x c e) hc nch ho (I.freeC x c e),hd⟩
 refine⟨I.ok,I.os,hg,⟨fun b o e n hb hx=>?_,fun b o e n hb hx=>?_,fun b o e n hx=>?_,fun b o e hx=>?_,fun b xs e=>tups b xs (I.base.tups b xs e),fun b o xs e=>frzs b o xs (I.base.frzs b o xs e),fun b ps e=>?_⟩,?_,fun x c e=>?_,?_,fun x c e=>?_,fun p hp=>?_,hok,I.len⟩
 ·exact keep b o (neL b o e) hb (neC b o e hx) (I.base.keep b o e n hb hx) (I.base.free b o e n hx)
 ·obtain⟨sl,e1⟩:=I.base.slot b o e n hb hx
  obtain⟨sl',e2⟩:=slot b _ (neL b o e) hb (neC b o e hx) e1 (I.base.free b o e n hx)
  exact⟨sl',e2⟩
 ·obtain⟨o',e1⟩:=I.base.there b o e hx
  exact free b o' (neC b o e hx) e1 (I.base.free b o e n hx)
 ·obtain⟨o',e1⟩:=I.base.there b o e hx
  exact there b o' (neC b o e hx) e1
 ·obtain⟨m1,e1⟩:=I.base.tbls b ps e
  obtain⟨m2,e2⟩:=tbls b _ e1
  exact⟨m1++m2,by rw[e2,Array.append_assoc]⟩
 ·obtain⟨m,hn,hl⟩:=I.loc
  refine⟨m,ns m hn,fun i x v e1 e2 e3=>?_⟩
  obtain⟨u,r,l⟩:=hl i x v e1 e2 e3
  refine⟨u,r,?_⟩
  rcases l with l| ⟨k,c,e,z⟩
  ·exact .inl l
  ·exact .inr ⟨k,c,e,cellK x c e _ z⟩
 ·obtain⟨v,z⟩:=I.cell x c e
  exact⟨v,cellK x c e v z⟩
 ·obtain⟨m,⟨o,_,_,ho,_⟩,_⟩:=I.loc
  exact free _ o (fun z=> (hch _ z).2.1 rfl) ho I.free
 ·obtain⟨v,o,ho,hd⟩:=I.cell x c e
  exact free c o (fun z=> (hch c z).2.2.1 x c e rfl) ho (I.freeC x c e)
 ·obtain⟨e,n,ne,nf,d⟩:=I.pin p hp
  have nch:p.1∉ch:=fun z=> (hch p.1 z).2.2.2 p hp rfl
  exact⟨keep p.1 p.2 ne nf nch e n,free p.1 p.2 nch e n,ne,nf,d⟩
theorem Inv.un{t':Nat}(I:Inv X pins σ H s)(u:Un X.fs [] H H' s.heap h')(hok:HOk X.prog X.w H' h'):Inv X pins σ H' {s with heap:=h',toks:=t'}:=by
 obtain⟨m,⟨o,es,ep,ho,r⟩,_⟩:=id I.loc
 obtain⟨sl,hL⟩:=u.any ho I.free (by simp)
 exact I.step (g':=s.gens) (d':=s.drawn) (ch:=[]) (fun _ z=>nomatch z) (fun b o _ hb _ e n=>u.keep b o e n hb (by simp)) (fun b o _ hb _ e n=>u.slot b o e n hb (by simp)) (fun b o _ e n=>u.free b o e n (by simp)) (fun b o _ e=>u.there b o e (by simp)) u.tups u.frzs u.tbls (fun m' hm=>by
  obtain⟨o',es',ep',ho',r'⟩:=hm
  rw[ho] at ho';cases ho'
  exact⟨_,es',ep',hL,r'⟩) hok I.bare
theorem Inv.call{g':Array GenState}{t':Nat}{d':Drawn}{ch:List Addr}(I:Inv X pins σ H s)(u:Un (Gq X.stack) ch H H' s.heap h')(hok:HOk X.prog X.w H' h')(hg:mD g')
  (hch:∀b∈ch,(b∈X.ex∨X.s₀.heap.objs.size≤b)∧b≠X.env.locals∧(∀x c,X.env.cells.lookup x=some c→c≠b)∧∀p∈X.pn++pins,p.1≠b):
  Inv X pins σ H' {s with heap:=h',gens:=g',drawn:=d',toks:=t'}:=by
 obtain⟨m,⟨o,es,ep,ho,r⟩,_⟩:=id I.loc
 obtain⟨sl,hL⟩:=u.any ho I.free fun z=> (hch _ z).2.1 rfl
 exact I.step (ch:=ch) hch (fun b o hL hb hc e n=>u.keep b o e n (fun z=> (fh.mp (I.stkSub b z)).elim hL hb) hc) (fun b o _ _ hc e n=>u.any e n hc) (fun b o hc e n=>u.free b o e n hc) (fun b o hc e=>u.there b o e hc) u.tups u.frzs u.tbls (fun m' hm=>by
  obtain⟨o',es',ep',ho',r'⟩:=hm
  rw[ho] at ho';cases ho'
  exact⟨_,es',ep',hL,r'⟩) hok hg
theorem Inv.turned{t':Nat}{it:Addr}(I:Inv X pins σ H s)(k:∀b o,b≠it→s.heap.get? b=some o→h'.get? b=some o)(hn:H it=none)(hL:it≠X.env.locals)
  (h1:it∈X.ex∨X.s₀.heap.objs.size≤it) (h2:∀x c,X.env.cells.lookup x=some c→c≠it) (h3:∀p∈X.pn++pins,p.1≠it):Inv X pins σ H {s with heap:=h',toks:=t'}:=by
 have nit:∀b u,H b=some u→b≠it:=fun b u e z=>by rw[z,hn] at e;cases e
 refine I.step (g':=s.gens) (d':=s.drawn) (ch:=[it]) (fun b hb=>?_) (fun b o _ _ hc e _=>k b o (fun z=>hc (by simp[z])) e) (fun b o _ _ hc e _=> ⟨o.slots,k b o (fun z=>hc (by simp[z])) e⟩) (fun _ _ _ _ n=>n)
  (fun b o hc e=> ⟨o,k b o (fun z=>hc (by simp[z])) e⟩) (fun _ _ e=>e) (fun _ _ _ e=>e) (fun b ps e=> ⟨#[],by rw[e];simp⟩) (fun m hm=>?_) (fun b u e=>?_) I.bare
 ·have e:b=it:=by simpa using hb
  subst e
  exact⟨h1,hL,h2,h3⟩
 ·obtain⟨o,es,ep,ho,r⟩:=hm
  exact⟨o,es,ep,k _ o (Ne.symm hL) ho,r⟩
 ·refine(I.hok b u e).stay (fun c v hc q=>k c v ?_ q) (fun _ q=>q) fun _ _ q=>q
  rcases hc with z|z
  ·rw[z];exact nit b u e
  ·exact nit c _ z
theorem Inv.tok(I:Inv X pins σ H s)(t:Nat):Inv X pins σ H {s with toks:=t}:=I.un (h':=s.heap) (t':=t) Un.refl I.hok
theorem Inv.kept{t':Nat}(I:Inv X pins σ H s)(k:∀b u,s.heap.get? b=some u→h'.get? b=some u):Inv X pins σ H {s with heap:=h',toks:=t'}:=I.un (Un.kept k) (I.hok.kept k)
theorem Inv.laid{a:Addr}{o:HO}{t':Nat}(I:Inv X pins σ H s)(k:∀b u,s.heap.get? b=some u→h'.get? b=some u)(hp:s.heap.objs.size≤a)(new:ObjOk X.prog X.w (upd H a o) h' a o):
  Inv X pins σ (upd H a o) {s with heap:=h',toks:=t'}:=I.un (Un.laid k hp (I.hok.fresh hp)) (I.hok.laid k hp new)
theorem Inv.write{x e:Addr}{o:HO}{t':Nat}(I:Inv X pins σ H s)(mu:bV (H x))(he:e=x∨H e=some (.own x))(k:∀b u,b≠e→s.heap.get? b=some u→h'.get? b=some u)(heo:∃u,h'.get? e=some u)
  (new:ObjOk X.prog X.w (upd H x o) h' x o):Inv X pins σ (upd H x o) {s with heap:=h',toks:=t'}:=I.un (Un.write mu he k heo) (I.hok.write mu he k heo new)
theorem Inv.weak{σ':List (Option V)}(I:Inv X pins σ H s)(hl:σ'.length=σ.length)(w:∀(i:Nat) v,σ'[i]?=some (some v)→σ[i]?=some (some v)):Inv X pins σ' H s:=
 ⟨I.ok,I.os,I.bare,I.base,let⟨m,hn,hl'⟩:=I.loc;⟨m,hn,fun i x v e1 e2 e3=>hl' i x v e1 (w i v e2) e3⟩,I.cell,I.free,I.freeC,I.pin,I.hok,hl.trans I.len⟩
theorem Inv.pins_of{pins':List (Addr×Obj)}(I:Inv X pins σ H s)(h:∀p∈pins',s.heap.get? p.1=some p.2∧H p.1=none∧p.1≠X.env.locals∧p.1∉X.fs∧∀v,p.2.data≠.cell v):Inv X pins' σ H s:=
 ⟨I.ok,I.os,I.bare,I.base,I.loc,I.cell,I.free,I.freeC,fun p hp=> (fI.mp hp).elim (fun z=>I.pin p (jf _ z)) (h p),I.hok,I.len⟩
theorem JX{N:List Str}(hN:N.Nodup){i j:Nat}{x:Str}(a:N[i]?=some x)(b:N[j]?=some x):i=j:=by
 obtain⟨h1,e1⟩:=fD.mp a
 obtain⟨h2,e2⟩:=fD.mp b
 exact(List.getElem_inj hN).mp (e1.trans e2.symm)
theorem HB{M:Model}{A:fG}{E:Value→a9→Prop}{i:Nat}{x:Str}{v:V}{u:Value}{Q:Unit→a9→Prop}(I:Inv X pins σ H s)(hN:X.N.Nodup)(hi:X.N[i]?=some x)(hx:SG X.env.scope x)(r:RelV v u)
  (h:∀s',Inv X pins (σ.set i (some v)) H s'→(∃a,jn a s.heap s'.heap∧(a=X.env.locals∨X.env.cells.lookup x=some a))→Q () s') (hf:X.fn x=true∨X.env.scope.names.lookup x=some .local:=by first|exact .inl rfl|exact .inr rfl|assumption):wpAny M A (storeName X.env x u) Q E s:=by
 obtain⟨m,hn,hl⟩:=id I.loc
 have hcls:(X.env.scope.kind==.class|| (X.env.scope.kind==.module&&X.env.locals !=X.env.globals))=false:=by rw[I.ok.kind];rfl
 have hiσ:i<σ.length:=by rw[I.len];exact(fD.mp hi).1
 have cne:=I.cne
 have tracked:∀{a:Addr} {h':Heap},(∃o,s.heap.get? a=some o∧H a=none)→jn a s.heap h'→HOk X.prog X.w H h':=fun{a h'} ha hs b ob e=>by
  obtain⟨_,_,hfree⟩:=ha
  refine(I.hok b ob e).stay (fun c w' hc q=> (hs.2 c ?_).trans q) (fun _ q=>q) fun _ _ q=>q
  rintro rfl
  rcases hc with rfl|hc
  ·rw[hfree] at e;cases e
  ·rw[hfree] at hc;cases hc
 rcases hx with hk|hk
 ·refine wpAny_storeName_local hk hn (fun h' hn' hs=>?_) hcls
  obtain⟨oL,_,_,hoL,_⟩:=id hn
  refine h _ ⟨I.ok,I.os,I.bare,⟨fun b o e n hb hx=>?_,fun b o e n hb hx=>?_,I.base.free,fun b o e hx=>?_,I.base.tups,I.base.frzs,I.base.tbls⟩,⟨_,hn',fun j y v' e1 e2 e3=>?_⟩,fun y c e=>?_,I.free,I.freeC,fun p hp=>?_,tracked ⟨oL,hoL,I.free⟩ hs,by simpa using I.len⟩ ⟨_,hs,.inl rfl⟩
  ·exact(hs.2 b (fS (fM (fq e) I.ok.above))).trans (I.base.keep b o e n hb hx)
  ·obtain⟨sl,e1⟩:=I.base.slot b o e n hb hx
   exact⟨sl,(hs.2 b (fS (fM (fq e) I.ok.above))).trans e1⟩
  ·obtain⟨o',e1⟩:=I.base.there b o e hx
   exact⟨o',(hs.2 b (fS (fM (fq e) I.ok.above))).trans e1⟩
  ·by_cases hj:j=i
   ·subst hj
    rw[hi] at e1;cases e1
    rw[gm hiσ] at e2
    cases e2
    exact⟨u,r,.inl ⟨hk,by simp⟩⟩
   ·rw[fZ (Ne.symm hj)] at e2
    obtain⟨u',r',q⟩:=hl j y v' e1 e2 e3
    refine⟨u',r',?_⟩
    rcases q with⟨k,e⟩| ⟨k,c,e,z⟩
    ·refine .inl ⟨k,?_⟩
     have:y≠x:=fun e=>hj (JX hN e1 (e▸hi))
     simp[this,e]
    ·exact .inr ⟨k,c,e,z.sameBut hs (cne y c e)⟩
  ·obtain⟨w',z⟩:=I.cell y c e
   exact⟨w',z.sameBut hs (cne y c e)⟩
  ·obtain⟨e,n,ne,nf,d⟩:=I.pin p hp
   exact⟨(hs.2 p.1 ne).trans e,n,ne,nf,d⟩
 ·have hfn:X.fn x=true:=by
   rcases hf with z|z
   ·exact z
   ·rw[z] at hk;cases hk
  obtain⟨c,hc⟩:=I.ok.has x (.inl hk)
  obtain⟨w',z⟩:=I.cell x c hc
  refine wpAny_storeName_cell I.ok.kind hk hc z (fun h' hc' hs=>?_)
  obtain⟨oc,hoc,hocd⟩:=id z
  refine h {s with heap:=h'} ⟨I.ok,I.os,I.bare,⟨fun b o e n hb hx=>?_,fun b o e n hb hx=>?_,I.base.free,fun b o e hx=>?_,I.base.tups,I.base.frzs,I.base.tbls⟩,⟨m,hn.sameBut hs (Ne.symm (cne x c hc)),fun j y v' e1 e2 e3=>?_⟩,fun y c' e=>?_,I.free,I.freeC,fun p hp=>?_,tracked ⟨oc,hoc,I.freeC x c hc⟩ hs,by simpa using I.len⟩ ⟨c,hs,.inr hc⟩
  ·exact(hs.2 b (fS (fM (fq e) (I.ok.cab x c hfn hc)))).trans (I.base.keep b o e n hb hx)
  ·obtain⟨sl,e1⟩:=I.base.slot b o e n hb hx
   exact⟨sl,(hs.2 b (fS (fM (fq e) (I.ok.cab x c hfn hc)))).trans e1⟩
  ·obtain⟨o',e1⟩:=I.base.there b o e hx
   exact⟨o',(hs.2 b (fS (fM (fq e) (I.ok.cab x c hfn hc)))).trans e1⟩
  ·by_cases hj:j=i
   ·subst hj
    rw[hi] at e1;cases e1
    rw[gm hiσ] at e2
    cases e2
    exact⟨u,r,.inr ⟨.inl hk,c,hc,hc'⟩⟩
   ·rw[fZ (Ne.symm hj)] at e2
    obtain⟨u',r',q⟩:=hl j y v' e1 e2 e3
    refine⟨u',r',?_⟩
    rcases q with q| ⟨k,c',e,z'⟩
    ·exact .inl q
    ·refine .inr ⟨k,c',e,z'.sameBut hs ?_⟩
     rintro rfl
     exact hj (JX hN e1 (I.ok.inj _ _ _ e hc▸hi))
  ·by_cases hcc:c'=c
   ·subst hcc;exact⟨_,hc'⟩
   ·obtain⟨w2,z2⟩:=I.cell y c' e
    exact⟨w2,z2.sameBut hs hcc⟩
  ·obtain⟨e,n,ne,nf,d⟩:=I.pin p hp
   refine⟨(hs.2 p.1 ?_).trans e,n,ne,nf,d⟩
   intro q
   rw[q,hoc] at e
   have q':oc=p.2:=gh.inj e
   exact d w' (by rw[←q'];exact hocd)
theorem Cp{M:Model}{A:fG}{E:Value→a9→Prop}{i:Nat}{x:Str}{v:V}{u:Value}{Q:Unit→a9→Prop}(I:Inv X pins σ H s)(hN:X.N.Nodup)(hi:X.N[i]?=some x)(hx:SG X.env.scope x)(r:RelV v u)
  (h:∀s',Inv X pins (σ.set i (some v)) H s'→Q () s') (hf:X.fn x=true∨X.env.scope.names.lookup x=some .local:=by first|exact .inl rfl|exact .inr rfl|assumption):wpAny M A (storeName X.env x u) Q E s:=
 HB I hN hi hx r (fun s' I' _=>h s' I') hf
theorem Inv.call'{s':a9}{ch:List Addr}(I:Inv X pins σ H s)(ho:s'.os=s.os)(u:Un (Gq X.stack) ch H H' s.heap s'.heap)(hok:HOk X.prog X.w H' s'.heap)(hg:mD s'.gens)
  (hch:∀b∈ch,(b∈X.ex∨X.s₀.heap.objs.size≤b)∧b≠X.env.locals∧(∀x c,X.env.cells.lookup x=some c→c≠b)∧∀p∈X.pn++pins,p.1≠b):Inv X pins σ H' s':=by
 obtain⟨h',g',d',t',o'⟩:=s'
 have e:o'=s.os:=ho
 subst e
 exact I.call (g':=g') (t':=t') (d':=d') u hok hg hch
end
abbrev XK:=Value→Option Addr→Hp→Prop
abbrev St:=List (Option V)
abbrev VK:=V→Hp→Prop
abbrev TE:=St→Hp→VK→Prop
abbrev TT:=St→Hp→(Bool→Hp→Prop)→Prop
abbrev TA:=St→Hp→(List V→Hp→Prop)→Prop
structure Ends where
 nx:St→Hp→Prop
 rt:VK
 bk:St→Hp→Prop:=fun _ _=>False
 ct:St→Hp→Prop:=fun _ _=>False
abbrev TS:=Ends→St→Hp→Prop
def EP(X:Cx)(pins:List (Addr×Obj))(σ:St)(Q:VK)(u:Value)(s':a9):Prop:=∃v H',Inv X pins σ H' s'∧RelV v u∧Q v H'
def TP(X:Cx)(pins:List (Addr×Obj))(σ:St)(Q:Bool→Hp→Prop)(b:Bool)(s':a9):Prop:=∃H',Inv X pins σ H' s'∧Q b H'
def AP(X:Cx)(pins:List (Addr×Obj))(σ:St)(Q:List V→Hp→Prop)(us:List Value)(s':a9):Prop:=∃vs H',Inv X pins σ H' s'∧Vals vs us∧Q vs H'
def SP(X:Cx)(pins:List (Addr×Obj))(D:Ends)(f:Flow)(s':a9):Prop:=
 match f with
 | .next=>∃σ' H',Inv X pins σ' H' s'∧D.nx σ' H'
 | .brk=>∃σ' H',Inv X pins σ' H' s'∧D.bk σ' H'
 | .cont=>∃σ' H',Inv X pins σ' H' s'∧D.ct σ' H'
 | .ret u=>∃v σ' H',Inv X pins σ' H' s'∧RelV v u∧D.rt v H'
def PE(X:Cx)(e:Expr)(t:TE):Prop:=
 ∀(pins:List (Addr×Obj)) (s:a9) (σ:St) (H:Hp) (Q:VK),Inv X pins σ H s→t σ H Q→wpAny (model X.prog X.w) X.A (eval e X.env) (EP X pins σ Q) X.xe s
def PT(X:Cx)(e:Expr)(t:TT):Prop:=
 ∀(pins:List (Addr×Obj)) (s:a9) (σ:St) (H:Hp) (Q:Bool→Hp→Prop),Inv X pins σ H s→t σ H Q→wpAny (model X.prog X.w) X.A (isTrue e X.env (eval e X.env)) (TP X pins σ Q) X.xe s
def PW(X:Cx)(e:Expr)(t:TT):Prop:=
 ∀(whole:Sem Value) (pins:List (Addr×Obj)) (s:a9) (σ:St) (H:Hp) (Q:Bool→Hp→Prop),Inv X pins σ H s→t σ H Q→wpAny (model X.prog X.w) X.A (isTrue e X.env whole) (TP X pins σ Q) X.xe s
theorem PW.pt{X:Cx}{e:Expr}{t:TT}(h:PW X e t):PT X e t:=h _
def PA(X:Cx)(es:List Expr)(t:TA):Prop:=
 ∀(pos:Pos) (pins:List (Addr×Obj)) (s:a9) (σ:St) (H:Hp) (Q:List V→Hp→Prop),Inv X pins σ H s→t σ H Q→wpAny (model X.prog X.w) X.A (spliced (jD pos (e9 es X.env))) (AP X pins σ Q) X.xe s
def PS(X:Cx)(st:Stmt)(t:TS):Prop:=
 ∀(pins:List (Addr×Obj)) (s:a9) (σ:St) (H:Hp) (D:Ends),Inv X pins σ H s→t D σ H→wpAny (model X.prog X.w) X.A (exec st X.env) (SP X pins D) X.xe s
def PSs(X:Cx)(st:List Stmt)(t:TS):Prop:=
 ∀(pins:List (Addr×Obj)) (s:a9) (σ:St) (H:Hp) (D:Ends),Inv X pins σ H s→t D σ H→wpAny (model X.prog X.w) X.A (execs st X.env) (SP X pins D) X.xe s
theorem Ao{α:Type}{t:Sem α}{Q Q':α→a9→Prop}{M:Model}{A:fG}{E:Value→a9→Prop}{s:a9}(h:wpAny M A t Q E s)(hQ:∀a s,Q a s→Q' a s):wpAny M A t Q' E s:=jM h hQ fun _ _ x=>x
section
variable{X:Cx}
def Yu(i:Nat):TE:=fun σ H Q=>∃v,σ[i]?=some (some v)∧Q v H
def tC(v:V):TE:=fun _ H Q=>Q v H
theorem Ov{i:Nat}{x:Str}{pos:Pos}(hN:X.N[i]?=some x)(hv:Yo X.env.scope x)(hd:(x==("__debug__" :Str))=false:=by decide)(hcd:(x==("__classdict__" :Str))=false:=by decide):PE X (.Name x pos) (Yu i):=by
 intro pins s σ H Q I h
 obtain⟨v,e,h⟩:=h
 obtain⟨m,hn,hl⟩:=I.loc
 obtain⟨u,r,l⟩:=hl i x v hN e hv
 have fin:EP X pins σ Q u s:=⟨v,H,I,r,h⟩
 rcases l with⟨hk,hm⟩| ⟨hk,c,hc,hcell⟩
 ·exact wpAny_Name (wpAny_loadName_local I.ok.kind hk hn hm fin) hd
 ·rcases hk with hk|hk
  ·exact wpAny_Name (wpAny_loadName_cell I.ok.kind hk hc hcell fin) hd
  ·exact wpAny_Name (wpAny_loadName_free I.ok.kind hk hc hcell fin hcd) hd
theorem Ow{i j pos}:PE X (.Constant (.int i) j pos) (tC (.int i)):=fun _ _ _ H _ I h=>wpAny_Constant_int ⟨.int i,H,I.tok _,⟨_,rfl⟩,h⟩
theorem Yv{b j pos}:PE X (.Constant (.bool b) j pos) (tC (.bl b)):=fun _ _ _ H _ I h=>Constant_bool ⟨.bl b,H,I,rfl,h⟩
theorem Vs{j pos}:PE X (.Constant .none j pos) (tC .non):=fun _ _ _ H _ I h=>Constant_none ⟨.non,H,I,rfl,h⟩
def Gl(X:Cx)(x:Str):Prop:=X.env.kindOf x=some .globalImplicit
theorem Hx{E:Value→a9→Prop}{pins:List (Addr×Obj)}{s:a9}{σ:St}{H:Hp}{x:Str}{u:Value}{pos:Pos}{Q:Value→a9→Prop}(I:Inv X pins σ H s)(hg:Gl X x)(hm:X.mg x=some u)(h:Q u s)
  (hd:(x==("__debug__" :Str))=false:=by decide):wpAny (model X.prog X.w) X.A (eval (.Name x pos) X.env) Q E s:=
 Calls.Name_function_global I.ok.kind hg (Calls.loadGlobal_global (by rw[I.ok.glob];exact I.mod.glob.keeps I.bk) hm h) hd
theorem Dd{E:Value→a9→Prop}{pins:List (Addr×Obj)}{s:a9}{σ:St}{H:Hp}{x:Str}{u:Value}{pos:Pos}{Q:Value→a9→Prop}(I:Inv X pins σ H s)(hg:Gl X x)(hm:X.mg x=none)(hv:gk x=some u)(h:Q u s)
  (hn:x≠"__name__":=by decide) (hd:(x==("__debug__" :Str))=false:=by decide):wpAny (model X.prog X.w) X.A (eval (.Name x pos) X.env) Q E s:=by
 obtain⟨mb,h1,h2⟩:=I.mod.blt
 exact Calls.Name_function_global I.ok.kind hg (Calls.loadGlobal_builtin (by rw[I.ok.glob];exact I.mod.glob.keeps I.bk) hm (by rw[I.ok.blt];exact h1.keeps I.bk) ((h2 x hn).trans hv) h) hd
theorem SO{x:Str}{v:V}{u:Value}{pos:Pos}(hg:Gl X x)(hm:X.mg x=some u)(r:RelV v u)(hd:(x==("__debug__" :Str))=false:=by decide):PE X (.Name x pos) (tC v):=
 fun _ _ _ H _ I h=>Hx I hg hm ⟨v,H,I,r,h⟩ hd
theorem SQ{x:Str}{v:V}{u:Value}{pos:Pos}(hg:Gl X x)(hm:X.mg x=none)(hv:gk x=some u)(r:RelV v u)(hn:x≠"__name__":=by decide)(hd:(x==("__debug__" :Str))=false:=by decide):PE X (.Name x pos) (tC v):=
 fun _ _ _ H _ I h=>Dd I hg hm hv ⟨v,H,I,r,h⟩ hn hd
variable{a b:Expr}{ta tb:TE}{pos:Pos}
variable{tA tB':TT}{rest:List Expr}
def bw(t u:TT):TT:=fun σ H Q=>t σ H fun c H1=>if c=true then u σ H1 Q else Q false H1
def di(t u:TT):TT:=fun σ H Q=>t σ H fun c H1=>if c=true then Q true H1 else u σ H1 Q
def bx(t:TT):TT:=fun σ H Q=>t σ H fun c H1=>Q (!c) H1
theorem SR(ha:PT X a tA):PW X (.BoolOp .And [a] pos) tA:=by
 intro wh pins s σ H Q I h
 refine isTrue_and (Ao (ha pins s σ H Q I h) fun c s1 e=>?_)
 cases c with
 |true=>exact isTrue_and_nil e
 |false=>exact e
theorem Vt(ha:PT X a tA):PW X (.BoolOp .Or [a] pos) tA:=by
 intro wh pins s σ H Q I h
 refine isTrue_or (Ao (ha pins s σ H Q I h) fun c s1 e=>?_)
 cases c with
 |false=>exact isTrue_or_nil e
 |true=>exact e
theorem Vu(ha:PT X a tA)(hb:PW X (.BoolOp .And (b::rest) pos) tB'):PW X (.BoolOp .And (a::b::rest) pos) (bw tA tB'):=by
 intro wh pins s σ H Q I h
 refine isTrue_and (Ao (ha pins s σ H _ I h) fun c s1 ⟨H1,I1,q1⟩=>?_)
 cases c with
 |true=>exact hb wh pins s1 σ H1 Q I1 q1
 |false=>exact⟨H1,I1,q1⟩
theorem Yw(ha:PT X a tA)(hb:PW X (.BoolOp .Or (b::rest) pos) tB'):PW X (.BoolOp .Or (a::b::rest) pos) (di tA tB'):=by
 intro wh pins s σ H Q I h
 refine isTrue_or (Ao (ha pins s σ H _ I h) fun c s1 ⟨H1,I1,q1⟩=>?_)
 cases c with
 |true=>exact⟨H1,I1,q1⟩
 |false=>exact hb wh pins s1 σ H1 Q I1 q1
theorem Vv(ha:PT X a tA):PT X (.UnaryOp .Not a pos) (bx tA):=by
 intro pins s σ H Q I h
 exact isTrue_not (ha pins s σ H (fun c H1=>Q (!c) H1) I h)
def Yx(ta tb:TE):TE:=fun σ H Q=>ta σ H fun x H1=>∃c,x=.bl c∧if c=true then tb σ H1 Q else Q (.bl false) H1
def Yy(ta:TE):TE:=fun σ H Q=>ta σ H fun x H1=>∃c,x=.bl c∧Q (.bl (!c)) H1
theorem Vw{op}{t:TE}(h:PE X a t):PE X (.BoolOp op [a] pos) t:=fun pins s σ H Q I hw=>BoolOp_one (h pins s σ H Q I hw)
theorem Vx(ha:PE X a ta)(hb:PE X (.BoolOp .And (b::rest) pos) tb):PE X (.BoolOp .And (a::b::rest) pos) (Yx ta tb):=by
 intro pins s σ H Q I h
 refine BoolOp_and (Ao (ha pins s σ H _ I h) fun v s1 ⟨x,H1,I1,r1,q1⟩=>?_)
 obtain⟨c,rfl,q1⟩:=q1
 cases r1
 refine jh ?_
 cases c with
 |true=>exact hb pins s1 σ H1 Q I1 q1
 |false=>exact⟨.bl false,H1,I1,rfl,q1⟩
theorem Vy(ha:PE X a ta):PE X (.UnaryOp .Not a pos) (Yy ta):=by
 intro pins s σ H Q I h
 refine UnaryOp_ (Ao (ha pins s σ H _ I h) fun v s1 ⟨x,H1,I1,r1,q1⟩=>?_)
 obtain⟨c,rfl,q1⟩:=q1
 cases r1
 exact not_of (jh ⟨.bl (!c),H1,I1,rfl,q1⟩)
def dj(t:TT)(ta tb:TE):TE:=fun σ H Q=>t σ H fun c H1=>if c=true then ta σ H1 Q else tb σ H1 Q
theorem Ox{c:Expr}(hc:PT X c tA)(ha:PE X a ta)(hb:PE X b tb):PE X (.IfExp c a b pos) (dj tA ta tb):=by
 intro pins s σ H Q I h
 refine wpAny_IfExp (Ao (hc pins s σ H _ I h) fun d s1 ⟨H1,I1,q1⟩=>?_)
 cases d with
 |true=>exact ha pins s1 σ H1 Q I1 q1
 |false=>exact hb pins s1 σ H1 Q I1 q1
end
def De(K:a8)(H:Hp)(a:Addr)(xs:List V):Prop:=
 Rd H a (.lst xs)∨
  ∃(o:Obj) (its:Array Value) (n:Nat),K.lookup a=some o∧o.cls=.type "list"∧o.dict=none∧o.data=.seq its n∧its.size≤sizeLine∧Vals xs its.toList
def Cm(K:a8)(H:Hp)(a:Addr)(xs:List V):Prop:=
 Rd H a (.tup xs)∨
  ∃(o:Obj) (its:Array Value) (n:Nat),K.lookup a=some o∧o.cls=.type "tuple"∧o.data=.seq its n∧its.size≤sizeLine∧Vals xs its.toList
def bz:Value→Option V
 | .none=>some .non
 | .bool b=>some (.bl b)
 | .int i _=>some (.int i)
 | .str x _=>some (.str x)
 | .bytes b _=>some (.byt b)
 | .float b _=>some (.flt b)
 | .ref a=>some (.ref a)
 | .type n=>some (.ty n)
 |_=>none
theorem RelV.abs{x:V}{u:Value}(r:RelV x u):bz u=some x:=by
 cases x with
 |non=>cases r;rfl
 |bl _=>cases r;rfl
 |int _=>obtain⟨t,rfl⟩:=r;rfl
 |str _=>obtain⟨t,rfl⟩:=r;rfl
 |byt _=>obtain⟨t,rfl⟩:=r;rfl
 |flt _=>obtain⟨t,rfl⟩:=r;rfl
 |ref _=>cases r;rfl
 |ty _=>cases r;rfl
theorem RelV.inj{x y:V}{u:Value}(r:RelV x u)(q:RelV y u):x=y:=gh.inj (r.abs.symm.trans q.abs)
theorem Vals.inj:∀{xs ys:List V} {us:List Value},Vals xs us→Vals ys us→xs=ys
 |_,_,_,.nil,.nil=>rfl
 |_,_,_,.cons r t,.cons r' t'=>by rw[r.inj r',Vals.inj t t']
section
variable{X:Cx}{pins:List (Addr×Obj)}{σ:St}{H:Hp}{s:a9}{a:Addr}{xs ys:List V}
theorem Inv.list(I:Inv X pins σ H s)(h:De X.K H a xs):∃its:List Value,Vals xs its∧PlainL s.heap a its.toArray∧xs.length≤sizeLine:=by
 rcases h with h| ⟨o,its,n,hk,hc,hd,hs,hz,r⟩
 ·obtain⟨z,its,n,r,e⟩:=h.ok I.hok
  exact⟨its,r,⟨_,n,e,rfl,rfl,rfl⟩,z⟩
 ·refine⟨its.toList,r,⟨o,n,I.kIn a o hk,hc,hd,by simpa using hs⟩,?_⟩
  have e:=r.length
  simp only[fg] at e
  omega
theorem Inv.tuple(I:Inv X pins σ H s)(h:Cm X.K H a xs):∃its:List Value,Vals xs its∧IsTup s.heap a its.toArray∧xs.length≤sizeLine:=by
 rcases h with h| ⟨o,its,n,hk,hc,hs,hz,r⟩
 ·obtain⟨z,its,r,p⟩:=h.ok I.hok
  exact⟨its,r,p,z⟩
 ·refine⟨its.toList,r,⟨o,I.kIn a o hk,hc,n,by simpa using hs⟩,?_⟩
  have e:=r.length
  simp only[fg] at e
  omega
theorem Inv.list_inj(I:Inv X pins σ H s)(h:De X.K H a xs)(h':De X.K H a ys):xs=ys:=by
 obtain⟨its,r,⟨o,n,e,_,_,d⟩,_⟩:=I.list h
 obtain⟨its',r',⟨o',n',e',_,_,d'⟩,_⟩:=I.list h'
 rw[e] at e';cases e'
 rw[d] at d'
 injection d' with d1 _
 have:its=its':=by simpa using congrArg Array.toList d1
 subst this
 exact r.inj r'
theorem Inv.tuple_inj(I:Inv X pins σ H s)(h:Cm X.K H a xs)(h':Cm X.K H a ys):xs=ys:=by
 obtain⟨its,r,⟨o,e,_,n,d⟩,_⟩:=I.tuple h
 obtain⟨its',r',⟨o',e',_,n',d'⟩,_⟩:=I.tuple h'
 rw[e] at e';cases e'
 rw[d] at d'
 injection d' with d1 _
 have:its=its':=by simpa using congrArg Array.toList d1
 subst this
 exact r.inj r'
end
section
variable{X:Cx}{pins:List (Addr×Obj)}{σ:St}{H:Hp}{s:a9}{E:Value→a9→Prop}
end
section
variable{X:Cx}{st:Stmt}{rest:List Stmt}{t u:TS}{e:Expr}{te:TE}{pos:Pos}
def Yz:TS:=fun D σ H=>D.nx σ H
def cA(t u:TS):TS:=fun D σ H=>t {D with nx:=u D} σ H
theorem Md:PSs X [] Yz:=fun _ _ σ H _ I h=>mj ⟨σ,H,I,h⟩
theorem JY(h1:PS X st t)(h2:PSs X rest u):PSs X (st::rest) (cA t u):=by
 intro pins s σ H D I h
 refine wpAny_execs_cons (Ao (h1 pins s σ H {D with nx:=u D} I h) fun f s1 q=>?_)
 cases f with
 |next=>
  obtain⟨σ',H',I',q⟩:=q
  exact h2 pins s1 σ' H' D I' q
 |ret v=>exact q
 |brk=>exact q
 |cont=>exact q
theorem Hy(h1:PS X st t):PSs X [st] t:=by
 intro pins s σ H D I h
 refine wpAny_execs_cons (Ao (h1 pins s σ H D I h) fun f s1 q=>?_)
 cases f with
 |next=>exact mj q
 |ret v=>exact q
 |brk=>exact q
 |cont=>exact q
theorem Inv.quiet{pins:List (Addr×Obj)}{σ:St}{H:Hp}{s:a9}(I:Inv X pins σ H s):interactive X.env=false:=by simp[interactive,I.ok.kind]
def ZA(te:TE):TS:=fun D σ H=>te σ H fun _ H1=>D.nx σ H1
theorem SS(he:PE X e te)(hs:mE e none pos.line X.env=pure false:=by rfl):PS X (.Expr e pos) (ZA te):=by
 intro pins s σ H D I h
 exact wpAny_Expr_any (Ao (he pins s σ H _ I h) fun v s1 ⟨x,H1,I1,r1,q1⟩=> ⟨σ,H1,I1,q1⟩) I.quiet hs
def cB(te:TE):TS:=fun D σ H=>te σ H D.rt
theorem LA(he:PE X e te):PS X (.Return (some e) pos) (cB te):=by
 intro pins s σ H D I h
 exact wpAny_Return_some (Ao (he pins s σ H _ I h) fun v s1 ⟨x,H1,I1,r1,q1⟩=> ⟨x,σ,H1,I1,r1,q1⟩)
def cC(c:TT)(t u:TS):TS:=fun D σ H=>c σ H fun b H1=>if b=true then t D σ H1 else u D σ H1
theorem VC{c:Expr}{a b:List Stmt}{tc:TT}(hc:PT X c tc)(ha:PSs X a t)(hb:PSs X b u):PS X (.If c a b pos) (cC tc t u):=by
 intro pins s σ H D I h
 refine wpAny_If (Ao (hc pins s σ H _ I h) fun d s1 ⟨H1,I1,q1⟩=>?_)
 cases d with
 |true=>exact ha pins s1 σ H1 D I1 q1
 |false=>exact hb pins s1 σ H1 D I1 q1
end
abbrev TG:=V→St→Hp→(St→Hp→Prop)→Prop
abbrev Vz:=List V→St→Hp→(St→Hp→Prop)→Prop
def PG(X:Cx)(target:Expr)(t:TG):Prop:=
 ∀(pins:List (Addr×Obj)) (s:a9) (σ:St) (H:Hp) (v:V) (u:Value) (Q:St→Hp→Prop),Inv X pins σ H s→RelV v u→t v σ H Q→
  wpAny (model X.prog X.w) X.A (assign target X.env u) (fun _ s'=>∃σ' H',Inv X pins σ' H' s'∧Q σ' H') X.xe s
def bX(X:Cx)(ts:List Expr)(t:Vz):Prop:=
 ∀(pins:List (Addr×Obj)) (s:a9) (σ:St) (H:Hp) (vs:List V) (us:List Value) (Q:St→Hp→Prop),Inv X pins σ H s→Vals vs us→t vs σ H Q→
  wpAny (model X.prog X.w) X.A (assignInOrder ((jE ts X.env).map (·.2)) us) (fun _ s'=>∃σ' H',Inv X pins σ' H' s'∧Q σ' H') X.xe s
abbrev WB:=V→V→V→Hp→(Hp→Prop)→Prop
def ZC(X:Cx)(t:WB):Prop:=
 ∀(pins:List (Addr×Obj)) (s:a9) (σ:St) (H:Hp) (o i v:V) (ov iv u:Value) (Q:Hp→Prop),Inv X pins σ H s→RelV o ov→RelV i iv→RelV v u→t o i v H Q→
  wpAny (model X.prog X.w) X.A (setItem ov iv u) (fun _ s'=>∃H',Inv X pins σ H' s'∧Q H') X.xe s
abbrev ZD:=V→V→Hp→VK→Prop
def bY(X:Cx)(op:oq)(t:ZD):Prop:=
 ∀(pins:List (Addr×Obj)) (s:a9) (σ:St) (H:Hp) (x y:V) (v u:Value) (Q:VK),Inv X pins σ H s→RelV x v→RelV y u→t x y H Q→
  wpAny (model X.prog X.w) X.A (inplaceOp op v u) (EP X pins σ Q) X.xe s
section
variable{X:Cx}{pos:Pos}
def VD(i:Nat):TG:=fun v σ H Q=>Q (σ.set i (some v)) H
theorem Hz{i:Nat}{x:Str}(hN:X.N.Nodup)(hi:X.N[i]?=some x)(hx:SG X.env.scope x)(hf:X.fn x=true∨X.env.scope.names.lookup x=some .local:=by first|exact .inl rfl|exact .inr rfl|assumption):PG X (.Name x pos) (VD i):=by
 intro pins s σ H v u Q I r h
 exact wpAny_assign_Name (Cp I hN hi hx r (fun s' I'=> ⟨_,H,I',h⟩) hf)
def cD:Vz:=fun vs σ H Q=>vs=[]∧Q σ H
def ZE(t:TG)(u:Vz):Vz:=fun vs σ H Q=>∃v r,vs=v::r∧t v σ H fun σ' H'=>u r σ' H' Q
theorem SU:bX X [] cD:=by
 intro pins s σ H vs us Q I r h
 obtain⟨e,h⟩:=h
 subst e
 cases r
 exact assignInOrder_nil ⟨σ,H,I,h⟩
theorem JZ{e:Expr}{es:List Expr}{t:TG}{u:Vz}(h1:PG X e t)(h2:bX X es u)
  (hs:(jE (e::es) X.env).map (·.2)=assign e X.env::(jE es X.env).map (·.2):=by rfl):bX X (e::es) (ZE t u):=by
 intro pins s σ H vs us Q I r h
 obtain⟨v,vr,e1,h⟩:=h
 subst e1
 cases r with
 |cons r rr=>
  rw[hs]
  refine mL (Ao (h1 pins s σ H _ _ _ I r h) fun _ s1 ⟨σ1,H1,I1,q1⟩=>?_)
  exact h2 pins s1 σ1 H1 _ _ Q I1 rr q1
def cE(K:a8)(n:Nat)(t:Vz):TG:=fun v σ H Q=>∃a xs,v=.ref a∧Cm K H a xs∧xs.length=n∧t xs σ H Q
theorem WC{es:List Expr}{k:Nat}{t:Vz}{n:Nat}(hc:X.calm=true)(h:bX X es t)
  (hn:(jE es X.env).length=n:=by rfl) (hst:(jE es X.env).findIdx? (·.1)=none:=by rfl):PG X (.Tuple es k pos) (cE X.K n t):=by
 intro pins s σ H v u Q I r hw
 obtain⟨a,xs,e1,hq,hl,hw⟩:=hw
 subst e1
 cases r
 obtain⟨its,rv,ht,hz⟩:=I.tuple hq
 refine assign_Tuple_tuple (I.ok.hd hc) ht (by simp[hn,←hl,rv.length]) hst fun h' hx=>?_
 have I1:Inv X pins σ H {s with heap:=h'}:=I.kept (t':=s.toks) fun b o e=>hx b o (fS (fq e)) e
 exact h pins _ σ H xs _ Q I1 (by simpa using rv) hw
def cF(to ti:TE)(t:WB):TG:=fun v σ H Q=>to σ H fun o H1=>ti σ H1 fun i H2=>t o i v H2 fun H3=>Q σ H3
theorem WD{o i:Expr}{to ti:TE}{t:WB}(ho:PE X o to)(hi:PE X i ti)(hs:ZC X t)
  (ha:∀v,assign (.Subscript o i pos) X.env v=(do
   let ov←holding [v] (eval o X.env)
   let iv←holding [v,ov] (eval i X.env)
   standAt pos
   holding [v,ov,iv] (setItem ov iv v)
   release [v,ov,iv] []):=by intro _;rfl):PG X (.Subscript o i pos) (cF to ti t):=by
 intro pins s σ H v u Q I r h
 rw[ha]
 refine a7 (gx (Ao (ho pins s σ H _ I h) fun ov s1 ⟨x,H1,I1,r1,q1⟩=>?_))
 refine a7 (gx (Ao (hi pins s1 σ H1 _ I1 q1) fun iv s2 ⟨y,H2,I2,r2,q2⟩=>?_))
 refine a7 (lh (a7 (gx (Ao (hs pins s2 σ H2 x y v ov iv u _ I2 r1 r2 r q2) fun _ s3 ⟨H3,I3,q3⟩=>?_))))
 exact wpAny_release ⟨σ,H3,I3,q3⟩
def ZF(te:TE)(g:TG):TS:=fun D σ H=>te σ H fun x H1=>g x σ H1 D.nx
theorem WH{tg e:Expr}{te:TE}{g:TG}(he:PE X e te)(hg:PG X tg g)(hs:nj [tg] e pos.line X.env=pure false:=by rfl)(hw:nr [tg] e X.env=pure none:=by rfl)
  (h1:(jE [tg] X.env).map (·.2)=[assign tg X.env]:=by rfl):PS X (.Assign [tg] e pos) (ZF te g):=by
 intro pins s σ H D I h
 refine wpAny_Assign_stores (Ao (he pins s σ H _ I h) fun v s1 ⟨x,H1,I1,r1,q1⟩=>?_) hs hw
 rw[h1]
 exact Ao (hg pins s1 σ H1 x v _ I1 r1 q1) fun _ s2 q=>q
theorem WJ{i:Nat}{x:Str}{e:Expr}{te:TE}{pos':Pos}(hN:X.N.Nodup)(hi:X.N[i]?=some x)(hx:SG X.env.scope x)(he:PE X e te)(hs:mE e (some (.Name x pos')) pos.line X.env=pure false:=by rfl)(hf:X.fn x=true∨X.env.scope.names.lookup x=some .local:=by first|exact .inl rfl|exact .inr rfl|assumption):
  PS X (.Assign [.Name x pos'] e pos) (ZF te (VD i)):=by
 intro pins s σ H D I h
 refine wpAny_Assign_Name (Ao (he pins s σ H _ I h) fun v s1 ⟨y,H1,I1,r1,q1⟩=>?_) hs
 exact Cp I1 hN hi hx r1 (fun s2 I2=> ⟨_,H1,I2,q1⟩) hf
def cG(i j:Nat)(ta:TA):TS:=fun D σ H=>ta σ H fun vs H1=>∃v w,vs=[v,w]∧D.nx ((σ.set i (some v)).set j (some w)) H1
theorem WK{i j:Nat}{x y:Str}{a b:Expr}{ta:TA}{px py pt:Pos}{kt k2 pt2}(hc:X.calm=true)(hN:X.N.Nodup)(hi:X.N[i]?=some x)(hj:X.N[j]?=some y)(hij:i≠j)
  (hx:X.env.scope.names.lookup x=some .local) (hy:X.env.scope.names.lookup y=some .local) (ha:PA X [a,b] ta)
  (hw:nr [.Tuple [.Name x px,.Name y py] kt pt] (.Tuple [a,b] k2 pt2) X.env=pure (some [x,y]))
  (hs:nj [.Tuple [.Name x px,.Name y py] kt pt] (.Tuple [a,b] k2 pt2) pos.line X.env=pure false:=by rfl):
  PS X (.Assign [.Tuple [.Name x px,.Name y py] kt pt] (.Tuple [a,b] k2 pt2) pos) (cG i j ta):=by
 intro pins s σ H D I h
 rw[exec_Assign_arm]
 refine a7 (lh ?_)
 rw[hs]
 refine a7 (b6 ?_)
 rw[if_neg (by decide)]
 refine a7 (Tuple_ (Ao (ha _ pins s σ H _ I h) fun us s1 ⟨vs,H1,I1,r1,q1⟩=>?_))
 obtain⟨v,w,e1,q1⟩:=q1
 subst e1
 obtain⟨u1,u2,rfl,rv,rw'⟩:∃u1 u2,us=[u1,u2]∧RelV v u1∧RelV w u2:=by
  cases r1 with
  |cons p q=>
   cases q with
   |cons p' q'=>
    cases q'
    exact⟨_,_,rfl,p,p'⟩
 refine ic ?_ (by show 2≤sizeLine;decide)
 have I2:Inv X pins σ H1 {s1 with heap:=s1.heap.push {cls:=.type "tuple",data:=.seq [u1,u2].toArray}}:=I1.kept (t':=s1.toks) fun b o e=>c9 _ e
 rw[hw]
 refine a7 (b6 ?_)
 show wpAny (model X.prog X.w) X.A (do rule "assign.swapped-stores";let items←unpackItems (.ref s1.heap.objs.size) 2 none;assignInOrder [fun v=>bindName X.env y v,fun v=>bindName X.env x v] items.reverse;pure Flow.next) _ _ _
 refine a7 (jB (a7 (unpackItems_tuple (items:=#[u1,u2]) (I.ok.hd hc) (IsTup.new s1.heap _) fun h' hx'=>?_)))
 have I3:=I2.kept (h':=h') (t':=s1.toks) fun b o e=>hx' b o (fS (fq e)) e
 show wpAny _ _ (assignInOrder [fun v=>bindName X.env y v,fun v=>bindName X.env x v] [u2,u1]>>=fun _=>pure Flow.next) _ _ _
 refine a7 (mL (wpAny_bindName (Cp I3 hN hj (.inl hy) rw' (fun s2 I4=>?_) (.inr hy))))
 refine mL (wpAny_bindName (Cp I4 hN hi (.inl hx) rv (fun s3 I5=>assignInOrder_nil (b6 ?_)) (.inr hx)))
 rw[List.set_comm _ _ (Ne.symm hij)] at I5
 exact⟨_,H1,I5,q1⟩
def cH(i:Nat)(te:TE)(ti:ZD):TS:=fun D σ H=>∃x,σ[i]?=some (some x)∧te σ H fun y H1=>ti x y H1 fun z H2=>D.nx (σ.set i (some z)) H2
theorem WL{i:Nat}{x:Str}{e:Expr}{te:TE}{op:oq}{ti:ZD}{pos':Pos}(hN:X.N.Nodup)(hi:X.N[i]?=some x)(hx:SG X.env.scope x)(he:PE X e te)(ho:bY X op ti)(hf:X.fn x=true∨X.env.scope.names.lookup x=some .local:=by first|exact .inl rfl|exact .inr rfl|assumption):
  PS X (.AugAssign (.Name x pos') op e pos) (cH i te ti):=by
 intro pins s σ H D I h
 obtain⟨v,e1,h⟩:=h
 obtain⟨m,hn,hl⟩:=I.loc
 have vis:Yo X.env.scope x:=by rcases hx with k|k;exact .inl k;exact .inr (.inl k)
 obtain⟨u,r,l⟩:=hl i x v hi e1 vis
 refine wpAny_AugAssign_Name ?_
 have go:wpAny (model X.prog X.w) X.A (eval e X.env) (fun w s₂=>wpAny (model X.prog X.w) X.A (inplaceOp op u w) (fun r s₃=>wpAny (model X.prog X.w) X.A (storeName X.env x r) (fun _=>SP X pins D .next) X.xe s₃) X.xe s₂) X.xe s:=by
  refine Ao (he pins s σ H _ I h) fun w s1 ⟨y,H1,I1,r1,q1⟩=>?_
  refine Ao (ho pins s1 σ H1 v y u w _ I1 r r1 q1) fun z s2 ⟨zv,H2,I2,r2,q2⟩=>?_
  exact Cp I2 hN hi hx r2 (fun s3 I3=> ⟨_,H2,I3,q2⟩) hf
 rcases l with⟨hk,hm⟩| ⟨hk,c,hc,hcell⟩
 ·exact wpAny_loadName_local I.ok.kind hk hn hm go
 ·rcases hk with hk|hk
  ·exact wpAny_loadName_cell I.ok.kind hk hc hcell go
  ·rcases hx with k|k
   ·have:X.env.scope.names.lookup x=some .free:=hk
    rw[k] at this;cases this
   ·have:X.env.scope.names.lookup x=some .free:=hk
    rw[k] at this;cases this
def dm(f:Int→Int→Int):ZD:=fun x y H Q=>∃i j,x=.int i∧y=.int j∧Q (.int (f i j)) H
theorem Oy:bY X .Add (dm fun i j=>i+j):=by
 intro pins s σ H x y v u Q I r1 r2 h
 obtain⟨i,j,e1,e2,q⟩:=h
 subst e1;subst e2
 obtain⟨t,rfl⟩:=r1
 obtain⟨t',rfl⟩:=r2
 exact iadd_int ⟨.int _,H,I.tok _,⟨_,rfl⟩,q⟩
end
section
variable{X:Cx}{pos:Pos}
def WM(c:TT)(tb:TS):TS:=fun D σ H=>∃W:Nat→St→Hp→Prop,(∃m,W m σ H)∧∀m σ H,W m σ H→
 c σ H fun b H1=>if b=true then∃N:St→Hp→Prop,(∀σ' H',N σ' H'→∃m',m'<m∧W m' σ' H')∧tb {D with nx:=N,ct:=N,bk:=D.nx} σ H1 else D.nx σ H1
theorem Oz{c:Expr}{body:List Stmt}{tc:TT}{tb:TS}(hp:mG (model X.prog X.w) X.A X.env X.xe)(hc:PT X c tc)(hb:PSs X body tb):PS X (.While c body [] pos) (WM tc tb):=by
 intro pins s σ H D I h
 obtain⟨W,⟨m0,w0⟩,turn⟩:=h
 refine wpAny_While (codeAny_whileLoop (fun n s'=>∃σ' H',Inv X pins σ' H' s'∧W n σ' H') ?_ m0 ⟨σ,H,I,w0⟩)
 rintro n s1 ⟨σ1,H1,I1,w1⟩
 refine jX hp (Ao (hc pins s1 σ1 H1 _ I1 (turn n σ1 H1 w1)) fun b s2 ⟨H2,I2,q2⟩=>?_)
 cases b with
 |true=>
  obtain⟨N,hN,q2⟩:=q2
  rw[if_pos rfl]
  refine jX hp (Ao (hb pins s2 σ1 H2 _ I2 q2) fun f s3 q3=>?_)
  cases f with
  |next=>
   obtain⟨σ3,H3,I3,n3⟩:=q3
   obtain⟨m',hm,w3⟩:=hN σ3 H3 n3
   exact⟨m',hm,σ3,H3,I3,w3⟩
  |cont=>
   obtain⟨σ3,H3,I3,n3⟩:=q3
   obtain⟨m',hm,w3⟩:=hN σ3 H3 n3
   exact⟨m',hm,σ3,H3,I3,w3⟩
  |brk=>exact q3
  |ret v=>exact q3
 |false=>
  rw[if_neg e6]
  exact mj ⟨σ1,H2,I2,q2⟩
end
structure It where
 go:Nat→Hp→Prop
 yld:Nat→Hp→V→Hp→Prop
 stop:Nat→Hp→Prop
def FT(X:Cx)(pins:List (Addr×Obj))(H:Hp)(b:Addr):Prop:=
 H b=none∧b≠X.env.locals∧b∉X.fs∧(b∈X.ex∨X.s₀.heap.objs.size≤b)∧(∀x c,X.env.cells.lookup x=some c→c≠b)∧∀p∈X.pn++pins,p.1≠b
theorem Inv.fpOk{X:Cx}{pins:List (Addr×Obj)}{σ:St}{H H':Hp}{s:a9}{b:Addr}(I:Inv X pins σ H s)(hb:s.heap.objs.size≤b)(hn:H' b=none):FT X pins H' b:=by
 refine⟨hn,kY (fM I.lt hb),I.nofs hb,.inr (gL I.sz hb),fun x c e z=>?_,fun p hp z=>?_⟩
 ·obtain⟨v,q⟩:=I.cell x c e
  exact absurd (fM q.lt (by rw[z];exact hb)) (gU _)
 ·exact absurd (fM (fq (I.pin p hp).1) (by rw[z];exact hb)) (gU _)
structure Turn(P:Program)(w:World)(K:a8)(tg:Expr)(J:It)(fp:List Addr)(it:Addr)(tn:Nat→Heap→Prop):Prop where
 mem:it∈fp
 obj:∀i h,tn i h→∀b∈fp,∃o,h.get? b=some o∧∀v,o.data≠.cell v
 keep:∀i h h',tn i h→(∀b∈fp,∀o,h.get? b=some o→h'.get? b=some o)→tn i h'
 item:∀(X:Cx),X.prog=P→X.w=w→X.K=K→X.calm=true→∀(i:Nat) (pins:List (Addr×Obj)) (s:a9) (σ:St) (H:Hp) (E:Value→a9→Prop),Inv X pins σ H s→(∀b∈fp,FT X pins H b)→tn i s.heap→J.go i H→
  wpAny (model P w) X.A (lF (.ref it)) (fun r s1=>∃u,r=some u∧
   wpAny (model P w) X.A (ml tg (.ref it) u) (fun _ s2=>∃x H',Inv X pins σ H' s2∧RelV x u∧J.yld i H x H'∧tn (i+1) s2.heap∧∀b∈fp,H' b=none) E s1) E s
 done:∀(X:Cx),X.prog=P→X.w=w→X.K=K→X.calm=true→∀(i:Nat) (pins:List (Addr×Obj)) (s:a9) (σ:St) (H:Hp) (E:Value→a9→Prop),Inv X pins σ H s→(∀b∈fp,FT X pins H b)→tn i s.heap→J.stop i H→
  wpAny (model P w) X.A (lF (.ref it)) (fun r s1=>r=none∧Inv X pins σ H s1) E s
 self:∀(A:fG) (i:Nat) (s:a9) (Q:Value→a9→Prop) (E:Value→a9→Prop),tn i s.heap→Q (.ref it) s→wpAny (model P w) A (oV (.ref it)) Q E s
abbrev TI:=St→Hp→(It→Hp→Prop)→Prop
def dM(X:Cx)(pins:List (Addr×Obj))(σ:St)(tg:Expr)(R:It→Hp→Prop)(itv:Value)(s2:a9):Prop:=
 ∃(it:Addr) (fp:List Addr) (tn:Nat→Heap→Prop) (J:It) (H':Hp),itv=.ref it∧Inv X pins σ H' s2∧Turn X.prog X.w X.K tg J fp it tn∧tn 0 s2.heap∧(∀b∈fp,FT X pins H' b)∧R J H'
def PI(X:Cx)(tg iter:Expr)(wi:TI):Prop:=
 ∀(pins:List (Addr×Obj)) (s:a9) (σ:St) (H:Hp) (R:It→Hp→Prop),Inv X pins σ H s→wi σ H R→
  wpAny (model X.prog X.w) X.A (eval iter X.env) (fun v s1=>wpAny (model X.prog X.w) X.A (oV v) (dM X pins σ tg R) X.xe s1) X.xe s
theorem PB{M:Model}{A:fG}{E:Value→a9→Prop}{s:a9}{tg:Expr}{it:Addr}{u:Value}{o:Obj}{n:String}{vs:Array Value}{Q:Unit→a9→Prop}(ho:s.heap.get? it=some o)(hc:o.cls=.type n)(hd:o.data=.fields vs)
    (hn:["enumerate","zip","dict_itemiterator","dict_reverseitemiterator","odict_iterator","itertools.zip_longest","itertools.pairwise"].contains n=false) (hQ:Q () s):wpAny M A (ml tg (.ref it) u) Q E s:=by
  unfold ml
  cases tg<;>first
    |exact b6 hQ
    | (cases u<;>first
        |exact b6 hQ
        | (refine a7 (wpAny_load ho ?_)
           rw[hc,hd]
           show wpAny M A (if(["enumerate","zip","dict_itemiterator","dict_reverseitemiterator","odict_iterator","itertools.zip_longest","itertools.pairwise"].contains n&&vs[0]?==some (lM _))=true then _ else _) Q E s
           rw[if_neg (by intro h;rw[hn,Bool.false_and] at h;cases h)]
           exact b6 hQ))
def cI(K:a8)(a:Addr):It:=
 ⟨fun i H=>∃xs x,De K H a xs∧xs[i]?=some x,fun i H x H'=>H'=H∧∀xs,De K H a xs→xs[i]?=some x,fun i H=>∃xs,De K H a xs∧xs.length≤i⟩
def cJ(K:a8)(a:Addr):It:=
 ⟨fun i H=>∃xs x,Cm K H a xs∧xs[i]?=some x,fun i H x H'=>H'=H∧∀xs,Cm K H a xs→xs[i]?=some x,fun i H=>∃xs,Cm K H a xs∧xs.length≤i⟩
def ZG(lo:Int)(n:Nat):It:=⟨fun i _=>i<n,fun i H x H'=>H'=H∧x=.int (lo+i),fun i _=>n≤i⟩
theorem Nm{P:Program}{w:World}{K:a8}{tg:Expr}(a it:Addr):Turn P w K tg (cI K a) [it] it (fun i h=>h.IsListIter it a i) where
 mem:=by simp
 obj:=fun i h st b hb=>by
  have e:b=it:=by simpa using hb
  subst e
  obtain⟨o,e,c,d⟩:=st
  exact⟨o,e,fun v z=>by rw[d] at z;cases z⟩
 keep:=fun i h h' st k=>st.at fun o e=>k it (by simp) o e
 item:=by
  intro X hP hw hK hc i pins s σ H E I hf st hg
  subst hP hw hK
  obtain⟨xs,x,hq,hx⟩:=hg
  obtain⟨its,rv,p,hz⟩:=I.list hq
  obtain⟨u,hu,ru⟩:=rv.get hx
  obtain⟨f0,f1,f2,f3,f4,f5⟩:=hf it (by simp)
  refine wpAny_pyNext_list_item st p.isList (x:=u) (by simpa using hu) fun h' st' sb=>?_
  have I1:Inv X pins σ H {s with heap:=h'}:=I.turned (t':=s.toks) (fun b o hb e=> (sb.2 b hb).trans e) f0 f1 f3 f4 f5
  obtain⟨o,e,c,d⟩:=id st'
  exact⟨u,rfl,PB (s:={s with heap:=h'}) e c d (by decide) ⟨x,H,I1,ru,⟨rfl,fun ys hy=>by rw[I.list_inj hy hq];exact hx⟩,st',fun b hb=> (hf b hb).1⟩⟩
 done:=by
  intro X hP hw hK hc i pins s σ H E I hf st hg
  subst hP hw hK
  obtain⟨xs,hq,hx⟩:=hg
  obtain⟨its,rv,p,hz⟩:=I.list hq
  obtain⟨f0,f1,f2,f3,f4,f5⟩:=hf it (by simp)
  have hl:=rv.length
  exact wpAny_pyNext_list_end (I.ok.hd hc) st p.isList (by simp;omega) fun h' eb=> ⟨rfl,I.turned (t':=s.toks) (fun b o hb e=>eb b o hb e) f0 f1 f3 f4 f5⟩
 self:=fun _ _ _ _ _ st h=>wpAny_pyIter_listiter st h
theorem LB{P:Program}{w:World}{K:a8}{tg:Expr}(a it:Addr):Turn P w K tg (cJ K a) [it] it (fun i h=>h.IsTupleIter it a i) where
 mem:=by simp
 obj:=fun i h st b hb=>by
  have e:b=it:=by simpa using hb
  subst e
  obtain⟨o,e,c,d⟩:=st
  exact⟨o,e,fun v z=>by rw[d] at z;cases z⟩
 keep:=fun i h h' st k=>st.at fun o e=>k it (by simp) o e
 item:=by
  intro X hP hw hK hc i pins s σ H E I hf st hg
  subst hP hw hK
  obtain⟨xs,x,hq,hx⟩:=hg
  obtain⟨its,rv,p,hz⟩:=I.tuple hq
  obtain⟨u,hu,ru⟩:=rv.get hx
  obtain⟨f0,f1,f2,f3,f4,f5⟩:=hf it (by simp)
  refine wpAny_pyNext_tuple_item st (show s.heap.IsTuple a its.toArray from p) (x:=u) (by simpa using hu) fun h' st' sb=>?_
  have I1:Inv X pins σ H {s with heap:=h'}:=I.turned (t':=s.toks) (fun b o hb e=> (sb.2 b hb).trans e) f0 f1 f3 f4 f5
  obtain⟨o,e,c,d⟩:=id st'
  exact⟨u,rfl,PB (s:={s with heap:=h'}) e c d (by decide) ⟨x,H,I1,ru,⟨rfl,fun ys hy=>by rw[I.tuple_inj hy hq];exact hx⟩,st',fun b hb=> (hf b hb).1⟩⟩
 done:=by
  intro X hP hw hK hc i pins s σ H E I hf st hg
  subst hP hw hK
  obtain⟨xs,hq,hx⟩:=hg
  obtain⟨its,rv,p,hz⟩:=I.tuple hq
  obtain⟨f0,f1,f2,f3,f4,f5⟩:=hf it (by simp)
  have hl:=rv.length
  exact wpAny_pyNext_tuple_end (I.ok.hd hc) st (show s.heap.IsTuple a its.toArray from p) (by simp;omega) fun h' eb=> ⟨rfl,I.turned (t':=s.toks) (fun b o hb e=>eb b o hb e) f0 f1 f3 f4 f5⟩
 self:=fun _ _ _ _ _ st h=>wpAny_pyIter_tupleiter st h
theorem LD{P:Program}{w:World}{K:a8}{tg:Expr}(it:Addr)(lo:Int)(n:Nat):Turn P w K tg (ZG lo n) [it] it (fun i h=>IsRangeIter h it (lo+(i:Nat)*1) ((n:Int)- (i:Nat)) 1) where
 mem:=by simp
 obj:=fun i h st b hb=>by
  have e:b=it:=by simpa using hb
  subst e
  exact⟨_,st,fun v z=>by
   have z':Data.fields _=pG v:=z
   cases z'⟩
 keep:=fun i h h' st k=>k it (by simp) _ st
 item:=by
  intro X hP hw hK hc i pins s σ H E I hf st hg
  subst hP hw hK
  obtain⟨f0,f1,f2,f3,f4,f5⟩:=hf it (by simp)
  have W:=Walks.range (prog:=X.prog) (w:=X.w) (I.ok.hd hc) it lo 1 n
  refine W.item i s _ _ hg st fun v h' tk hv st' kk=>?_
  obtain⟨t,rfl⟩:=hv
  have I1:Inv X pins σ H {s with heap:=h',toks:=tk}:=I.turned (fun b o hb e=>kk b o (by simpa using hb) e) f0 f1 f3 f4 f5
  refine⟨_,rfl,PB (s:={s with heap:=h',toks:=tk}) (n:="range_iterator") st' rfl rfl (by decide) ⟨.int (lo+i),H,I1,⟨t,?_⟩,⟨rfl,rfl⟩,st',fun b hb=> (hf b hb).1⟩⟩
  rw[Int.mul_one]
 done:=by
  intro X hP hw hK hc i pins s σ H E I hf st hg
  subst hP hw hK
  obtain⟨f0,f1,f2,f3,f4,f5⟩:=hf it (by simp)
  exact wpAny_pyNext_range_end (I.ok.hd hc) st (by have:n≤i:=hg;omega) fun h' eb=> ⟨rfl,I.turned (t':=s.toks) (fun b o hb e=>eb b o hb e) f0 f1 f3 f4 f5⟩
 self:=fun _ _ _ _ _ st h=>wpAny_pyIter_rangeiter st h
section
variable{X:Cx}{tg:Expr}
def ZH(K:a8)(tl:TE):TI:=fun σ H R=>tl σ H fun x H1=>∃a,x=.ref a∧(∃xs,De K H1 a xs)∧R (cI K a) H1
def cK(K:a8)(tl:TE):TI:=fun σ H R=>tl σ H fun x H1=>∃a,x=.ref a∧(∃xs,Cm K H1 a xs)∧R (cJ K a) H1
theorem SV{l:Expr}{tl:TE}(hl:PE X l tl):PI X tg l (ZH X.K tl):=by
 intro pins s σ H R I h
 refine Ao (hl pins s σ H _ I h) fun v s1 ⟨x,H1,I1,r1,q1⟩=>?_
 obtain⟨a,e,⟨xs,hq⟩,q⟩:=q1
 subst e
 cases r1
 obtain⟨its,rv,p,hz⟩:=I1.list hq
 refine mX p.isList ?_
 refine⟨s1.heap.objs.size,[s1.heap.objs.size],_,_,H1,rfl,I1.kept (t':=s1.toks) fun b o e=>c9 _ e,Nm a _,⟨_,fK _ rfl,rfl,rfl⟩,fun b hb=>?_,q⟩
 have e:b=s1.heap.objs.size:=by simpa using hb
 subst e
 exact I1.fpOk (fj _) (I1.hok.fresh (fj _))
theorem WN{l:Expr}{tl:TE}(hl:PE X l tl):PI X tg l (cK X.K tl):=by
 intro pins s σ H R I h
 refine Ao (hl pins s σ H _ I h) fun v s1 ⟨x,H1,I1,r1,q1⟩=>?_
 obtain⟨a,e,⟨xs,hq⟩,q⟩:=q1
 subst e
 cases r1
 obtain⟨its,rv,p,hz⟩:=I1.tuple hq
 refine lD (show s1.heap.IsTuple a its.toArray from p) ?_
 refine⟨s1.heap.objs.size,[s1.heap.objs.size],_,_,H1,rfl,I1.kept (t':=s1.toks) fun b o e=>c9 _ e,LB a _,⟨_,fK _ rfl,rfl,rfl⟩,fun b hb=>?_,q⟩
 have e:b=s1.heap.objs.size:=by simpa using hb
 subst e
 exact I1.fpOk (fj _) (I1.hok.fresh (fj _))
theorem Ja{pins:List (Addr×Obj)}{σ:St}{H:Hp}{s:a9}{R:It→Hp→Prop}{E:Value→a9→Prop}{lo hi:Int}{t u v:Tok}{tk:Nat}(I:Inv X pins σ H s)(h1: -(2^62)≤lo)(h2:lo<2^62)(h3: -(2^62)≤hi)(h4:hi<2^62)
  (q:R (ZG lo (hi-lo).toNat) H):wpAny (model X.prog X.w) X.A (oV (.ref s.heap.objs.size)) (dM X pins σ tg R) E {s with heap:=s.heap.push {cls:=.type "range",data:=.fields #[.int lo t,.int hi u,.int 1 v]},toks:=tk}:=by
 refine wpAny_pyIter_range (IsRange.new ..) (small_one h1 h2 h3 h4) ?_
 have I1:Inv X pins σ H {s with heap:=s.heap.push {cls:=.type "range",data:=.fields #[.int lo t,.int hi u,.int 1 v]},toks:=tk}:=I.kept fun b o e=>c9 _ e
 refine⟨(s.heap.push {cls:=.type "range",data:=.fields #[.int lo t,.int hi u,.int 1 v]}).objs.size,[(s.heap.push {cls:=.type "range",data:=.fields #[.int lo t,.int hi u,.int 1 v]}).objs.size],_,_,H,rfl,
  I1.kept (t':=tk) fun b o e=>c9 _ e,LD _ lo (hi-lo).toNat,?_,fun b hb=>?_,q⟩
 ·have e1:lo+((0:Nat):Int)*1=lo:=by simp
  have e2:(((hi-lo).toNat:Nat):Int)- ((0:Nat):Int)=Builtin.Range.rangeSize lo hi 1:=by rw[rangeSize_one];split<;>omega
  show IsRangeIter _ _ (lo+((0:Nat):Int)*1) ((((hi-lo).toNat:Nat):Int)- ((0:Nat):Int)) 1
  rw[e1,e2]
  exact fK _ rfl
 ·have e:b=(s.heap.push {cls:=.type "range",data:=.fields #[.int lo t,.int hi u,.int 1 v]}).objs.size:=by simpa using hb
  subst e
  exact I1.fpOk (fj _) (I1.hok.fresh (fj _))
def ZI(ta:TA):TI:=fun σ H R=>ta σ H fun vs H1=>∃j:Int,vs=[.int j]∧-(2^62)≤j∧j<2^62∧R (ZG 0 j.toNat) H1
def ZJ(ta:TA):TI:=fun σ H R=>ta σ H fun vs H1=>∃i j:Int,vs=[.int i,.int j]∧(-(2^62)≤i∧i<2^62∧-(2^62)≤j∧j<2^62)∧R (ZG i (j-i).toNat) H1
theorem Nn{a:Expr}{ta:TA}{p pos:Pos}(hg:Gl X "range")(hm:X.mg "range" =none)(ha:PA X [a] ta)(hs:e9 [a] X.env=[(false,eval a X.env)]:=by rfl):PI X tg (.Call (.Name "range" p) [a] [] pos) (ZI ta):=by
 intro pins s σ H R I h
 refine Call_ (Dd I hg hm boot_range (jJ (Ao (ha pos pins s σ H _ I h) fun us s1 ⟨vs,H1,I1,r1,q1⟩=>?_) hs rfl))
 obtain⟨j,e,q1,q2,q⟩:=q1
 subst e
 cases r1 with
 |cons r rr=>
  cases rr
  obtain⟨t,rfl⟩:=r
  exact call_range_1 (Ja I1 (by omega) (by omega) q1 q2 (by simpa using q))
theorem Np{a b:Expr}{ta:TA}{p pos:Pos}(hg:Gl X "range")(hm:X.mg "range" =none)(ha:PA X [a,b] ta)(hs:e9 [a,b] X.env=[(false,eval a X.env),(false,eval b X.env)]:=by rfl)(hs2:e9 [b] X.env=[(false,eval b X.env)]:=by rfl):
  PI X tg (.Call (.Name "range" p) [a,b] [] pos) (ZJ ta):=by
 intro pins s σ H R I h
 refine Call_ (Dd I hg hm boot_range (jJ (Ao (ha pos pins s σ H _ I h) fun us s1 ⟨vs,H1,I1,r1,q1⟩=>?_) (by rw[hs,hs2]) (by rw[hs2];rfl)))
 obtain⟨i,j,e,⟨q1,q2,q3,q4⟩,q⟩:=q1
 subst e
 cases r1 with
 |cons r rr=>
  cases rr with
  |cons r' rr=>
   cases rr
   obtain⟨t,rfl⟩:=r
   obtain⟨t',rfl⟩:=r'
   exact call_range_2 (Ja I1 q1 q2 q3 q4 q)
def cL(wi:TI)(g:TG)(tb:TS):TS:=fun D σ H=>wi σ H fun J H1=>∃W:Nat→Nat→St→Hp→Prop,(∃m,W 0 m σ H1)∧∀i m σ H,W i m σ H→
 (J.stop i H∧D.nx σ H)∨(J.go i H∧∃N:St→Hp→Prop,(∀σ' H',N σ' H'→∃m',m'<m∧W (i+1) m' σ' H')∧∀x H',J.yld i H x H'→g x σ H' fun σ2 H2=>tb {D with nx:=N,ct:=N,bk:=D.nx} σ2 H2)
def FU(fp:List Addr)(h:Heap):List (Addr×Obj):=fp.filterMap fun b=> (h.get? b).map fun o=> (b,o)
theorem CM{fp:List Addr}{h:Heap}{b:Addr}{o:Obj}(hb:b∈fp)(e:h.get? b=some o):(b,o)∈FU fp h:=jw.mpr ⟨b,hb,by rw[e];rfl⟩
theorem Nq{fp:List Addr}{h:Heap}{p:Addr×Obj}(hp:p∈FU fp h):p.1∈fp∧h.get? p.1=some p.2:=by
 obtain⟨b,hb,e⟩:=jw.mp hp
 cases q:h.get? b with
 |none=>rw[q] at e;cases e
 |some o=>
  rw[q] at e
  have e':(b,o)=p:=gh.inj e
  subst e'
  exact⟨hb,q⟩
theorem Inv.pinned{pins:List (Addr×Obj)}{σ:St}{H:Hp}{s:a9}{fp:List Addr}(I:Inv X pins σ H s)(hf:∀b∈fp,FT X pins H b)(ho:∀b∈fp,∃o,s.heap.get? b=some o∧∀v,o.data≠.cell v):Inv X (pins++FU fp s.heap) σ H s:=
 I.pins_of fun p hp=> (fI.mp hp).elim (fun z=>I.pin p (gI _ z)) fun z=>by
  obtain⟨hb,e⟩:=Nq z
  obtain⟨f0,f1,f2,_⟩:=hf p.1 hb
  obtain⟨o,e',d⟩:=ho p.1 hb
  rw[e] at e';cases e'
  exact⟨e,f0,f1,f2,d⟩
theorem Inv.unpinned{pins pl:List (Addr×Obj)}{σ:St}{H:Hp}{s:a9}(I:Inv X (pins++pl) σ H s):Inv X pins σ H s:=I.pins_of fun p hp=>I.pin p (gI _ (jf _ hp))
theorem WO{iter:Expr}{body:List Stmt}{wi:TI}{g:TG}{tb:TS}{pos:Pos}(hp:mG (model X.prog X.w) X.A X.env X.xe)(hc:X.calm=true)(hi:PI X tg iter wi)(hg:PG X tg g)(hb:PSs X body tb)
  (hs:∀x,iM iter X.env x=pure x:=by intro _;rfl):PS X (.For tg iter body [] pos) (cL wi g tb):=by
 intro pins s σ H D I h
 refine wpAny_For (Ao (hi pins s σ H _ I h) fun v s1 h1=>Ao h1 fun itv s2 h2=>?_) hs
 obtain⟨it,fp,tn,J,H2,e,I2,T,st2,f2,W,⟨m0,w0⟩,turn⟩:=h2
 subst e
 have stat:∀{H':Hp},(∀b∈fp,H' b=none)→∀b∈fp,FT X pins H' b:=fun hn b hb=> ⟨hn b hb,(f2 b hb).2⟩
 refine codeAny_forLoop_any (fun n s'=>∃i σ' H',Inv X pins σ' H' s'∧tn i s'.heap∧(∀b∈fp,H' b=none)∧W i n σ' H') ?_ m0 ⟨0,σ,H2,I2,st2,fun b hb=> (f2 b hb).1,w0⟩
 rintro n s3 ⟨i,σ3,H3,I3,st3,fr3,w3⟩
 rcases turn i n σ3 H3 w3 with⟨stop,qn⟩| ⟨go,N,hN,step⟩
 ·refine jX hp (Ao (T.done X rfl rfl rfl hc i pins s3 σ3 H3 X.xe I3 (stat fr3) st3 stop) fun r s4 ⟨hr,I4⟩=>?_)
  subst hr
  exact mj ⟨σ3,H3,I4,qn⟩
 ·refine jX hp (Ao (T.item X rfl rfl rfl hc i pins s3 σ3 H3 X.xe I3 (stat fr3) st3 go) fun r s4 ⟨u,hr,h4⟩=>?_)
  subst hr
  refine jX hp (Ao h4 fun _ s5 ⟨x,H5,I5,r5,y5,st5,fr5⟩=>?_)
  have I5':=I5.pinned (stat fr5) (T.obj _ _ st5)
  refine jX hp (Ao (hg _ s5 σ3 H5 x u _ I5' r5 (step x H5 y5)) fun _ s6 ⟨σ6,H6,I6,q6⟩=>?_)
  refine jX hp (Ao (hb _ s6 σ6 H6 _ I6 q6) fun f s7 q7=>?_)
  have again:∀{σ7:St} {H7:Hp},Inv X (pins++FU fp s5.heap) σ7 H7 s7→N σ7 H7→∃m,m<n∧∃i σ' H',Inv X pins σ' H' s7∧tn i s7.heap∧(∀b∈fp,H' b=none)∧W i m σ' H':=fun{σ7 H7} I7 n7=>by
   obtain⟨m',hm,w7⟩:=hN σ7 H7 n7
   refine⟨m',hm,i+1,σ7,H7,I7.unpinned,T.keep _ _ _ st5 fun b hb o e=> (I7.pin (b,o) (gI _ (gI _ (CM hb e)))).1,fun b hb=>?_,w7⟩
   obtain⟨o,e,d⟩:=T.obj _ _ st5 b hb
   exact(I7.pin (b,o) (gI _ (gI _ (CM hb e)))).2.1
  cases f with
  |next=>obtain⟨σ7,H7,I7,n7⟩:=q7;exact again I7 n7
  |cont=>obtain⟨σ7,H7,I7,n7⟩:=q7;exact again I7 n7
  |brk=>obtain⟨σ7,H7,I7,q7⟩:=q7;exact⟨σ7,H7,I7.unpinned,q7⟩
  |ret v=>obtain⟨x7,σ7,H7,I7,r7,q7⟩:=q7;exact⟨x7,σ7,H7,I7.unpinned,r7,q7⟩
end
abbrev R2:=V→V→Hp→VK→Prop
def CO(X:Cx)(f:Value→Value→Sem Value)(r:R2):Prop:=
 ∀(pins:List (Addr×Obj)) (s:a9) (σ:St) (H:Hp) (x y:V) (v u:Value) (Q:VK),Inv X pins σ H s→RelV x v→RelV y u→r x y H Q→
  wpAny (model X.prog X.w) X.A (f v u) (EP X pins σ Q) X.xe s
def Au(X:Cx)(f:Value)(r:List V→Hp→VK→Prop):Prop:=
 ∀(pins:List (Addr×Obj)) (s:a9) (σ:St) (H:Hp) (xs:List V) (us:List Value) (Q:VK),Inv X pins σ H s→Vals xs us→r xs H Q→
  wpAny (model X.prog X.w) X.A (call f us) (EP X pins σ Q) X.xe s
def cM(X:Cx)(r:V→Hp→(Bool→Hp→Prop)→Prop):Prop:=
 ∀(pins:List (Addr×Obj)) (s:a9) (σ:St) (H:Hp) (x:V) (v:Value) (Q:Bool→Hp→Prop),Inv X pins σ H s→RelV x v→r x H Q→
  wpAny (model X.prog X.w) X.A (truthy v) (TP X pins σ Q) X.xe s
def ZK(r:R2)(ta tb:TE):TE:=fun σ H Q=>ta σ H fun x H1=>tb σ H1 fun y H2=>r x y H2 Q
def rI(C:Int→Int→Prop)(g:Int→Int→V):R2:=fun x y H Q=>∃i j,x=.int i∧y=.int j∧C i j∧Q (g i j) H
def SH(g:Int→Int→V):R2:=fun x y H Q=>∃i j,x=.int i∧y=.int j∧Q (g i j) H
section
variable{X:Cx}{a b c:Expr}{ta tb tc:TE}{pos:Pos}
theorem WQ(ha:PE X a ta)(hb:PE X b tb){pins:List (Addr×Obj)}{s:a9}{σ:St}{H:Hp}{R:V→V→Hp→Prop}(I:Inv X pins σ H s)
  (h:ta σ H fun x H1=>tb σ H1 fun y H2=>R x y H2) {Q:Value→a9→Prop} {f:Value→Value→Sem Value}
  (hf:∀v u s2 x y H2,Inv X pins σ H2 s2→RelV x v→RelV y u→R x y H2→wpAny (model X.prog X.w) X.A (f v u) Q X.xe s2):
  wpAny (model X.prog X.w) X.A (eval a X.env) (fun v s₁=>wpAny (model X.prog X.w) X.A (eval b X.env) (fun u s₂=>wpAny (model X.prog X.w) X.A (f v u) Q X.xe s₂) X.xe s₁) X.xe s:=by
 refine Ao (ha pins s σ H _ I h) fun v s1 ⟨x,H1,I1,r1,q1⟩=>?_
 refine Ao (hb pins s1 σ H1 _ I1 q1) fun u s2 ⟨y,H2,I2,r2,q2⟩=>?_
 exact hf v u s2 x y H2 I2 r1 r2 q2
theorem ZL{op:oq}{r:R2}(ho:CO X (kl op) r)(ha:PE X a ta)(hb:PE X b tb):PE X (.BinOp a op b pos) (ZK r ta tb):=by
 intro pins s σ H Q I h
 exact wpAny_BinOp (WQ ha hb I h fun v u s2 x y H2 I2 rx ry q=>ho pins s2 σ H2 x y v u Q I2 rx ry q)
theorem bZ{f:Value→Value→Sem Value}{C:Int→Int→Prop}{g:Int→Int→Int}
  (rule:∀(i j:Int) (t u:Tok) (s:a9) (Q:Value→a9→Prop) (E:Value→a9→Prop),C i j→Q (.int (g i j) s.toks) {s with toks:=s.toks+1}→wpAny (model X.prog X.w) X.A (f (.int i t) (.int j u)) Q E s):
  CO X f (rI C fun i j=> .int (g i j)):=by
 intro pins s σ H x y v u Q I rx ry h
 obtain⟨i,j,rfl,rfl,hc,q⟩:=h
 obtain⟨t,rfl⟩:=rx
 obtain⟨t',rfl⟩:=ry
 exact rule i j t t' s _ _ hc ⟨.int (g i j),H,I.tok _,⟨_,rfl⟩,q⟩
theorem ZM{f:Value→Value→Sem Value}{g:Int→Int→Int}
  (rule:∀(i j:Int) (t u:Tok) (s:a9) (Q:Value→a9→Prop) (E:Value→a9→Prop),Q (.int (g i j) s.toks) {s with toks:=s.toks+1}→wpAny (model X.prog X.w) X.A (f (.int i t) (.int j u)) Q E s):
  CO X f (SH fun i j=> .int (g i j)):=by
 intro pins s σ H x y v u Q I rx ry h
 obtain⟨i,j,rfl,rfl,q⟩:=h
 obtain⟨t,rfl⟩:=rx
 obtain⟨t',rfl⟩:=ry
 exact rule i j t t' s _ _ ⟨.int (g i j),H,I.tok _,⟨_,rfl⟩,q⟩
theorem SW{f:Value→Value→Sem Value}{g:Int→Int→Bool}
  (rule:∀(i j:Int) (t u:Tok) (s:a9) (Q:Value→a9→Prop) (E:Value→a9→Prop),Q (.bool (g i j)) s→wpAny (model X.prog X.w) X.A (f (.int i t) (.int j u)) Q E s):
  CO X f (SH fun i j=> .bl (g i j)):=by
 intro pins s σ H x y v u Q I rx ry h
 obtain⟨i,j,rfl,rfl,q⟩:=h
 obtain⟨t,rfl⟩:=rx
 obtain⟨t',rfl⟩:=ry
 exact rule i j t t' s _ _ ⟨.bl (g i j),H,I,rfl,q⟩
def ZN(i j:Int):Prop:=0<j∧j<1073741824
def ZO(i j:Int):Prop:=0≤j∧j≤1000000∧i.natAbs<2^64
def CMul(i j:Int):Prop:=(-(2^64)<i∧i<2^64)∨(-(2^64)<j∧j<2^64)
theorem CMul.ok{i j:Int}(h:CMul i j):IntMulOk i j:=by
 rcases h with⟨h1,h2⟩| ⟨h1,h2⟩
 ·exact .of_left (intBits_le_64 h1 h2)
 ·exact .of_right (intBits_le_64 h1 h2)
theorem FV:CO X (kl .Add) (SH fun i j=> .int (i+j)):=ZM fun _ _ _ _ _ _ _ q=>add_int q
theorem WR:CO X (kl .Sub) (SH fun i j=> .int (i-j)):=ZM fun _ _ _ _ _ _ _ q=>sub_int q
theorem WU:CO X (kl .Mult) (rI CMul fun i j=> .int (i*j)):=bZ fun _ _ _ _ _ _ _ hc q=>mul_int q hc.ok
theorem SX:CO X (kl .FloorDiv) (rI ZN fun i j=> .int (i/j)):=bZ fun i j _ _ _ _ _ hc q=>by
 have h1:(0:Int)<j:=hc.1
 have h2:j<1073741824:=hc.2
 exact floordiv_int (by omega) (by rw[Int.fdiv_eq_ediv_of_nonneg i (by omega)];exact q) (.inl (PyProof.noPylong_small (by omega)))
theorem WV:CO X (kl .Mod) (rI (fun _ j=>0<j) fun i j=> .int (i%j)):=bZ fun i j _ _ _ _ _ hc q=>by
 have h1:(0:Int)<j:=hc
 exact mod_int' (by omega) (by rw[Int.fmod_eq_emod_of_nonneg i (by omega)];exact q)
theorem WX:CO X (kl .Pow) (rI ZO fun i j=> .int (i^j.toNat)):=bZ fun _ _ _ _ _ _ _ hc q=>pow_int_small hc.1 hc.2.1 hc.2.2 q
end
def ZP:V→V→Bool
 | .non,.non=>true| .non,.int _=>true| .int _,.non=>true| .non,.bl _=>true| .bl _,.non=>true| .non,.str _=>true| .str _,.non=>true
 | .int _,.int _=>true| .bl _,.bl _=>true| .str _,.str _=>true| .byt _,.byt _=>true
 | .int _,.str _=>true| .str _,.int _=>true| .bl _,.str _=>true| .str _,.bl _=>true
 |_,_=>false
def dN:R2:=fun x y H Q=>ZP x y=true∧Q (.bl (decide (x=y))) H
def cN:R2:=fun x y H Q=>ZP x y=true∧Q (.bl (!decide (x=y))) H
theorem Me{i j:Int}:decide (V.int i=V.int j)=(i==j):=by
 rw[iR]
 simp
theorem LF{i j:Bool}:decide (V.bl i=V.bl j)=(i==j):=by
 rw[iR]
 simp
theorem Mf{i j:Str}:decide (V.str i=V.str j)=(i==j):=by
 rw[iR]
 simp
theorem Mh{i j:Array UInt8}:decide (V.byt i=V.byt j)=(i.toList==j.toList):=by
 rw[iR]
 cases i
 cases j
 simp
section
variable{X:Cx}{a b c:Expr}{ta tb tc:TE}{pos:Pos}
theorem AV{pins:List (Addr×Obj)}{σ:St}{H:Hp}{s:a9}{Q:VK}{k k':Bool}(I:Inv X pins σ H s)(q:Q (.bl k) H)(e:k=k'):EP X pins σ Q (.bool k') s:=by
 subst e
 exact⟨.bl k,H,I,rfl,q⟩
theorem VE:CO X (hZ .Eq) dN:=by
 intro pins s σ H x y v u Q I rx ry h
 obtain⟨hs,q⟩:=h
 cases x with
 |non=>
  cases rx
  cases y with
  |non=>cases ry;exact PySem.EqNone.eq_none_none (AV I q (by simp))
  |bl j=>cases ry;exact PySem.EqNone.eq_none_bool (AV I q (by simp))
  |int j=>obtain⟨t',rfl⟩:=ry;exact PySem.EqNone.eq_none_int (AV I q (by simp))
  |str j=>obtain⟨t',rfl⟩:=ry;exact PySem.EqNone.eq_none_str (AV I q (by simp))
  |_=>exact absurd (show false=true from hs) e6
 |bl i=>
  cases rx
  cases y with
  |non=>cases ry;exact PySem.EqNone.eq_bool_none (AV I q (by simp))
  |bl j=>cases ry;exact eq_bool (AV I q LF)
  |str j=>obtain⟨t',rfl⟩:=ry;exact PySem.EqMixed.eq_bool_str (AV I q (by simp))
  |_=>exact absurd (show false=true from hs) e6
 |int i=>
  obtain⟨t,rfl⟩:=rx
  cases y with
  |non=>cases ry;exact PySem.EqNone.eq_int_none (AV I q (by simp))
  |int j=>obtain⟨t',rfl⟩:=ry;exact eq_int (AV I q Me)
  |str j=>obtain⟨t',rfl⟩:=ry;exact PySem.EqMixed.eq_int_str (AV I q (by simp))
  |_=>exact absurd (show false=true from hs) e6
 |str i=>
  obtain⟨t,rfl⟩:=rx
  cases y with
  |non=>cases ry;exact PySem.EqNone.eq_str_none (AV I q (by simp))
  |bl j=>cases ry;exact PySem.EqMixed.eq_str_bool (AV I q (by simp))
  |int j=>obtain⟨t',rfl⟩:=ry;exact PySem.EqMixed.eq_str_int (AV I q (by simp))
  |str j=>obtain⟨t',rfl⟩:=ry;exact eq_str (AV I q Mf)
  |_=>exact absurd (show false=true from hs) e6
 |byt i=>
  obtain⟨t,rfl⟩:=rx
  cases y with
  |byt j=>obtain⟨t',rfl⟩:=ry;exact PySem.W.eq_bytes (AV I q Mh)
  |_=>exact absurd (show false=true from hs) e6
 |_=>cases y<;>exact absurd (show false=true from hs) e6
theorem PC:CO X (hZ .NotEq) cN:=by
 intro pins s σ H x y v u Q I rx ry h
 obtain⟨hs,q⟩:=h
 cases x with
 |non=>
  cases rx
  cases y with
  |non=>cases ry;exact PySem.EqNone.ne_none_none (AV I q (by simp))
  |bl j=>cases ry;exact PySem.EqNone.ne_none_bool (AV I q (by simp))
  |int j=>obtain⟨t',rfl⟩:=ry;exact PySem.EqNone.ne_none_int (AV I q (by simp))
  |str j=>obtain⟨t',rfl⟩:=ry;exact PySem.EqNone.ne_none_str (AV I q (by simp))
  |_=>exact absurd (show false=true from hs) e6
 |bl i=>
  cases rx
  cases y with
  |non=>cases ry;exact PySem.EqNone.ne_bool_none (AV I q (by simp))
  |bl j=>cases ry;exact ne_bool (AV I q (congrArg not LF))
  |str j=>obtain⟨t',rfl⟩:=ry;exact PySem.EqMixed.ne_bool_str (AV I q (by simp))
  |_=>exact absurd (show false=true from hs) e6
 |int i=>
  obtain⟨t,rfl⟩:=rx
  cases y with
  |non=>cases ry;exact PySem.EqNone.ne_int_none (AV I q (by simp))
  |int j=>obtain⟨t',rfl⟩:=ry;exact ne_int (AV I q (congrArg not Me))
  |str j=>obtain⟨t',rfl⟩:=ry;exact PySem.EqMixed.ne_int_str (AV I q (by simp))
  |_=>exact absurd (show false=true from hs) e6
 |str i=>
  obtain⟨t,rfl⟩:=rx
  cases y with
  |non=>cases ry;exact PySem.EqNone.ne_str_none (AV I q (by simp))
  |bl j=>cases ry;exact PySem.EqMixed.ne_str_bool (AV I q (by simp))
  |int j=>obtain⟨t',rfl⟩:=ry;exact PySem.EqMixed.ne_str_int (AV I q (by simp))
  |str j=>obtain⟨t',rfl⟩:=ry;exact ne_str (AV I q (congrArg not Mf))
  |_=>exact absurd (show false=true from hs) e6
 |byt i=>
  obtain⟨t,rfl⟩:=rx
  cases y with
  |byt j=>obtain⟨t',rfl⟩:=ry;exact PySem.W.ne_bytes (AV I q (congrArg not Mh))
  |_=>exact absurd (show false=true from hs) e6
 |_=>cases y<;>exact absurd (show false=true from hs) e6
theorem PD:CO X (hZ .Lt) (SH fun i j=> .bl (decide (i<j))):=SW fun _ _ _ _ _ _ _ q=>lt_int q
theorem PF:CO X (hZ .LtE) (SH fun i j=> .bl (decide (i≤j))):=SW fun _ _ _ _ _ _ _ q=>le_int q
theorem ZQ:CO X (hZ .Gt) (SH fun i j=> .bl (decide (j<i))):=SW fun _ _ _ _ _ _ _ q=>gt_int q
theorem ZR:CO X (hZ .GtE) (SH fun i j=> .bl (decide (j≤i))):=SW fun _ _ _ _ _ _ _ q=>ge_int q
theorem WY:CO X (hZ .Is) (fun x y H Q=>y=.non∧Q (.bl (decide (x=.non))) H):=by
 intro pins s σ H x y v u Q I rx ry h
 obtain⟨rfl,q⟩:=h
 cases ry
 refine is_none_gen (AV I q ?_)
 cases x<;>first
  | (cases rx;rfl)
  | (obtain⟨t,rfl⟩:=rx;rfl)
theorem IA:CO X (hZ .IsNot) (fun x y H Q=>y=.non∧Q (.bl (!decide (x=.non))) H):=by
 intro pins s σ H x y v u Q I rx ry h
 obtain⟨rfl,q⟩:=h
 cases ry
 refine isnot_none_gen (AV I q ?_)
 cases x<;>first
  | (cases rx;rfl)
  | (obtain⟨t,rfl⟩:=rx;rfl)
theorem Af(b:Expr){op:CmpOp}(h:op≠.In:=by decide)(h2:op≠.NotIn:=by decide):behindInMarks op b=false:=by
 have e1:(op==CmpOp.In)=false:=by cases op<;>first|rfl|exact absurd rfl h
 have e2:(op==CmpOp.NotIn)=false:=by cases op<;>first|rfl|exact absurd rfl h2
 cases b<;>simp[behindInMarks,e1,e2]
theorem SY{op:CmpOp}{r:R2}(ho:CO X (hZ op) r)(ha:PE X a ta)(hb:PE X b tb)(hm:behindInMarks op b=false):PE X (.Compare a [op] [b] pos) (ZK r ta tb):=by
 intro pins s σ H Q I h
 exact wpAny_Compare1 (WQ ha hb I h fun v u s2 x y H2 I2 rx ry q=>ho pins s2 σ H2 x y v u Q I2 rx ry q) hm
def ZS(t:TE):TT:=fun σ H Q=>t σ H fun x H'=>∃k,x=.bl k∧Q k H'
theorem Mi{op:CmpOp}{r:R2}(ho:CO X (hZ op) r)(ha:PE X a ta)(hb:PE X b tb)(hm:behindInMarks op b=false):PT X (.Compare a [op] [b] pos) (ZS (ZK r ta tb)):=by
 intro pins s σ H Q I h
 refine wpAny_isTrue_Compare1 (Ao (ha pins s σ H _ I h) fun v s1 ⟨x,H1,I1,r1,q1⟩=>Ao (hb pins s1 σ H1 _ I1 q1) fun u s2 ⟨y,H2,I2,r2,q2⟩=>
  Ao (ho pins s2 σ H2 x y v u _ I2 r1 r2 q2) fun c s3 ⟨z,H3,I3,r3,k,e,q3⟩=>?_) hm
 subst e
 cases r3
 exact jh ⟨H3,I3,q3⟩
def WZ(r r':R2)(ta tb tc:TE):TE:=fun σ H Q=>ta σ H fun x H1=>tb σ H1 fun y H2=>r x y H2 fun z H3=>∃k,z=.bl k∧
 (if k=true then tc σ H3 fun w' H4=>r' y w' H4 Q else Q (.bl false) H3)
theorem PH{op op':CmpOp}{r r':R2}(ho:CO X (hZ op) r)(ho':CO X (hZ op') r')(ha:PE X a ta)(hb:PE X b tb)(hc:PE X c tc)
  (hm:lastMarks [op,op'] [b,c]=false:=by with_unfolding_all rfl):PE X (.Compare a [op,op'] [b,c] pos) (WZ r r' ta tb tc):=by
 intro pins s σ H Q I h
 refine Compare_chain (Ao (ha pins s σ H _ I h) fun v s1 ⟨x,H1,I1,r1,q1⟩=>chain_link (Ao (hb pins s1 σ H1 _ I1 q1) fun u s2 ⟨y,H2,I2,r2,q2⟩=>
  Ao (ho pins s2 σ H2 x y v u _ I2 r1 r2 q2) fun d s3 ⟨z,H3,I3,r3,k,e,q3⟩=>?_)) hm
 subst e
 cases r3
 refine jh ?_
 cases k with
 |false=>exact ite_ff ⟨.bl false,H3,I3,rfl,q3⟩
 |true=>exact ite_tt (chain_last (Ao (hc pins s3 σ H3 _ I3 q3) fun w' s4 ⟨z',H4,I4,r4,q4⟩=>ho' pins s4 σ H4 y z' u w' Q I4 r2 r4 q4))
def Wa(K:a8)(x:V)(H:Hp)(k:Bool):Prop:=
 match x with
 | .non=>k=false
 | .bl b=>k=b
 | .int i=>k=(i !=0)
 | .str y=>y.length≤sizeLine∧k=((y.length:Int) !=0)
 | .byt y=>y.size≤sizeLine∧k=((y.size:Int) !=0)
 | .ref p=> (∃xs,De K H p xs∧k=!xs.isEmpty)∨(∃xs,Cm K H p xs∧k=!xs.isEmpty)∨∃kvs,H p=some (.dK kvs)∧k=!kvs.isEmpty
 |_=>False
theorem LG{κ:Type}{kvs:List (κ×V)}{vs:List (κ×Value)}(r:KV kvs vs):(!vs.isEmpty)=!kvs.isEmpty:=by
 cases r<;>rfl
theorem FW{xs:List V}{its:List Value}(r:Vals xs its):(!its.toArray.isEmpty)=!xs.isEmpty:=by
 cases r<;>simp
theorem FX:(sizeLine:Nat)<2^63:=by rw[gM];decide
theorem Wb:cM X (fun x H Q=>∃k,Wa X.K x H k∧Q k H):=by
 intro pins s σ H x v Q I rx h
 obtain⟨k,e,q⟩:=h
 have hl:=FX
 have hs:sizeLine=16777216:=gM
 cases x with
 |non=>
  cases rx
  have e':k=false:=e
  subst e'
  exact truthy_none ⟨H,I,q⟩
 |bl b=>
  cases rx
  have e':k=b:=e
  subst e'
  exact jh ⟨H,I,q⟩
 |int i=>
  obtain⟨t,rfl⟩:=rx
  have e':k=(i !=0):=e
  subst e'
  exact PySem.P.truthy_int ⟨H,I,q⟩
 |str y=>
  obtain⟨t,rfl⟩:=rx
  obtain⟨hy,e'⟩:y.length≤sizeLine∧k=((y.length:Int) !=0):=e
  subst e'
  exact PySem.P.truthy_str (by omega) ⟨H,I.tok _,q⟩
 |byt y=>
  obtain⟨t,rfl⟩:=rx
  obtain⟨hy,e'⟩:y.size≤sizeLine∧k=((y.size:Int) !=0):=e
  subst e'
  exact PySem.W.truthy_bytes (by omega) ⟨H,I.tok _,q⟩
 |ref p=>
  cases rx
  have e':(∃xs,De X.K H p xs∧k=!xs.isEmpty)∨(∃xs,Cm X.K H p xs∧k=!xs.isEmpty)∨∃kvs,H p=some (.dK kvs)∧k=!kvs.isEmpty:=e
  rcases e' with⟨xs,hx,e'⟩| ⟨xs,hx,e'⟩| ⟨kvs,hx,e'⟩
  ·subst e'
   obtain⟨its,r,pl,hz⟩:=I.list hx
   have hlen:=r.length
   exact wpAny_truthy_list pl.isList (by simp only[fm];omega) ⟨H,I.tok _,by rw[FW r];exact q⟩
  ·subst e'
   obtain⟨its,r,pl,hz⟩:=I.tuple hx
   have hlen:=r.length
   exact truthy_tuple pl (by simp only[fm];omega) ⟨H,I.tok _,by rw[FW r];exact q⟩
  ·subst e'
   obtain⟨hz,hS,vs,r,m⟩:kvs.length≤sizeLine∧(p==sysModules)=false∧∃vs,KV kvs vs∧s.heap.DictOf (Hv X.prog X.w) p vs:=I.hok p _ hx
   have hlen:kvs.length=vs.length:=Paired.length r
   exact wpAny_truthy_dict hS m (by omega) ⟨H,I.tok _,by rw[LG r];exact q⟩
 |_=>exact(show False from e).elim
theorem PJ(ha:PE X a ta)(he:∀whole,isTrue a X.env whole=(do let v←whole;standAt a.pos;holding [v] (truthy v))):
  PT X a (fun σ H Q=>ta σ H fun x H'=>∃k,Wa X.K x H' k∧Q k H'):=by
 intro pins s σ H Q I h
 exact isTrue_plain (Ao (ha pins s σ H _ I h) fun v s1 ⟨x,H1,I1,r1,q1⟩=>Wb pins s1 σ H1 x v Q I1 r1 q1) (he _)
theorem DW{x:V}{us:List Value}(r:Vals [x] us):∃u,us=[u]∧RelV x u:=by
 cases r with
 |cons r1 r2=>cases r2;exact⟨_,rfl,r1⟩
theorem Mj{x y:V}{us:List Value}(r:Vals [x,y] us):∃u w',us=[u,w']∧RelV x u∧RelV y w':=by
 cases r with
 |cons r1 r2=>
  cases r2 with
  |cons r3 r4=>cases r4;exact⟨_,_,rfl,r1,r3⟩
theorem Nr(hc:X.calm=true):Au X (.builtin "max") (fun xs H Q=>∃i j,xs=[.int i,.int j]∧Q (.int (if j>i then j else i)) H):=by
 intro pins s σ H xs us Q I r h
 obtain⟨i,j,rfl,q⟩:=h
 obtain⟨u,w',rfl,⟨t,rfl⟩,⟨t',rfl⟩⟩:=Mj r
 refine max_two_ints (I.ok.hd hc) fun h' tk k=> ⟨_,H,I.kept k,?_,q⟩
 by_cases hj:j>i
 ·rw[if_pos hj,if_pos hj];exact⟨_,rfl⟩
 ·rw[if_neg hj,if_neg hj];exact⟨_,rfl⟩
theorem Nt(hc:X.calm=true):Au X (.builtin "min") (fun xs H Q=>∃i j,xs=[.int i,.int j]∧Q (.int (if j<i then j else i)) H):=by
 intro pins s σ H xs us Q I r h
 obtain⟨i,j,rfl,q⟩:=h
 obtain⟨u,w',rfl,⟨t,rfl⟩,⟨t',rfl⟩⟩:=Mj r
 refine min_two_ints (I.ok.hd hc) fun h' tk k=> ⟨_,H,I.kept k,?_,q⟩
 by_cases hj:j<i
 ·rw[if_pos hj,if_pos hj];exact⟨_,rfl⟩
 ·rw[if_neg hj,if_neg hj];exact⟨_,rfl⟩
theorem Nu:Au X (.type "int") (fun xs H Q=> (∃i,xs=[.int i]∧Q (.int i) H)∨∃k,xs=[.bl k]∧Q (.int (if k then 1 else 0)) H):=by
 intro pins s σ H xs us Q I r h
 rcases h with⟨i,rfl,q⟩| ⟨k,rfl,q⟩
 ·obtain⟨u,rfl,t,rfl⟩:=DW r
  exact call_int_int ⟨.int i,H,I,⟨_,rfl⟩,q⟩
 ·obtain⟨u,rfl,r1⟩:=DW r
  cases r1
  exact call_int_bool ⟨.int (if k then 1 else 0),H,I.tok _,⟨_,rfl⟩,q⟩
end
structure ObjM(h:Heap)(x dx C:Addr)(mA:Str→Option Value):Prop where
 obj:h.get? x=some (nW C dx)
 ns:h.Ns1 dx mA
 ne:dx≠x
theorem Nv{h:Heap}{dx:Addr}{mA:Str→Option Value}(n:h.Ns1 dx mA):∃od,h.get? dx=some od∧∀name,oi name od=some (mA name):=by
 obtain⟨o,es,ep,ho,hd,hk,_,hm⟩:=n
 refine⟨o,ho,fun name=>?_⟩
 have e:=hm name
 unfold nsFind findBy at e
 rw[←Array.find?_toList] at e
 unfold oi
 rw[hd]
 dsimp only
 split
 ·rename_i y q
  rw[q] at e
  exact congrArg some e
 ·rename_i q
  rw[q] at e
  have a:es.toList.any (·.refKey)=false:=by
   rw[List.any_eq_false]
   intro y hy
   obtain⟨z,t,hkey⟩:=hk y (Array.mem_toList_iff.mp hy)
   simp[DictEntry.refKey,hkey]
  have a':¬es.toList.any (·.refKey)=true:=by rw[a];exact e6
  rw[if_neg a']
  exact congrArg some e
theorem ObjM.look{h:Heap}{x dx C:Addr}{mA:Str→Option Value}(I:ObjM h x dx C mA):∃od,PySem.W.InstAt h x (nW C dx) C (some od)∧∀name,oi name od=some (mA name):=
 let⟨od,ho,hl⟩:=Nv I.ns
 ⟨od,⟨I.obj,rfl,rfl,ho⟩,hl⟩
section
variable{prog:Program}{w:World}{A:fG}{E:Value→a9→Prop}{s:a9}{K:a8}{x dx C f:Addr}{mA:Str→Option Value}{name:Str}{v:Value}
end
section
variable{P:Program}{w:World}{H H':Hp}{h h':Heap}{a C dx:Addr}{fs fs':List (Str×V)}
theorem SZ(hok:HOk P w H h)(e:H a=some (.ins C dx fs)):∃mA,ObjM h a dx C mA∧(∀f,SM (fs.lookup f) (mA f))∧ph mA (fs.map (·.1))∧fs.length≤1000∧H dx=some (.own a):=by
 obtain⟨d,z,ne,ob,mA,n,r,q⟩:=(show ObjOk P w H h a (.ins C dx fs) from hok a _ e)
 exact⟨mA,⟨ob,n,ne⟩,r,q,z,d⟩
end
structure Cls(K:a8)(C:Addr):Prop where
 pg:PySem.W.plainGet K C Str.empty=true
 hd:PySem.W.hasDictIn K C=true
 po:PySem.W.plainOver K C=true
 sa:lN K (.ref C) "__setattr__" =some (some (.builtin "object.__setattr__"))
theorem Cls.get{K:a8}{C:Addr}(c:Cls K C)(f:Str):PySem.W.plainGet K C f=true:=c.pg
section
variable{X:Cx}{pins:List (Addr×Obj)}{σ:St}{H:Hp}{s:a9}{a C dx:Addr}{fs:List (Str×V)}{f:Str}{v:V}{A:fG}{E:Value→a9→Prop}
end
section
variable{X:Cx}{o e value:Expr}{f:Str}{pos pos' tpos:Pos}{ta tv:TE}
end
section
variable{X:Cx}{pins:List (Addr×Obj)}{σ:St}{H:Hp}{s:a9}{A:fG}{E:Value→a9→Prop}{Q:Value→a9→Prop}{c:Value}{b:Bool}
inductive TyOf(K:a8)(H:Hp):V→Value→Prop where
 |non:TyOf K H .non (.type "NoneType")
 |bl (x:Bool):TyOf K H (.bl x) (.type "bool")
 |int (i:Int):TyOf K H (.int i) (.type "int")
 |str (x:Str):TyOf K H (.str x) (.type "str")
 |flt (x:UInt64):TyOf K H (.flt x) (.type "float")
 |lst {a:Addr} {xs:List V} (e:H a=some (.lst xs)):TyOf K H (.ref a) (.type "list")
 |frz {a:Addr} {o:Obj} {xs:List V} (e:H a=some (.frz o (.lst xs))):TyOf K H (.ref a) (.type "list")
 |tup {a:Addr} {xs:List V} (e:H a=some (.tup xs)):TyOf K H (.ref a) (.type "tuple")
 |dK {a:Addr} {kvs:List (JT×V)} (e:H a=some (.dK kvs)):TyOf K H (.ref a) (.type "dict")
 |dT {a:Addr} {kvs:List (List JT×V)} (e:H a=some (.dT kvs)):TyOf K H (.ref a) (.type "dict")
 |ins {a C dx:Addr} {fs:List (Str×V)} (e:H a=some (.ins C dx fs)) (cl:Cls K C) (ha:lN K (.ref C) "__class__" =some (some (.builtin "object.__class__")))
   (hn:PySem.W.specialIn K (.builtin "object.__class__") "__get__" =some (some (.builtin "getset_descriptor.__get__"))) (htk:PySem.W.takesIn K (.builtin "object.__class__")=some true)
   (hm:ny K C (.type "object")=some true):TyOf K H (.ref a) (.ref C)
theorem Nw{x:V}{u t:Value}(I:Inv X pins σ H s)(rx:RelV x u)(ty:TyOf X.K H x t)(e:fP X.K t c=some b)(h:∀tk,Q (.bool b) {s with toks:=tk}):
  wpAny (model X.prog X.w) A (call (.builtin "isinstance") [u,c]) Q E s:=by
 cases ty with
 |non=>cases(show u=jF from rx);exact iI PySem.W.kitx_none I.kIn nN e (fun z=>nomatch z) h
 |bl y=>cases(show u=lW y from rx);exact iI PySem.W.kitx_bool I.kIn nN e (fun z=>nomatch z) h
 |int i=>obtain⟨t,q⟩:=(show∃t,u=nG i t from rx);cases q;exact iI PySem.W.kitx_int I.kIn nN e (fun z=>nomatch z) h
 |str y=>obtain⟨t,q⟩:=(show∃t,u=pE y t from rx);cases q;exact iI PySem.W.kitx_str I.kIn nN e (fun z=>nomatch z) h
 |flt y=>obtain⟨t,q⟩:=(show∃t,u=Value.float y t from rx);cases q;exact iI PySem.W.kitx_float I.kIn nN e (fun z=>nomatch z) h
 | @lst a xs ea=>
  cases(show u=Value.ref a from rx)
  obtain⟨_,_,n,_,h1⟩:=(show ObjOk X.prog X.w H s.heap a (.lst xs) from I.hok a _ ea)
  exact iI PySem.W.kitx_list I.kIn ⟨_,h1,rfl⟩ e (fun z=>nomatch z) h
 | @frz a ob xs ea=>
  cases(show u=Value.ref a from rx)
  obtain⟨_,_,_,n,_,h1⟩:=(show ObjOk X.prog X.w H s.heap a (.frz ob (.lst xs)) from I.hok a _ ea)
  exact iI PySem.W.kitx_list I.kIn ⟨_,h1,rfl⟩ e (fun z=>nomatch z) h
 | @tup a xs ea=>
  cases(show u=Value.ref a from rx)
  obtain⟨_,_,_,p⟩:=(show ObjOk X.prog X.w H s.heap a (.tup xs) from I.hok a _ ea)
  obtain⟨o,h1,h2,_⟩:=p
  exact iI PySem.W.kitx_tuple I.kIn ⟨o,h1,h2⟩ e (fun z=>nomatch z) h
 | @dK a kvs ea=>
  cases(show u=Value.ref a from rx)
  obtain⟨_,_,vs,_,p⟩:=(show ObjOk X.prog X.w H s.heap a (.dK kvs) from I.hok a _ ea)
  obtain⟨o,es,ep,h1,h2,_⟩:=p
  exact iI PySem.W.kitx_dict I.kIn ⟨o,h1,h2.1⟩ e (fun z=>nomatch z) h
 | @dT a kvs ea=>
  cases(show u=Value.ref a from rx)
  obtain⟨_,_,xs,_,o,es,ep,h1,h2,_⟩:=(show ObjOk X.prog X.w H s.heap a (.dT kvs) from I.hok a _ ea)
  exact iI PySem.W.kitx_dict I.kIn ⟨o,h1,h2.1⟩ e (fun z=>nomatch z) h
 | @ins a C dx fs ea cl ha hn htk hm=>
  cases(show u=Value.ref a from rx)
  obtain⟨mA,O,_⟩:=SZ I.hok ea
  obtain⟨od,J,_⟩:=O.look
  exact iI (PySem.W.kitx_own (cl.get _) cl.hd ha hn htk hm) I.kIn J e (fun z=>nomatch z) h
end
structure Room(k:Nat)(A:fG):Prop where
 hd:A.handled=none
 dp:A.depth+3*k+5<recursionLimit
 un:A.units+16*k+200<cLine
 gd:A.guards=some []
theorem Room.mono{j k:Nat}{A:fG}(r:Room k A)(h:j≤k):Room j A:=⟨r.hd,by have:=r.dp;omega,by have:=r.un;omega,r.gd⟩
theorem Room.deeper{k:Nat}{A:fG}(r:Room (k+1) A)(env:Env):Room k (A.deeper env):=
 ⟨r.hd,by have:=r.dp;show A.depth+1+3*k+5<_;omega,by have:=r.un;show A.units+3+16*k+200<_;omega,r.gd⟩
theorem Room.depth{k:Nat}{A:fG}(r:Room k A):A.depth<recursionLimit:=by have:=r.dp;omega
def cO:TA:=fun _ H Q=>Q [] H
def ZT(ta:TE)(tr:TA):TA:=fun σ H Q=>ta σ H fun x H1=>tr σ H1 fun xs H2=>Q (x::xs) H2
section
variable{X:Cx}{e:Expr}{es:List Expr}{te:TE}{t:TA}{pos:Pos}
theorem IB:PA X [] cO:=fun _ _ _ _ H Q I h=>Calls.spliced_nil ⟨[],H,I,.nil,h⟩
theorem FE(ha:PE X e te)(hr:PA X es t)(hs:e9 (e::es) X.env=(false,eval e X.env)::e9 es X.env:=by rfl):PA X (e::es) (ZT te t):=by
 intro pos pins s σ H Q I h
 rw[hs]
 show wpAny _ _ (spliced ((false,eval e X.env)::jD pos (e9 es X.env))) _ _ s
 refine Calls.spliced_cons (Ao (ha pins s σ H _ I h) fun u s1 ⟨x,H1,I1,r1,q1⟩=>?_)
 exact Ao (hr pos pins s1 σ H1 _ I1 q1) fun us s2 ⟨xs,H2,I2,r2,q2⟩=> ⟨x::xs,H2,I2,.cons r1 r2,q2⟩
def cP(t:TA):TE:=fun σ H Q=>t σ H fun xs H1=>xs.length≤sizeLine∧∀p,H1 p=none→Q (.ref p) (upd H1 p (.tup xs))
def cQ(t:TA):TE:=fun σ H Q=>t σ H fun xs H1=>xs.length≤sizeLine∧∀p,H1 p=none→Q (.ref p) (upd H1 p (.lst xs))
theorem Wc{x1}(h:PA X es t):PE X (.Tuple es x1 pos) (cP t):=by
 intro pins s σ H Q I hq
 refine wpAny_Tuple_spliced (Ao (h pos pins s σ H _ I hq) fun us s1 ⟨xs,H1,I1,r,z,q⟩=> ⟨by rw[←r.length];exact z,?_⟩)
 have hf:H1 s1.heap.objs.size=none:=I1.hok.fresh (fj _)
 refine⟨.ref s1.heap.objs.size,upd H1 s1.heap.objs.size (.tup xs),I1.laid (t':=s1.toks) (fun b u e=>c9 _ e) (fj _) ?_,rfl,q _ hf⟩
 exact⟨z,us,r,⟨_,fK _ rfl,rfl,_,rfl⟩⟩
theorem PK(h:PA X es t):PE X (.List es pos) (cQ t):=by
 intro pins s σ H Q I hq
 refine wpAny_List_spliced (Ao (h pos pins s σ H _ I hq) fun us s1 ⟨xs,H1,I1,r,z,q⟩=> ⟨by rw[←r.length];exact z,?_⟩)
 have hf:H1 s1.heap.objs.size=none:=I1.hok.fresh (fj _)
 refine⟨.ref s1.heap.objs.size,upd H1 s1.heap.objs.size (.lst xs),I1.laid (t':=s1.toks) (fun b u e=>c9 _ e) (fj _) ?_,rfl,q _ hf⟩
 exact⟨z,us,0,r,fK _ rfl⟩
end
abbrev Sp:=List V→Hp→VK→XK→Prop
abbrev PL:=List Env→Hp→a9→XK→Value→a9→Prop
structure Env0(P:Program)(w:World)(K:a8)(mg:Str→Option Value)(base:Heap)(A:fG)(outer:List Env)(s:a9)(H:Hp):Prop where
 frames:A.frames=some outer
 mod:Mod K mg base
 bs:∀b o,base.get? b=some o→s.heap.get? b=some o∧H b=none
 bsz:base.objs.size≤s.heap.objs.size
 funs:s.heap.FunFrames base outer
 frf:∀b∈Gq outer,H b=none
 hok:HOk P w H s.heap
 bare:mD s.gens
def CE(outer:List Env)(P:Program)(w:World)(H:Hp)(s:a9)(Q:VK)(u:Value)(s':a9):Prop:=
 ∃v H',s'.os=s.os∧mD s'.gens∧Un (Gq outer) [] H H' s.heap s'.heap∧HOk P w H' s'.heap∧RelV v u∧Q v H'
def CR(CX:PL)(outer:List Env)(P:Program)(w:World)(H:Hp)(s:a9)(Q:VK)(E:XK)(r:pF)(s':a9):Prop:=
 match r with
 | .ok (.ret u)=>CE outer P w H s Q u s'
 | .ok _=>False
 | .error e=>CX outer H s E e s'
structure FnOk(P:Program)(w:World)(K:a8)(mg:Str→Option Value)(base:Heap)(CX:PL)(k:Nat)(f:Addr)(fd:fF)(ps:List Str)(sp:Sp):Prop where
 len:∀vs H Q E,sp vs H Q E→vs.length=ps.length
 run:∀(A:fG) (outer:List Env) (s:a9) (H:Hp) (args:Args) (us:List Value) (vs:List V) (Q:VK) (E:XK),Room k A→Env0 P w K mg base A outer s H→pD s fd args (ps.zip us)→Vals vs us→sp vs H Q E→
  kW (model P w) A (.call (.ref f) args) (CR CX outer P w H s Q E) s
theorem FnOk.mono{P:Program}{w:World}{K:a8}{mg:Str→Option Value}{base:Heap}{CX:PL}{j k:Nat}{f:Addr}{fd:fF}{ps:List Str}{sp:Sp}(F:FnOk P w K mg base CX j f fd ps sp)(h:j≤k):
  FnOk P w K mg base CX k f fd ps sp:=⟨F.len,fun A outer s H args us vs Q E hr=>F.run A outer s H args us vs Q E (hr.mono h)⟩
section
variable{X:Cx}{pins:List (Addr×Obj)}{σ:St}{H:Hp}{s s':a9}
theorem Inv.env0(I:Inv X pins σ H s):Env0 X.prog X.w X.K X.mg X.base X.A X.stack s H:=
 ⟨I.ok.frames,I.ok.mod,I.bs,gL I.ok.bsz I.sz,I.stack,I.stkFree,I.hok,I.bare⟩
theorem Inv.after{Q:VK}{u:Value}(I:Inv X pins σ H s)(h:CE X.stack X.prog X.w H s Q u s'):EP X pins σ Q u s':=by
 obtain⟨v,H',os,bare,un,hok,r,q⟩:=h
 obtain⟨hh,g,d,t,os'⟩:=s'
 obtain rfl:os'=s.os:=os
 exact⟨v,H',I.call (h':=hh) (g':=g) (d':=d) (t':=t) (ch:=[]) un hok bare (fun b z=>absurd z (by simp)),r,q⟩
end
def Binds(K:a8)(fd:fF)(ps:List Str)(ds:List Value):Prop:=
 ∀(s:a9) (us:List Value),K.In s.heap→(us++ds).length=ps.length→pD s fd ⟨us,[]⟩ (ps.zip (us++ds))
theorem Binds.all{K:a8}{fd:fF}{ps:List Str}(h:∀us:List Value,us.length=ps.length→bindArgs fd ⟨us,[]⟩=pure (ps.zip us)):Binds K fd ps []:=fun s us _ hl=>by
 rw[jo] at hl ⊢
 exact .of_eq (h us hl)
section
variable{X:Cx}{CX:PL}{k:Nat}{f C:Addr}{fd:fF}{ps:List Str}{sp:Sp}{dvs:List V}{ds:List Value}{E:XK}{x m:Str}{p pos apos:Pos}{e o:Expr}{es:List Expr}{ta:TE}{t:TA}
end
section
variable{X:Cx}{CX:PL}{k:Nat}{f C:Addr}{fd:fF}{ps ks:List Str}{sp:Sp}{E:XK}{x m:Str}{p pos apos kpos:Pos}{e o:Expr}{es:List Expr}{kws:List ng}{te ta:TE}{t tk:TA}{nm:Option Str}
variable{g:List Value→List Value→List Value}{gV:List V→List V→List V}
end
structure FnScope(N P:List Str)(sc:Scope):Prop where
 kind:sc.kind=.function
 co:sc.isCoroutine=false
 gen:sc.isGenerator=false
 nd:N.Nodup
 pre:N.take P.length=P
 par:∀x∈P,sc.names.lookup x=some .local∨sc.names.lookup x=some .cell
 nofree:∀y∈sc.names,y.2≠.free
theorem HC{kindOf:Str→Option NameKind}{x:Str}:∀{binds:List (Str×Value)} {m:Str→Option Value},(∀v,(x,v)∉binds)→bindL kindOf binds m x=m x
 | [],_,_=>rfl
 | (n,v)::r,m,h=>by
  unfold bindL
  rw[HC fun w hw=>h w (fv _ hw)]
  split
  ·have:x≠n:=by rintro rfl;exact h v fQ
   simp[this]
  ·rfl
theorem HD{kindOf:Str→Option NameKind}{x:Str}:∀{binds:List (Str×Value)} {m:Str→Option Value},(∀v,(x,v)∉binds)→bindC kindOf binds m x=m x
 | [],_,_=>rfl
 | (n,v)::r,m,h=>by
  unfold bindC
  rw[HD fun w hw=>h w (fv _ hw)]
  split
  ·rfl
  ·have:x≠n:=by rintro rfl;exact h v fQ
   simp[this]
theorem HE{kindOf:Str→Option NameKind}{x:Str}{v:Value}:∀{P:List Str} {vs:List Value} {i:Nat} {m:Str→Option Value},P.Nodup→P[i]?=some x→vs[i]?=some v→kindOf x=some .local→
  bindL kindOf (P.zip vs) m x=some v
 | [],_,_,_,_,h,_,_=>by simp at h
 |_::_,[],_,_,_,_,h,_=>by simp at h
 |p::P,w::vs,0,m,nd,h1,h2,hk=>by
  simp at h1 h2;subst h1;subst h2
  show bindL kindOf ((p,w)::P.zip vs) m p=_
  unfold bindL
  rw[HC fun v hv=> (fH.mp nd).1 (nY hv).1,if_pos hk]
  simp
 |p::P,w::vs,i+1,m,nd,h1,h2,hk=>by
  show bindL kindOf ((p,w)::P.zip vs) m x=_
  unfold bindL
  exact HE (i:=i) (fH.mp nd).2 (by simpa using h1) (by simpa using h2) hk
theorem HF{kindOf:Str→Option NameKind}{x:Str}{v:Value}:∀{P:List Str} {vs:List Value} {i:Nat} {m:Str→Option Value},P.Nodup→P[i]?=some x→vs[i]?=some v→kindOf x≠some .local→
  bindC kindOf (P.zip vs) m x=some v
 | [],_,_,_,_,h,_,_=>by simp at h
 |_::_,[],_,_,_,_,h,_=>by simp at h
 |p::P,w::vs,0,m,nd,h1,h2,hk=>by
  simp at h1 h2;subst h1;subst h2
  show bindC kindOf ((p,w)::P.zip vs) m p=_
  unfold bindC
  rw[HD fun v hv=> (fH.mp nd).1 (nY hv).1,if_neg hk]
  simp
 |p::P,w::vs,i+1,m,nd,h1,h2,hk=>by
  show bindC kindOf ((p,w)::P.zip vs) m x=_
  unfold bindC
  exact HF (i:=i) (fH.mp nd).2 (by simpa using h1) (by simpa using h2) hk
def start(N:List Str)(vs:List V):St:=vs.map some++iA (N.length-vs.length) none
def Bo(CX:PL)(P:Program)(w:World)(K:a8)(mg:Str→Option Value)(base:Heap)(N:List Str)(qual:Str)(scope:Scope)(f:Addr)(cd:Value)(A:fG)(outer:List Env)(s:a9)(H:Hp)(E:XK):Cx where
 prog:=P
 w:=w
 K:=K
 mg:=mg
 base:=base
 A:=A.deeper (kQ qual scope s.heap.objs.size f cd)
 N:=N
 s₀:=s
 H₀:=H
 env:=kQ qual scope s.heap.objs.size f cd
 outer:=outer
 stack:=kQ qual scope s.heap.objs.size f cd::outer
 ex:=[]
 calm:=true
 fn:=fun _=>true
 pn:=[]
 xe:=fun e s'=>wpAny (model P w) (A.deeper (kQ qual scope s.heap.objs.size f cd)) (leaving (kQ qual scope s.heap.objs.size f cd) e) (fun _ s''=>CX outer H s E e s'') (fun e' s''=>CX outer H s E e' s'') s'
theorem Jb{sc:Scope}{n:Nat}{x:Str}(h:sc.names.lookup x=some .cell):∃c,(i9 n sc.names []).lookup x=some c:=by
 have q:=PySem.W.cellsFrom_some sc.names n [] (.inl h)
 exact Option.isSome_iff_exists.mp q
theorem Ny{CX:PL}{P:Program}{w:World}{K:a8}{mg:Str→Option Value}{base:Heap}{N ps:List Str}{qual:Str}{scope:Scope}{f:Addr}{cd:Value}{A:fG}{outer:List Env}{s s1:a9}{H:Hp}{E:XK}{us:List Value}{vs:List V}
  (S:FnScope N ps scope) (hd:A.handled=none) (e0:Env0 P w K mg base A outer s H) (hl:vs.length=ps.length) (r:Vals vs us)
  (x:InCallC s s.heap.objs.size (bindL (kQ qual scope s.heap.objs.size f cd).kindOf (ps.zip us) fun _=>none) (i9 (s.heap.objs.size+1) scope.names []) (bindC (kQ qual scope s.heap.objs.size f cd).kindOf (ps.zip us) fun _=>none) s1):
  Inv (Bo CX P w K mg base N qual scope f cd A outer s H E) [] (start N vs) H s1:=by
 have hpl:ps.length≤N.length:=by have:=congrArg List.length S.pre;rw[gD] at this;omega
 obtain⟨h1,tk,rfl,hk⟩:=x.done
 have noA:∀b:Addr,b∉(Bo CX P w K mg base N qual scope f cd A outer s H E).ex:=fun b z=>absurd (show b∈([]:List Addr) from z) (by simp)
 refine⟨⟨e0.mod,S.kind,rfl,rfl,fj _,fun y z c h1 h2=>?_,fun y hy=>?_,fun y c _ h=>?_,fun _=>hd,fG.frames_deeper e0.frames,.inr ⟨rfl,rfl⟩,fun b z=>absurd z (noA b),e0.bs,e0.bsz,fun b _ _=>noA b,fun b z=>absurd z (noA b),e0.funs,e0.frf⟩,
  rfl,e0.bare,Un.kept hk,⟨_,x.toInCall.ns,fun i y v h1 h2 h3=>?_⟩,fun y c h=> ⟨_,x.cell y c h⟩,e0.hok.fresh (fj _),fun y c h=>?_,fun p hp=>absurd (show p∈([]:List (Addr×Obj)) from hp) (by simp),e0.hok.kept hk,?_⟩
 ·exact name_of_addr x.apart (kg h1) (kg h2)
 ·have hy:scope.names.lookup y=some .cell∨scope.names.lookup y=some .free:=hy
  rcases hy with hy|hy
  ·exact Jb hy
  ·exact absurd rfl (S.nofree _ (kg hy))
 ·exact lP (x.above y c (kg h))
 ·have hi:i<vs.length:=by
   unfold start at h2
   by_cases hi:i<vs.length
   ·exact hi
   ·rw[fR (by simpa using hi)] at h2
    rw[jg] at h2
    split at h2<;>cases h2
  have ha:vs[i]?=some v:=by
   unfold start at h2
   rw[gz (by simpa using hi),fc] at h2
   cases e:vs[i]? with
   |none=>rw[e] at h2;cases h2
   |some a=>rw[e] at h2;cases h2;rfl
  obtain⟨u,hu,rv⟩:=r.get ha
  have hp:ps[i]?=some y:=by
   rw[←S.pre,j9 (by omega)];exact h1
  have ndP:ps.Nodup:=by rw[←S.pre];exact S.nd.sublist (List.take_sublist _ _)
  refine⟨u,rv,?_⟩
  rcases S.par y (fk hp) with k|k
  ·exact .inl ⟨k,HE ndP hp hu k⟩
  ·obtain⟨c,e⟩:=Jb (n:=s.heap.objs.size+1) k
   refine .inr ⟨.inl k,c,e,?_⟩
   have q:=x.cell y c e
   rw[HF ndP hp hu (by show scope.names.lookup y≠_;rw[k];decide)] at q
   exact q
 ·exact e0.hok.fresh (lP (x.above y c (kg h)))
 ·unfold start
  show _=N.length
  rw[fE,e8,jt]
  omega
theorem ZU{CX:PL}{P:Program}{w:World}{K:a8}{mg:Str→Option Value}{base:Heap}{k:Nat}{f:Addr}{name qual:Str}{params:Arguments}{body:List Stmt}{scope:Scope}{dV kV doc pm cdv ct oc:Value}{an od:Option Addr}
  {osl:Array (Option Value)} {N ps:List Str} {sp:Sp} (lk:K.lookup f=some ⟨oc,od,.func (kX name qual params body scope dV kV doc pm an cdv ct),osl⟩) (hcd:oj K cdv qual=true) (S:FnScope N ps scope)
  (len:∀vs H Q E,sp vs H Q E→vs.length=ps.length)
  (hbody:∀(A:fG) (outer:List Env) (s:a9) (H:Hp) (vs:List V) (Q:VK) (E:XK),Room k (A.deeper (kQ qual scope s.heap.objs.size f cdv))→sp vs H Q E→
   ∃t,PSs (Bo CX P w K mg base N qual scope f cdv A outer s H E) body t∧t {nx:=fun _ H'=>Q .non H',rt:=Q} (start N vs) H):
  FnOk P w K mg base CX (k+1) f (kX name qual params body scope dV kV doc pm an cdv ct) ps sp:=by
 refine⟨len,fun A outer s H args us vs Q E hr e0 hb r hsp=>?_⟩
 have hl:=len _ _ _ _ hsp
 have KX:K.In s.heap:=e0.mod.kin.keeps fun b o e=> (e0.bs b o e).1
 have lim:s.heap.NoLimit:=e0.mod.nolimit.keeps fun b o e=> (e0.bs b o e).1
 have hkind:∀y∈ps.zip us,scope.names.lookup y.1=some .local∨(scope.names.lookup y.1=some .cell∧((i9 (s.heap.objs.size+1) scope.names []).lookup y.1).isSome=true):=fun⟨n,v⟩ hy=>by
  rcases S.par n (nY hy).1 with q|q
  ·exact .inl q
  ·exact .inr ⟨q,PySem.W.cellsFrom_some _ _ _ (.inl q)⟩
 refine codeAny_call_function hr.depth (KX _ _ lk) rfl S.co S.gen rfl (PySem.W.codeRec_of KX hcd) (hb _ _ _ _ ?_)
 refine wpAny_newFunctionEnv_cells S.kind hkind fun env he s1 x=>?_
 subst he
 refine⟨lim.keeps x.toInCall.keep,codeAny_func ?_⟩
 obtain⟨t,ht,hq⟩:=hbody A outer s H vs Q E (hr.deeper _) hsp
 have I:Inv (Bo CX P w K mg base N qual scope f cdv A outer s H E) [] (start N vs) H s1:=Ny S hr.hd e0 hl r x
 refine jM (ht [] s1 (start N vs) H _ I hq) (fun fl s' hs=>?_) fun e s' hs=>hs
 have fin:∀{σ':St} {H':Hp} {v:V} {u:Value},Inv (Bo CX P w K mg base N qual scope f cdv A outer s H E) [] σ' H' s'→RelV v u→Q v H'→CE outer P w H s Q u s':=
  fun{σ' H' v u} J rv q=> ⟨v,H',J.os,J.bare,J.base,J.hok,rv,q⟩
 cases fl with
 |ret u=>
  obtain⟨v,σ',H',J,rv,q⟩:=hs
  exact fin J rv q
 |next=>
  obtain⟨σ',H',J,q⟩:=hs
  exact fin (v:=V.non) (u:=jF) J rfl q
 |brk=>
  obtain⟨_,_,_,q⟩:=hs
  exact kc q
 |cont=>
  obtain⟨_,_,_,q⟩:=hs
  exact kc q
section
variable{X:Cx}{x:Str}{p pos:Pos}{e:Expr}{es:List Expr}{t:TA}{id T:String}{r:List V→Hp→VK→Prop}
def dO(r:List V→Hp→VK→Prop)(t:TA):TE:=fun σ H Q=>t σ H fun vs H1=>r vs H1 Q
theorem FY(hc:Au X (.builtin id) r)(hg:Gl X x)(hm:X.mg x=none)(hv:gk x=some (.builtin id))(ha:PA X (e::es) t)(hn:x≠"__name__":=by decide)(hdb:(x==("__debug__" :Str))=false:=by decide)
  (he:e9 (e::es) X.env=(false,eval e X.env)::e9 es X.env:=by rfl) (hpl:(jD pos (e9 es X.env)).any (·.1)=false:=by rfl):PE X (.Call (.Name x p) (e::es) [] pos) (dO r t):=by
 intro pins s σ H Q I h
 refine lE (Dd I hg hm hv ?_ hn hdb)
 exact PyProof.Rows.callWith_builtin1 (Ao (ha pos pins s σ H _ I h) fun us s1 ⟨vs,H1,I1,r1,q1⟩=>hc pins s1 σ H1 vs us Q I1 r1 q1) he hpl
theorem DH(hc:Au X (.type T) r)(hg:Gl X x)(hm:X.mg x=none)(hv:gk x=some (.type T))(ha:PA X (e::es) t)(hn:x≠"__name__":=by decide)(hdb:(x==("__debug__" :Str))=false:=by decide)
  (he:e9 (e::es) X.env=(false,eval e X.env)::e9 es X.env:=by rfl) (hpl:(jD pos (e9 es X.env)).any (·.1)=false:=by rfl):PE X (.Call (.Name x p) (e::es) [] pos) (dO r t):=by
 intro pins s σ H Q I h
 refine lE (Dd I hg hm hv ?_ hn hdb)
 exact jJ (Ao (ha pos pins s σ H _ I h) fun us s1 ⟨vs,H1,I1,r1,q1⟩=>hc pins s1 σ H1 vs us Q I1 r1 q1) he hpl
end
end L2
namespace HT
open PySem PyProof.Rows
def Am:List Int→List Int→Bool
 | [],[]=>false
 | [],_::_=>true
 |_::_,[]=>false
 |x::xs,y::ys=>if x=y then Am xs ys else decide (x<y)
theorem LH(x y:Int)(xs ys:List Int):Am (x::xs) (y::ys)=if x=y then Am xs ys else decide (x<y):=rfl
theorem Bp:Am [] []=false:=rfl
theorem Cq(y:Int)(ys:List Int):Am [] (y::ys)=true:=rfl
theorem Cr(x:Int)(xs:List Int):Am (x::xs) []=false:=rfl
theorem PM(A:fG)(s:a9)(a:Int)(t:Tok)(c:Int)(u:Tok):∃e,il A s (.int a t) (.int c u) e∧(e=true↔a=c):=
 ⟨(a==c),il.int_int a t c u,by simp⟩
theorem PN(A:fG)(s:a9)(a:Int)(t:Tok)(c:Int)(u:Tok)(prog:Program)(w:World)(E:Value→a9→Prop)(Q:Value→a9→Prop)(h:Q (.bool (decide (a<c))) s):
  wpAny (model prog w) A (richCompare .Lt (.int a t) (.int c u)) Q E s:=
 (PyProof.Rows.lt_int h:wpAny (model prog w) A (hZ .Lt (.int a t) (.int c u)) Q E s)
section
open PySem.SeqAt
open PySem.AutoSeq1 (wpAny_loadPart')
open PySem.MeetsSeq PySem.MeetsSeq2 PySem.MeetsSeq3
theorem DX(l b:Addr)(items items2:Array Value)(n n2:Nat)(dd dd2:Option Addr)(sl sl2:Array (Option Value))(ns ms:List Int)(hi:jT items.toList ns)(hj:jT items2.toList ms):
  Meets (Builtin.«tuple.__lt__» ⟨[.ref l,.ref b],[]⟩)
   (fun _ R s=>s.heap.get? l=some {cls:=.type "tuple",dict:=dd,data:=.seq items n,slots:=sl}∧s.heap.get? b=some {cls:=.type "tuple",dict:=dd2,data:=.seq items2 n2,slots:=sl2}∧
    R (.ok (.ret (.bool (Am ns ms)))) s):=
 .of_wp fun prog w A R s h=>by
  obtain⟨hp,g,d,tk,os⟩:=s;obtain⟨hl,hb,h⟩:=h
  have f2:=AutoSeq1.sub_tuple_tuple
  have z1:items.size=ns.length:=by rw[←hi.length];simp
  have z2:items2.size=ms.length:=by rw[←hj.length];simp
  wp_walk using mi hl,mi hb,lU _ (fun rest b s'=>b.1=none∧s'=⟨hp,g,d,tk,os⟩∧∃(vs ws:List Value) (ns' ms':List Int),rest=vs.zip ws∧
   jT vs ns'∧jT ws ms'∧ns'.length+items2.size=ms'.length+items.size∧R (.ok (.ret (.bool (Am ns' ms')))) ⟨hp,g,d,tk,os⟩) _
  case turn=>
   rintro⟨y,x⟩ rest b s' ⟨hb',rfl,vs,ws,ns',ms',hz,hvi,hwi,hlen,hR⟩
   cases hvi with
   |nil=>rw[List.zip_nil_left] at hz;cases hz
   |cons a t hvi'=>
    cases hwi with
    |nil=>rw[List.zip_nil_right] at hz;cases hz
    |cons c u hwi'=>
     rw[mQ] at hz
     injection hz with hyx hrest
     injection hyx with hy hx
     subst hy hx
     rw[LH] at hR
     simp only[fu] at hlen
     obtain⟨e,he,hiff⟩:=PM A.in1 ⟨hp,g,d,tk,os⟩ a t c u
     refine a7 (he prog w _ _ ?_)
     cases e with
     |true=>
      rw[if_pos (hiff.mp rfl)] at hR
      wp_walk
      exact⟨rfl,rfl,_,_,_,_,hrest,hvi',hwi',by omega,hR⟩
     |false=>
      rw[if_neg (fun q=>absurd (hiff.mpr q) e6)] at hR
      have hri:=PN A.in1 ⟨hp,g,d,tk,os⟩ a t c u prog w
      wp_walk using hri
      exact⟨_,rfl,by simpa using hR⟩
  case fin=>
   rintro⟨b1,b2⟩ s' ⟨hb',rfl,vs,ws,ns',ms',hz,hvi,hwi,hlen,hR⟩
   simp only at hb'
   subst hb'
   have hv:Am ns' ms'=decide (items.size<items2.size):=by
    cases hvi with
    |nil=>
     cases hwi with
     |nil=>
      simp only[iQ] at hlen
      rw[Bp]
      exact(decide_eq_false (by omega)).symm
     |cons c u hw=>
      simp only[iQ,fu] at hlen
      rw[Cq]
      exact(decide_eq_true (by omega)).symm
    |cons a t hv=>
     cases hwi with
     |nil=>
      simp only[iQ,fu] at hlen
      rw[Cr]
      exact(decide_eq_false (by omega)).symm
     |cons c u hw=>
      rw[mQ] at hz
      cases hz
   rw[hv] at hR
   wp_walk
   exact⟨_,rfl,by simpa[Builtin.Tuple.tupleCompareSizes] using hR⟩
  case h=>
   exact⟨rfl,rfl,items.toList,items2.toList,ns,ms,rfl,hi,hj,by omega,h⟩
end
section
variable{prog:Program}{w:World}{A:fG}{E:Value→a9→Prop}{s:a9}
theorem LI{l b:Addr}{items items2:Array Value}{ns ms:List Int}{Q:Value→a9→Prop}(hl:IsTup s.heap l items)(hb:IsTup s.heap b items2)(hi:jT items.toList ns)(hj:jT items2.toList ms)
  (hu:A.units<cLine) (h:Q (.bool (Am ns ms)) s):wpAny (model prog w) A (hZ .Lt (.ref l) (.ref b)) Q E s:=by
 obtain⟨⟨cls,dd,data,sl⟩,ho,hc,n,hd⟩:=id hl
 obtain⟨⟨cls2,dd2,data2,sl2⟩,ho2,hc2,n2,hd2⟩:=id hb
 simp only at hc hd hc2 hd2
 subst hc hd hc2 hd2
 exact richCompare_meets_room (op:=.Lt) ⟨_,ho,rfl⟩ ⟨_,ho2,rfl⟩ lT PySem.F.entry_tuple_lt (PySem.F.args_tuple_lt_2 _ _) (DX l b items items2 n n2 dd dd2 sl sl2 ns ms hi hj)
  ⟨ho,ho2,show lW (Am ns ms)≠Value.notImplemented∧Q (.bool (Am ns ms)) s from⟨(fun x=>nomatch x),h⟩⟩ hu
theorem Sa{t b:Addr}{vs ws:List Value}{Q:Value→a9→Prop}(ht:IsTup s.heap t vs.toArray)(hb:IsTup s.heap b ws.toArray)(hv:vs≠[])
  (h1:ws=[]→Q (.ref t) s) (h2:ws≠[]→Q (.ref s.heap.objs.size) {s with heap:=s.heap.push {cls:=.type "tuple",data:=.seq (vs++ws).toArray}})
  (hsz:vs.length+ws.length≤sizeLine):wpAny (model prog w) A (kl .Add (.ref t) (.ref b)) Q E s:=by
 obtain⟨⟨cls,dd,data,sl⟩,ho,hc,n,hd⟩:=id ht
 obtain⟨⟨cls2,dd2,data2,sl2⟩,ho2,hc2,n2,hd2⟩:=id hb
 simp only at hc hd hc2 hd2
 subst hc hd hc2 hd2
 have e:vs.toArray++ws.toArray=(vs++ws).toArray:=by simp
 by_cases hw:ws=[]
 ·exact o8 ⟨_,ho,rfl⟩ ⟨_,ho2,rfl⟩ nE oJ lO lJ (lu _ _)
   (tuple_addW1 t b vs.toArray ws.toArray n n2 dd dd2 sl sl2 (by simpa using hv) (by simp[hw])) ⟨ho,ho2,h1 hw⟩
 ·refine o8 ⟨_,ho,rfl⟩ ⟨_,ho2,rfl⟩ nE oJ lO lJ (lu _ _)
   (tuple_addW2 t b vs.toArray ws.toArray n n2 dd dd2 sl sl2 (by simpa using hv) (by simpa using hw) (by rw[fm,fm];exact hsz)) ⟨ho,ho2,?_⟩
  rw[e]
  exact h2 hw
def Az(n d:Nat):Option Int→Nat
 |none=>d
 |some v=>if v<0 then(v+(n:Int)).toNat else min v.toNat n
theorem Wd(n d:Nat)(hd:d≤n)(o:Option Int):Az n d o≤n:=by
 cases o with
 |none=>exact hd
 |some v=>
  show(if v<0 then(v+(n:Int)).toNat else min v.toNat n)≤n
  by_cases hv:v<0
  ·rw[if_pos hv];omega
  ·rw[if_neg hv];exact Nat.min_le_right _ _
theorem Mk(v:Int)(n d:Nat):(if v<0 then max (v+(n:Int)) 0 else min v (n:Int))=((Az n d (some v):Nat):Int):=by
 show(if v<0 then max (v+(n:Int)) 0 else min v (n:Int))=(((if v<0 then(v+(n:Int)).toNat else min v.toNat n):Nat):Int)
 by_cases hv:v<0
 ·simp only[if_pos hv];omega
 ·simp only[if_neg hv];omega
theorem LJ(lo hi:Option Int)(n:Nat):k7 lo hi 1 (n:Int)=(((Az n 0 lo:Nat):Int),((Az n n hi:Nat):Int)):=by
 have h1:¬((1:Int)<0):=by omega
 unfold k7
 simp only[h1,if_false]
 refine iu ?_ ?_
 ·cases lo with
  |none=>rfl
  |some v=>exact Mk v n 0
 ·cases hi with
  |none=>rfl
  |some v=>exact Mk v n n
theorem LK(i j:Nat):jW (i:Int) (j:Int) 1=j-i:=by
 unfold jW
 have h1:(1:Int)>0:=by omega
 simp only[h1,if_true,Int.ediv_one]
 split<;>omega
theorem FZ{v:Value}{o:Option Int}{Q:Option Int→a9→Prop}(p:nS v o)(h:Q o s):wpAny (model prog w) A (Builtin.Slice.slicePartIndex v) Q E s:=by
 cases p with
 |none=>exact slicePart_none h
 |int i t=>exact slicePart_int h
theorem Bx{sl:Addr}{vl vu:Value}{lo hi:Option Int}{n:Nat}{Q:Int×Int×Nat→a9→Prop}(hs:s.heap.IsSliceOf sl vl vu .none)(pl:nS vl lo)(pu:nS vu hi)
  (h:Q (((Az n 0 lo:Nat):Int),1,Az n n hi-Az n 0 lo) s):wpAny (model prog w) A (Builtin.Slice.sliceApplied (.ref sl) (pure (n:Int))) Q E s:=by
 obtain⟨os,hos,hcs,hds⟩:=id hs
 unfold Builtin.Slice.sliceApplied Builtin.Slice.sliceFields
 refine a7 (a7 (i5 hos hds (x:=vl) rfl (a7 (i5 hos hds (x:=vu) rfl (a7 (i5 hos hds (x:=.none) rfl (b6 ?_)))))))
 refine a7 (slicePart_none ?_)
 show wpAny _ _ (if((1:Int)==0)=true then _ else _) _ _ s
 rw[if_neg (by decide)]
 refine a7 (FZ pl (a7 (FZ pu (a7 (b6 ?_)))))
 show wpAny _ _ (match k7 lo hi 1 (n:Int) with| (lo,hi)=>pure (lo,(1:Int),jW lo hi 1)) _ _ s
 rw[LJ lo hi n]
 show wpAny _ _ (pure (((Az n 0 lo:Nat):Int),(1:Int),jW ((Az n 0 lo:Nat):Int) ((Az n n hi:Nat):Int) 1)) _ _ s
 rw[LK]
 exact b6 h
theorem PP(xs:Array Value)(i k:Nat):((fY k).filterMap fun(m:Nat)=>xs[((i:Int)+(m:Int)*1).toNat]?).toArray=((xs.toList.drop i).take k).toArray:=by
 have e:(fun(m:Nat)=>xs[((i:Int)+(m:Int)*1).toNat]?)=fun m=>xs[i+m]?:=by
  funext m
  have:((i:Int)+(m:Int)*1).toNat=i+m:=by omega
  rw[this]
 rw[e]
 have:=pick_run xs i k
 rw[List.filterMap_map] at this
 have e2:((fun x=>xs[x]?)∘fun x=>i+x)=fun m=>xs[i+m]?:=rfl
 rw[e2] at this
 rw[this]
theorem Dr{t sl:Addr}{items:Array Value}{vl vu:Value}{lo hi:Option Int}{Q:Value→a9→Prop}(ht:IsTup s.heap t items)(hs:s.heap.IsSliceOf sl vl vu .none)(pl:nS vl lo)(pu:nS vu hi)
  (hw:¬(Az items.size 0 lo=0∧Az items.size items.size hi=items.size))
  (h:Q (.ref s.heap.objs.size) {s with heap:=s.heap.push {cls:=.type "tuple",data:=.seq ((items.toList.drop (Az items.size 0 lo)).take (Az items.size items.size hi-Az items.size 0 lo)).toArray}})
  (hsz:items.size≤sizeLine):wpAny (model prog w) A (oG (.ref t) (.ref sl)) Q E s:=by
 have htake:sizeOk (.seq ((items.toList.drop (Az items.size 0 lo)).take (Az items.size items.size hi-Az items.size 0 lo)).toArray):=by
  show((items.toList.drop (Az items.size 0 lo)).take (Az items.size items.size hi-Az items.size 0 lo)).toArray.size≤sizeLine
  rw[fm,gD,kr,fg]
  omega
 have hj:Az items.size items.size hi≤items.size:=Wd _ _ (fj _) hi
 obtain⟨os,hos,hcs,hds⟩:=id hs
 have hTs:s.TypeIs (.ref sl) "slice":=⟨os,hos,hcs⟩
 unfold oG
 try with_reducible refine gx ?_
 first|refine a7 (b6 ?_)|skip
 refine a7 (wpAny_sequenceKey ht.typeIs (by decide) ?_)
 refine a7 (iz (name:=kB "__getitem__") ht.typeIs iq
  (hV iq ht.typeIs entry_tuple_getitem ?_ (args_tuple_getitem _ _)))
 show wpAny _ _ (Builtin.Tuple.tupleItemsOf (.ref t)>>=_) _ _ s
 refine a7 (tupleItemsOf_ ht ?_)
 refine a7 (kU hTs ?_)
 rw[if_pos (by decide)]
 refine a7 (Bx hs pl pu ?_)
 have hno:¬((((Az items.size 0 lo:Nat):Int)==0&&(1:Int)==1&&(Az items.size items.size hi-Az items.size 0 lo)==items.size)=true):=by
  intro q
  rw[iV,iV] at q
  have q1:((Az items.size 0 lo:Nat):Int)=0:=eq_of_beq q.1.1
  have q2:Az items.size items.size hi-Az items.size 0 lo=items.size:=eq_of_beq q.2
  exact hw ⟨by omega,by omega⟩
 show wpAny _ _ (if(((Az items.size 0 lo:Nat):Int)==0&&(1:Int)==1&&(Az items.size items.size hi-Az items.size 0 lo)==items.size)=true then _ else _) _ _ s
 rw[if_neg hno,PP]
 first
  |exact a7 (m:=ke _) (ic (b6 ⟨_,rfl,b6 h⟩) htake)
  |exact a7 (m:=ke _) (ic (a7 (b6 (b6 ⟨_,rfl,b6 h⟩))) htake)
  |exact a7 (a7 (m:=ke _) (ic (b6 (b6 ⟨_,rfl,b6 h⟩)) htake))
  |exact a7 (a7 (m:=ke _) (ic (b6 ⟨_,rfl,b6 h⟩) htake))
end
end HT
namespace L2
open PySem PySem.Spec PyProof.Rows
abbrev TO:=St→Hp→(Option Int→Hp→Prop)→Prop
def PO(X:Cx)(e:Option Expr)(t:TO):Prop:=
 ∀(pins:List (Addr×Obj)) (s:a9) (σ:St) (H:Hp) (Q:Option Int→Hp→Prop),Inv X pins σ H s→t σ H Q→
  wpAny (model X.prog X.w) X.A (evalPart e X.env) (fun u s'=>∃o H',Inv X pins σ H' s'∧nS u o∧Q o H') X.xe s
def Sd:TO:=fun _ H Q=>Q none H
def ZV(t:TE):TO:=fun σ H Q=>t σ H fun x H1=>∃i,x=.int i∧Q (some i) H1
theorem CQ{ns:List Int}:∀{us:List Value},Vals (ns.map V.int) us→jT us ns:=by
 induction ns with
 |nil=>intro us r;rw[lS] at r;cases r;exact .nil
 |cons n ns ih=>
  intro us r
  rw[fL] at r
  cases r with
  |cons r1 r2=>
   obtain⟨t,e⟩:=r1
   subst e
   exact .cons n t (ih r2)
section
variable{X:Cx}{e:Expr}{te:TE}{lo hi:Option Expr}{tl th:TO}{pos p2:Pos}
theorem Se:PO X none Sd:=by
 intro pins s σ H Q I h
 rw[evalPart_none]
 exact b6 ⟨none,H,I,.none,h⟩
theorem IC(h:PE X e te):PO X (some e) (ZV te):=by
 intro pins s σ H Q I hw
 rw[evalPart_some]
 refine Ao (h pins s σ H _ I hw) fun u s1 ⟨x,H1,I1,r1,q1⟩=>?_
 obtain⟨i,rfl,q⟩:=q1
 obtain⟨t,rfl⟩:=r1
 exact⟨some i,H1,I1,.int i t,q⟩
def ba(X:Cx)(r:V→Option Int→Option Int→Hp→VK→Prop):Prop:=
 ∀(pins:List (Addr×Obj)) (s:a9) (σ:St) (H:Hp) (x:V) (v vl vu:Value) (lo hi:Option Int) (sl:Addr) (Q:VK),Inv X pins σ H s→RelV x v→s.heap.IsSliceOf sl vl vu .none→nS vl lo→nS vu hi→r x lo hi H Q→
  ∃T id,typeLookup (.type T) "__getitem__" =pure (some (.builtin id))∧s.TypeIs v T∧wpAny (model X.prog X.w) X.A (oG v (.ref sl)) (EP X pins σ Q) X.xe s
def dr(r:V→Option Int→Option Int→Hp→VK→Prop)(te:TE)(tl th:TO):TE:=fun σ H Q=>te σ H fun x H1=>tl σ H1 fun l H2=>th σ H2 fun u H3=>r x l u H3 Q
theorem Jc{r:V→Option Int→Option Int→Hp→VK→Prop}(hr:ba X r)(he:PE X e te)(hl:PO X lo tl)(hu:PO X hi th):PE X (.Subscript e (.Slice lo hi none p2) pos) (dr r te tl th):=by
 intro pins s σ H Q I h
 refine Subscript_ (Ao (he pins s σ H _ I h) fun v s1 ⟨x,H1,I1,r1,q1⟩=>?_)
 refine wpAny_Slice (Ao (hl pins s1 σ H1 _ I1 q1) fun vl s2 ⟨l,H2,I2,pl,q2⟩=>Ao (hu pins s2 σ H2 _ I2 q2) fun vu s3 ⟨u,H3,I3,pu,q3⟩=>?_)
 rw[evalPart_none]
 refine b6 ?_
 have I4:Inv X pins σ H3 {s3 with heap:=s3.heap.push {cls:=.type "slice",data:=.fields #[vl,vu,.none]}}:=I3.kept (t':=s3.toks) fun b ob q=>c9 _ q
 obtain⟨T,id,hT,ht,hg⟩:=hr pins {s3 with heap:=s3.heap.push {cls:=.type "slice",data:=.fields #[vl,vu,.none]}} σ H3 x v vl vu l u s3.heap.objs.size Q I4 r1 (Heap.IsSliceOf.new ..) pl pu q3
 show wpAny (model X.prog X.w) X.A (subscriptTail e (.Slice lo hi none p2) v (.ref s3.heap.objs.size)) (EP X pins σ Q) X.xe {s3 with heap:=s3.heap.push {cls:=.type "slice",data:=.fields #[vl,vu,.none]}}
 exact tail_any (ops:=[.ref s3.heap.objs.size,v]) ht hT hg (by with_unfolding_all rfl)
def EN(xs:List V)(lo hi:Option Int):List V:=(xs.drop (HT.Az xs.length 0 lo)).take (HT.Az xs.length xs.length hi-HT.Az xs.length 0 lo)
theorem En(xs:List V)(lo hi:Option Int):(EN xs lo hi).length≤xs.length:=by
 unfold EN
 rw[gD,kr]
 omega
def cR(K:a8):V→Option Int→Option Int→Hp→VK→Prop:=fun x lo hi H Q=>∃a xs,x=.ref a∧Cm K H a xs∧
 ¬(HT.Az xs.length 0 lo=0∧HT.Az xs.length xs.length hi=xs.length)∧∀p,H p=none→Q (.ref p) (upd H p (.tup (EN xs lo hi)))
theorem We:ba X (cR X.K):=by
 intro pins s σ H x v vl vu lo hi sl Q I rx hs pl pu h
 obtain⟨a,xs,rfl,hx,hw,q⟩:=h
 cases rx
 obtain⟨its,r,ht,hz⟩:=I.tuple hx
 have hlen:its.toArray.size=xs.length:=by rw[fm];exact r.length.symm
 refine⟨"tuple",_,iq.lookup,ht.typeIs,?_⟩
 refine HT.Dr ht hs pl pu (by rw[hlen];exact hw) ?_ (by rw[hlen];exact hz)
 rw[hlen]
 refine⟨.ref s.heap.objs.size,_,I.laid (t':=s.toks) (o:=.tup (EN xs lo hi)) (fun b ob q=>c9 _ q) (fj _) ?_,rfl,q _ (I.hok.fresh (fj _))⟩
 exact⟨gL (En xs lo hi) hz,_,(r.drop (HT.Az xs.length 0 lo)).take (HT.Az xs.length xs.length hi-HT.Az xs.length 0 lo),IsTup.new _ _⟩
def ZW(K:a8):R2:=fun x y H Q=>∃a b ns ms,x=.ref a∧y=.ref b∧Cm K H a (ns.map V.int)∧Cm K H b (ms.map V.int)∧Q (.bl (HT.Am ns ms)) H
theorem Wf(hu:X.A.units<cLine):CO X (hZ .Lt) (ZW X.K):=by
 intro pins s σ H x y v u Q I rx ry h
 obtain⟨a,b,ns,ms,rfl,rfl,ha,hb,q⟩:=h
 cases rx
 cases ry
 obtain⟨its,r1,p1,_⟩:=I.tuple ha
 obtain⟨its2,r2,p2,_⟩:=I.tuple hb
 have i1:jT its.toArray.toList ns:=CQ r1
 have i2:jT its2.toArray.toList ms:=CQ r2
 exact HT.LI p1 p2 i1 i2 hu ⟨.bl (HT.Am ns ms),H,I,rfl,q⟩
def ZX(K:a8):R2:=fun x y H Q=>∃a b xs ys,x=.ref a∧y=.ref b∧Cm K H a xs∧Cm K H b ys∧xs≠[]∧xs.length+ys.length≤sizeLine∧
 (ys=[]→Q (.ref a) H)∧(ys≠[]→∀p,H p=none→Q (.ref p) (upd H p (.tup (xs++ys))))
theorem Vals.nil_iff{xs:List V}{us:List Value}(r:Vals xs us):us=[]↔xs=[]:=by
 cases r with
 |nil=>simp
 |cons _ _=>simp
theorem Sf:CO X (kl .Add) (ZX X.K):=by
 intro pins s σ H x y v u Q I rx ry h
 obtain⟨a,b,xs,ys,rfl,rfl,ha,hb,hx,hz,q1,q2⟩:=h
 cases rx
 cases ry
 obtain⟨its,r1,p1,_⟩:=I.tuple ha
 obtain⟨its2,r2,p2,_⟩:=I.tuple hb
 refine HT.Sa p1 p2 (fun z=>hx (r1.nil_iff.mp z)) (fun z=> ⟨.ref a,H,I,rfl,q1 (r2.nil_iff.mp z)⟩) (fun z=>?_) (by rw[←r1.length,←r2.length];exact hz)
 refine⟨.ref s.heap.objs.size,_,I.laid (t':=s.toks) (o:=.tup (xs++ys)) (fun b ob q=>c9 _ q) (fj _) ?_,rfl,q2 (fun w=>z (r2.nil_iff.mpr w)) _ (I.hok.fresh (fj _))⟩
 exact⟨by rw[fE];exact hz,_,r1.append r2,IsTup.new _ _⟩
end
def PQ(n:Nat)(i:Int):Option Nat:=if 0≤i then(if i<n then some i.toNat else none) else if-(n:Int)≤i then some (i+n).toNat else none
def atI{α:Type}(xs:List α)(i:Int):Option α:=(PQ xs.length i).bind fun j=>xs[j]?
theorem Ml{n:Nat}{i:Int}{j:Nat}(h:PQ n i=some j):seqIndex? i n=some j∧j<n∧-(n:Int)≤i∧i<n:=by
 unfold PQ at h
 by_cases h0:0≤i
 ·rw[if_pos h0] at h
  by_cases h1:i<n
  ·rw[if_pos h1] at h
   have e:i.toNat=j:=gh.inj h
   exact⟨by rw[pH h0 h1,e],by omega,by omega,h1⟩
  ·rw[if_neg h1] at h;cases h
 ·rw[if_neg h0] at h
  by_cases h1: -(n:Int)≤i
  ·rw[if_pos h1] at h
   have e:(i+n).toNat=j:=gh.inj h
   exact⟨by rw[seqIndex_neg (by omega) h1,e],by omega,h1,by omega⟩
  ·rw[if_neg h1] at h;cases h
theorem Mm{α:Type}{xs:List α}{i:Int}{v:α}(h:atI xs i=some v):∃j,seqIndex? i xs.length=some j∧xs[j]?=some v∧j<xs.length∧-(xs.length:Int)≤i∧i<xs.length:=by
 unfold atI at h
 cases e:PQ xs.length i with
 |none=>rw[e] at h;cases h
 |some j=>
  rw[e] at h
  obtain⟨h1,h2,h3,h4⟩:=Ml e
  exact⟨j,h1,h,h2,h3,h4⟩
theorem BI{α:Type}{xs:List α}{j:Nat}{v:α}(h:xs[j]?=some v):atI xs (j:Int)=some v:=by
 have hj:j<xs.length:=(fD.mp h).1
 have e:PQ xs.length (j:Int)=some j:=by
  unfold PQ
  rw[if_pos (by omega),if_pos (by omega)];simp
 unfold atI;rw[e];exact h
def DI(b:Expr):Prop:=∀o i,subscripted b false o i=operate [o,i] (oG o i)
def ZY(X:Cx)(r:R2):Prop:=
 ∀(value slice:Expr) (pins:List (Addr×Obj)) (s:a9) (σ:St) (H:Hp) (x y:V) (v u:Value) (Q:VK),Inv X pins σ H s→RelV x v→RelV y u→r x y H Q→
  subscripted slice false v u=operate [v,u] (oG v u)→wpAny (model X.prog X.w) X.A (subscriptTail value slice v u) (EP X pins σ Q) X.xe s
def dP(X:Cx)(id:String)(r:V→List V→Hp→VK→Prop):Prop:=
 ∀(pins:List (Addr×Obj)) (s:a9) (σ:St) (H:Hp) (x:V) (xs:List V) (v:Value) (us:List Value) (Q:VK),Inv X pins σ H s→RelV x v→Vals xs us→r x xs H Q→
  wpAny (model X.prog X.w) X.A (call (.builtin id) (v::us)) (EP X pins σ Q) X.xe s
section
variable{X:Cx}{a b:Expr}{ta tb:TE}{pos:Pos}
theorem VF{r:R2}(hr:ZY X r)(ha:PE X a ta)(hb:PE X b tb)(hs:DI b):PE X (.Subscript a b pos) (ZK r ta tb):=by
 intro pins s σ H Q I h
 exact Subscript_ (WQ ha hb I h fun v u s2 x y H2 I2 rx ry q=>hr a b pins s2 σ H2 x y v u Q I2 rx ry q (hs _ _))
def Wg(K:a8):R2:=fun x y H Q=>∃p xs i v,x=.ref p∧y=.int i∧De K H p xs∧atI xs i=some v∧Q v H
def ZZ(K:a8):R2:=fun x y H Q=>∃p xs i v,x=.ref p∧y=.int i∧Cm K H p xs∧atI xs i=some v∧Q v H
theorem FF:ZY X (Wg X.K):=by
 intro value slice pins s σ H x y v u Q I rx ry h hs
 obtain⟨p,xs,i,z,rfl,rfl,hq,he,q⟩:=h
 cases rx
 obtain⟨t,rfl⟩:=ry
 obtain⟨its,r,pl,hz⟩:=I.list hq
 obtain⟨j,h1,h2,h3,h4,h5⟩:=Mm he
 obtain⟨w,ew,rw'⟩:=r.get h2
 have hl:=r.length
 have hn:=FX
 have fin:EP X pins σ Q w s:=⟨z,H,I,rw',q⟩
 by_cases h0:0≤i
 ·have hj:i.toNat=j:=by
   rw[pH h0 h5] at h1
   exact gh.inj h1
  exact item_listR pl.isList h0 (by omega) (by rw[hj];simpa using ew) fin hs
 ·have hj:(i+(its.toArray.size:Int)).toNat=j:=by
   rw[seqIndex_neg (by omega) h4] at h1
   rw[fm,←hl]
   exact gh.inj h1
  exact subscriptTail_builtinR (x:=w) pl.isList.typeIs slot_list_getitem.lookup
   (wpAny_getItem_list_neg (Q:=fun r s'=>r=w∧EP X pins σ Q r s') pl.isList (by omega) (by rw[fm]<;>omega) (by omega) (by rw[hj];simpa using ew) ⟨rfl,fin⟩) hs
theorem Wh:ZY X (ZZ X.K):=by
 intro value slice pins s σ H x y v u Q I rx ry h hs
 obtain⟨p,xs,i,z,rfl,rfl,hq,he,q⟩:=h
 cases rx
 obtain⟨t,rfl⟩:=ry
 obtain⟨its,r,pl,hz⟩:=I.tuple hq
 obtain⟨j,h1,h2,h3,h4,h5⟩:=Mm he
 obtain⟨w,ew,rw'⟩:=r.get h2
 have hl:=r.length
 have hn:=FX
 have fin:EP X pins σ Q w s:=⟨z,H,I,rw',q⟩
 exact subscriptTail_builtinR (x:=w) pl.typeIs slot_tuple_getitem.lookup
  (getItem_tuple (j:=j) (Q:=fun r s'=>r=w∧EP X pins σ Q r s') pl (by omega) (by omega) (by rw[fm,←hl];exact h1) (by simpa using ew) ⟨rfl,fin⟩) hs
theorem LL(its:List Value)(n j:Nat)(u:Value):gQ (·.setIfInBounds j u) {cls:=.type "list",data:=.seq its.toArray n}={cls:=.type "list",data:=.seq (its.set j u).toArray n}:=by
 simp[gQ]
theorem Inv.lst{pins:List (Addr×Obj)}{σ:St}{H:Hp}{s:a9}{p:Addr}{xs:List V}(I:Inv X pins σ H s)(h:H p=some (.lst xs)):
  ∃(its:List Value) (n:Nat),Vals xs its∧s.heap.get? p=some {cls:=.type "list",data:=.seq its.toArray n}∧xs.length≤sizeLine:=by
 obtain⟨z,its,n,r,e⟩:=I.hok p _ h
 exact⟨its,n,r,e,z⟩
theorem Inv.lstUpd{pins:List (Addr×Obj)}{σ:St}{H:Hp}{s:a9}{p:Addr}{xs ys:List V}{its its':List Value}{n n':Nat}{f:Obj→Obj}(I:Inv X pins σ H s)(h:H p=some (.lst xs))
  (ho:s.heap.get? p=some {cls:=.type "list",data:=.seq its.toArray n}) (hf:f {cls:=.type "list",data:=.seq its.toArray n}={cls:=.type "list",data:=.seq its'.toArray n'}) (r:Vals ys its') (hz:ys.length≤sizeLine) (t:Nat):
  Inv X pins σ (upd H p (.lst ys)) {s with heap:=s.heap.update p f,toks:=t}:=by
 have e:(s.heap.update p f).get? p=some {cls:=.type "list",data:=.seq its'.toArray n'}:=by
  rw[jU f ho (by rw[hf]<;>rfl),hf]
 refine I.write (x:=p) (e:=p) (by rw[h];trivial) (.inl rfl) (fun b u hb q=> (iU _ _ (Ne.symm hb)).trans q) ⟨_,e⟩ ?_
 exact⟨hz,its',n',r,e⟩
def Za:V→V→V→Hp→(Hp→Prop)→Prop:=fun o i v H Q=>∃p xs k j,o=.ref p∧i=.int k∧H p=some (.lst xs)∧PQ xs.length k=some j∧Q (upd H p (.lst (xs.set j v)))
theorem PR:ZC X Za:=by
 intro pins s σ H o i v ov iv u Q I ro ri rv h
 obtain⟨p,xs,k,j,rfl,rfl,hp,hj,q⟩:=h
 cases ro
 obtain⟨t,rfl⟩:=ri
 obtain⟨its,n,r,ho,hz⟩:=I.lst hp
 obtain⟨h1,h2,h3,h4⟩:=Ml hj
 have hl:=r.length
 have hn:=FX
 have I':Inv X pins σ (upd H p (.lst (xs.set j v))) {s with heap:=s.heap.update p (gQ (·.setIfInBounds j u))}:=
  I.lstUpd hp ho (LL its n j u) (r.set rv j) (by rw[jZ];exact hz) s.toks
 by_cases h0:0≤k
 ·have hk:k.toNat=j:=by
   rw[pH h0 h4] at h1
   exact gh.inj h1
  exact PySem.W.ki_setAt ho h0 (by omega) (by rw[fm,←hl];exact h4) (by rw[hk];exact⟨_,I',q⟩)
 ·have hk:(k+(its.toArray.size:Int)).toNat=j:=by
   rw[seqIndex_neg (by omega) h3] at h1
   rw[fm,←hl]
   exact gh.inj h1
  exact PySem.W.ki_setBack ho (by omega) (by rw[fm,←hl];exact h3) (by omega) (by rw[hk];exact⟨_,I',q⟩)
theorem ID(lo hi:Option Int)(n:Nat):(lI lo hi none n).1=((HT.Az n 0 lo:Nat):Int)∧(lI lo hi none n).2.1=((HT.Az n n hi:Nat):Int)∧(lI lo hi none n).2.2=1:=by
 refine⟨?_,?_,rfl⟩
 ·cases lo with
  |none=>simp[lI,HT.Az]
  |some i=>
   simp only[lI,HT.Az,Option.getD_none,show(1:Int)>0 by decide,if_true]
   by_cases h:i<0
   ·simp only[h,if_true]<;>omega
   ·simp only[h,if_false]<;>omega
 ·cases hi with
  |none=>simp[lI,HT.Az]
  |some i=>
   simp only[lI,HT.Az,Option.getD_none,show(1:Int)>0 by decide,if_true]
   by_cases h:i<0
   ·simp only[h,if_true]<;>omega
   ·simp only[h,if_false]<;>omega
theorem Gu(its:List Value)(lo hi:Option Int):slicePick its.toArray lo hi none=((its.drop (HT.Az its.length 0 lo)).take (HT.Az its.length its.length hi-HT.Az its.length 0 lo)).toArray:=by
 obtain⟨h1,h2,h3⟩:=ID lo hi its.toArray.size
 unfold slicePick
 rw[h1,h2,h3]
 simp only[sliceRange_one,pick_run,fm]<;>rfl
def cS(K:a8):V→Option Int→Option Int→Hp→VK→Prop:=fun x lo hi H Q=>∃a xs,x=.ref a∧De K H a xs∧∀p,H p=none→Q (.ref p) (upd H p (.lst (EN xs lo hi)))
theorem Sg:ba X (cS X.K):=by
 intro pins s σ H x v vl vu lo hi sl Q I rx hs pl pu h
 obtain⟨a,xs,rfl,hx,q⟩:=h
 cases rx
 obtain⟨its,r,ht,hz⟩:=I.list hx
 have hlen:=r.length
 refine⟨"list",_,slot_list_getitem.lookup,ht.isList.typeIs,?_⟩
 refine wpAny_getItem_list_slice ht.isList hs pl pu .none (by simp) ?_ (by rw[fm]<;>omega)
 rw[Gu,←hlen]
 refine⟨.ref s.heap.objs.size,_,I.laid (t':=s.toks) (o:=.lst (EN xs lo hi)) (fun b ob q=>c9 _ q) (fj _) ?_,rfl,q _ (I.hok.fresh (fj _))⟩
 exact⟨gL (En xs lo hi) hz,_,0,(r.drop (HT.Az xs.length 0 lo)).take (HT.Az xs.length xs.length hi-HT.Az xs.length 0 lo),fK _ rfl⟩
def Fb:V→Bool
 | .non=>true
 | .bl _=>true
 | .int _=>true
 | .str _=>true
 |_=>false
def SI:V→V→Bool
 | .non,.non=>true
 | .bl a,.bl b=>a==b
 | .bl a,.int b=> (if a then 1 else 0)==b
 | .int a,.bl b=>a==(if b then 1 else 0)
 | .int a,.int b=>a==b
 | .str a,.str b=>a==b
 |_,_=>false
theorem Wi{A:fG}{s:a9}{y x:V}{u v:Value}(ry:RelV y u)(rx:RelV x v)(fy:Fb y=true)(fx:Fb x=true):il A s u v (SI y x):=by
 cases y with
 |non=>
  cases ry
  cases x with
  |non=>cases rx;exact il.same _
  |bl b=>cases rx;exact il.none_bool b
  |int b=>obtain⟨t,rfl⟩:=rx;exact il.none_int b t
  |str b=>obtain⟨t,rfl⟩:=rx;exact il.none_str b t
  |_=>exact absurd (show false=true from fx) e6
 |bl a=>
  cases ry
  cases x with
  |non=>cases rx;exact il.bool_none a
  |bl b=>cases rx;exact il.bool_bool a b
  |int b=>obtain⟨t,rfl⟩:=rx;exact il.bool_int a b t
  |str b=>obtain⟨t,rfl⟩:=rx;exact il.bool_str a b t
  |_=>exact absurd (show false=true from fx) e6
 |int a=>
  obtain⟨t',rfl⟩:=ry
  cases x with
  |non=>cases rx;exact il.int_none a t'
  |bl b=>cases rx;exact il.int_bool a t' b
  |int b=>obtain⟨t,rfl⟩:=rx;exact il.int_int a t' b t
  |str b=>obtain⟨t,rfl⟩:=rx;exact il.int_str a t' b t
  |_=>exact absurd (show false=true from fx) e6
 |str a=>
  obtain⟨t',rfl⟩:=ry
  cases x with
  |non=>cases rx;exact il.str_none a t'
  |bl b=>cases rx;exact il.str_bool a t' b
  |int b=>obtain⟨t,rfl⟩:=rx;exact il.str_int a t' b t
  |str b=>obtain⟨t,rfl⟩:=rx;exact il.str_str a t' b t
  |_=>exact absurd (show false=true from fx) e6
 |_=>exact absurd (show false=true from fy) e6
theorem CS:Au X (.builtin "len") (fun xs H Q=>∃p ys,xs=[.ref p]∧(De X.K H p ys∨Cm X.K H p ys)∧Q (.int ys.length) H):=by
 intro pins s σ H xs us Q I r h
 obtain⟨p,ys,rfl,hq,q⟩:=h
 obtain⟨u,rfl,rx⟩:=DW r
 cases rx
 have hn:=FX
 rcases hq with hq|hq
 ·obtain⟨its,r',pl,hz⟩:=I.list hq
  have hlen:=r'.length
  exact Calls.call_len_list pl.isList (by simp only[fm]<;>omega) ⟨.int ys.length,H,I.tok _,⟨s.toks+1,by rw[fm,hlen]⟩,q⟩
 ·obtain⟨its,r',pl,hz⟩:=I.tuple hq
  have hlen:=r'.length
  exact len_tuple pl (by simp only[fm]<;>omega) ⟨.int ys.length,H,I.tok _,⟨s.toks+1,by rw[fm,hlen]⟩,q⟩
def cT(K:a8)(T:String)(x:V)(H:Hp):Prop:=match x with
 | .str _=>T= "str"
 | .int _=>T= "int"
 | .ref p=> (T= "list"∧∃xs,De K H p xs)∨(T= "tuple"∧∃o,K.lookup p=some o∧o.cls=.type "tuple"∧o.dict=none)∨
   (T= "dict"∧((∃kvs,H p=some (.dK kvs))∨∃kvs,H p=some (.dT kvs)))∨(T= "set"∧∃S n,H p=some (.set S n))
 |_=>False
theorem Wj{pins:List (Addr×Obj)}{σ:St}{H:Hp}{s:a9}{T:String}{x:V}{v:Value}(I:Inv X pins σ H s)(r:RelV x v)(ty:cT X.K T x H):
  s.TypeIs v T∧∀a,v=.ref a→∃ob,s.heap.get? a=some ob∧ob.dict=none:=by
 cases x with
 |str z=>
  obtain⟨t,rfl⟩:=r
  cases(show T= "str" from ty)
  exact⟨typeIs_str s z t,fun _ e=>nomatch e⟩
 |int i=>
  obtain⟨t,rfl⟩:=r
  cases(show T= "int" from ty)
  exact⟨typeIs_int s i t,fun _ e=>nomatch e⟩
 |ref p=>
  cases r
  rcases ty with⟨rfl,xs,hq⟩| ⟨rfl,o,hk,hc,hd⟩| ⟨rfl,hk⟩| ⟨rfl,S,n,hk⟩
  ·obtain⟨its,_,pl,_⟩:=I.list hq
   refine⟨pl.isList.typeIs,fun a e=>?_⟩
   cases e
   obtain⟨o,n,e,c,hd,_⟩:=pl
   exact⟨o,e,hd⟩
  ·refine⟨⟨o,I.kIn p o hk,hc⟩,fun a e=>?_⟩
   cases e
   exact⟨o,I.kIn _ o hk,hd⟩
  ·have z:∃o,s.heap.get? p=some o∧o.ExactDict:=by
    rcases hk with⟨kvs,hk⟩| ⟨kvs,hk⟩
    ·obtain⟨_,_,_,_,o,_,_,e,ex,_⟩:=I.hok p _ hk
     exact⟨o,e,ex⟩
    ·obtain⟨_,_,_,_,o,_,_,e,ex,_⟩:=I.hok p _ hk
     exact⟨o,e,ex⟩
   obtain⟨o,e,ex⟩:=z
   refine⟨⟨o,e,ex.1⟩,fun a e2=>?_⟩
   cases e2
   exact⟨o,e,ex.2.1⟩
  ·obtain⟨o,_,_,_,e,ex,_⟩:=I.hok p _ hk
   refine⟨⟨o,e,ex.1⟩,fun a e2=>?_⟩
   cases e2
   exact⟨o,e,ex.2.1⟩
 |_=>exact kc ty
def dt(K:a8)(T:String)(r:V→List V→Hp→VK→Prop)(to:TE)(t:TA):TE:=fun σ H Q=>to σ H fun x H1=>cT K T x H1∧t σ H1 fun xs H2=>r x xs H2 Q
variable{o e:Expr}{es:List Expr}{to:TE}{t:TA}{name:Str}{apos cpos:Pos}{T id:String}{r:V→List V→Hp→VK→Prop}
theorem Zb(pa:PlainAttrs T)(slot:Slot T name id)(hty:typeOf (.builtin id)=pure (.type "method_descriptor"))(hm:dP X id r)(ho:PE X o to)(ha:PA X (e::es) t)
  (hbase:nu o name X.env (eval o X.env)=eval o X.env:=by rfl)
  (hfew:((jD cpos (e9 (e::es) X.env)).all (fun x=>!x.1)&&(pQ cpos (oa [] X.env)).all (fun x=>x.1.isSome)
   &&decide ((e::es).length+([]:List ng).length+(if([]:List ng).isEmpty then 0 else 1)<30))=true:=by rfl)
  (hline:(apos.endLine==cpos.line)=true:=by rfl) (hs:e9 (e::es) X.env=(false,eval e X.env)::e9 es X.env:=by rfl) (hplain:(jD cpos (e9 es X.env)).any (·.1)=false:=by rfl):
  PE X (.Call (.Attribute o name apos) (e::es) [] cpos) (dt X.K T r to t):=by
 intro pins s σ H Q I h
 refine wpAny_Call_method_late hbase hfew hline rfl (Ao (ho pins s σ H _ I h) fun v s1 ⟨x,H1,I1,r1,ty,q1⟩=>?_)
 obtain⟨h1,h2⟩:=Wj I1 r1 ty
 refine⟨T,id,pa,slot,hty,h1,h2,?_⟩
 have hA:=ha cpos pins s1 σ H1 _ I1 q1
 rw[hs] at hA ⊢
 refine Calls.callWith_builtin (by show(false|| (jD cpos (e9 es X.env)).any (·.1))=false;rw[hplain]<;>rfl) (Calls.evalArgs_plain ?_)
 exact Ao hA fun us s2 ⟨vs,H2,I2,r2,q2⟩=>hm pins s2 σ H2 x vs v us Q I2 r1 r2 q2
end
def dQ(X:Cx)(id:String)(r:V→List V→Hp→VK→Prop):Prop:=
 ∀(pins:List (Addr×Obj)) (s:a9) (σ:St) (H:Hp) (x:V) (xs:List V) (v:Value) (us:List Value) (Q:VK),Inv X pins σ H s→RelV x v→Vals xs us→r x xs H Q→
  wpAny (model X.prog X.w) X.A (call (.builtin id) (v::us)) (EP X pins σ Q) X.xe s
theorem Vals.one:∀{x:V} {us:List Value},Vals [x] us→∃u,us=[u]∧RelV x u
 |_,_,.cons r .nil=> ⟨_,rfl,r⟩
section
variable{X:Cx}{pins:List (Addr×Obj)}{σ:St}{H:Hp}{s:a9}{l b:Addr}{xs ys zs:List V}
theorem Inv.lset{its its':List Value}{n:Nat}{f:Array Value→Array Value}{t':Nat}(I:Inv X pins σ H s)(hH:H l=some (.lst xs))
  (e:s.heap.get? l=some {cls:=.type "list",data:=.seq its.toArray n}) (hf:f its.toArray=its'.toArray) (hv:Vals ys its') (hz:ys.length≤sizeLine):
  Inv X pins σ (upd H l (.lst ys)) {s with heap:=s.heap.update l (gQ f),toks:=t'}:=by
 have q:=PySem.IsL.update e f
 rw[hf] at q
 refine I.write (x:=l) (e:=l) (by rw[hH];exact trivial) (.inl rfl) (fun b' u hb hu=> (iU s.heap (gQ f) (Ne.symm hb)).trans hu) ⟨_,q⟩ ?_
 exact⟨hz,its',_,hv,q⟩
theorem Inv.lnew{its:List Value}{t':Nat}(I:Inv X pins σ H s)(hv:Vals ys its)(hz:ys.length≤sizeLine):
  Inv X pins σ (upd H s.heap.objs.size (.lst ys)) {s with heap:=s.heap.push {cls:=.type "list",data:=.seq its.toArray},toks:=t'}:=
 I.laid (fun _ _ q=>c9 _ q) (fj _) ⟨hz,its,0,hv,fK _ rfl⟩
theorem Inv.fresh(I:Inv X pins σ H s):H s.heap.objs.size=none:=I.hok.fresh (fj _)
theorem Inv.lstM(I:Inv X pins σ H s)(hH:H l=some (.lst xs)):xs.length≤sizeLine∧∃(its:List Value) (n:Nat),Vals xs its∧xs.length=its.length∧s.heap.get? l=some {cls:=.type "list",data:=.seq its.toArray n}:=by
 obtain⟨z,its,n,r,e⟩:=I.hok l _ hH
 exact⟨z,its,n,r,r.length,e⟩
theorem PU{n:Nat}(h:n≤sizeLine):ly n=false:=by
 unfold ly
 exact decide_eq_false (by omega)
end
section
variable{X:Cx}
def Mn:V→List V→Hp→VK→Prop:=fun x vs H Q=>∃l xs y,x=.ref l∧vs=[y]∧H l=some (.lst xs)∧xs.length<sizeLine∧Q .non (upd H l (.lst (xs++[y])))
theorem HG:dQ X "list.append" Mn:=by
 intro pins s σ H x vs v us Q I rx rv h
 obtain⟨l,xs,y,rfl,rfl,hH,hz,q⟩:=h
 cases rx
 obtain⟨u,rfl,ru⟩:=rv.one
 obtain⟨z,its,n,r,hl,e⟩:=I.lstM hH
 refine call_meets F.slot_list_append ⟨_,e,rfl⟩ F.entry_list_append (F.args_list_append_2 _ _) (PySem.list_append l its.toArray n u (by rw[fm];omega)) ⟨e,?_⟩
 refine⟨.non,_,I.lset (its':=its++[u]) hH e (by simp) (r.append (.cons ru .nil)) ?_,rfl,q⟩
 rw[fE,List.length_singleton]
 omega
def Sh:V→List V→Hp→VK→Prop:=fun x vs H Q=>∃l b xs zs,x=.ref l∧vs=[.ref b]∧H l=some (.lst xs)∧H b=some (.lst zs)∧xs.length+zs.length≤sizeLine∧Q .non (upd H l (.lst (xs++zs)))
theorem Nz:dQ X "list.extend" Sh:=by
 intro pins s σ H x vs v us Q I rx rv h
 obtain⟨l,b,xs,zs,rfl,rfl,hH,hB,hz,q⟩:=h
 cases rx
 obtain⟨u,rfl,ru⟩:=rv.one
 cases ru
 obtain⟨z,its,n,r,hl,e⟩:=I.lstM hH
 obtain⟨z2,its2,n2,r2,hl2,e2⟩:=I.lstM hB
 have hsz:its.toArray.size+its2.toArray.size≤sizeLine:=by rw[fm,fm];omega
 have hlong:¬(!its.toArray.isEmpty&&ly (its.toArray.size+its2.toArray.size))=true:=by
  rw[PU hsz,mV]
  exact e6
 refine call_meets F.slot_list_extend ⟨_,e,rfl⟩ F.entry_list_extend (F.args_list_extend_2 _ _)
  (AutoSeq1.list_extend_list_list_0 l its.toArray n b its2.toArray n2 hlong (by rw[fm];omega) (by omega)) ⟨e,e2,?_⟩
 refine⟨.non,_,I.lset (its':=its++its2) hH e (by simp) (r.append r2) ?_,rfl,q⟩
 rw[fE]
 omega
def Zc:R2:=fun x y H Q=>∃l b xs zs,x=.ref l∧y=.ref b∧H l=some (.lst xs)∧H b=some (.lst zs)∧xs.length+zs.length≤sizeLine∧∀p,H p=none→Q (.ref p) (upd H p (.lst (xs++zs)))
theorem PV:CO X (kl .Add) Zc:=by
 intro pins s σ H x y v u Q I rx ry h
 obtain⟨l,b,xs,zs,rfl,rfl,hH,hB,hz,q⟩:=h
 cases rx
 cases ry
 obtain⟨z,its,n,r,hl,e⟩:=I.lstM hH
 obtain⟨z2,its2,n2,r2,hl2,e2⟩:=I.lstM hB
 refine PySem.P.add_list e e2 ?_ (by rw[fm,fm];omega)
 have ea:its.toArray++its2.toArray=(its++its2).toArray:=by simp
 rw[ea]
 exact⟨.ref _,_,I.lnew (t':=s.toks) (r.append r2) (by rw[fE];omega),rfl,q _ I.fresh⟩
end
section
variable{prog:Program}{w:World}{A:fG}{E:Value→a9→Prop}{s:a9}
end
section
variable{X:Cx}
end
end L2
namespace Att
open PySem PySem.W PySem.Calls PyProof.Rows
theorem Ex{P:Params}{h:Heap}:∀(ns:List Int) (vs:List Value),WellAll P h vs (ns.map WData.int)→jT vs ns:=by
 intro ns
 induction ns with
 |nil=>
  intro vs w
  rw[lS] at w
  cases w
  exact .nil
 |cons n ns ih=>
  intro vs w
  rw[fL] at w
  cases w with
  |cons a b=>
   cases a
   exact .cons _ _ (ih _ b)
theorem OA{l:nX}{n:Nat}(hn:l.most=some n){P:Params}{h:Heap}{args:List WData}{vals:List Value}
  (hpre:l.row.toRowW.claim.pre args=true) (hwl:WellAll P h vals args):
  ∃a vs ns,vals=[Value.ref a]∧args=[WData.list (ns.map WData.int)]∧h.get? a=some {cls:=.type "list",data:=.seq vs.toArray}∧jT vs ns∧ns.length≤n:=by
 have hsh:WShape.hasAll [] args [.list .int]=true:=(pre_splitW hpre).1
 have hc:l.pre.holds [] {args:=args}=true:=(pre_splitW hpre).2
 obtain⟨d,r,rfl,h1,h2⟩:=hasAllW_cons hsh
 obtain rfl:=hasAllW_nil h2
 obtain⟨xs,rfl,h3⟩:=hasW_list h1
 obtain⟨ns,rfl⟩:=items_int h3
 have hlen:ns.length≤n:=by
  unfold nX.pre at hc
  have h4:(WTm.not (.lt (.lit (.int (n:Int))) (.len (.arg 0)))).holds [] {args:=[.list (ns.map .int)]}=true:=by
   have h4:=(holds_andW hc).1
   rw[hn] at h4
   exact h4
  have h5:=condW_of h4 (w_not (w_lt w_lit (w_len_list (w_arg rfl))))
  rw[e8] at h5
  refine lZ fun q=>?_
  have q':(n:Int)< ((ns.length:Nat):Int):=by omega
  first
   | (rw[decide_eq_true q'] at h5;exact absurd h5 (by decide))
   | (simp at h5;omega)
 cases hwl with
 |cons w1 w2=>
  cases w2
  cases w1 with
  |list ho hall=>exact⟨_,_,ns,rfl,rfl,ho,Ex ns _ hall,hlen⟩
theorem OB(l:nX)(args:List WData):l.row.toRowW.claim.post args (.bool true) args=true:=
 postW_of (r:=l.row.toRowW) (X:=(true==true))
  (show WShape.has [] (.bool true) .bool=true by first|rfl|decide|simp[WShape.has,WShape.arms,WShape.armsAll])
  (show(WTm.eq .res (.lit (.bool true))).value [] {args:=args,res:=some (.bool true),after:=args}=some (.bool (true==true)) from w_eq_bool (w_res rfl) w_lit) rfl
theorem Jd{l:nX}{n:Nat}{q:Program}{loose:List Str}{XP:(Str→Option Value)→Heap→Prop}{YP:World→Heap→Prop}{d:DefRec}
  (hn:l.most=some n) (hdf:d.params.defaults=[])
  (call:∀(w:World) (s₀ s₁:a9) (mg mb:Str→Option Value) (fa:Addr) (o:Obj) (pm cd doc:Value) (a:Addr) (vs:List Value) (ns:List Int),
   Ground q loose [] XP w s₀ mg mb s₁.heap→YP w s₁.heap→
   s₁.heap.get? fa=some o→o.data=.func (docDef d.name d.params d.body d.scope pm cd doc)→s₁.heap.CodeRec cd d.name→mg d.name=some (.ref fa)→
   s₁.heap.get? a=some {cls:=.type "list",data:=.seq vs.toArray}→jT vs ns→ns.length≤n→s₁.gens= #[]→
   kW (model l.prog w) oH (.call (.ref fa) ⟨[.ref a],[]⟩) (fun r s'=>r=.ok (.ret (.bool true))∧OldK s₁.heap s'.heap∧s'.os=s₁.os∧mD s'.gens) s₁):
  WalkO q loose XP YP l.row.toRowW d [] (fun f vs=>PySem.call f vs):=by
 intro w s₀ s₁ mg mb G Y fa o pm cd doc dV kV ho hd hcd hD hmg hg args vals as hpre hlay hrd hwl hlo
 obtain rfl:dV=.none:=Dflts.none hD hdf
 obtain rfl:kV=.none:=Dflts.noKw hD
 obtain⟨a,vs,ns,rfl,rfl,hobj,hints,hlen⟩:=OA hn hpre hwl
 refine enter_call (mz (call w s₀ s₁ mg mb fa o pm cd doc a vs ns G Y ho (fd_plain hd) hcd hmg hobj hints hlen hg) fun r s' hq=>?_)
 obtain⟨rfl,h2,h3,h4⟩:=hq
 exact⟨.inl ⟨.bool true,.bool true,[],rfl,fun _=>rfl,.bool true,OB l _,fun _=> ⟨j4,fun _ hm=> (nomatch hm)⟩⟩,h2,h3,h4⟩
section
variable{prog:Program}{w:World}{A:fG}{E:Value→a9→Prop}{s:a9}{K:Frag}
end
end Att
namespace L2
open PySem PySem.Spec PyProof.Rows
theorem EO:∀{vs:List Value} {ns:List Int},jT vs ns→Vals (ns.map V.int) vs
 |_,_,.nil=> .nil
 |_,_,.cons n t h=> .cons ⟨t,rfl⟩ (EO h)
def Wl(H:Hp):Prop:=∀b,H b=none∨∃o xs,H b=some (.frz o (.lst xs))
theorem PX{P:Program}{w:World}{K:a8}{mg mb:Str→Option Value}{CX:PL}{k:Nat}{fa a:Addr}{fd:fF}{x:Str}{sp:Sp}{s₁:a9}{vs:List Value}{ns:List Int}
  (KX:K.In s₁.heap) (hns:s₁.heap.Ns gS mg) (hb:s₁.heap.Ns oW mb) (hbb:∀x:Str,x≠"__name__"→mb x=gk x) (hlim:s₁.heap.NoLimit) (hg:s₁.gens= #[])
  (ha:s₁.heap.get? a=some {cls:=.type "list",data:=.seq vs.toArray}) (hi:jT vs ns) (hl:ns.length≤sizeLine) (hr:Room k oH)
  (F:∀base:Heap,K.In base→base.Ns gS mg→FnOk P w K mg base CX k fa fd [x] sp) (hbind:∀(s:a9) (u:Value),pD s fd ⟨[u],[]⟩ [(x,u)])
  (hsp:∀H:Hp,Wl H→De K H a (ns.map V.int)→sp [.ref a] H (fun v _=>v=.bl true) fun _ _ _=>False)
  (hCX:∀H e s',CX [] H s₁ (fun _ _ _=>False) e s'→False):
  kW (model P w) oH (.call (.ref fa) ⟨[.ref a],[]⟩) (fun r s'=>r=.ok (.ret (.bool true))∧OldK s₁.heap s'.heap∧s'.os=s₁.os∧mD s'.gens) s₁:=by
 have rv:=EO hi
 have lenV:=hi.length
 have core:∀H:Hp,Wl H→De K H a (ns.map V.int)→HOk P w H s₁.heap→(∀b,H b≠none→b=a)→(H a≠none→K.lookup a=none)→
   kW (model P w) oH (.call (.ref fa) ⟨[.ref a],[]⟩) (fun r s'=>r=.ok (.ret (.bool true))∧OldK s₁.heap s'.heap∧s'.os=s₁.os∧mD s'.gens) s₁:=by
  intro H hO hS hok hA hK
  have base_of:∀{b:Addr} {o:Obj},s₁.heap.get? b=some o→H b=none→(Hw s₁.heap H).get? b=some o:=fun e n=>Ou e n
  have noA:∀{b:Addr} {o:Obj} {es:Array DictEntry} {ep:Nat},s₁.heap.get? b=some o→o.data=.dict es ep→H b=none:=fun{b o es ep} e d=>by
   cases q:H b with
   |none=>rfl
   |some u=>
    have e':b=a:=hA b (by rw[q];simp)
    subst e'
    rw[ha] at e;cases e
    have d':Data.seq vs.toArray _=Data.dict es ep:=d
    cases d'
  have nsK:∀{b:Addr} {m:Str→Option Value},s₁.heap.Ns b m→(Hw s₁.heap H).Ns b m:=fun{b m} ⟨o,es,ep,e,d,r⟩=> ⟨o,es,ep,base_of e (noA e d),d,r⟩
  have hKb:K.In (Hw s₁.heap H):=fun b o e=>base_of (KX b o e) (by
   cases q:H b with
   |none=>rfl
   |some u=>
    have e':b=a:=hA b (by rw[q];simp)
    subst e'
    rw[hK (by rw[q];simp)] at e;cases e)
  have hM:Mod K mg (Hw s₁.heap H):=⟨hKb,nsK hns,⟨mb,nsK hb,hbb⟩,let⟨mc,h1,h2⟩:=hlim;⟨mc,nsK h1,h2⟩⟩
  have e0:Env0 P w K mg (Hw s₁.heap H) oH [] s₁ H:=⟨rfl,hM,fun b o e=>SN e,pB (Nl _ _),trivial,fun b hb=>absurd (show b∈([]:List Addr) from hb) (by simp),hok,.of_eq hg⟩
  refine mz ((F _ hKb (nsK hns)).run oH [] s₁ H ⟨[.ref a],[]⟩ [.ref a] [.ref a] _ _ hr e0 (hbind s₁ (.ref a)) (.cons rfl .nil) (hsp H hO hS)) fun r s' h=>?_
  cases r with
  |error e=>exact(hCX H e s' h).elim
  |ok fl=>
   cases fl with
   |next=>exact kc h
   |brk=>exact kc h
   |cont=>exact kc h
   |ret u=>
    obtain⟨v,H',os,bare,un,hok',r',q⟩:=h
    have q':v=.bl true:=q
    subst q'
    obtain rfl:u=lW true:=r'
    refine⟨rfl,OldK.of_keep fun b o e=>?_,os,bare⟩
    cases q:H b with
    |none=>exact un.keep b o e q (by intro z;exact absurd (show b∈([]:List Addr) from z) (by simp)) (by simp)
    |some u=>
     rcases hO b with z| ⟨ob,xs,z⟩
     ·rw[q] at z;cases z
     ·have z2:=un.frzs b ob _ z
      obtain⟨e1,_⟩:=hok b _ z
      obtain⟨e2,_⟩:=hok' b _ z2
      rw[e] at e1;cases e1
      exact e2
 cases hk:K.lookup a with
 |some o=>
  have e:=KX a o hk
  rw[ha] at e
  cases e
  refine core (fun _=>none) (fun _=> .inl rfl) (.inr ⟨_,vs.toArray,_,hk,rfl,rfl,rfl,by rw[fm,lenV];exact hl,by simpa using rv⟩) (fun b u z=>by have z':(none:Option HO)=some u:=z;cases z') (fun b z=>absurd rfl z) fun z=>absurd rfl z
 |none=>
  refine core (fun b=>if b=a then some (.frz {cls:=.type "list",data:=.seq vs.toArray} (.lst (ns.map V.int))) else none) (fun b=>?_) (.inl (.inr ⟨{cls:=.type "list",data:=.seq vs.toArray},if_pos rfl⟩)) (fun b u z=>?_) (fun b z=>?_) fun _=>hk
  ·by_cases hb:b=a
   ·exact .inr ⟨_,_,if_pos hb⟩
   ·exact .inl (if_neg hb)
  ·by_cases hb:b=a
   ·have z':=(if_pos hb).symm.trans z
    cases z'
    subst hb
    exact⟨ha,by rw[e8];exact hl,vs,_,rv,ha⟩
   ·have z':=(if_neg hb).symm.trans z
    cases z'
  ·by_cases hb:b=a
   ·exact hb
   ·exact absurd (if_neg hb) z
theorem Si{l:nX}{n k:Nat}{q:Program}{loose:List Str}{XP:(Str→Option Value)→Heap→Prop}{YP:World→Heap→Prop}{d:DefRec}{K:Params→a8}{CX:World→PL}{sp:World→Sp}{x:Str}
  (hn:l.most=some n) (hn2:n≤sizeLine) (hdf:d.params.defaults=[]) (hr:Room k oH)
  (hY:∀(w:World) (h:Heap),YP w h→(K w.params).In h)
  (F:∀(w:World) (mg:Str→Option Value) (fa:Addr) (h:Heap),(K w.params).In h→h.Ns gS mg→mg d.name=some (.ref fa)→
   ∃fd:fF,(∀(s:a9) (u:Value),pD s fd ⟨[u],[]⟩ [(x,u)])∧
    ∀base:Heap,(K w.params).In base→base.Ns gS mg→FnOk l.prog w (K w.params) mg base (CX w) k fa fd [x] (sp w))
  (hsp:∀(w:World) (H:Hp) (a:Addr) (ns:List Int),ns.length≤n→Wl H→De (K w.params) H a (ns.map V.int)→sp w [.ref a] H (fun v _=>v=.bl true) fun _ _ _=>False)
  (hCX:∀(w:World) (H:Hp) (s:a9) (e:Value) (s':a9),CX w [] H s (fun _ _ _=>False) e s'→False):
  PySem.W.WalkO q loose XP YP l.row.toRowW d [] (fun f vs=>PySem.call f vs):=by
 refine Att.Jd hn hdf fun w s₀ s₁ mg mb fa o pm cd doc a vs ns G Y ho hd hcd hmg hobj hints hlen hg=>?_
 have KX:=hY w _ Y
 obtain⟨fd,hb,hF⟩:=F w mg fa _ KX G.T.g hmg
 exact PX KX G.T.g G.T.b G.T.builtins G.T.nolimit hg hobj hints (gL hlen hn2) hr hF hb (fun H hO hS=>hsp w H a ns hlen hO hS) fun H e s'=>hCX w H s₁ e s'
def Ds(s:Stmt):Arguments:=match s with
 | .FunctionDef _ a _ _ _ _ _ _ _ _=>a
 |_=> {posonlyargs:=[],args:=[],vararg:=none,kwonlyargs:=[],kw_defaults:=[],kwarg:=none,defaults:=[]}
def Aw(s:Stmt):List Stmt:=match s with
 | .FunctionDef _ _ b _ _ _ _ _ _ _=>b
 |_=> []
def AA(s:Stmt):Scope:=match s with
 | .FunctionDef _ _ _ _ _ _ sc _ _ _=>sc
 |_=> {kind:=.function,names:=[],isGenerator:=false,isCoroutine:=false}
abbrev E0:XK:=fun _ _ _=>False
structure Fun(K:a8)(x qual:Str)(st:Stmt)(f:Addr)(fd:fF):Prop where
 ex:∃(oc:Value) (od:Option Addr) (kV doc pm:Value) (an:Option Addr) (cdv ct:Value) (osl:Array (Option Value)),
  fd=kX x qual (Ds st) (Aw st) (AA st) .none kV doc pm an cdv ct∧K.lookup f=some ⟨oc,od,.func fd,osl⟩∧oj K cdv qual=true
 kp:jP K (.ref f)=true
section
variable{P:Program}{w:World}{K:a8}{mg:Str→Option Value}{base:Heap}
theorem Fun.binds{x qual:Str}{st:Stmt}{f:Addr}{fd:fF}{ps:List Str}(F:Fun K x qual st f fd)
  (h:∀(kV doc pm:Value) (an:Option Addr) (cdv ct:Value) (us:List Value),us.length=ps.length→bindArgs (kX x qual (Ds st) (Aw st) (AA st) .none kV doc pm an cdv ct) ⟨us,[]⟩=pure (ps.zip us)):Binds K fd ps []:=by
 obtain⟨oc,od,kV,doc,pm,an,cdv,ct,osl,rfl,lk,hcd⟩:=F.ex
 exact .all (h kV doc pm an cdv ct)
end
section
variable{X:Cx}
theorem pv(i:Nat){x:Str}{pos:Pos}(hN:X.N[i]?=some x:=by rfl)(hv:Yo X.env.scope x:=by first|exact om rfl|exact nA (om rfl)|exact nA (nA rfl))(hd:(x==("__debug__" :Str))=false:=by decide)
  (hcd:(x==("__classdict__" :Str))=false:=by decide):PE X (.Name x pos) (Yu i):=Ov hN hv hd hcd
end
theorem Sj{A B:Prop}(h:B):if false=true then A else B:=by
 rw[if_neg e6]
 exact h
theorem LM{A B:Prop}(h:A):if true=true then A else B:=by
 rw[if_pos rfl]
 exact h
theorem Zd{c A B:Prop} [Decidable c](h1:c→A)(h2:¬c→B):if c then A else B:=by
 by_cases h:c
 ·rw[if_pos h]
  exact h1 h
 ·rw[if_neg h]
  exact h2 h
end L2
set_option maxHeartbeats 4000000
namespace K35
open PySem L2
def kE(P:Params)(x:Str)(n:Tok)(v:Value):DictEntry:=⟨iD.keyHash P x,.str x n,v⟩
def tp(i:Nat):Stmt:=fU.main.body.getD i (.Pass ⟨0,0,0,0⟩)
def kF(x:Str)(i:Nat)(m:Str)(t:Tok)(c:Addr):Obj:=⟨.type "function",none,.func (kX x x (Ds (tp i)) (Aw (tp i)) (AA (tp i)) .none .none .none (.str m t) none (.ref c) .none),#[]⟩
def kC(x:Str)(a b c:Tok)(vs:List Value):Obj:=⟨.type "code",none,.fields ((pE x a::.str x b::.str "/claim/cut.py" c::vs).toArray),#[]⟩
def kD(x:Str)(a b c:Tok)(l n:Int)(r:Addr)(g:Int)(q:Addr)(z:Int)(k:Tok)(vs:List Value):Obj:=kC x a b c (.int l 0::.int n 0::.int 0 0::.int 0 0::.int 3 0::.ref r::.bool true::.int g 0::.ref q::(vs++[.int z 0,.int l 0,.str "/claim/cut.py" k]))
def Kk:Params→a8:=fun P=> (nat_lit 3,⟨(.type "dict"),none,(.dict #[kE P "__name__" 165 (.str "law_noshortring_k35_whole_turns" 562),kE P "__doc__" 166 .none,kE P "__package__" 167 .none,kE P "__loader__" 168 (.builtin "__main__.__loader__#opaque"),kE P "__spec__" 169 .none,kE P "__annotations__" 170 (.ref 6),kE P "__builtins__" 171 (.ref 4),kE P "__file__" 173 (.str "/claim/cut.py" 172),kE P "__cached__" 174 .none,kE P "RingError" 206 (.ref 24),kE P "NoPlace" 222 (.ref 37),kE P "NoNumber" 238 (.ref 49),kE P "NoLine" 254 (.ref 61),kE P "is_whole" 265 (.ref 70),kE P "need_number" 274 (.ref 77),kE P "is_rising" 280 (.ref 82),kE P "least_told" 286 (.ref 87),kE P "MOST_PLACES" 290 (.int 16 289),kE P "LEAST_RING" 292 (.int 3 291),kE P "web_good" 299 (.ref 94),kE P "ties_good" 305 (.ref 99),kE P "is_pair" 311 (.ref 104),kE P "ties_of" 317 (.ref 109),kE P "is_place" 325 (.ref 116),kE P "nears_of" 331 (.ref 121),kE P "fars_from" 337 (.ref 126),kE P "even_by" 343 (.ref 131),kE P "ring_by_tie" 349 (.ref 136),kE P "shortest" 355 (.ref 141),kE P "renamed" 361 (.ref 146),kE P "LEAST_TIES" 365 (.int 2 364),kE P "MOST_TIES" 367 (.int 15 366),kE P "MOST_RING" 369 (.int 16 368),kE P "need_ties" 376 (.ref 153),kE P "need_ring" 383 (.ref 160),kE P "need_ties_and_ring" 391 (.ref 167),kE P "sum_of_powers" 402 (.ref 174),kE P "grown_places" 411 (.ref 181),kE P "least_by_growth" 419 (.ref 188),kE P "least_fit" 428 (.ref 195),kE P "has_shorter_ring" 437 (.ref 202),kE P "does_fit" 446 (.ref 209),kE P "fits" 455 (.ref 216),kE P "LEAST_PLACES" 459 (.int 3 458),kE P "need_many" 466 (.ref 223),kE P "are_steps" 472 (.ref 228),kE P "steps_good" 480 (.ref 235),kE P "need_steps" 488 (.ref 242),kE P "web_turned" 494 (.ref 247),kE P "ties_turned" 500 (.ref 252),kE P "turned_web" 508 (.ref 259),kE P "turned_ties" 516 (.ref 266),kE P "turned_ring" 524 (.ref 273),kE P "steps_of" 530 (.ref 278),kE P "all_steps" 536 (.ref 283),kE P "steps_that_fit" 542 (.ref 288),kE P "by_turns" 551 (.ref 295),kE P "least_by_turns" 561 (.ref 302),kE P "_law_cell_at" 571 (.ref 309),kE P "_law_next" 578 (.ref 316),kE P "_law_pen_of" 586 (.ref 323),kE P "_law_draw" 595 (.ref 330),kE P "_law_steps_by" 601 (.ref 335),kE P "law" 607 (.ref 340)] 64),#[]⟩)::
  (nat_lit 23,⟨(.type "dict"),none,(.dict #[kE P "__module__" 196 (.str "noshortring.errors" 187),kE P "__firstlineno__" 200 (.int 2 199),kE P "__static_attributes__" 201 (.ref 22),kE P "__weakref__" 203 (.ref 25),kE P "__doc__" 204 .none] 3),#[]⟩)::
  (nat_lit 24,⟨(.type "type"),none,(.cls ⟨"RingError",[(.type "ValueError")],[(.ref 24),(.type "ValueError"),(.type "Exception"),(.type "BaseException"),(.type "object")],23,"RingError",true,[],[(.ref 37),(.ref 49),(.ref 61)],false,none,false⟩),#[(some (.ref 15)),none,(some (.str "RingError" 189)),(some (.str "RingError" 197)),(some (.builtin "ValueError.__new__")),(some (.bool true))]⟩)::
  (nat_lit 36,⟨(.type "dict"),none,(.dict #[kE P "__module__" 214 (.str "noshortring.errors" 187),kE P "__firstlineno__" 218 (.int 4 217),kE P "__static_attributes__" 219 (.ref 35),kE P "__doc__" 220 .none] 2),#[]⟩)::
  (nat_lit 37,⟨(.type "type"),none,(.cls ⟨"NoPlace",[(.ref 24)],[(.ref 37),(.ref 24),(.type "ValueError"),(.type "Exception"),(.type "BaseException"),(.type "object")],36,"NoPlace",true,[],[],false,none,false⟩),#[(some (.ref 28)),none,(some (.str "NoPlace" 207)),(some (.str "NoPlace" 215)),(some (.builtin "ValueError.__new__")),(some (.bool true))]⟩)::
  (nat_lit 48,⟨(.type "dict"),none,(.dict #[kE P "__module__" 230 (.str "noshortring.errors" 187),kE P "__firstlineno__" 234 (.int 6 233),kE P "__static_attributes__" 235 (.ref 47),kE P "__doc__" 236 .none] 2),#[]⟩)::
  (nat_lit 49,⟨(.type "type"),none,(.cls ⟨"NoNumber",[(.ref 24)],[(.ref 49),(.ref 24),(.type "ValueError"),(.type "Exception"),(.type "BaseException"),(.type "object")],48,"NoNumber",true,[],[],false,none,false⟩),#[(some (.ref 40)),none,(some (.str "NoNumber" 223)),(some (.str "NoNumber" 231)),(some (.builtin "ValueError.__new__")),(some (.bool true))]⟩)::
  (nat_lit 61,⟨(.type "type"),none,(.cls ⟨"NoLine",[(.ref 24)],[(.ref 61),(.ref 24),(.type "ValueError"),(.type "Exception"),(.type "BaseException"),(.type "object")],60,"NoLine",true,[],[],false,none,false⟩),#[(some (.ref 52)),none,(some (.str "NoLine" 239)),(some (.str "NoLine" 247)),(some (.builtin "ValueError.__new__")),(some (.bool true))]⟩)::
  (nat_lit 69,kD "is_whole" 257 258 259 11 3 64 181 65 263 264 [.none,(.ref 66),(.ref 67),(.ref 68)])::
  (nat_lit 70,kF "is_whole" 6 "noshortring.common" 255 69)::
  (nat_lit 76,kD "need_number" 266 267 268 15 3 71 181 72 272 273 [.none,(.ref 73),(.ref 74),(.ref 75)])::
  (nat_lit 77,kF "need_number" 7 "noshortring.common" 255 76)::
  (nat_lit 81,kD "is_rising" 275 276 277 18 1 78 181 79 278 279 [.none,.none,.none,(.ref 80)])::
  (nat_lit 82,kF "is_rising" 8 "noshortring.common" 255 81)::
  (nat_lit 86,kD "least_told" 281 282 283 20 1 83 181 84 284 285 [.none,.none,.none,(.ref 85)])::
  (nat_lit 87,kF "least_told" 9 "noshortring.common" 255 86)::
  (nat_lit 93,kD "web_good" 293 294 295 25 1 88 181 89 297 298 [.none,(.ref 90),(.ref 91),(.ref 92)])::
  (nat_lit 94,kF "web_good" 13 "noshortring.webs" 287 93)::
  (nat_lit 98,kD "ties_good" 300 301 302 29 2 95 181 96 303 304 [.none,.none,.none,(.ref 97)])::
  (nat_lit 99,kF "ties_good" 14 "noshortring.webs" 287 98)::
  (nat_lit 103,kD "is_pair" 306 307 308 33 2 100 181 101 309 310 [.none,.none,.none,(.ref 102)])::
  (nat_lit 104,kF "is_pair" 15 "noshortring.webs" 287 103)::
  (nat_lit 108,kD "ties_of" 312 313 314 37 1 105 181 106 315 316 [.none,.none,.none,(.ref 107)])::
  (nat_lit 109,kF "ties_of" 16 "noshortring.webs" 287 108)::
  (nat_lit 115,kD "is_place" 318 319 320 39 2 110 181 111 323 324 [.none,(.ref 112),(.ref 113),(.ref 114)])::
  (nat_lit 116,kF "is_place" 17 "noshortring.webs" 287 115)::
  (nat_lit 120,kD "nears_of" 326 327 328 41 1 117 181 118 329 330 [.none,.none,.none,(.ref 119)])::
  (nat_lit 121,kF "nears_of" 18 "noshortring.webs" 287 120)::
  (nat_lit 125,kD "fars_from" 332 333 334 47 2 122 181 123 335 336 [.none,.none,.none,(.ref 124)])::
  (nat_lit 126,kF "fars_from" 19 "noshortring.webs" 287 125)::
  (nat_lit 130,kD "even_by" 338 339 340 63 1 127 181 128 341 342 [.none,.none,.none,(.ref 129)])::
  (nat_lit 131,kF "even_by" 20 "noshortring.webs" 287 130)::
  (nat_lit 135,kD "ring_by_tie" 344 345 346 66 3 132 181 133 347 348 [.none,.none,.none,(.ref 134)])::
  (nat_lit 136,kF "ring_by_tie" 21 "noshortring.webs" 287 135)::
  (nat_lit 140,kD "shortest" 350 351 352 71 1 137 181 138 353 354 [.none,.none,.none,(.ref 139)])::
  (nat_lit 141,kF "shortest" 22 "noshortring.webs" 287 140)::
  (nat_lit 145,kD "renamed" 356 357 358 74 2 142 181 143 359 360 [.none,.none,.none,(.ref 144)])::
  (nat_lit 146,kF "renamed" 23 "noshortring.webs" 287 145)::
  (nat_lit 152,kD "need_ties" 370 371 372 84 1 147 181 148 374 375 [.none,(.ref 149),(.ref 150),(.ref 151)])::
  (nat_lit 153,kF "need_ties" 28 "noshortring.fewest" 362 152)::
  (nat_lit 159,kD "need_ring" 377 378 379 86 1 154 181 155 381 382 [.none,(.ref 156),(.ref 157),(.ref 158)])::
  (nat_lit 160,kF "need_ring" 29 "noshortring.fewest" 362 159)::
  (nat_lit 166,kD "need_ties_and_ring" 384 385 386 88 2 161 181 162 389 390 [.none,(.ref 163),(.ref 164),(.ref 165)])::
  (nat_lit 167,kF "need_ties_and_ring" 30 "noshortring.fewest" 362 166)::
  (nat_lit 173,kD "sum_of_powers" 392 393 394 91 2 168 181 169 400 401 [.none,(.ref 170),(.ref 171),(.ref 172)])::
  (nat_lit 174,kF "sum_of_powers" 31 "noshortring.fewest" 362 173)::
  (nat_lit 180,kD "grown_places" 403 404 405 98 2 175 181 176 409 410 [.none,(.ref 177),(.ref 178),(.ref 179)])::
  (nat_lit 181,kF "grown_places" 32 "noshortring.fewest" 362 180)::
  (nat_lit 187,kD "least_by_growth" 412 413 414 101 2 182 181 183 417 418 [.none,(.ref 184),(.ref 185),(.ref 186)])::
  (nat_lit 188,kF "least_by_growth" 33 "noshortring.fewest" 362 187)::
  (nat_lit 194,kD "least_fit" 420 421 422 104 2 189 181 190 426 427 [.none,(.ref 191),(.ref 192),(.ref 193)])::
  (nat_lit 195,kF "least_fit" 34 "noshortring.fewest" 362 194)::
  (nat_lit 201,kD "has_shorter_ring" 429 430 431 107 2 196 181 197 435 436 [.none,(.ref 198),(.ref 199),(.ref 200)])::
  (nat_lit 202,kF "has_shorter_ring" 35 "noshortring.fewest" 362 201)::
  (nat_lit 208,kD "does_fit" 438 439 440 110 3 203 181 204 444 445 [.none,(.ref 205),(.ref 206),(.ref 207)])::
  (nat_lit 209,kF "does_fit" 36 "noshortring.fewest" 362 208)::
  (nat_lit 215,kD "fits" 447 448 449 112 3 210 181 211 453 454 [.none,(.ref 212),(.ref 213),(.ref 214)])::
  (nat_lit 216,kF "fits" 37 "noshortring.fewest" 362 215)::
  (nat_lit 222,kD "need_many" 460 461 462 117 1 217 181 218 464 465 [.none,(.ref 219),(.ref 220),(.ref 221)])::
  (nat_lit 223,kF "need_many" 40 "noshortring.turning" 456 222)::
  (nat_lit 227,kD "are_steps" 467 468 469 119 2 224 181 225 470 471 [.none,.none,.none,(.ref 226)])::
  (nat_lit 228,kF "are_steps" 41 "noshortring.turning" 456 227)::
  (nat_lit 234,kD "steps_good" 473 474 475 123 2 229 181 230 478 479 [.none,(.ref 231),(.ref 232),(.ref 233)])::
  (nat_lit 235,kF "steps_good" 42 "noshortring.turning" 456 234)::
  (nat_lit 241,kD "need_steps" 481 482 483 126 2 236 181 237 486 487 [.none,(.ref 238),(.ref 239),(.ref 240)])::
  (nat_lit 242,kF "need_steps" 43 "noshortring.turning" 456 241)::
  (nat_lit 246,kD "web_turned" 489 490 491 129 2 243 181 244 492 493 [.none,.none,.none,(.ref 245)])::
  (nat_lit 247,kF "web_turned" 44 "noshortring.turning" 456 246)::
  (nat_lit 251,kD "ties_turned" 495 496 497 134 2 248 181 249 498 499 [.none,.none,.none,(.ref 250)])::
  (nat_lit 252,kF "ties_turned" 45 "noshortring.turning" 456 251)::
  (nat_lit 258,kD "turned_web" 501 502 503 136 2 253 181 254 506 507 [.none,(.ref 255),(.ref 256),(.ref 257)])::
  (nat_lit 259,kF "turned_web" 46 "noshortring.turning" 456 258)::
  (nat_lit 265,kD "turned_ties" 509 510 511 139 2 260 181 261 514 515 [.none,(.ref 262),(.ref 263),(.ref 264)])::
  (nat_lit 266,kF "turned_ties" 47 "noshortring.turning" 456 265)::
  (nat_lit 272,kD "turned_ring" 517 518 519 142 2 267 181 268 522 523 [.none,(.ref 269),(.ref 270),(.ref 271)])::
  (nat_lit 273,kF "turned_ring" 48 "noshortring.turning" 456 272)::
  (nat_lit 277,kD "steps_of" 525 526 527 145 1 274 181 275 528 529 [.none,.none,.none,(.ref 276)])::
  (nat_lit 278,kF "steps_of" 49 "noshortring.turning" 456 277)::
  (nat_lit 282,kD "all_steps" 531 532 533 150 1 279 181 280 534 535 [.none,.none,.none,(.ref 281)])::
  (nat_lit 283,kF "all_steps" 50 "noshortring.turning" 456 282)::
  (nat_lit 287,kD "steps_that_fit" 537 538 539 155 3 284 181 285 540 541 [.none,.none,.none,(.ref 286)])::
  (nat_lit 288,kF "steps_that_fit" 51 "noshortring.turning" 456 287)::
  (nat_lit 294,kD "by_turns" 543 544 545 160 3 289 181 290 549 550 [.none,(.ref 291),(.ref 292),(.ref 293)])::
  (nat_lit 295,kF "by_turns" 52 "noshortring.turning" 456 294)::
  (nat_lit 301,kD "least_by_turns" 552 553 554 164 2 296 181 297 559 560 [.none,(.ref 298),(.ref 299),(.ref 300)])::
  (nat_lit 302,kF "least_by_turns" 53 "noshortring.turning" 456 301)::
  (nat_lit 308,kD "_law_cell_at" 564 565 566 172 2 303 181 304 569 570 [.none,(.ref 305),(.ref 306),(.ref 307)])::
  (nat_lit 309,kF "_law_cell_at" 55 "law_noshortring_k35_whole_turns" 562 308)::
  (nat_lit 315,kD "_law_next" 572 573 574 176 1 310 181 311 576 577 [.none,(.ref 312),(.ref 313),(.ref 314)])::
  (nat_lit 316,kF "_law_next" 56 "law_noshortring_k35_whole_turns" 562 315)::
  (nat_lit 322,kD "_law_pen_of" 579 580 581 179 1 317 181 318 584 585 [.none,(.ref 319),(.ref 320),(.ref 321)])::
  (nat_lit 323,kF "_law_pen_of" 57 "law_noshortring_k35_whole_turns" 562 322)::
  (nat_lit 329,kD "_law_draw" 587 588 589 182 2 324 181 325 593 594 [.none,(.ref 326),(.ref 327),(.ref 328)])::
  (nat_lit 330,kF "_law_draw" 58 "law_noshortring_k35_whole_turns" 562 329)::
  (nat_lit 334,kD "_law_steps_by" 596 597 598 189 2 331 181 332 599 600 [.none,.none,.none,(.ref 333)])::
  (nat_lit 335,kF "_law_steps_by" 59 "law_noshortring_k35_whole_turns" 562 334)::
  (nat_lit 339,kD "law" 602 603 604 191 1 336 181 337 605 606 [.none,.none,.none,(.ref 338)])::
  (nat_lit 340,kF "law" 60 "law_noshortring_k35_whole_turns" 562 339)::[]
def ka:List Addr:=[3,23,24,36,37,48,49,61,69,70,76,77,81,82,86,87,93,94,98,99,103,104,108,109,115,116,120,121,125,126,130,131,135,136,140,141,145,146,152,153,159,160,166,167,173,174,180,181,187,188,194,195,201,202,208,209,215,216,222,223,227,228,234,235,241,242,246,247,251,252,258,259,265,266,272,273,277,278,282,283,287,288,294,295,301,302,308,309,315,316,322,323,329,330,334,335,339,340]
abbrev kq:Program:=PySem.W.view fU [1,2,3,4,6,7,8,9,11,12,13,14,15,16,17,18,19,20,21,22,23,25,26,27,28,29,30,31,32,33,34,35,36,37,39,40,41,42,43,44,45,46,47,48,49,50,51,52,53,55,56,57,58,59,60]
theorem cU:(fun(_:Params→a8) (_:Program)=>true) Kk fU=true:=by k_qdec
abbrev oS(s:a9):=PySem.W.openSeen kq [] (importedModules fU.main.body) (fun s=>pj kq [] s&&oO [] s) true s
abbrev oE(w:World):=PySem.W.openEnds treeTable fU w 4558
theorem Ze(w:World):(oE w).map (fun s=> ((oS s).1,(oS s).2.2.2.2.1))=some ((gX kq []).1,(gX kq []).2.2.2.2.1):=by
 delta oE oS kq
 rw[PySem.W.Fast.te17339806898818391627,iC,iG]
 delta iF gX
 dsimp only
 kernel_rfl
theorem Zf(w:World):(oE w).map (fun s=> ((oS s).2.1,(oS s).2.2.1,(oS s).2.2.2.2.2.2.1,(oS s).2.2.2.2.2.2.2.2))=some ((gX kq []).2.1,(gX kq []).2.2.1,(gX kq []).2.2.2.2.2.2.1,(gX kq []).2.2.2.2.2.2.2.2):=by
 delta oE oS kq
 rw[PySem.W.Fast.te17339806898818391627,iC,iG,PySem.W.Fast.te5923862056798008813]
 delta iF gX
 dsimp only
 kernel_rfl
theorem Zg(w:World):(oE w).map (fun s=> ((oS s).2.2.2.1))=some ((gX kq []).2.2.2.1):=by
 delta oE oS kq
 rw[PySem.W.Fast.te17339806898818391627,iC,iG]
 delta iF gX
 dsimp only
 kernel_rfl
theorem Zh(w:World):(oE w).map (fun s=> ((oS s).2.2.2.2.2.1))=some ((gX kq []).2.2.2.2.2.1):=by
 delta oE oS kq
 rw[PySem.W.Fast.te17339806898818391627,iC,iG]
 delta iF gX
 dsimp only
 kernel_rfl
theorem Zi(w:World):(oE w).map (fun s=> ((oS s).2.2.2.2.2.2.2.1,ka.map s.heap.get?))=some ((gX kq []).2.2.2.2.2.2.2.1,(Kk w.params).map fun(p:Addr×Obj)=>some p.2):=by
 delta oE oS kq
 rw[PySem.W.Fast.te13638400983125491801,PySem.W.Fast.te17339806898818391627,iC,iG]
 delta iF gX
 dsimp only
 kernel_rfl
theorem left:PySem.W.LeftO fU kq [] (fun s=>pj kq [] s&&oO [] s) (fun s=>ka.map s.heap.get?) (fun w=> (Kk w.params).map fun(p:Addr×Obj)=>some p.2) 4558:=by
 intro w
 have h0:=Ze w
 have h1:=Zf w
 have h2:=Zg w
 have h3:=Zh w
 have h4:=Zi w
 show(oE w).map (fun s=> (oS s,ka.map s.heap.get?))=_
 revert h0 h1 h2 h3 h4
 cases oE w with
 |none=>intro h;cases h
 |some s=>
  intro h0 h1 h2 h3 h4
  have h0:=gh.inj h0
  simp only[oP] at h0
  have h1:=gh.inj h1
  simp only[oP] at h1
  have h2:=gh.inj h2
  have h3:=gh.inj h3
  have h4:=gh.inj h4
  simp only[oP] at h4
  exact congrArg some (iu (iu (h0.1) (iu (h1.1) (iu (h1.2.1) (iu (h2) (iu (h0.2) (iu (h3) (iu (h1.2.2.1) (iu (h4.1) (h1.2.2.2))))))))) (h4.2))
end K35
namespace L2
open PySem PySem.Spec PyProof.Rows
theorem IE{env:Env}:∀(l:List (Str×NameKind)) (acc:List (Str×Addr)),(∀y∈l,y.2=.free→∃c,env.cells.lookup y.1=some c)→
  (∀x c,acc.lookup x=some c→env.cells.lookup x=some c)→
  ∃cl,(forIn l acc (fun(x:Str×NameKind) (r:List (Str×Addr))=> (match x with
   | (name,kind)=>if(kind==NameKind.free)=true then(do let a←cellOf env name;pure (jq ((name,a)::r))) else pure (jq r):Sem (ForInStep (List (Str×Addr))))))=(pure cl:Sem _)∧
   (∀x c,cl.lookup x=some c→env.cells.lookup x=some c)∧(∀x,(acc.lookup x).isSome=true→(cl.lookup x).isSome=true)∧∀y∈l,y.2=.free→(cl.lookup y.1).isSome=true
 | [],acc,_,ha=> ⟨acc,rfl,ha,fun _ h=>h,fun _ h=>nomatch h⟩
 | (n,k)::r,acc,h,ha=>by
  have hr:∀y∈r,y.2=.free→∃c,env.cells.lookup y.1=some c:=fun y hy=>h y (fv _ hy)
  by_cases hk:k=.free
  ·subst hk
   obtain⟨c,hc⟩:=h (n,.free) fQ rfl
   have hc:env.cells.lookup n=some c:=hc
   have ha':∀x c',((n,c)::acc).lookup x=some c'→env.cells.lookup x=some c':=fun x c' e=>by
    rw[gE] at e
    cases hx:x==n with
    |true=>rw[hx] at e;cases e;rw[beq_iff_eq.mp hx];exact hc
    |false=>rw[hx] at e;exact ha x c' e
   obtain⟨cl,e,h1,h2,h3⟩:=IE r ((n,c)::acc) hr ha'
   refine⟨cl,?_,h1,fun x hx=>h2 x ?_,fun y hy hf=>?_⟩
   ·rw[mn]
    simp only[cellOf,hc,beq_self_eq_true,if_true]
    exact e
   ·rw[gE]
    cases x==n with
    |true=>rfl
    |false=>exact hx
   ·rcases fh.mp hy with rfl|hy
    ·exact h2 n (by rw[gE,beq_self_eq_true];rfl)
    ·exact h3 y hy hf
  ·have hb:(k==NameKind.free)=false:=by simpa using hk
   obtain⟨cl,e,h1,h2,h3⟩:=IE r acc hr ha
   refine⟨cl,?_,h1,h2,fun y hy hf=>?_⟩
   ·rw[mn]
    simp only[hb,fJ,if_false]
    exact e
   ·rcases fh.mp hy with rfl|hy
    ·exact absurd hf hk
    ·exact h3 y hy hf
theorem Sk{env:Env}{csc:Scope}(h:∀y∈csc.names,y.2=.free→∃c,env.cells.lookup y.1=some c):
  ∃cl,closureFor csc env=pure cl∧(∀x c,cl.lookup x=some c→env.cells.lookup x=some c)∧∀y∈csc.names,y.2=.free→(cl.lookup y.1).isSome=true:=by
 obtain⟨cl,e,h1,_,h3⟩:=IE csc.names [] h (fun x c e=>by cases e)
 refine⟨cl,?_,h1,h3⟩
 unfold closureFor
 have e':=congrArg (fun m:Sem (List (Str×Addr))=>m>>=fun r=>pure r) e
 exact e'
theorem Dt{env:Env}:∀{names:List (Str×NameKind)} {x:Str},names.lookup x=some .free→
  (names.map fun(n,k)=>if(k==NameKind.free&&env.scope.kind==.function&&env.kindOf n==some .cell) then(n,kL) else(n,k)).lookup x=some .cell∨
  (names.map fun(n,k)=>if(k==NameKind.free&&env.scope.kind==.function&&env.kindOf n==some .cell) then(n,kL) else(n,k)).lookup x=some .free
 | [],_,h=>by simp at h
 | (n,k)::r,x,h=>by
  have ih:=@Dt env r x
  rw[fL]
  show List.lookup x ((if(k==NameKind.free&&env.scope.kind==.function&&env.kindOf n==some .cell)=true then(n,kL) else(n,k))::_)=_∨List.lookup x ((if(k==NameKind.free&&env.scope.kind==.function&&env.kindOf n==some .cell)=true then(n,kL) else(n,k))::_)=_
  cases hx:x==n with
  |true=>
   simp only[gE,hx] at h
   cases h
   split
   ·exact .inl (by rw[gE,hx])
   ·exact .inr (by rw[gE,hx])
  |false=>
   simp only[gE,hx] at h
   split
   ·simp only[gE,hx];exact ih h
   ·simp only[gE,hx];exact ih h
def Mo:Option NameKind→Bool
 |some .cell=>true
 |_=>false
theorem Je{k:Option NameKind}(h:Mo k=true):k=some .cell:=by
 cases k with
 |none=>cases h
 |some k=>cases k<;>first|rfl|cases h
def Sl(X:Cx)(csc:Scope)(cl:List (Str×Addr))(N':List Str)(s:a9)(H:Hp)(fp:List Addr):Cx:=
 {X with N:=N',s₀:=s,H₀:=H,env:=o9 csc cl s.heap.objs.size X.env,outer:=X.stack,ex:=fp,fn:=fun x=>Mo (csc.names.lookup x),pn:=[],xe:=fun _ _=>False}
structure LcCx(X:Cx)(csc:Scope)(N':List Str)(X':Cx):Prop where
 is:∃cl s H fp,X'=Sl X csc cl N' s H fp
def Bj(σ:St)(cap:List (Str×Nat)):St:=cap.map fun p=> (σ[p.2]?).join
structure LcOk(X:Cx)(csc:Scope)(nc:List Str)(cap:List (Str×Nat)):Prop where
 kind:csc.kind=.function
 cells:∀y∈csc.names,y.2=.cell→csc.names.lookup y.1=some .cell
 locals:∀y∈csc.names,y.2=.local→csc.names.lookup y.1=some .local
 free:∀y∈csc.names,y.2=.free→X.env.scope.names.lookup y.1=some .cell∨X.env.scope.names.lookup y.1=some .free
 caps:∀p∈cap,X.N[p.2]?=some p.1∧csc.names.lookup p.1=some .free
abbrev Ae(nc:List Str)(cap:List (Str×Nat)):List Str:=nc++cap.map (·.1)
abbrev Gv(nc:List Str)(σ:St)(cap:List (Str×Nat)):St:=iA nc.length none++Bj σ cap
theorem Ak{α:Type}:∀{l:List (Str×α)} {x:Str} {v:α},l.lookup x=some v→(x,v)∈l
 | [],_,_,h=>by simp at h
 | (n,k)::r,x,v,h=>by
  rw[gE] at h
  cases hx:x==n with
  |true=>rw[hx] at h;cases h;rw[beq_iff_eq.mp hx];exact fQ
  |false=>rw[hx] at h;exact fv _ (Ak h)
theorem LN:∀(names:List (Str×NameKind)) (L:Nat) (a acc:List (Str×Addr)),i9 L names (a++acc)=i9 L names a++acc
 | [],_,_,_=>rfl
 | (n,k)::r,L,a,acc=>by
  unfold i9
  split
  ·exact LN r (L+1) ((n,L)::a) acc
  ·exact LN r L a acc
theorem Wm(names:List (Str×NameKind))(L:Nat)(acc:List (Str×Addr)):i9 L names acc=i9 L names []++acc:=LN names L [] acc
theorem LO:∀(names:List (Str×NameKind)) (L:Nat) (acc:List (Str×Addr)) (x:Str) (c:Addr),(x,c)∈i9 L names acc→(x,.cell)∈names∨(x,c)∈acc
 | [],_,_,_,_,h=> .inr h
 | (n,k)::r,L,acc,x,c,h=>by
  unfold i9 at h
  split at h
  ·rename_i hk
   rcases LO r (L+1) _ x c h with h|h
   ·exact .inl (fv _ h)
   ·rcases fh.mp h with h|h
    ·cases h
     rw[eq_of_beq hk]
     exact .inl fQ
    ·exact .inr h
  ·rcases LO r L _ x c h with h|h
   ·exact .inl (fv _ h)
   ·exact .inr h
theorem IF:∀(names:List (Str×NameKind)) (L:Nat) (acc:List (Str×Addr)) (x:Str),((x,.cell)∈names∨(acc.lookup x).isSome=true)→((i9 L names acc).lookup x).isSome=true
 | [],_,_,_,h=>h.elim (fun z=>by cases z) id
 | (n,k)::r,L,acc,x,h=>by
  unfold i9
  split
  ·refine IF r (L+1) _ x ?_
   rcases h with h|h
   ·rcases fh.mp h with h|h
    ·cases h
     exact .inr (by rw[gE,beq_self_eq_true];rfl)
    ·exact .inl h
   ·refine .inr ?_
    rw[gE]
    cases x==n with
    |true=>rfl
    |false=>exact h
  ·rename_i hk
   refine IF r L acc x ?_
   rcases h with h|h
   ·rcases fh.mp h with h|h
    ·cases h;exact absurd rfl hk
    ·exact .inl h
   ·exact .inr h
theorem Df{α:Type}:∀{l m:List (Str×α)} {x:Str},(l++m).lookup x=match l.lookup x with|some v=>some v|none=>m.lookup x
 | [],_,_=>rfl
 | (n,k)::r,m,x=>by
  rw[gj,gE,gE]
  cases x==n with
  |true=>rfl
  |false=>exact Df
structure LcCells(X:Cx)(csc:Scope)(cs:List (Str×Addr))(s:a9)(h1:Heap):Prop where
 at_:∀x c,cs.lookup x=some c→(csc.names.lookup x=some .cell∧s.heap.objs.size≤c∧h1.IsCell c none)∨(csc.names.lookup x≠some .cell∧X.env.cells.lookup x=some c)
 has:∀x,csc.names.lookup x=some .free∨csc.names.lookup x=some .cell→∃c,cs.lookup x=some c
 inj:∀x y c,cs.lookup x=some c→cs.lookup y=some c→x=y
theorem Sm{X:Cx}{csc:Scope}{cl:List (Str×Addr)}{nc:List Str}{cap:List (Str×Nat)}{pins:List (Addr×Obj)}{σ:St}{H:Hp}{s:a9}{o:Obj}
  (ok:LcOk X csc nc cap) (I:Inv X pins σ H s) (hc1:∀x c,cl.lookup x=some c→X.env.cells.lookup x=some c) (hc2:∀y∈csc.names,y.2=.free→(cl.lookup y.1).isSome=true):
  LcCells X csc (i9 (s.heap.objs.size+1) csc.names cl) s (oD (s.heap.push o) csc.names):=by
 have nk:=cellsFrom_ok csc.names (s.heap.push o) (s.heap.objs.size+1) [] ⟨fun _ _ hm=> (nomatch hm),j4⟩ (by rw[iJ];exact fj _)
 rw[iJ] at nk
 rw[Wm]
 have split:∀x c,(i9 (s.heap.objs.size+1) csc.names []++cl).lookup x=some c→((x,c)∈i9 (s.heap.objs.size+1) csc.names []∧csc.names.lookup x=some .cell)∨(csc.names.lookup x≠some .cell∧cl.lookup x=some c):=fun x c e=>by
  rw[Df] at e
  cases hx:(i9 (s.heap.objs.size+1) csc.names []).lookup x with
  |some v=>
   rw[hx] at e
   cases e
   have m:=Ak hx
   refine .inl ⟨m,?_⟩
   rcases LO _ _ _ _ _ m with z|z
   ·exact ok.cells _ z rfl
   ·cases z
  |none=>
   rw[hx] at e
   refine .inr ⟨fun z=>?_,e⟩
   have:=IF csc.names (s.heap.objs.size+1) [] x (.inl (Ak z))
   rw[hx] at this
   cases this
 refine⟨fun x c e=>?_,fun x hx=>?_,fun x y c e1 e2=>?_⟩
 ·rcases split x c e with⟨m,k⟩| ⟨k,e⟩
  ·exact .inl ⟨k,m7 (nk.empty x c m).2,(nk.empty x c m).1⟩
  ·exact .inr ⟨k,hc1 x c e⟩
 ·refine Option.isSome_iff_exists.mp ?_
  rw[Df]
  cases hn:(i9 (s.heap.objs.size+1) csc.names []).lookup x with
  |some v=>rfl
  |none=>
   rcases hx with hx|hx
   ·exact hc2 _ (Ak hx) rfl
   ·have:=IF csc.names (s.heap.objs.size+1) [] x (.inl (Ak hx))
    rw[hn] at this
    cases this
 ·have old:∀z,cl.lookup z=some c→c<s.heap.objs.size:=fun z e=>by
   obtain⟨v,hv⟩:=I.cell z c (hc1 z c e)
   exact hv.lt
  rcases split x c e1 with⟨m1,_⟩| ⟨_,g1⟩<;>rcases split y c e2 with⟨m2,_⟩| ⟨_,g2⟩
  ·exact name_of_addr nk.apart m1 m2
  ·exact absurd (fM (old y g2) (m7 (nk.empty x c m1).2)) (gU _)
  ·exact absurd (fM (old x g1) (m7 (nk.empty y c m2).2)) (gU _)
  ·exact I.ok.inj x y c (hc1 x c g1) (hc1 y c g2)
section
variable{M:Model}{A:fG}{E:Value→a9→Prop}{s:a9}
theorem PY{scope:Scope}{globals:Addr}{closure:List (Str×Addr)}{qual:Str}{env:Env}{Q:Env→a9→Prop}
  (hQ:Q (newEnv scope s.heap.objs.size globals (i9 (s.heap.objs.size+1) scope.names closure) qual none .none (some env) oW) {s with heap:=oD (s.heap.push {cls:=.type "dict",data:=.dict #[]}) scope.names}):
  wpAny M A (n9 scope globals closure [] qual none .none (some env)) Q E s:=by
 simp only[n9,Option.isSome_some,if_true]
 refine a7 (wpAny_alloc ?_)
 refine a7 (wpAny_layCells _ (fun name kind cells=>by cases hkc:kind==kL<;>simp[hkc]) _ _ _ _ ?_)
 rw[show({s with heap:=s.heap.push {cls:=.type "dict",data:=.dict #[]}}:a9).heap.objs.size=s.heap.objs.size+1 from iJ ..]
 refine a7 ?_
 rw[ow]
 exact b6 (b6 hQ)
end
theorem Wn{X:Cx}{csc:Scope}{cl:List (Str×Addr)}{nc:List Str}{cap:List (Str×Nat)}{pins:List (Addr×Obj)}{σ:St}{H:Hp}{s:a9}{h1:Heap}{fp:List Addr}
  (ok:LcOk X csc nc cap) (I:Inv X pins σ H s) (C:LcCells X csc cl s h1)
  (hf:∀b∈fp,FT X pins H b) (ho:∀b∈fp,∃o,s.heap.get? b=some o)
  (hn:h1.Ns s.heap.objs.size (fun _=>none)) (kept:∀b o,s.heap.get? b=some o→h1.get? b=some o):
  Inv (Sl X csc cl (Ae nc cap) s H fp) [] (Gv nc σ cap) H {s with heap:=h1}:=by
 have frel:∀x,csc.names.lookup x=some .free→(o9 csc cl s.heap.objs.size X.env).kindOf x=some .cell∨(o9 csc cl s.heap.objs.size X.env).kindOf x=some .free:=fun x h=>Dt h
 have back:∀{names:List (Str×NameKind)} {x:Str},((names.map fun(n,k)=>if(k==NameKind.free&&X.env.scope.kind==.function&&X.env.kindOf n==some .cell) then(n,kL) else(n,k)).lookup x=some .cell∨
   (names.map fun(n,k)=>if(k==NameKind.free&&X.env.scope.kind==.function&&X.env.kindOf n==some .cell) then(n,kL) else(n,k)).lookup x=some .free)→
   names.lookup x=some .free∨names.lookup x=some .cell:=by
  intro names
  induction names with
  |nil=>intro x h;simp at h
  |cons p r ih=>
   obtain⟨n,k⟩:=p
   intro x h
   rw[fL] at h
   cases hx:x==n with
   |true=>
    rw[gE,hx]
    have e:∀(kk:NameKind) (l:List (Str×NameKind)),((n,kk)::l).lookup x=some kk:=fun kk l=>by rw[gE,hx]
    by_cases hcnd:(k==NameKind.free&&X.env.scope.kind==.function&&X.env.kindOf n==some .cell)=true
    ·left
     have:(k==NameKind.free)=true:=by
      revert hcnd;cases(k==NameKind.free)<;>simp
     show some k=some .free
     rw[eq_of_beq this]
    ·simp only[if_neg hcnd] at h
     rw[e,] at h
     exact h.symm
   |false=>
    have e:∀(kk:NameKind) (l:List (Str×NameKind)),((n,kk)::l).lookup x=l.lookup x:=fun kk l=>by rw[gE,hx]
    by_cases hcnd:(k==NameKind.free&&X.env.scope.kind==.function&&X.env.kindOf n==some .cell)=true
    ·simp only[if_pos hcnd] at h
     rw[e] at h
     rw[e]
     exact ih h
    ·simp only[if_neg hcnd] at h
     rw[e] at h
     rw[e]
     exact ih h
 refine⟨⟨I.ok.mod,ok.kind,I.ok.glob,I.ok.blt,fj _,C.inj,fun x hx=>C.has x (back hx),fun x c e1 e2=>?_,I.ok.hd,I.ok.frames,.inl rfl,fun b hb=> ⟨?_,fun x c e=>?_⟩,
  I.bs,gL I.ok.bsz I.sz,fun b o e hb=>?_,fun b hb z=>?_,I.stack,I.stkFree⟩,rfl,I.bare,⟨fun b o e _ _ _=>kept b o e,fun b o e _ _ _=> ⟨o.slots,kept b o e⟩,fun b o e n _=>n,fun b o e _=> ⟨o,kept b o e⟩,fun _ _ e=>e,fun _ _ _ e=>e,fun b ps e=> ⟨#[],by rw[show H b=some (HO.tbl ps) from e];simp⟩⟩,
  ⟨_,hn,fun i x v e1 e2 e3=>?_⟩,fun x c e=>?_,I.hok.fresh (fj _),fun x c e=> (C.at_ x c e).elim (fun z=>I.hok.fresh z.2.1) (fun z=>I.freeC x c z.2),fun p hp=>absurd (show p∈([]:List (Addr×Obj)) from hp) (by simp),I.hok.kept kept,?_⟩
 ·rcases C.at_ x c e2 with z|z
  ·exact z.2.1
  ·exact absurd (Je e1) z.1
 ·obtain⟨o,e⟩:=ho b hb
  exact fS (fq e)
 ·rcases C.at_ x c e with z|z
  ·obtain⟨o,e⟩:=ho b hb
   exact kY (fM (fq e) z.2.1)
  ·exact(hf b hb).2.2.2.2.1 x c z.2
 ·have h1:=(hf b hb).2.2.2.1
  rcases h1 with z|z
  ·exact I.ok.noex b o e z
  ·exact absurd (fM (fq e) (gL I.ok.bsz z)) (gU _)
 ·have h1:=(hf b hb).2.1
  have h2:=(hf b hb).2.2.1
  exact(fh.mp (I.stkSub b z)).elim h1 h2
 ·--the names
  have hlen:nc.length≤i:=by
   by_cases hi:i<nc.length
   ·have e2':(iA nc.length (none:Option V)++Bj σ cap)[i]?=some (some v):=e2
    rw[gz (by simpa using hi),jg] at e2'
    split at e2'<;>cases e2'
   ·omega
  have e1':(nc++cap.map (·.1))[i]?=some x:=e1
  have e2':(iA nc.length (none:Option V)++Bj σ cap)[i]?=some (some v):=e2
  rw[fR hlen,fc] at e1'
  rw[fR (by simpa using hlen)] at e2'
  simp only[jt] at e2'
  unfold Bj at e2'
  rw[fc] at e2'
  cases hp:cap[i-nc.length]? with
  |none=>rw[hp] at e1';cases e1'
  |some p=>
   rw[hp] at e1' e2'
   have e1'':p.1=x:=gh.inj e1'
   have e2'':(σ[p.2]?).join=some v:=gh.inj e2'
   subst e1''
   obtain⟨c1,c2⟩:=ok.caps p (fk hp)
   have hσ:σ[p.2]?=some (some v):=by
    cases q:σ[p.2]? with
    |none=>rw[q] at e2'';cases e2''
    |some w'=>rw[q] at e2'';exact congrArg some e2''
   have vis:X.env.scope.names.lookup p.1=some .cell∨X.env.scope.names.lookup p.1=some .free:=ok.free _ (Ak c2) rfl
   obtain⟨m,_,hl⟩:=I.loc
   obtain⟨u,r,l⟩:=hl p.2 p.1 v c1 hσ (vis.elim (fun z=> .inr (.inl z)) fun z=> .inr (.inr z))
   refine⟨u,r,.inr ⟨frel p.1 c2,?_⟩⟩
   rcases l with⟨k,_⟩| ⟨_,c,e,z⟩
   ·have k:X.env.scope.names.lookup p.1=some .local:=k
    rcases vis with q|q<;> (rw[q] at k;cases k)
   ·obtain⟨c',e''⟩:=C.has p.1 (.inl c2)
    have q:X.env.cells.lookup p.1=some c':=by
     rcases C.at_ _ _ e'' with z|z
     ·rw[c2] at z;cases z.1
     ·exact z.2
    rw[e] at q;cases q
    obtain⟨o,z1,z2⟩:=z
    exact⟨c,e'',o,kept c o z1,z2⟩
 ·rcases C.at_ x c e with z|z
  ·exact⟨none,z.2.2⟩
  ·obtain⟨v,o,z1,z2⟩:=I.cell x c z.2
   exact⟨v,o,kept c o z1,z2⟩
 ·show(iA nc.length (none:Option V)++Bj σ cap).length=(nc++cap.map (·.1)).length
  unfold Bj
  simp
section
variable{prog:Program}{w:World}{A:fG}{R:pF→a9→Prop}{s:a9}
abbrev Sn:Value→a9→Prop:=fun _ _=>False
theorem Cs{elt target iter:Expr}{ifs:List Expr}{scope:Scope}{pos:Pos}{it acc:Value}{env:Env}(I:Nat→a9→Prop)
  (turn:∀n s,I n s→wpAny (model prog w) A (lF it) (fun r s₁=>match r with
   |none=>R (.ok .next) s₁
   |some v=>wpAny (model prog w) A (ml target it v) (fun _ s₂=>wpAny (model prog w) A (assign target env v) (fun _ s₃=>
     wpAny (model prog w) A (forIn ifs true fun c r=>if r=true then do let ok←isTrue c env (eval c env);pure (jq ok) else pure (jq r)) (fun ok s₄=>
      if ok=true then wpAny (model prog w) A (eval elt env) (fun x s₅=>
       wpAny (model prog w) A (call (.builtin "list.append") [acc,x]) (fun _ s₆=>∃m,m<n∧I m s₆) Sn s₅) Sn s₄
      else∃m,m<n∧I m s₄) Sn s₃) Sn s₂) Sn s₁) Sn s)
  (n:Nat) (h:I n s):
  kW (model prog w) A (.compLoop (.ListComp elt [⟨target,iter,ifs,0⟩] scope pos) 0 it acc env) R s:=by
 refine codeAny_loop rfl I (fun n s hI=>?_) n h
 show wpAny _ A ((compTurn (.ListComp elt [⟨target,iter,ifs,0⟩] scope pos) 0 it acc env).onRaise (fun x=>do noteFrame x env;theTreesLotGoes x)) _ _ s
 refine wpAny_noted (wpAny_noRaise ?_)
 rw[compTurn_list]
 refine a7 (lh (a7 (Ao (turn n s hI) fun r s₁ h₁=>?_)))
 cases r with
 |none=>exact b6 h₁
 |some v=>
  refine a7 (Ao h₁ fun _ s₂ h₂=>a7 (Ao h₂ fun _ s₃ h₃=>a7 (Ao h₃ fun ok s₄ h₄=>?_)))
  cases ok with
  |true=>
   rw[if_pos rfl] at h₄ ⊢
   exact a7 (a7 (Ao h₄ fun x s₅ h₅=>a7 (Ao h₅ fun _ s₆ h₆=>b6 (b6 ⟨rfl,h₆⟩))))
  |false=>
   rw[if_neg e6] at h₄ ⊢
   exact a7 (b6 (b6 ⟨rfl,h₄⟩))
end
def Wo(X:Cx)(ifs:List Expr)(t:TT):Prop:=
 ∀(pins:List (Addr×Obj)) (s:a9) (σ:St) (H:Hp) (Q:Bool→Hp→Prop),Inv X pins σ H s→t σ H Q→
  wpAny (model X.prog X.w) X.A (forIn ifs true fun c r=>if r=true then do let ok←isTrue c X.env (eval c X.env);pure (jq ok) else pure (jq r)) (TP X pins σ Q) X.xe s
def Zj:TT:=fun _ H Q=>Q true H
theorem So{X:Cx}:Wo X [] Zj:=fun _ _ _ H _ I h=>wpAny_tests_nil ⟨H,I,h⟩
theorem Sq{X:Cx}{c:Expr}{t:TT}(h:PT X c t):Wo X [c] t:=fun pins s σ H Q I q=>wpAny_tests_one (h pins s σ H Q I q)
def VG(nc:List Str)(cap:List (Str×Nat))(g:TG)(tt:TT)(te:TE)(σ:St)(J:It)(p:Addr)(H:Hp)(Q:Hp→Prop):Prop:=
 ∃W:Nat→Nat→Hp→Prop,(∃m,W 0 m (upd H p (.lst [])))∧∀i m H2,W i m H2→
  (J.stop i H2∧Q H2)∨(J.go i H2∧∃N:Hp→Prop,(∀H',N H'→∃m',m'<m∧W (i+1) m' H')∧∀x H3,J.yld i H2 x H3→g x (Gv nc σ cap) H3 fun σ4 H4=> (∃pre:St,pre.length=nc.length∧σ4=pre++Bj σ cap)∧tt σ4 H4 fun b H5=>
   if b=true then te σ4 H5 fun y H6=>∃ys,H6 p=some (.lst ys)∧ys.length<sizeLine∧N (upd H6 p (.lst (ys++[y])))
   else N H5)
def bb(wi:TI)(nc:List Str)(cap:List (Str×Nat))(g:TG)(tt:TT)(te:TE):TE:=fun σ H Q=>wi σ H fun J H1=>∀p,H1 p=none→VG nc cap g tt te σ J p H1 (Q (.ref p))
section
variable{X:Cx}{elt tg iter:Expr}{ifs:List Expr}{csc:Scope}{nc:List Str}{cap:List (Str×Nat)}{wi:TI}{g:TG}{tt:TT}{te:TE}{pos:Pos}
theorem Jf{pins:List (Addr×Obj)}{σ:St}{s2:a9}{H2:Hp}{it:Addr}{fp:List Addr}{tn:Nat→Heap→Prop}{J:It}{cl:List (Str×Addr)}{Q:Hp→Prop}{RR:Value→Addr→pF→a9→Prop}{E:Value→a9→Prop}
  (hc:X.calm=true) (ok:LcOk X csc nc cap) (hg:∀X',LcCx X csc (Ae nc cap) X'→PG X' tg g) (ht:∀X',LcCx X csc (Ae nc cap) X'→Wo X' ifs tt) (he:∀X',LcCx X csc (Ae nc cap) X'→PE X' elt te)
  (hc1:∀x c,cl.lookup x=some c→X.env.cells.lookup x=some c) (hc2:∀y∈csc.names,y.2=.free→(cl.lookup y.1).isSome=true)
  (I2:Inv X pins σ H2 s2) (T:Turn X.prog X.w X.K tg J fp it tn) (st2:tn 0 s2.heap) (f2:∀b∈fp,FT X pins H2 b) (run:VG nc cap g tt te σ J s2.heap.objs.size H2 Q)
  (out:∀(C:Addr) (H':Hp) (s':a9),Inv X pins σ H' s'→(∃m,s'.heap.Ns C m)→H' C=none→C≠X.env.locals→X.s₀.heap.objs.size≤C→(∀x c,X.env.cells.lookup x=some c→c≠C)→(∀p∈X.pn++pins,p.1≠C)→Q H'→RR (.ref s2.heap.objs.size) C (.ok .next) s'):
  wpAny (model X.prog X.w) X.A (newList []) (fun acc s₃=>wpAny (model X.prog X.w) X.A (n9 csc X.env.globals cl [] X.env.qual none .none (some X.env)) (fun cenv s₄=>
   kW (model X.prog X.w) X.A (.compStart (.ListComp elt [⟨tg,iter,ifs,0⟩] csc pos) 0 (.ref it) acc {cenv with scope:=relabel csc X.env}) (RR acc cenv.locals) s₄) E s₃) E s2:=by
 refine ic ?_
 have hp:H2 s2.heap.objs.size=none:=I2.hok.fresh (fj _)
 have I3:Inv X pins σ (upd H2 s2.heap.objs.size (.lst [])) {s2 with heap:=s2.heap.push {cls:=.type "list",dict:=none,data:=.seq ([]:List Value).toArray}}:=
  I2.laid (t':=s2.toks) (fun b u e=>c9 _ e) (fj _) ⟨gT _,[],0,.nil,fK _ rfl⟩
 generalize hs3:({s2 with heap:=s2.heap.push {cls:=.type "list",dict:=none,data:=.seq ([]:List Value).toArray}}:a9)=s3 at I3
 have hk3:∀b o,s2.heap.get? b=some o→s3.heap.get? b=some o:=fun b o e=>by rw[←hs3];exact c9 _ e
 generalize hp0:s2.heap.objs.size=p at*
 have hlt:∀b∈fp,b<p:=fun b hb=>by
  obtain⟨o,e,_⟩:=T.obj 0 _ st2 b hb
  rw[←hp0];exact fq e
 have f3:∀b∈fp,FT X pins (upd H2 p (.lst [])) b:=fun b hb=> ⟨by rw[AO (fS (hlt b hb))];exact(f2 b hb).1,(f2 b hb).2⟩
 have st3:tn 0 s3.heap:=T.keep 0 _ _ st2 fun b _ o e=>hk3 b o e
 refine PY ?_
 have LC:=Sm (o:={cls:=.type "dict",data:=.dict #[]}) ok I3 hc1 hc2
 have hns:(oD (s3.heap.push {cls:=.type "dict",data:=.dict #[]}) csc.names).Ns s3.heap.objs.size (fun _=>none):=(Heap.Ns.new s3.heap (.type "dict")).keeps (pushCells_keeps _ _)
 have kept4:∀b o,s3.heap.get? b=some o→(oD (s3.heap.push {cls:=.type "dict",data:=.dict #[]}) csc.names).get? b=some o:=fun b o e=>pushCells_keeps _ _ b o (c9 _ e)
 generalize hcs:i9 (s3.heap.objs.size+1) csc.names cl=cs at LC ⊢
 generalize hh1:oD (s3.heap.push {cls:=.type "dict",data:=.dict #[]}) csc.names=h₁ at LC hns kept4 ⊢
 have hcc:∀x c,cs.lookup x=some c→X.env.cells.lookup x=some c∨s3.heap.objs.size≤c:=fun x c e=> (LC.at_ x c e).elim (fun z=> .inr z.2.1) (fun z=> .inl z.2)
 have I4:Inv (Sl X csc cs (Ae nc cap) s3 (upd H2 p (.lst [])) fp) [] (Gv nc σ cap) (upd H2 p (.lst [])) {s3 with heap:=h₁}:=
  Wn ok I3 LC f3 (fun b hb=> (T.obj 0 _ st3 b hb).imp fun o q=>q.1) hns kept4
 have st4:tn 0 h₁:=T.keep 0 _ _ st3 fun b _ o e=>kept4 b o e
 generalize hX':Sl X csc cs (Ae nc cap) s3 (upd H2 p (.lst [])) fp=X' at I4
 have is':LcCx X csc (Ae nc cap) X':=⟨_,_,_,_,hX'.symm⟩
 have hP:X'.prog=X.prog:=by rw[←hX'];rfl
 have hw:X'.w=X.w:=by rw[←hX'];rfl
 have hK:X'.K=X.K:=by rw[←hX'];rfl
 have hA:X'.A=X.A:=by rw[←hX'];rfl
 have hcal:X'.calm=true:=by rw[←hX'];exact hc
 have hE:X'.env=o9 csc cs s3.heap.objs.size X.env:=by rw[←hX'];rfl
 have hxe:X'.xe=Sn:=by rw[←hX'];rfl
 have hfs:X'.fs=Gq X.stack:=by rw[←hX'];rfl
 have hex:X'.ex=fp:=by rw[←hX'];rfl
 have hs0:X'.s₀=s3:=by rw[←hX'];rfl
 have hH0:X'.H₀=upd H2 p (.lst []):=by rw[←hX'];rfl
 have hpn:X'.pn=[]:=by rw[←hX'];rfl
 have stat:∀{H':Hp},(∀b∈fp,H' b=none)→∀b∈fp,FT X' [] H' b:=fun{H'} hn b hb=>by
  obtain⟨_,q2,q3,q4,q5,q6⟩:=f3 b hb
  obtain⟨o,e,_⟩:=T.obj 0 _ st3 b hb
  refine⟨hn b hb,?_,?_,?_,?_,?_⟩
  ·rw[hE];exact fS (fq e)
  ·rw[hfs];exact fun z=> (fh.mp (I3.stkSub b z)).elim q2 q3
  ·rw[hex];exact .inl hb
  ·rw[hE];exact fun x c e'=> (hcc x c e').elim (fun z=>q5 x c z) fun z=>kY (fM (fq e) z)
  ·rw[hpn];intro p hp;simp at hp
 obtain⟨W,⟨m0,w0⟩,turn⟩:=run
 have loop:∀s4:a9,s4={s3 with heap:=h₁}→kW (model X.prog X.w) X.A (.compLoop (.ListComp elt [⟨tg,iter,ifs,0⟩] csc pos) 0 (.ref it) (.ref p) (o9 csc cs s3.heap.objs.size X.env)) (RR (.ref p) s3.heap.objs.size) s4:=by
  rintro s4 rfl
  refine Cs (fun n s'=>∃i H',Inv X' [] (Gv nc σ cap) H' s'∧tn i s'.heap∧(∀b∈fp,H' b=none)∧W i n H') ?_ m0 ⟨0,_,I4,st4,fun b hb=> (f3 b hb).1,w0⟩
  rintro n s5 ⟨i,H5,I5,st5,fr5,w5⟩
  rcases turn i n H5 w5 with⟨stop,qn⟩| ⟨go,N,hN,step⟩
  ·have q:=T.done X' hP hw hK hcal i [] s5 (Gv nc σ cap) H5 Sn I5 (stat fr5) st5 stop
   rw[hA] at q
   refine Ao q fun r s6 ⟨hr,I6⟩=>?_
   subst hr
   have B:=I6.base
   rw[hfs,hex,hs0,hH0] at B
   have I7:Inv X pins σ H5 s6:=by
    refine I3.call' (ch:=fp) (by rw[I6.os,hs0]) B (by have:=I6.hok;rw[hP,hw] at this;exact this) I6.bare fun b hb=>?_
    obtain⟨_,q2,q3,q4,q5,q6⟩:=f3 b hb
    exact⟨q4,q2,q5,q6⟩
   obtain⟨m,hm,_⟩:=I6.loc
   have hCf:=I6.free
   rw[hE] at hm hCf
   refine out _ H5 s6 I7 ⟨m,hm⟩ hCf (kY I3.lt) I3.sz (fun x c e z=>?_) (fun p hp z=>?_) qn
   ·obtain⟨v,hv⟩:=I3.cell x c e
    exact absurd hv.lt (by rw[z];exact gU _)
   ·exact absurd (fq (I3.pin p hp).1) (by rw[z];exact gU _)
  ·have q:=T.item X' hP hw hK hcal i [] s5 (Gv nc σ cap) H5 Sn I5 (stat fr5) st5 go
   rw[hA] at q
   refine Ao q fun r s6 ⟨u,hr,h6⟩=>?_
   subst hr
   refine Ao h6 fun _ s7 ⟨x,H7,I7,r7,y7,st7,fr7⟩=>?_
   have I7':=I7.pinned (stat fr7) (T.obj _ _ st7)
   have q8:=hg X' is' _ s7 _ H7 x u _ I7' r7 (step x H7 y7)
   rw[hP,hw,hA,hE,hxe] at q8
   refine Ao q8 fun _ s8 ⟨σ8,H8,I8,⟨pre,hpl,hσ8⟩,q8⟩=>?_
   have q9:=ht X' is' _ s8 σ8 H8 _ I8 q8
   rw[hP,hw,hA,hE,hxe] at q9
   have wk:∀{s':a9} {H':Hp} {pl:List (Addr×Obj)},Inv X' pl σ8 H' s'→Inv X' pl (Gv nc σ cap) H' s':=fun{s' H' pl} J'=>by
    refine J'.weak (by rw[J'.len,I4.len]) fun j v e=>?_
    rw[hσ8]
    by_cases hj:j<nc.length
    ·have e:(iA nc.length (none:Option V)++Bj σ cap)[j]?=some (some v):=e
     rw[gz (by simpa using hj),jg] at e
     split at e<;>cases e
    ·have e:(iA nc.length (none:Option V)++Bj σ cap)[j]?=some (some v):=e
     rw[fR (by simpa using hj)] at e
     rw[fR (by omega),hpl]
     simpa using e
   have again:∀{s':a9} {H':Hp} {m':Nat},Inv X' ([]++FU fp s7.heap) σ8 H' s'→m'<n→W (i+1) m' H'→
     ∃m,m<n∧∃i H',Inv X' [] (Gv nc σ cap) H' s'∧tn i s'.heap∧(∀b∈fp,H' b=none)∧W i m H':=fun{s' H' m'} J' hm hW=>by
    refine⟨m',hm,i+1,H',wk J'.unpinned,T.keep _ _ _ st7 fun b hb o e=> (J'.pin (b,o) (gI _ (gI _ (CM hb e)))).1,fun b hb=>?_,hW⟩
    obtain⟨o,e,d⟩:=T.obj _ _ st7 b hb
    exact(J'.pin (b,o) (gI _ (gI _ (CM hb e)))).2.1
   refine Ao q9 fun b s9 ⟨H9,I9,q9⟩=>?_
   cases b with
   |false=>
    rw[if_neg e6] at q9 ⊢
    obtain⟨m',hm,hW⟩:=hN _ q9
    exact again I9 hm hW
   |true=>
    rw[if_pos rfl] at q9 ⊢
    have qe:=he X' is' _ s9 σ8 H9 _ I9 q9
    rw[hP,hw,hA,hE,hxe] at qe
    refine Ao qe fun u s10 ⟨y,H10,I10,ry,ys,hys,hlen,hNn⟩=>?_
    obtain⟨m',hm,hW⟩:=hN _ hNn
    have qa:=HG (X:=X') _ s10 σ8 H10 (.ref p) [y] (.ref p) [u] (fun _ H'=>H'=upd H10 p (.lst (ys++[y]))) I10 rfl (.cons ry .nil) ⟨p,ys,y,rfl,rfl,hys,hlen,rfl⟩
    rw[hP,hw,hA,hxe] at qa
    refine Ao qa fun _ s11 ⟨_,H11,I11,_,e11⟩=>?_
    subst e11
    exact again I11 hm hW
 have st5:=loop _ rfl
 exact codeAny_compStart_list (loop _ rfl) (T.self X.A 0 _ _ _ st4 (loop _ rfl))
end
section
variable{X:Cx}{elt tg iter:Expr}{ifs:List Expr}{csc:Scope}{nc:List Str}{cap:List (Str×Nat)}{wi:TI}{g:TG}{tt:TT}{te:TE}{pos:Pos}
theorem LcOk.clos{pins:List (Addr×Obj)}{σ:St}{H:Hp}{s:a9}(ok:LcOk X csc nc cap)(I:Inv X pins σ H s):
  ∃cl,closureFor csc X.env=pure cl∧(∀x c,cl.lookup x=some c→X.env.cells.lookup x=some c)∧∀y∈csc.names,y.2=.free→(cl.lookup y.1).isSome=true:=
 Sk fun y hy hf=>I.ok.has y.1 (ok.free y hy hf)
theorem Zk(hc:X.calm=true)(ok:LcOk X csc nc cap)(hi:PI X tg iter wi)(hg:∀X',LcCx X csc (Ae nc cap) X'→PG X' tg g)(ht:∀X',LcCx X csc (Ae nc cap) X'→Wo X' ifs tt)(he:∀X',LcCx X csc (Ae nc cap) X'→PE X' elt te)
  (hs:∀x,iM iter X.env x=pure x:=by intro _;rfl):PE X (.ListComp elt [⟨tg,iter,ifs,0⟩] csc pos) (bb wi nc cap g tt te):=by
 intro pins s σ H Q I h
 obtain⟨cl,hcl,hc1,hc2⟩:=ok.clos I
 rw[eval_ListComp]
 refine wpAny_comprehension_free (use:=none) rfl hs hcl ok.kind ok.locals (Ao (hi pins s σ H _ I h) fun v s1 h1=>Ao h1 fun itv s2 h2=>?_)
 obtain⟨it,fp,tn,J,H2,e,I2,T,st2,f2,run⟩:=h2
 subst e
 refine Jf (RR:=fun acc C=>compPost (model X.prog X.w) X.A X.xe none (EP X pins σ Q) acc C) hc ok hg ht he hc1 hc2 I2 T st2 f2 (run _ (I2.hok.fresh (fj _))) ?_
 intro C H' s' I' hn h1 h2 h3 h4 h5 q
 obtain⟨m,hn⟩:=hn
 refine⟨m,hn,fun h' sb=> ⟨.ref s2.heap.objs.size,H',?_,rfl,q⟩⟩
 exact I'.turned (t':=s'.toks) (fun b o hb e=> (sb.2 b hb).trans e) h1 h2 (.inr h3) h4 h5
def Wp(i:Nat)(te:TE):TS:=fun D σ H=>te σ H fun v H1=>D.nx (σ.set i (some v)) H1
theorem Jg{i:Nat}{x:Str}{px spos:Pos}(hN:X.N.Nodup)(hx:X.N[i]?=some x)(hk:X.env.scope.names.lookup x=some .local)(hsw:mE (.ListComp elt [⟨tg,iter,ifs,0⟩] csc pos) (some (.Name x px)) spos.line X.env=pure true)
  (hc:X.calm=true) (ok:LcOk X csc nc cap) (hi:PI X tg iter wi) (hg:∀X',LcCx X csc (Ae nc cap) X'→PG X' tg g) (ht:∀X',LcCx X csc (Ae nc cap) X'→Wo X' ifs tt) (he:∀X',LcCx X csc (Ae nc cap) X'→PE X' elt te)
  (hs:∀x,iM iter X.env x=pure x:=by intro _;rfl):PS X (.Assign [.Name x px] (.ListComp elt [⟨tg,iter,ifs,0⟩] csc pos) spos) (Wp i (bb wi nc cap g tt te)):=by
 intro pins s σ H D I h
 obtain⟨cl,hcl,hc1,hc2⟩:=ok.clos I
 rw[exec_Assign_Name_used _ _ _ _ hsw]
 refine a7 (lh (a7 ?_))
 show wpAny _ X.A (do let _←comprehension (.ListComp elt [⟨tg,iter,ifs,0⟩] csc pos) csc X.env _ (newList []) false (eval iter X.env) (some (assign (.Name x px) X.env))) _ _ s
 refine a7 (Ao (wpAny_comprehension_free (use:=some (assign (.Name x px) X.env)) (Q:=fun _ s'=>SP X pins D .next s') rfl hs hcl ok.kind ok.locals
  (Ao (hi pins s σ H _ I h) fun v s1 h1=>Ao h1 fun itv s2 h2=>?_)) fun _ s' hq=>b6 (b6 hq))
 obtain⟨it,fp,tn,J,H2,e,I2,T,st2,f2,run⟩:=h2
 subst e
 refine Jf (RR:=fun acc C=>compPost (model X.prog X.w) X.A X.xe (some (assign (.Name x px) X.env)) (fun _ s'=>SP X pins D .next s') acc C) hc ok hg ht he hc1 hc2 I2 T st2 f2 (run _ (I2.hok.fresh (fj _))) ?_
 intro C H' s' I' hn h1 h2 h3 h4 h5 q
 obtain⟨m,hn⟩:=hn
 show wpAny _ X.A (assign (.Name x px) X.env (.ref s2.heap.objs.size)) _ _ _
 refine wpAny_assign_Name (HB I' hN hx (.inl hk) (v:=.ref s2.heap.objs.size) rfl (fun s'' I'' ha=>?_) (.inr hk))
 obtain⟨a,sb,ha⟩:=ha
 have hCa:C≠a:=by
  rcases ha with ha|ha
  ·rw[ha];exact h2
  ·exact fun z=>h4 x a ha z.symm
 refine⟨m,hn.sameBut sb hCa,fun h' sb'=> ⟨_,H',?_,q⟩⟩
 exact I''.turned (t':=s''.toks) (fun b o hb e=> (sb'.2 b hb).trans e) h1 h2 (.inr h3) h4 h5
end
section
variable{K:a8}{nc:List Str}{cap:List (Str×Nat)}{g:TG}{tt:TT}{te:TE}{σ:St}{p a:Addr}{H:Hp}{Q:Hp→Prop}
end
def DK(h h':Heap):Prop:=h.objs.size≤h'.objs.size∧∀e,e<h.objs.size→(h'.objs[e]?).map (·.dict)=(h.objs[e]?).map (·.dict)
theorem DK.refl(h:Heap):DK h h:=⟨fj _,fun _ _=>rfl⟩
theorem DK.trans{a b c:Heap}(x:DK a b)(y:DK b c):DK a c:=⟨gL x.1 y.1,fun e he=> (y.2 e (fM he x.1)).trans (x.2 e he)⟩
theorem DK.push{h:Heap}{o:Obj}:DK h (h.push o):=by
 refine⟨by rw[iJ];omega,fun e he=>?_⟩
 show((h.objs.push o)[e]?).map _=_
 rw[Array.getElem?_push,if_neg (by omega)]
theorem DK.upd{h:Heap}{a:Addr}{f:Obj→Obj}(hf:∀o,(f o).dict=o.dict):DK h (h.update a f):=by
 obtain⟨objs,l⟩:=h
 refine⟨by show objs.size≤(objs.modify a f).size;simp,fun e he=>?_⟩
 show((objs.modify a f)[e]?).map _=_
 rw[Array.getElem?_modify]
 split
 ·cases objs[e]? with
  |none=>rfl
  |some o=>exact congrArg some (hf o)
 ·rfl
theorem Mp{h:Heap}{e:Addr}{o:Obj}(q:h.get? e=some o):h.objs[e]?=some o:=by
 unfold Heap.get? at q
 split at q
 ·cases q
 ·exact q
theorem DK.at_{h h':Heap}{e:Addr}{o o':Obj}(x:DK h h')(q:h.get? e=some o)(q':h'.get? e=some o'):o'.dict=o.dict:=by
 have z:=x.2 e (fq q)
 rw[Mp q,Mp q'] at z
 exact gh.inj z
inductive KD{α:Type}:Sem α→Prop
 |pure (a:α):KD (.pure a)
 |raise (e:Value):KD (.raise e)
 |unsup (x:String):KD (.unsupported x)
 |load {a:Addr} {p:Option Value} {k:Obj→Sem α}:(∀o,KD (k o))→KD (.load a p k)
 |upd {a:Addr} {p:Option Value} {f:Obj→Obj} {k:Unit→Sem α}:(∀o,(f o).dict=o.dict)→KD (k ())→KD (.update a p f k)
 |alloc {o:Obj} {k:Addr→Sem α}:(∀a,KD (k a))→KD (.alloc o k)
 |stack {k:List (Code×Pos)→Sem α}:(∀l,KD (k l))→KD (.stack k)
theorem KD.bind{α β:Type}{m:Sem α}{f:α→Sem β}(h:KD m)(hf:∀a,KD (f a)):KD (m>>=f):=by
 show KD (Sem.bind m f)
 induction h with
 |pure a=>exact hf a
 |raise e=>exact .raise e
 |unsup x=>exact .unsup x
 |load _ ih=>exact .load ih
 |upd q _ ih=>exact .upd q ih
 |alloc _ ih=>exact .alloc ih
 |stack _ ih=>exact .stack ih
theorem KD.wp{α:Type}{M:Model}{Γ:PySem.Ctx}{Q:α→Pos→a9→Prop}{E:Value→Pos→a9→Prop}{h0:Heap}{t:Sem α}(h:KD t):∀{p:Pos} {s:a9},DK h0 s.heap→Sem.wp M Γ t Q E p s→Sem.wp M Γ t (fun a p' s'=>Q a p' s'∧DK h0 s'.heap) E p s:=by
 induction h with
 |pure a=>intro p s d q;exact⟨q,d⟩
 |raise e=>intro p s d q;exact q
 |unsup x=>intro p s d q;exact q
 |load _ ih=>intro p s d q;obtain⟨o,e,q⟩:=q;exact⟨o,e,ih o d q⟩
 |upd hf _ ih=>intro p s d q;exact⟨q.1,ih (d.trans (.upd hf)) q.2⟩
 |alloc _ ih=>intro p s d q;exact ih _ (d.trans .push) q
 |stack _ ih=>intro p s d q;exact ih _ d q
theorem KD.any{α:Type}{M:Model}{A:fG}{Q:α→a9→Prop}{E:Value→a9→Prop}{s:a9}{t:Sem α}(h:KD t)(q:wpAny M A t Q E s):wpAny M A t (fun a s'=>Q a s'∧DK s.heap s'.heap) E s:=
 fun Γ p g=>h.wp (.refl _) (q Γ p g)
theorem KD.ite{α:Type}{c:Prop} [Decidable c]{a b:Sem α}(ha:KD a)(hb:KD b):KD (if c then a else b):=by split<;>assumption
theorem Jh(v:Value):KD (fieldsOf v):=by
 unfold fieldsOf
 split
 ·refine KD.bind (.load fun o=> .pure o) fun o=>?_
  split
  ·exact .pure _
  ·exact .unsup _
 ·exact .unsup _
theorem Du(v:Value)(i:Nat):KD (field v i):=by
 unfold field
 refine(Jh v).bind fun vs=>?_
 split
 ·exact .pure _
 ·exact .unsup _
theorem Fc(f:Array Value→Array Value)(o:Obj):(Obj.mapFields f o).dict=o.dict:=by
 unfold Obj.mapFields;split<;>rfl
theorem Cu(v:Value)(i:Nat)(x:Value):KD (setField v i x):=by
 unfold setField
 split
 ·unfold updateField
  refine KD.bind (.load fun o=> .pure o) fun o=>?_
  split
  ·exact .ite (.upd (Fc _) (.pure _)) (.unsup _)
  ·exact .unsup _
 ·exact .unsup _
theorem IG(e:Value)(f:Option Addr):KD (setFlight e f):=by
 unfold setFlight
 exact(Du e 1).bind fun tb=> .ite (Cu _ _ _) (.pure _)
theorem Ji:∀(l:List Env),KD (readyFrames l)
 | []=> .pure _
 |env::outer=>by
  unfold readyFrames
  split
  ·refine KD.bind (.load fun o=> .pure o) fun o=>?_
   refine .ite (.pure _) ?_
   refine KD.bind ?_ fun im=>?_
   ·unfold behindIsImport
    exact .ite (.pure _) (.ite (.pure _) ((Du _ _).bind fun _=> .pure _))
   refine KD.bind ?_ fun bk=>?_
   ·unfold keptBack
    split
    ·refine .ite (.pure _) (KD.bind ?_ fun _=> .pure _)
     unfold underTheClaimsCaller
     exact KD.bind (.stack fun _=> .pure _) fun _=> .pure _
    ·exact .pure _
   exact KD.bind (.upd (fun _=>rfl) (.pure _)) fun _=>Ji outer
  ·exact .unsup _
theorem LP(env:Env):KD (oN env):=by
 unfold oN
 refine KD.bind ?_ fun es=>?_
 ·unfold frameEnvs
  exact KD.bind (.stack fun _=> .pure _) fun _=> .pure _
 refine KD.bind ?_ fun r=>?_
 ·cases es.dropWhile (·.frame !=env.frame) with
  |nil=>exact .pure _
  |cons a b=>unfold frameObject;exact(Ji _).bind fun _=> .pure _
 split
 ·exact .pure _
 ·exact .unsup _
theorem PZ(f:Addr)(b:Bool):KD (o7 f b):=by
 unfold o7
 refine KD.bind (.stack fun _=> .pure _) fun _=>?_
 split<;>exact .pure _
theorem Pa(h a l f i:Value)(pl:List Value):KD (my h a l f i pl):=by
 have z:∀d,KD (newObjAsIs (.type "traceback") d):=fun d=> .alloc fun a=> .pure _
 unfold my newFields newObj
 dsimp only
 exact .ite (KD.bind (.unsup _) fun _=>z _) (z _)
theorem Sr(e:Value)(env:Env):KD (noteFrame e env):=by
 unfold noteFrame
 split
 ·rename_i f hf
  refine(Du e 1).bind fun head=>?_
  have fin:KD (do setField e 1 (←my head (←oN env) .none (lM f) .none (←o7 f (head !=.none)))):=
   (LP env).bind fun a=> (PZ _ _).bind fun pl=> (Pa _ _ _ _ _ _).bind fun b=>Cu _ _ _
  refine .ite ?_ fin
  exact(Du _ _).bind fun x=> .ite (.pure _) ((Cu _ _ _).bind fun _=>fin)
 ·exact .unsup _
theorem Fd(env:Env)(e:Value):KD (leaving env e):=(Sr e env).bind fun _=>IG e none
theorem ObjOk.obj{P:Program}{w:World}{H:Hp}{h:Heap}{a:Addr}{o:HO}(x:ObjOk P w H h a o):∃ob,h.get? a=some ob:=by
 cases o with
 |lst xs=>obtain⟨_,_,_,_,e⟩:=x;exact⟨_,e⟩
 |tup xs=>obtain⟨_,_,_,o,e,_⟩:=x;exact⟨_,e⟩
 |dK kvs=>obtain⟨_,_,_,_,o,_,_,e,_⟩:=x;exact⟨_,e⟩
 |dT kvs=>obtain⟨_,_,_,_,o,_,_,e,_⟩:=x;exact⟨_,e⟩
 |set S n=>obtain⟨o,_,_,_,e,_⟩:=x;exact⟨_,e⟩
 |ins C dx fs=>obtain⟨_,_,_,e,_⟩:=x;exact⟨_,e⟩
 |own y=>obtain⟨_,e⟩:=x;exact⟨_,e⟩
 |xd fs=>obtain⟨_,⟨_,_,_,e,_⟩,_⟩:=x;exact⟨_,e⟩
 |rng lo hi=>obtain⟨_,_,_,e⟩:=x;exact⟨_,e⟩
 |frz ob u=>obtain⟨e,_⟩:=x;exact⟨_,e⟩
 |tbl ps=>exact⟨_,(show h.get? a=some _ from x)⟩
 |met f y=>exact⟨_,(show h.get? a=some _ from x)⟩
 |ext φ=>obtain⟨_,⟨_,e⟩,_⟩:=x;exact⟨_,e⟩
theorem HOk.none_of{P:Program}{w:World}{H:Hp}{h:Heap}{a:Addr}(x:HOk P w H h)(e:h.get? a=none):H a=none:=by
 cases q:H a with
 |none=>rfl
 |some u=>
  obtain⟨ob,e'⟩:=(x a u q).obj
  rw[e] at e';cases e'
def bf(n:Nat):Int:=if n%2=0 then((n/2:Nat):Int) else-((n/2:Nat):Int)
def du:List Nat→List (Str×V)
 |0::n::_=> [("number",.int (bf n))]
 |1::n::_=> [("row",.int (bf n))]
 |2::n::m::_=> [("many",.int (bf n)),("most",.int (bf m))]
 |_=> []
def dR(x:Str):List (Str×V):=du x.cps.toList
def Pb:Value→Value
 | .str _ C=> .ref C
 |v=>v
def cV(dx:Addr)(fs:List (Str×V))(h:Heap):Prop:=∃mA,h.Ns1 dx mA∧(∀f,SM (fs.lookup f) (mA f))∧ph mA (fs.map (·.1))
def dS(dx:Addr)(fs:List (Str×V)):HO:=.ext (cV dx fs)
def DicX(cls:Value)(x:Addr)(H:Hp)(h:Heap):Prop:=∀fs C,cls=.str fs C→∃ox dx,h.get? x=some ox∧ox.dict=some dx∧H dx=some (dS dx (dR fs))
theorem DicX.ref{C x:Addr}{H:Hp}{h:Heap}:DicX (.ref C) x H h:=fun _ _ e=>nomatch e
theorem DicX.dk{cls:Value}{x:Addr}{H:Hp}{h h':Heap}(q:DicX cls x H h)(d:DK h h')(e:∃o',h'.get? x=some o'):DicX cls x H h':=fun fs C z=>by
 obtain⟨ox,dx,e1,e2,e3⟩:=q fs C z
 obtain⟨o',e'⟩:=e
 exact⟨o',dx,e',(d.at_ e1 e').trans e2,e3⟩
structure Fly(P:Program)(w:World)(outer:List Env)(H:Hp)(s:a9)(H':Hp)(x:Addr)(cls:Value)(s':a9):Prop where
 os:s'.os=s.os
 bare:mD s'.gens
 un:Un (Gq outer) [] H H' s.heap s'.heap
 hok:HOk P w H' s'.heap
 fr:H' x=none
 fly:∃B t,(∀b,H' b≠none→∃o,B.get? b=some o)∧(∀b o,s.heap.get? b=some o→b∉Gq outer→∃o',B.get? b=some o')∧pC B outer x (Pb cls) (.ref t) s'.heap
 dic:DicX cls x H' s'.heap
def CXe(P:Program)(w:World):PL:=fun outer H s E e s'=>∃x cls H',e=.ref x∧Fly P w outer H s H' x cls s'∧E cls none H'
theorem CXe.never{P:Program}{w:World}{outer:List Env}{H:Hp}{s s':a9}{e:Value}(h:CXe P w outer H s E0 e s'):False:=by
 obtain⟨_,_,_,_,_,q⟩:=h
 exact q
structure XFly(X:Cx)(W:St→XK):Prop where
 fly:∀(pins:List (Addr×Obj)) (σ:St) (H:Hp) (s:a9) (e:Value) (s':a9),Inv X pins σ H s→CXe X.prog X.w X.stack H s (W σ) e s'→X.xe e s'
structure XOk(X:Cx)(W:St→XK):Prop where
 made:∀(pins:List (Addr×Obj)) (σ:St) (H:Hp) (s:a9) (h':Heap) (x C:Addr),Inv X pins σ H s→Heap.MadeExcOf s.heap h' x (.ref C) []→W σ (.ref C) none H→X.xe (.ref x) {s with heap:=h'}
 fly:∀(pins:List (Addr×Obj)) (σ:St) (H:Hp) (s:a9) (e:Value) (s':a9),Inv X pins σ H s→CXe X.prog X.w X.stack H s (W σ) e s'→X.xe e s'
 own:mG (model X.prog X.w) X.A X.env X.xe
 madeF:∀(pins:List (Addr×Obj)) (σ:St) (H:Hp) (s:a9) (x C t dx:Addr) (fs:Str),Inv X pins σ H s→H x=none→X.s₀.heap.get? x=none→s.heap.get? x=some ⟨.ref C,some dx,.fields #[.ref t,.none,.none,.none,.bool false,.none],#[]⟩→H dx=some (dS dx (dR fs))→W σ (.str fs C) none H→X.xe (.ref x) s
theorem HOk.by_keep{P:Program}{w:World}{H:Hp}{h h':Heap}(x:HOk P w H h)(k:∀b o,H b≠none→h.get? b=some o→h'.get? b=some o):HOk P w H h':=fun a o e=>
 (x a o e).stay (fun b u hb q=>k b u (by
  rcases hb with rfl|hb
  ·rw[e];exact fun z=>nomatch z
  ·rw[hb];exact fun z=>nomatch z) q) (fun _ q=>q) fun _ _ q=>q
section
variable{P:Program}{w:World}{K:a8}{mg:Str→Option Value}{base:Heap}{N:List Str}{qual:Str}{scope:Scope}{f:Addr}{cd:Value}{A:fG}{outer:List Env}{s:a9}{H:Hp}{E:XK}
theorem IH{X:Cx}{pins:List (Addr×Obj)}{σ:St}{H1:Hp}{s2:a9}{h':Heap}{x:Addr}{cls:Value}{B:Heap}{t:Addr}(hst:X.stack=X.env::X.outer)(hex:X.ex=[])(hfr:X.env.frame=some X.env.locals)(I:Inv X pins σ H1 s2)
  (hB1:∀b,H1 b≠none→∃o,B.get? b=some o) (hB2:∀b o,X.s₀.heap.get? b=some o→b∉Gq X.outer→∃o',B.get? b=some o') (hx:H1 x=none) (hs2:B.StaysIn s2.heap) (fl:pC B X.outer x (Pb cls) (.ref t) h') (up:s2.heap.UpToSlots h') (dq:DicX cls x H1 h'):
  Fly X.prog X.w X.outer X.H₀ X.s₀ H1 x cls {s2 with heap:=h'}:=by
 have fsm:∀b o,b∈X.fs→s2.heap.get? b=some o→∃sl,h'.get? b=some {o with slots:=sl}:=fun b o hb e=>by
  obtain⟨_,o',e',hd⟩:=I.funs.mem hb
  rw[e] at e';cases e'
  exact up b o e hd
 have same:∀b o o',B.get? b=some o'→s2.heap.get? b=some o→h'.get? b=some o:=fun b o o' e1 e2=>by
  have q:=hs2 b o' e1
  rw[e2] at q;cases q
  exact fl.1 b o e1
 refine⟨I.os,I.bare,⟨fun b o e n hb _=>?_,fun b o e n hb _=>?_,fun b o e n _=>?_,fun b o e _=>?_,I.base.tups,I.base.frzs,I.base.tbls⟩,I.hok.by_keep fun b o hb e=>?_,hx,⟨B,t,hB1,hB2,fl⟩,dq⟩
 ·obtain⟨o',e'⟩:=hB2 b o e hb
  exact same b o o' e' (I.base.keep b o e n hb (by rw[hex];simp))
 ·obtain⟨sl,e1⟩:=I.base.slot b o e n hb (by rw[hex];simp)
  obtain⟨sl',e2⟩:=fsm b _ hb e1
  exact⟨sl',e2⟩
 ·exact I.base.free b o e n (by rw[hex];simp)
 ·obtain⟨o1,e1⟩:=I.base.there b o e (by rw[hex];simp)
  by_cases hb:b∈X.fs
  ·obtain⟨sl,e2⟩:=fsm b o1 hb e1
   exact⟨_,e2⟩
  ·obtain⟨o',e'⟩:=hB2 b o e hb
   exact⟨o',fl.1 b o' e'⟩
 ·obtain⟨o',e'⟩:=hB1 b hb
  exact same b o o' e' e
theorem As:XOk (Bo (CXe P w) P w K mg base N qual scope f cd A outer s H E) (fun _=>E) where
 made:=by
  intro pins σ H1 s1 h' x C I hx q
  have hin:∀env∈(Bo (CXe P w) P w K mg base N qual scope f cd A outer s H E).stack,∀b,env.frame=some b→b∈Gq (Bo (CXe P w) P w K mg base N qual scope f cd A outer s H E).stack:=fun env he b hb=>jw.mpr ⟨env,he,hb⟩
  have hxn:H1 x=none:=I.hok.none_of hx.new
  have I':Inv (Bo (CXe P w) P w K mg base N qual scope f cd A outer s H E) pins σ H1 {s1 with heap:=h'}:=I.kept (t':=s1.toks) hx.keeps
  refine wpAny_leaves_madeW (base:=lA s1.heap (Gq (Bo (CXe P w) P w K mg base N qual scope f cd A outer s H E).stack)) (h:=s1.heap) I.ok.frames rfl (fun b o q=>lG _ q) (PySem.W.funFrames_hide I.stack hin) hx fun h2 t x1 x2 x3 x4=>?_
  refine⟨x,.ref C,H1,rfl,?_,q⟩
  refine IH (X:=Bo (CXe P w) P w K mg base N qual scope f cd A outer s H E) rfl rfl rfl I' (fun b hb=>?_) (fun b o e hb=>?_) hxn (fun b o e=>hx.keeps b o (lG _ e)) x1 x4 .ref
  ·cases e:H1 b with
   |none=>exact absurd e hb
   |some u=>
    obtain⟨o,eo⟩:=(I.hok b u e).obj
    exact⟨o,kh _ eo fun z=>hb (I.stkFree b z)⟩
  ·obtain⟨o1,e1⟩:=I.base.there b o e (fun z=>nomatch z)
   refine⟨o1,kh _ e1 fun z=>?_⟩
   rcases fh.mp (I.stkSub b z) with z|z
   ·exact absurd z (fS (fM (fq e) I.ok.above))
   ·exact hb z
 fly:=by
  rintro pins σ H1 s1 e s2 I ⟨x,cls,H2,rfl,F,q⟩
  obtain⟨B,t,b1,b2,fl⟩:=F.fly
  have I2:Inv (Bo (CXe P w) P w K mg base N qual scope f cd A outer s H E) pins σ H2 s2:=I.call' (ch:=[]) F.os F.un F.hok F.bare (fun b z=>absurd z (by simp))
  refine jM (KD.any (Fd _ _) (wpAny_leaves_onW (E:=fun _ _=>False) (Q:=fun _ s3=>pC B outer x (Pb cls) (.ref t) s3.heap∧s2.heap.UpToSlots s3.heap∧s3={s2 with heap:=s3.heap}) I.ok.frames rfl fl fun h' x1 x2=> ⟨x1,x2,rfl⟩)) ?_ fun _ _ z=>kc z
  rintro _ s3 ⟨⟨x1,x2,e3⟩,dk⟩
  refine⟨x,cls,H2,rfl,?_,q⟩
  rw[e3]
  refine IH (X:=Bo (CXe P w) P w K mg base N qual scope f cd A outer s H E) rfl rfl rfl I2 b1 (fun b o e hb=>?_) F.fr fl.1 x1 x2 (F.dic.dk dk (let⟨o,e,_⟩:=x1.there;⟨o,e⟩))
  obtain⟨o1,e1⟩:=I.base.there b o e (fun z=>nomatch z)
  refine b2 b o1 e1 fun z=>?_
  rcases fh.mp (I.stkSub b z) with z|z
  ·exact absurd z (fS (fM (fq e) I.ok.above))
  ·exact hb z
 own:=mG.leaving
 madeF:=by
  intro pins σ H1 s1 x C t dx fs I hxn hs0 ex hdx q
  have hin:∀env∈(Bo (CXe P w) P w K mg base N qual scope f cd A outer s H E).stack,∀b,env.frame=some b→b∈x::Gq (Bo (CXe P w) P w K mg base N qual scope f cd A outer s H E).stack:=fun env he b hb=>fv _ (jw.mpr ⟨env,he,hb⟩)
  have hkb:Heap.StaysIn (lA s1.heap (x::Gq (Bo (CXe P w) P w K mg base N qual scope f cd A outer s H E).stack)) s1.heap:=fun b o q=>lG _ q
  have hen:(lA s1.heap (x::Gq (Bo (CXe P w) P w K mg base N qual scope f cd A outer s H E).stack)).get? x=none:=by
   exact PySem.W.hideAll_none _ (fQ ..)
  refine jM (KD.any (Fd _ _) (wpAny_leaving_firstW (E:=fun _ _=>False) (Q:=fun _ s3=>Heap.LeftW (lA s1.heap (x::Gq (Bo (CXe P w) P w K mg base N qual scope f cd A outer s H E).stack)) _ x (.ref C) (.ref t) s1.heap s3.heap∧s3={s1 with heap:=s3.heap}) I.ok.frames (PySem.W.funFrames_hide I.stack hin) rfl ex hkb hen rfl rfl rfl fun h' hL=> ⟨hL,rfl⟩)) ?_ fun _ _ z=>kc z
  rintro _ s3 ⟨⟨⟨x1,⟨_,_,x2⟩,x3,x4⟩,e3⟩,dk⟩
  refine⟨x,.str fs C,H1,rfl,?_,q⟩
  rw[e3]
  have hth:∃o,s3.heap.get? x=some o:=by
   obtain⟨oe,_,_,_,_,he,_⟩:=x3
   exact⟨oe,he⟩
  refine IH (X:=Bo (CXe P w) P w K mg base N qual scope f cd A outer s H E) rfl rfl rfl I (fun b hb=>?_) (fun b o e hb=>?_) hxn hkb ⟨x1,hen,x2,x3⟩ x4 ?_
  ·cases e:H1 b with
   |none=>exact absurd e hb
   |some u=>
    obtain⟨o,eo⟩:=(I.hok b u e).obj
    refine⟨o,kh _ eo fun z=>?_⟩
    rcases fh.mp z with z|z
    ·rw[z] at e;rw[hxn] at e;cases e
    ·exact hb (I.stkFree b z)
  ·obtain⟨o1,e1⟩:=I.base.there b o e (fun z=>nomatch z)
   refine⟨o1,kh _ e1 fun z=>?_⟩
   rcases fh.mp z with z|z
   ·rw[z] at e;rw[hs0] at e;cases e
   rcases fh.mp (I.stkSub b z) with z|z
   ·exact absurd z (fS (fM (fq e) I.ok.above))
   ·exact hb z
  ·exact DicX.dk (h:=s1.heap) (fun fs' C' z=>by cases z;exact⟨_,dx,ex,rfl,hdx⟩) dk hth
end
section
variable{X:Cx}{W:St→XK}
def Wq(W:St→XK)(C:Addr):TS:=fun _ σ H=>W σ (.ref C) none H
def Wr(sp:Sp)(W:St→XK)(t:TA):TE:=fun σ H Q=>t σ H fun vs H1=>sp vs H1 Q (W σ)
theorem XOk.f(x:XOk X W):XFly X W:=⟨x.fly⟩
theorem Jj{k:Nat}{f:Addr}{fd:fF}{ps:List Str}{sp:Sp}{x:Str}{p pos:Pos}{e:Expr}{es:List Expr}{t:TA}(xo:XFly X W)(F:FnOk X.prog X.w X.K X.mg X.base (CXe X.prog X.w) k f fd ps sp)(hr:Room k X.A)(hg:Gl X x)(hm:X.mg x=some (.ref f))(hk:jP X.K (.ref f)=true)(hb:Binds X.K fd ps [])
  (ha:PA X (e::es) t) (hdb:(x==("__debug__" :Str))=false:=by decide) (he:e9 (e::es) X.env=(false,eval e X.env)::e9 es X.env:=by rfl) (hpl:(jD pos (e9 es X.env)).any (·.1)=false:=by rfl):
  PE X (.Call (.Name x p) (e::es) [] pos) (Wr sp W t):=by
 intro pins s σ H Q I h
 refine lE (Hx I hg hm ?_ hdb)
 refine PySem.W.callWith_K (h₀:=X.base) I.ok.mod.kin hk (Ao (ha pos pins s σ H _ I h) fun us s1 ⟨vs,H1,I1,r,q⟩=> ⟨I1.kIn,?_⟩) he hpl
 have r2:Vals vs (us++[]):=by rw[jo];exact r
 have hl:(us++[]).length=ps.length:=by rw[←r2.length];exact F.len _ _ _ _ q
 refine nK (mz (F.run X.A X.stack s1 H1 ⟨us,[]⟩ (us++[]) vs Q (W σ) hr I1.env0 (hb s1 us I1.kIn hl) r2 q) fun r s' hq=>?_)
 cases r with
 |error e=>exact xo.fly pins σ H1 s1 e s' I1 hq
 |ok fl=>
  cases fl with
  |ret u=>exact I1.after hq
  |next=>exact kc hq
  |brk=>exact kc hq
  |cont=>exact kc hq
end
open PySem.Calls
section
variable{prog:Program}{w:World}{A:fG}{E:Value→a9→Prop}{s:a9}{K:a8}{x D:Addr}{ox:Obj}{od:Option Obj}{name:Str}
structure ExcCls(K:a8)(D:Addr):Prop where
 ga:lN K (.ref D) "__getattribute__" =some (some (.builtin "BaseException.__getattribute__"))
 gn:lN K (.ref D) "__getattr__" =some none
 be:ny K D (.type "BaseException")=some true
 ob:ny K D (.type "object")=some true
 cl:lN K (.ref D) "__class__" =some (some (.builtin "object.__class__"))
 gt:PySem.W.specialIn K (.builtin "object.__class__") "__get__" =some (some (.builtin "getset_descriptor.__get__"))
 tk:PySem.W.takesIn K (.builtin "object.__class__")=some true
def TyAt(D x:Addr)(h:Heap):Prop:=∃ox,h.get? x=some ox∧ox.cls=.ref D
theorem TyAt.looks{M:Model}{h:Heap}(p:TyAt D x h):kK M h (typeOf (.ref x)) (.ref D):=by
 obtain⟨o,h1,h2⟩:=p
 exact h2▸(kK.ld h1).andThen .now
open PySem.W Builtin Builtin.ObjectAttr Builtin.Getset_descriptor in
theorem LQ {R:pF→a9→Prop} {tp:Value} (X:K.In s.heap) (I:TyAt D x s.heap) (hm:ny K D (.type "object")=some true) (h:R (.ok (.ret (.ref D))) s):
  kW (model prog w) A (.call (.builtin "getset_descriptor.__get__") ⟨[.builtin "object.__class__",.ref x,tp],[]⟩) R s:=by
 obtain⟨hh,gg,dd,tt,oo⟩:=s
 have L0:=I.looks (M:=model prog w)
 have L1:=PySem.W.looks_mroIn (M:=model prog w) X hm
 refine kR
  KF.slot_gs.plain KF.entry_gs (KF.slot_gs.check _ _ _ _ _ _ _ _
   KF.type_class (KF.args_gs _ _ _) ?_)
 unfold Builtin.«getset_descriptor.__get__»
  descrGet
 rw[dga_obj]
 refine a7 (b6 ?_)
 unfold descrGetter descrCheckInstance
  descrNameAndClass isInstance
 simp only[KF.owner_class]
 repeat lk
 refine⟨Code.quiet_builtin _
  (by decide+kernel),jC KF.entry_class ?_⟩
 unfold Builtin.«object.__class__» shownTypeOf
 repeat lk
 exact h
theorem ExcCls.find{M:Model}{h:Heap}(c:ExcCls K D)(X:K.In h):kK M h (Builtin.ObjectAttr.find (.ref x) (.ref D) "__class__") (.bind (.builtin "getset_descriptor.__get__") (.builtin "object.__class__")):=by
 have L1:=mh (M:=M) X c.cl
 have L2:kK M h (Builtin.ObjectAttr.getOf (some (.builtin "object.__class__"))) (some (.builtin "getset_descriptor.__get__")):=PySem.W.looks_specialIn X c.gt
 have L3:=PySem.W.looks_takesIn (M:=M) X c.tk
 refine L1.andThen (L2.andThen ?_)
 exact(show kK M h (Builtin.ObjectAttr.dataDescriptor? (some (.builtin "object.__class__")) (some (.builtin "getset_descriptor.__get__"))) (some (.builtin "getset_descriptor.__get__",.builtin "object.__class__"))
  from L3.andThen .now).andThen (kK.tag .now)
theorem OC{Q:Option Value→a9→Prop}(c:ExcCls K D)(X:K.In s.heap)(I:TyAt D x s.heap)(h:Q (some (.ref D)) {s with toks:=s.toks+1}):wpAny (model prog w) A (getAttr? (.ref x) "__class__") Q E s:=by
 obtain⟨hh,g,d,t,os⟩:=s
 have L0:=I.looks (M:=model prog w)
 have L1:=mh (M:=model prog w) X c.ga
 have L2:=mh (M:=model prog w) X c.gn
 have L3:=PySem.W.looks_mroIn (M:=model prog w) X c.be
 have L4:=c.find (x:=x) (M:=model prog w) X
 have hb:bindSpecial (.builtin "BaseException.__getattribute__") (.ref x)=pure (.builtin "BaseException.__getattribute__",[.ref x]):=PySem.F.excAttr_ValueError.ga.bind _
 have hk:builtinKind "BaseException.__getattribute__" =some .slot:=by decide+kernel
 have hsplit:splitId "BaseException.__getattribute__" =some ("BaseException","__getattribute__"):=by decide+kernel
 have hx2:(Value.builtin "BaseException.__getattribute__" ==Value.builtin "object.__getattribute__")=false:=by decide+kernel
 unfold getAttr? getAttrBy? getAttrBy
 refine a7 (wpAny_mkText (a7 (j6 (gx (a7 (L0.at (a7 (L1.at ?_))))))))
 dsimp only
 rw[hx2,mV,if_neg e6]
 unfold getAttrByItsOwn hookBefore
 refine a7 (L2.at ?_)
 refine a7 (j6 (gx ?_))
 unfold callGetattribute boundAndCalled
 rw[hb]
 show wpAny _ _ (call (.builtin "BaseException.__getattribute__") [.ref x,.str "__class__" t]) _ _ _
 refine nK (kR PySem.F.excAttr_ValueError.ga.plain PySem.F.entry_bexc_ga ?_)
 have ha:=PySem.F.args_bexc_ga (.ref x) (.str "__class__" t)
 simp only[nF,hk,hsplit]
 refine a7 ?_
 unfold isInstance
 refine a7 (L0.at (L3.at ?_))
 rw[if_neg (by decide)]
 refine md ha ?_
 show wpAny _ _ (typeOf (.ref x)>>=fun tp=>Builtin.ObjectAttr.find (.ref x) tp "__class__" >>=_) _ _ _
 refine a7 (L0.at (a7 (L4.at ?_)))
 show wpAny _ _ ((holding [.builtin "object.__class__"] (call (.builtin "getset_descriptor.__get__") [.builtin "object.__class__",.ref x,.ref D]))>>=ret) _ _ _
 refine a7 (gx (nK (LQ (s:=⟨hh,g,d,t+1,os⟩) X I c.ob ?_)))
 exact b6 (b6 (b6 h))
theorem ExcCls.isTy{M:Model}{h:Heap}(c:ExcCls K D)(X:K.In h):kK M h (isType (.ref D)) true:=by
 obtain⟨cd,hc,_⟩:=Option.bind_eq_some_iff.mp (show(nz K D).bind _=some true from c.be)
 unfold nz at hc
 split at hc
 ·rename_i c' d' cd' sl' ho
  intro A' Q' E' s' k q
  unfold isType loadHead
  exact a7 (wpAny_loadPart (k _ _ (X _ _ ho)) (b6 q))
 ·cases hc
theorem Pc(c:ExcCls K D):PySem.W.KitX K (.ref x) (.ref D) (TyAt D x) where
 ty:=fun _ _ _ I=>I.looks
 it:=fun _ _ X _=>c.isTy X
 ne:=fun h tp dd its n sl X htp=>by
  refine Bool.eq_false_iff.mpr fun q=>?_
  have e:D=tp:=Value.ref.inj (beq_iff_eq.mp q)
  subst e
  obtain⟨cd,hc,_⟩:=Option.bind_eq_some_iff.mp (show(nz K D).bind _=some true from c.be)
  unfold nz at hc
  split at hc
  ·rename_i c' d' cd' sl' ho
   have z:=(X _ _ ho).symm.trans htp
   cases z
  ·cases hc
 ca:=fun X I k=>OC c X I k
end
def Ws(D x:Addr):HO:=.ext (TyAt D x)
theorem LR{X:Cx}{pins:List (Addr×Obj)}{σ:St}{H:Hp}{s:a9}{A:fG}{E:Value→a9→Prop}{Q:Value→a9→Prop}{c:Value}{b:Bool}{D x:Addr}(I:Inv X pins σ H s)(hx:Rd H x (Ws D x))(k:ExcCls X.K D)
  (e:fP X.K (.ref D) c=some b) (h:∀tk,Q (.bool b) {s with toks:=tk}):wpAny (model X.prog X.w) A (call (.builtin "isinstance") [.ref x,c]) Q E s:=by
 obtain⟨p,_,_⟩:=(show ObjOk X.prog X.w H s.heap x (Ws D x) from hx.ok I.hok)
 exact iI (Pc k) I.kIn p e (fun z=>nomatch z) h
abbrev OD:List Value:=[.type "ValueError",.type "Exception",.type "BaseException",.type "object"]
theorem Ss{K:a8}{h:Heap}{C:Addr}{bmB:List Value}{newId:String}(X:K.In h)(q:j7 K C bmB newId=true):
  ∃bm N nm qn bs hdct sn sub ab col dd k0 k1 k2 k3 k5 mN,h.get? C=some (excClassObj nm qn C N bs bm hdct sn sub ab col dd k0 k1 k2 k3 k5 newId)∧h.Ns N mN∧mN "__init__" =none∧OwnTail h bmB bm:=by
 unfold j7 at q
 split at q
 ·rename_i dd cd sl ho
  split at q
  ·rename_i C' bm k0 k1 k2 k3 n k5 hm hs
   simp only[iV,beq_iff_eq,
    iN] at q
   obtain⟨⟨⟨⟨⟨e1,e2⟩,hdel⟩,ht⟩,hok⟩,hni⟩:=q
   subst e1 e2
   obtain⟨nm,bs,mro,ns,qn,hd,sn,sub,ab,col,del⟩:=cd
   dsimp only at hm hdel hok hni
   subst hm hdel
   have hsl:sl= #[k0,k1,k2,k3,some (.builtin n),k5]:=by
    obtain⟨l⟩:=sl
    simp only at hs
    rw[hs]
   subst hsl
   exact⟨bm,ns,nm,qn,bs,hd,sn,sub,ab,col,dd,k0,k1,k2,k3,k5,_,X _ _ ho,
    .of_isNs (PySem.W.isNs_of_in X hok),PySem.W.nsMap_none_of_in X hok hni,PySem.W.tail_of_in X ht⟩
  ·cases q
 ·cases q
theorem OE{X:Cx}{W:St→XK}{x:Str}{C:Addr}{np cpos pos:Pos}(xo:XOk X W)(hc:X.calm=true)(hg:Gl X x)(hm:X.mg x=some (.ref C))(q:j7 X.K C OD "ValueError.__new__" =true)
  (hd:(x==("__debug__" :Str))=false:=by decide):PS X (.Raise (some (.Call (.Name x np) [] [] cpos)) none pos) (Wq W C):=by
 intro pins s σ H D I h
 obtain⟨bm,N,nm,qn,bs,hdct,sn,sub,ab,col,dd,k0,k1,k2,k3,k5,mN,hC,hN,hni,T⟩:=Ss I.kIn q
 refine wpAny_Raise_call_subT (C:=C) (nm:=nm) (q:=qn) (N:=N) (bs:=bs) (bm:=bm) (hdct:=hdct) (sn:=sn) (sub:=sub) (ab:=ab) (col:=col) (dd:=dd) (k0:=k0) (k1:=k1) (k2:=k2) (k3:=k3) (k5:=k5)
  PySem.F.excBase_ValueError (mN:=mN) (T.hasType PySem.F.excBase_ValueError.hasBase) (I.ok.hd hc) rfl hni (Hx I hg hm ⟨rfl,?_⟩ hd)
 exact evalArgs_empty ⟨rfl,gT _,hC,hN,T,fun h' e hx=>xo.made pins σ H s h' e C I hx h⟩
section
variable{X:Cx}{pins:List (Addr×Obj)}{σ:St}{H:Hp}{s:a9}
end
section
variable{X:Cx}{pins pins':List (Addr×Obj)}{σ:St}{H:Hp}{s:a9}{E':Value→a9→Prop}{x:Addr}
end
theorem Fun.okX{P:Program}{w:World}{K:a8}{mg:Str→Option Value}{base:Heap}{x qual:Str}{st:Stmt}{f:Addr}{fd:fF}{N ps:List Str}{k:Nat}{sp:Sp}(F:Fun K x qual st f fd)(S:FnScope N ps (AA st))(len:∀vs H Q E,sp vs H Q E→vs.length=ps.length)
  (hbody:∀(cdv:Value) (A:fG) (outer:List Env) (s:a9) (H:Hp) (vs:List V) (Q:VK) (E:XK),Room k (A.deeper (kQ qual (AA st) s.heap.objs.size f cdv))→sp vs H Q E→
   ∃t,PSs (Bo (CXe P w) P w K mg base N qual (AA st) f cdv A outer s H E) (Aw st) t∧t {nx:=fun _ H'=>Q .non H',rt:=Q} (start N vs) H):FnOk P w K mg base (CXe P w) (k+1) f fd ps sp:=by
 obtain⟨oc,od,kV,doc,pm,an,cdv,ct,osl,rfl,lk,hcd⟩:=F.ex
 exact ZU lk hcd S len fun A outer s H vs Q E hr hsp=>hbody cdv A outer s H vs Q E hr hsp
section
variable{X:Cx}
def dv(K:a8)(H:Hp)(x:V)(t:Value):Prop:=TyOf K H x t∨∃a D,x=.ref a∧t=.ref D∧Rd H a (Ws D a)∧ExcCls K D
def Zl(K:a8):List V→Hp→VK→Prop:=fun vs H Q=>∃x c t cv b,vs=[x,c]∧RelV c cv∧dv K H x t∧fP K t cv=some b∧Q (.bl b) H
theorem Pd:Au X (.builtin "isinstance") (Zl X.K):=by
 intro pins s σ H xs us Q I r h
 obtain⟨x,c,t,cv,b,rfl,rc,ty,e,q⟩:=h
 obtain⟨u,w',rfl,rx,rw'⟩:=Mj r
 have e2:w'=cv:=by
  cases c with
  |ty n=>exact(show w'=ji n from rw').trans (show cv=ji n from rc).symm
  |ref a=>exact(show w'=Value.ref a from rw').trans (show cv=Value.ref a from rc).symm
  |non=>exact(show w'=jF from rw').trans (show cv=jF from rc).symm
  |bl b=>exact(show w'=lW b from rw').trans (show cv=lW b from rc).symm
  |int i=>exact absurd e (by obtain⟨k,rfl⟩:=rc;unfold fP;rcases ty with ty| ⟨_,_,_,rfl,_⟩<;>first| (cases ty<;> (intro z;simp[jO] at z))| (intro z;simp[jO] at z))
  |str i=>exact absurd e (by obtain⟨k,rfl⟩:=rc;unfold fP;rcases ty with ty| ⟨_,_,_,rfl,_⟩<;>first| (cases ty<;> (intro z;simp[jO] at z))| (intro z;simp[jO] at z))
  |byt i=>exact absurd e (by obtain⟨k,rfl⟩:=rc;unfold fP;rcases ty with ty| ⟨_,_,_,rfl,_⟩<;>first| (cases ty<;> (intro z;simp[jO] at z))| (intro z;simp[jO] at z))
  |flt i=>exact absurd e (by obtain⟨k,rfl⟩:=rc;unfold fP;rcases ty with ty| ⟨_,_,_,rfl,_⟩<;>first| (cases ty<;> (intro z;simp[jO] at z))| (intro z;simp[jO] at z))
 subst e2
 rcases ty with ty| ⟨a,D,rfl,rfl,hx,k⟩
 ·exact Nw I rx ty e fun tk=> ⟨.bl b,H,I.tok tk,rfl,q⟩
 ·cases(show u=Value.ref a from rx)
  exact LR I hx k e fun tk=> ⟨.bl b,H,I.tok tk,rfl,q⟩
theorem Wt:bY X .Mult (fun x y H Q=>∃i j,x=.int i∧y=.int j∧CMul i j∧Q (.int (i*j)) H):=by
 intro pins s σ H x y v u Q I r1 r2 h
 obtain⟨i,j,e1,e2,hc,q⟩:=h
 subst e1;subst e2
 obtain⟨t,rfl⟩:=r1
 obtain⟨t',rfl⟩:=r2
 exact PyProof.Rows.imul_int ⟨.int _,H,I.tok _,⟨_,rfl⟩,q⟩ hc.ok
def LS:List V→List V→Bool
 | [],[]=>true
 |x::xs,y::ys=>SI x y&&LS xs ys
 |_,_=>false
theorem Fe:∀{xs ys:List V},xs.length=ys.length→(fY xs.length).all (fun j=>SI (xs.getD j .non) (ys.getD j .non))=LS xs ys
 | [],[],_=>rfl
 |x::xs,y::ys,h=>by
  have ih:=Fe (xs:=xs) (ys:=ys) (by simpa using h)
  rw[fu,List.range_succ_eq_map,List.all_cons,List.all_map]
  show(SI x y&&_)=(SI x y&&LS xs ys)
  rw[←ih]
  rfl
 | [],_::_,h=>by simp at h
 |_::_,[],h=>by simp at h
def cW(K:a8):R2:=fun x y H Q=>∃a b xs ys,x=.ref a∧y=.ref b∧De K H a xs∧De K H b ys∧xs.all Fb=true∧ys.all Fb=true∧xs.length=ys.length∧Q (.bl (!LS xs ys)) H
theorem Wu(hu:X.A.units<cLine):CO X (hZ .NotEq) (cW X.K):=by
 intro pins s σ H x y v u Q I rx ry h
 obtain⟨a,b,xs,ys,rfl,rfl,ha,hb,fx,fy,hl,q⟩:=h
 cases rx;cases ry
 obtain⟨its,r1,p1,z1⟩:=I.list ha
 obtain⟨its2,r2,p2,z2⟩:=I.list hb
 have l1:=r1.length
 have l2:=r2.length
 refine SeqAt.RcNeAt.lists (e:=fun j=>SI (xs.getD j .non) (ys.getD j .non)) p1.isList p2.isList (by simp only[fm];omega) hu (fun j h1 h2=>?_) _ _ _ _ ?_
 ·have j1:j<xs.length:=by simp only[fm] at h1;omega
  have j2:j<ys.length:=by omega
  obtain⟨u1,e1,q1⟩:=r1.get (i:=j) (x:=xs[j]) (by simp[j1])
  obtain⟨u2,e2,q2⟩:=r2.get (i:=j) (x:=ys[j]) (by simp[j2])
  have f1:Fb xs[j]=true:=iK.mp fx _ (iB _)
  have f2:Fb ys[j]=true:=iK.mp fy _ (iB _)
  have d1:xs.getD j .non=xs[j]:=by simp[kZ,j1]
  have d2:ys.getD j .non=ys[j]:=by simp[kZ,j2]
  show il _ _ its.toArray[j] its2.toArray[j] (SI (xs.getD j .non) (ys.getD j .non))
  rw[d1,d2]
  have g1:its.toArray[j]=u1:=by
   have:its[j]'(by omega)=u1:=gh.inj (by rw[←e1];simp)
   simpa using this
  have g2:its2.toArray[j]=u2:=by
   have:its2[j]'(by omega)=u2:=gh.inj (by rw[←e2];simp)
   simpa using this
  rw[g1,g2]
  exact Wi q1 q2 f1 f2
 ·refine⟨.bl _,H,I,rfl,?_⟩
  have e:(fY its.toArray.size).all (fun j=>SI (xs.getD j .non) (ys.getD j .non))=LS xs ys:=by
   rw[fm,←l1];exact Fe hl
  rw[e]
  exact q
end
end L2
namespace StT
local macro_rules | `(tactic| omega) => `(tactic| first | lia | omega)
open PySem PySem.SetTable
theorem LU:∀(m:Nat) (l:List Nat),(∀e,e<m→e∈l)→m≤l.length
 |0,_,_=>gT _
 |m+1,l,h=>by
  have hm:m∈l:=h m (km m)
  have ih:=LU m (l.erase m) fun e he=>by
   rw[List.mem_erase_of_ne (fS he)]
   exact h e (jl he)
  rw[lx hm] at ih
  have:0<l.length:=kG hm
  omega
theorem By:∀(n:Nat) (l:List Nat),l.Nodup→(∀x∈l,x<n)→l.length≤n
 |0,[],_,_=>fj _
 |0,x::_,_,h=>absurd (h x fQ) (lB _)
 |n+1,l,nd,h=>by
  have ih:=By n (l.erase n) (nd.erase n) fun x hx=>by
   have h1:=h x (List.mem_of_mem_erase hx)
   have h2:x≠n:=fun e=>by
    subst e
    exact absurd hx (List.Nodup.not_mem_erase nd)
   omega
  by_cases hn:n∈l
  ·rw[lx hn] at ih
   omega
  ·rw[List.erase_of_not_mem hn] at ih
   omega
def Pe(xs:Array Nat):Prop:=xs.toList.Pairwise (· < ·)
theorem Ff{xs:Array Nat}(r:Pe xs){i j:Nat}{x y:Nat}(hi:xs[i]?=some x)(hj:xs[j]?=some y)(h:i<j):x<y:=by
 obtain⟨h1,rfl⟩:=gO.mp hi
 obtain⟨h2,rfl⟩:=gO.mp hj
 have:=gR.mp r i j (by simpa using h1) (by simpa using h2) h
 simpa using this
theorem II{xs:Array Nat}{j:Nat}:∀(fuel lo hi:Nat),hi-lo≤fuel→lo≤hi→hi≤xs.size→(∀i x,i<lo→xs[i]?=some x→x<j)→(∀i x,hi≤i→xs[i]?=some x→j≤x)→Pe xs→
  (pP xs j fuel lo hi≤xs.size)∧(∀i x,i<pP xs j fuel lo hi→xs[i]?=some x→x<j)∧∀i x,pP xs j fuel lo hi≤i→xs[i]?=some x→j≤x
 |0,lo,hi,hf,hlo,hhi,h1,h2,r=>by
  have:lo=hi:=by omega
  subst this
  exact⟨hhi,h1,h2⟩
 |fuel+1,lo,hi,hf,hlo,hhi,h1,h2,r=>by
  unfold pP
  by_cases hl:lo<hi
  ·rw[if_pos hl]
   have hm:(lo+hi)/2<xs.size:=by omega
   have em:xs[(lo+hi)/2]?=some xs[(lo+hi)/2]:=by simp[hm]
   have eg:xs.getD ((lo+hi)/2) j=xs[(lo+hi)/2]:=by simp[mW,hm]
   dsimp only
   rw[eg]
   by_cases hc:xs[(lo+hi)/2]<j
   ·rw[if_pos hc]
    refine II fuel _ _ (by omega) (by omega) hhi (fun i x hi' e=>?_) h2 r
    by_cases hx:i=(lo+hi)/2
    ·subst hx
     rw[em] at e;cases e
     exact hc
    ·exact pA (Ff r e em (by omega)) hc
   ·rw[if_neg hc]
    refine II fuel _ _ (by omega) (by omega) (by omega) h1 (fun i x hi' e=>?_) r
    by_cases hx:i=(lo+hi)/2
    ·subst hx
     rw[em] at e;cases e
     omega
    ·have:=Ff r em e (by omega)
     omega
  ·rw[if_neg hl]
   have:lo=hi:=by omega
   subst this
   exact⟨hhi,h1,h2⟩
theorem CU{xs:Array Nat}{j:Nat}(r:Pe xs):(below xs j≤xs.size)∧(∀i x,i<below xs j→xs[i]?=some x→x<j)∧∀i x,below xs j≤i→xs[i]?=some x→j≤x:=
 II _ _ _ (by omega) (by omega) (fj _) (fun i x h=>absurd h (lB _)) (fun i x h e=>by
  have:=(gO.mp e).1
  omega) r
theorem BZ{xs:Array Nat}{i j:Nat}(r:Pe xs)(h:xs[i]?=some j):below xs j=i:=by
 obtain⟨b1,b2,b3⟩:=CU (j:=j) r
 have hi:i<xs.size:=(gO.mp h).1
 apply Nat.le_antisymm
 ·apply lZ
  intro hc
  exact absurd (b2 i j hc h) (gU _)
 ·apply lZ
  intro hc
  have e:xs[below xs j]?=some xs[below xs j]:=by simp[pA hc hi]
  have h1:=b3 _ _ (fj _) e
  have h2:=Ff r e h hc
  omega
theorem Ax{α:Type}(xs:Array α)(p:Nat)(x:α):(jr xs p x).toList=xs.toList.take p++x::xs.toList.drop p:=by
 unfold jr
 simp
 rw[List.take_of_length_le (by simp)]
theorem getElem?_insertAt{α:Type}(xs:Array α)(p:Nat)(x:α)(hp:p≤xs.size)(i:Nat):(jr xs p x)[i]?=if i<p then xs[i]? else if i=p then some x else xs[i-1]?:=by
 have e:(jr xs p x)[i]?=(jr xs p x).toList[i]?:=by simp
 rw[e,Ax]
 have hl:(xs.toList.take p).length=p:=by simp[hp]
 by_cases h1:i<p
 ·rw[if_pos h1,gz (by omega),j9 h1]
  simp
 ·rw[if_neg h1,fR (by omega),hl]
  by_cases h2:i=p
  ·subst h2
   simp
  ·rw[if_neg h2]
   have:i-p=(i-p-1)+1:=by omega
   rw[this,ku,jd]
   have:p+(i-p-1)=i-1:=by omega
   rw[this]
   simp
theorem DY{α:Type}(xs:Array α)(p:Nat)(x:α)(hp:p≤xs.size):(jr xs p x).size=xs.size+1:=by
 rw[←fg,Ax]
 simp
 omega
theorem LW{xs:Array Nat}{j:Nat}(r:Pe xs)(hj:∀i:Nat,xs[i]?≠some j):Pe (jr xs (below xs j) j):=by
 obtain⟨b1,b2,b3⟩:=CU (j:=j) r
 unfold Pe
 rw[Ax]
 have lt:∀y∈xs.toList.take (below xs j),y<j:=fun y hy=>by
  obtain⟨i,hi⟩:=gF hy
  have hlt:i<below xs j:=by
   have:=(fD.mp hi).1
   simp at this;omega
  rw[j9 hlt] at hi
  exact b2 i y hlt (by simpa using hi)
 have gt:∀y∈xs.toList.drop (below xs j),j<y:=fun y hy=>by
  obtain⟨i,hi⟩:=gF hy
  rw[jd] at hi
  have hi':xs[below xs j+i]?=some y:=by simpa using hi
  have h1:=b3 _ y (Nat.le_add_right _ _) hi'
  have h2:y≠j:=fun e=>hj _ (e▸hi')
  omega
 refine jy.mpr ⟨gc.sublist (List.take_sublist _ _) r,jQ.mpr ⟨gt,gc.sublist (List.drop_sublist _ _) r⟩,fun a ha b hb=>?_⟩
 rcases fh.mp hb with rfl|hb
 ·exact lt a ha
 ·exact pA (lt a ha) (gt b hb)
def adv(m:Nat)(p:Probe):Probe:=(ie.mk m #[] #[] 0 false 0 false).advance p
theorem Fg(t:ie)(p:Probe):t.advance p=adv t.mask p:=rfl
theorem Fh{m:Nat}{p:Probe}(h:0<p.more):adv m p=⟨p.j+1,p.more-1,p.i,p.perturb,p.dummy⟩:=by
 unfold adv advance
 exact if_pos h
theorem Fj{m:Nat}{p:Probe}(h:¬0<p.more):adv m p=⟨(leap m p.i p.perturb).1,kP m (leap m p.i p.perturb).1- (leap m p.i p.perturb).1,(leap m p.i p.perturb).1,(leap m p.i p.perturb).2,p.dummy⟩:=by
 unfold adv advance
 exact if_neg h
def advN(m:Nat):Nat→Probe→Probe
 |0,p=>p
 |n+1,p=>advN m n (adv m p)
theorem Ba(m:Nat):∀(a b:Nat) (p:Probe),advN m (a+b) p=advN m b (advN m a p)
 |0,b,p=>by rw[j0];rfl
 |a+1,b,p=>by
  rw[pq]
  exact Ba m a b (adv m p)
theorem HH(m n:Nat)(p:Probe):advN m (n+1) p=adv m (advN m n p):=Ba m n 1 p
def st(m:Nat)(x:Nat×Nat)(d:Option Nat):Probe:={j:=x.1,more:=kP m x.1-x.1,i:=x.1,perturb:=x.2,dummy:=d}
theorem Pf(t:ie)(h:Int):t.probeStart h=st t.mask (bits h%(t.mask+1),bits h) none:=rfl
def LX(m:Nat):Nat→Nat×Nat→Nat×Nat
 |0,x=>x
 |n+1,x=>LX m n (leap m x.1 x.2)
theorem ER(m i:Nat)(h:i≤m):i+(kP m i-i)≤m∧kP m i-i≤9:=by
 unfold kP
 split<;>omega
theorem IJ(m:Nat):∀(k:Nat) (p:Probe),k≤p.more→advN m k p={p with j:=p.j+k,more:=p.more-k}
 |0,p,_=>rfl
 |k+1,p,h=>by
  show advN m k (adv m p)=_
  have e:adv m p={p with j:=p.j+1,more:=p.more-1}:=Fh (by omega)
  rw[e,IJ m k _ (by show k≤p.more-1;omega)]
  show({p with j:=p.j+1+k,more:=p.more-1-k}:Probe)={p with j:=p.j+(k+1),more:=p.more- (k+1)}
  rw[show p.j+1+k=p.j+(k+1) by omega,show p.more-1-k=p.more- (k+1) by omega]
theorem Fk(m:Nat)(p:Probe):advN m (p.more+1) p=st m (leap m p.i p.perturb) p.dummy:=by
 rw[HH,IJ m p.more p (fj _)]
 rw[Fj (by show¬0<p.more-p.more;omega)]
 rfl
theorem Fl(m:Nat):∀(L:Nat) (x:Nat×Nat),x.1≤m→(LX m L x).1≤m
 |0,_,h=>h
 |L+1,x,_=>Fl m L _ (by show(x.1*5+1+x.2/32)%(m+1)≤m;have:=oX (x.1*5+1+x.2/32) (show 0<m+1 by omega);omega)
theorem Pg(m:Nat):∀(L:Nat) (x:Nat×Nat) (d:Option Nat),x.1≤m→∃n,n≤10*L∧advN m n (st m x d)=st m (LX m L x) d
 |0,x,d,_=> ⟨0,by omega,rfl⟩
 |L+1,x,d,h=>by
  have hl:(leap m x.1 x.2).1≤m:=Fl m 1 x h
  obtain⟨n,hn,e⟩:=Pg m L (leap m x.1 x.2) d hl
  have h9:=(ER m x.1 h).2
  refine⟨(st m x d).more+1+n,?_,?_⟩
  ·show kP m x.1-x.1+1+n≤_;omega
  ·rw[Ba,Fk]
   exact e
theorem Mq(m:Nat):∀(a b:Nat) (x:Nat×Nat),LX m (a+b) x=LX m b (LX m a x)
 |0,b,x=>by rw[j0];rfl
 |a+1,b,x=>by rw[pq];exact Mq m a b _
theorem Mr(m:Nat):∀(L:Nat) (x:Nat×Nat),(LX m L x).2=x.2/32^L
 |0,x=>by simp[LX]
 |L+1,x=>by
  show(LX m L (leap m x.1 x.2)).2=_
  rw[Mr m L]
  show x.2/32/32^L=x.2/32^(L+1)
  rw[Nat.div_div_eq_div_mul,nQ,pz]
def Yp(m:Nat):Nat→Nat→List Nat
 |0,_=> []
 |n+1,i=>i::Yp m n ((i*5+1)%(m+1))
def fN(m:Nat):Nat→Nat→Nat
 |0,i=>i
 |n+1,i=>fN m n ((i*5+1)%(m+1))
theorem Zm(m:Nat):∀(L i:Nat),LX m L (i,0)=(fN m L i,0)
 |0,_=>rfl
 |L+1,i=>by
  show LX m L ((i*5+1+0/32)%(m+1),0/32)=_
  rw[Nat.zero_div,Nat.add_zero]
  exact Zm m L _
theorem IL(m:Nat):∀(a b x:Nat),fN m (a+b) x=fN m b (fN m a x)
 |0,b,x=>by rw[j0];rfl
 |a+1,b,x=>by rw[pq];exact IL m a b _
theorem IM(m:Nat):∀(n i e:Nat),e∈Yp m n i→∃k,k<n∧fN m k i=e
 |0,_,_,h=>by simp[Yp] at h
 |n+1,i,e,h=>by
  rcases fh.mp h with rfl|h
  ·exact⟨0,pk _,rfl⟩
  ·obtain⟨k,hk,hf⟩:=IM m n _ e h
   exact⟨k+1,by omega,hf⟩
def Bb(m:Nat):Prop:=m=7∨m=31∨m=127∨m=511
theorem cX{m:Nat}(h:Bb m):fN m (m+1) 0=0∧∀e,e≤m→e∈Yp m (m+1) 0:=by
 have all:∀k,((fY (k+1)).all fun e=> (Yp k (k+1) 0).contains e)=true→∀e,e≤k→e∈Yp k (k+1) 0:=fun k hk e he=>by
  have:=iK.mp hk e (fW.mpr (Nat.lt_succ_of_le he))
  exact List.contains_iff_mem.mp this
 rcases h with rfl|rfl|rfl|rfl
 ·exact⟨by decide+kernel,all 7 (by decide+kernel)⟩
 ·exact⟨by decide+kernel,all 31 (by decide+kernel)⟩
 ·exact⟨by decide+kernel,all 127 (by decide+kernel)⟩
 ·exact⟨by decide+kernel,all 511 (by decide+kernel)⟩
theorem dw{m:Nat}(h:Bb m){i e:Nat}(hi:i≤m)(he:e≤m):∃k,k≤m∧fN m k i=e:=by
 obtain⟨c0,call⟩:=cX h
 obtain⟨a,ha,ea⟩:=IM m _ _ _ (call i hi)
 obtain⟨b,hb,eb⟩:=IM m _ _ _ (call e he)
 by_cases hab:a≤b
 ·refine⟨b-a,by omega,?_⟩
  rw[←ea,←IL,show a+(b-a)=b by omega]
  exact eb
 ·refine⟨m+1-a+b,by omega,?_⟩
  rw[←ea,←IL,show a+(m+1-a+b)=(m+1)+b by omega,IL,c0]
  exact eb
structure Pr(m:Nat)(p:Probe):Prop where
 ij:p.j+p.more≤m
 more:p.more≤9
 i:p.i≤m
 pert:p.perturb<2^64
theorem Pr.st{m:Nat}{x:Nat×Nat}{d:Option Nat}(h1:x.1≤m)(h2:x.2<2^64):Pr m (st m x d):=⟨(ER m x.1 h1).1,(ER m x.1 h1).2,h1,h2⟩
theorem Pr.adv{m:Nat}{p:Probe}(h:Pr m p):Pr m (adv m p):=by
 by_cases hm:0<p.more
 ·rw[Fh hm]
  exact⟨by have:=h.ij;show p.j+1+(p.more-1)≤m;omega,by have:=h.more;show p.more-1≤9;omega,h.i,h.pert⟩
 ·rw[Fj hm]
  have hl:(leap m p.i p.perturb).1≤m:=Fl m 1 (p.i,p.perturb) h.i
  exact⟨(ER m _ hl).1,(ER m _ hl).2,hl,mO (Nat.div_le_self _ _) h.pert⟩
theorem Pr.advN{m:Nat}:∀{n:Nat} {p:Probe},Pr m p→Pr m (advN m n p)
 |0,_,h=>h
 |n+1,_,h=>Pr.advN (n:=n) h.adv
theorem Pr.j{m:Nat}{p:Probe}(h:Pr m p):p.j≤m:=by have:=h.ij;omega
theorem Ms(h:Int):bits h<2^64:=by
 unfold bits
 have h1:=kI h (show(2^64:Int)≠0 by decide)
 have h2:=jR h (show(0:Int)<2^64 by decide)
 have h3:((2:Nat)^64:Nat)=18446744073709551616:=by decide
 omega
def start(m:Nat)(h:Int):Probe:=st m (bits h%(m+1),bits h) none
theorem Pr.start(m:Nat)(h:Int):Pr m (start m h):=Pr.st (by show bits h%(m+1)≤m;have:=oX (bits h) (show 0<m+1 by omega);omega) (Ms h)
theorem Zo{q:Nat}(h:q<2^64):q/32^13=0:=Nat.div_eq_of_lt (fM h (by decide))
theorem VH{m:Nat}(hm:Bb m){x:Nat×Nat}(h1:x.1≤m)(h2:x.2<2^64){e:Nat}(he:e≤m):∃L,L≤m+13∧(LX m L x).1=e:=by
 have e13:LX m 13 x=((LX m 13 x).1,0):=by
  have:=Mr m 13 x
  rw[Zo h2] at this
  rw[←this]
 obtain⟨k,hk,ek⟩:=dw hm (Fl m 13 x h1) he
 refine⟨13+k,by omega,?_⟩
 rw[Mq,e13,Zm]
 exact ek
theorem VI{m:Nat}(hm:Bb m){p:Probe}(h:Pr m p){e:Nat}(he:e≤m):∃n,n<10*(m+15)∧(advN m n p).j=e:=by
 have hl:(leap m p.i p.perturb).1≤m:=Fl m 1 (p.i,p.perturb) h.i
 obtain⟨L,hL,eL⟩:=VH hm (x:=leap m p.i p.perturb) hl (mO (Nat.div_le_self _ _) h.pert) he
 obtain⟨n,hn,en⟩:=Pg m L (leap m p.i p.perturb) p.dummy hl
 refine⟨p.more+1+n,by have:=h.more;omega,?_⟩
 rw[Ba,Fk,en]
 exact eL
theorem OF(m:Nat)(p:Probe):(adv m p).dummy=p.dummy:=by
 by_cases h:0<p.more
 ·rw[Fh h]
 ·rw[Fj h]
theorem Dg(m:Nat):∀(n:Nat) (p:Probe),(advN m n p).dummy=p.dummy
 |0,_=>rfl
 |n+1,p=> (Dg m n _).trans (OF m p)
end StT
namespace StT
local macro_rules | `(tactic| omega) => `(tactic| first | lia | omega)
open PySem PySem.SetTable
def Jk(t:ie)(j:Nat):Prop:=∃i:Nat,t.place[i]?=some j
structure Tb(t:ie)(hs:List Int):Prop where
 mask:Bb t.mask
 dum:t.dummies= #[]
 ris:Pe t.place
 le:∀i j:Nat,t.place[i]?=some j→j≤t.mask
 size:t.place.size=hs.length
 fnd:∀(i j:Nat) (h:Int),t.place[i]?=some j→hs[i]?=some h→∃n,(advN t.mask n (start t.mask h)).j=j∧∀k,k<n→Jk t (advN t.mask k (start t.mask h)).j
section
variable{t:ie}{hs:List Int}
theorem Tb.odd(T:Tb t hs):t.mask%2=1:=by rcases T.mask with h|h|h|h<;>rw[h]
theorem Tb.low(T:Tb t hs):7≤t.mask:=by rcases T.mask with h|h|h|h<;>omega
theorem Tb.live(T:Tb t hs){i j:Nat}(h:t.place[i]?=some j):t.slot j=.live i:=by
 unfold slot
 rw[BZ T.ris h]
 simp only[h,beq_self_eq_true,if_true]
theorem Tb.empty(T:Tb t hs){j:Nat}(h:¬Jk t j):t.slot j=.empty:=by
 unfold slot
 have h1:(t.place[below t.place j]?==some j)=false:=by
  rw[beq_eq_false_iff_ne]
  exact fun e=>h ⟨_,e⟩
 have h2:has t.dummies j=false:=by
  unfold has
  rw[T.dum]
  rfl
 simp only[h1,h2,fJ,if_false]
theorem Tb.room(T:Tb t hs)(h:hs.length≤t.mask):∃e,e≤t.mask∧¬Jk t e:=by
 apply iY
 intro hn
 have:=LU (t.mask+1) t.place.toList fun e he=>by
  have:Jk t e:=iY fun hc=>hn ⟨e,by omega,hc⟩
  obtain⟨i,hi⟩:=this
  exact fk (i:=i) (by simpa using hi)
 rw[fg,T.size] at this
 omega
theorem Su(T:Tb t hs){hashAt:Nat→Int}{h:Int}{p:Probe}{i:Nat}(fuel:Nat)(h1:t.place[i]?=some p.j)(h2:hashAt i≠h):mf t hashAt h (fuel+1) p=mf t hashAt h fuel (adv t.mask p):=by
 rw[mf,T.live h1]
 simp only[beq_iff_eq,if_neg h2,Fg]
theorem Jl(T:Tb t hs){hashAt:Nat→Int}{h:Int}:∀(n fuel:Nat) (p:Probe),(∀k,k<n→∃i,t.place[i]?=some (advN t.mask k p).j∧hashAt i≠h)→mf t hashAt h (fuel+n) p=mf t hashAt h fuel (advN t.mask n p)
 |0,_,_,_=>rfl
 |n+1,fuel,p,hk=>by
  obtain⟨i,h1,h2⟩:=hk 0 (pk _)
  have h1:t.place[i]?=some p.j:=h1
  rw[←oQ,Su T _ h1 h2]
  exact Jl T n fuel _ fun k hk'=>hk (k+1) (Nat.succ_lt_succ hk')
theorem Ph(T:Tb t hs){hashAt:Nat→Int}{h:Int}{p:Probe}{fuel:Nat}(h1:¬Jk t p.j):mf t hashAt h (fuel+1) p=some (.empty p.j p.dummy):=by
 rw[mf,T.empty h1]
theorem Wv(T:Tb t hs){hashAt:Nat→Int}{h:Int}{p:Probe}{fuel i:Nat}(h1:t.place[i]?=some p.j)(h2:hashAt i=h):mf t hashAt h (fuel+1) p=some (.candidate p.j i (adv t.mask p)):=by
 rw[mf,T.live h1]
 simp only[beq_iff_eq,if_pos h2,Fg]
theorem least{S:Nat→Prop}:∀(n:Nat),S n→∃m,m≤n∧S m∧∀k,k<m→¬S k:=by
 intro n
 induction n using Nat.strongRecOn with
 |ind n ih=>
  intro hn
  by_cases h:∃k,k<n∧S k
  ·obtain⟨k,hk,sk⟩:=h
   obtain⟨m,h1,h2,h3⟩:=ih k hk sk
   exact⟨m,by omega,h2,h3⟩
  ·exact⟨n,fj _,hn,fun k hk sk=>h ⟨k,hk,sk⟩⟩
theorem Jm(T:Tb t hs)(hl:hs.length≤t.mask){p:Probe}(pr:Pr t.mask p)(hashAt:Nat→Int)(h:Int):∃n,(∀k,k<n→∃i,t.place[i]?=some (advN t.mask k p).j∧hashAt i≠h)∧
  ((¬Jk t (advN t.mask n p).j∧t.probe hashAt h p=some (.empty (advN t.mask n p).j p.dummy))∨∃i,t.place[i]?=some (advN t.mask n p).j∧hashAt i=h∧t.probe hashAt h p=some (.candidate (advN t.mask n p).j i (advN t.mask (n+1) p))):=by
 obtain⟨e,he,hne⟩:=T.room hl
 obtain⟨n0,hn0,en0⟩:=VI T.mask pr he
 obtain⟨n,hn,sn,ln⟩:=least (S:=fun n=>¬Jk t (advN t.mask n p).j∨∃i,t.place[i]?=some (advN t.mask n p).j∧hashAt i=h) n0 (.inl (by rw[en0];exact hne))
 have pre:∀k,k<n→∃i,t.place[i]?=some (advN t.mask k p).j∧hashAt i≠h:=fun k hk=>by
  have:=ln k hk
  have ho:Jk t (advN t.mask k p).j:=iY fun hc=>this (.inl hc)
  obtain⟨i,hi⟩:=ho
  exact⟨i,hi,fun z=>this (.inr ⟨i,hi,z⟩)⟩
 have hfuel:10*turns t.mask=(10*(t.mask+15)-n-1+1)+n:=by unfold turns;omega
 refine⟨n,pre,?_⟩
 unfold probe
 rw[hfuel,Jl T n _ p pre]
 rcases sn with sn| ⟨i,h1,h2⟩
 ·exact .inl ⟨sn,by rw[Ph T sn,Dg]⟩
 ·exact .inr ⟨i,h1,h2,by rw[Wv T h1 h2,HH]⟩
theorem Tb.put(T:Tb t hs){h:Int}{n:Nat}(hfree:¬Jk t (advN t.mask n (start t.mask h)).j)(hway:∀k,k<n→Jk t (advN t.mask k (start t.mask h)).j):
  Tb (t.put (advN t.mask n (start t.mask h)).j).1 (hs.take (t.put (advN t.mask n (start t.mask h)).j).2++h::hs.drop (t.put (advN t.mask n (start t.mask h)).j).2)∧(t.put (advN t.mask n (start t.mask h)).j).2≤hs.length∧
   (t.put (advN t.mask n (start t.mask h)).j).1.mask=t.mask∧(t.put (advN t.mask n (start t.mask h)).j).1.plain=t.plain∧(t.put (advN t.mask n (start t.mask h)).j).1.led=t.led∧(t.put (advN t.mask n (start t.mask h)).j).1.moves=t.moves:=by
 have hj:(advN t.mask n (start t.mask h)).j≤t.mask:=(Pr.start t.mask h).advN.j
 generalize hJ:(advN t.mask n (start t.mask h)).j=J at*
 have hd:has t.dummies J=false:=by
  unfold has
  rw[T.dum]
  rfl
 have hnot:∀i:Nat,t.place[i]?≠some J:=fun i e=>hfree ⟨i,e⟩
 have hb:=(CU (j:=J) T.ris).1
 have e1:(t.put J).1={t with place:=jr t.place (below t.place J) J}:=by
  unfold ie.put
  simp only[hd,fJ,if_false]
 have e2:(t.put J).2=below t.place J:=rfl
 rw[e1,e2]
 have ix:=getElem?_insertAt t.place (below t.place J) J hb
 have hl:(hs.take (below t.place J)).length=below t.place J:=by rw[gD,←T.size];omega
 have ih:∀i:Nat,(hs.take (below t.place J)++h::hs.drop (below t.place J))[i]?=if i<below t.place J then hs[i]? else if i=below t.place J then some h else hs[i-1]?:=fun i=>by
  by_cases h1:i<below t.place J
  ·rw[if_pos h1,gz (by omega),j9 h1]
  ·rw[if_neg h1,fR (by omega),hl]
   by_cases h2:i=below t.place J
   ·subst h2;simp
   ·rw[if_neg h2,show i-below t.place J=(i-below t.place J-1)+1 by omega,ku,jd]
    rw[show below t.place J+(i-below t.place J-1)=i-1 by omega]
 have occ:∀x,Jk t x→Jk {t with place:=jr t.place (below t.place J) J} x:=fun x ⟨i,hi⟩=>by
  by_cases h1:i<below t.place J
  ·exact⟨i,by show(jr t.place (below t.place J) J)[i]?=some x;rw[ix,if_pos h1];exact hi⟩
  ·exact⟨i+1,by show(jr t.place (below t.place J) J)[i+1]?=some x;rw[ix,if_neg (by omega),if_neg (by omega)];exact hi⟩
 refine⟨⟨T.mask,T.dum,LW T.ris hnot,fun i j e=>?_,?_,fun i j h' e eh=>?_⟩,by rw[←T.size];exact hb,rfl,rfl,rfl,rfl⟩
 ·have e:(jr t.place (below t.place J) J)[i]?=some j:=e
  rw[ix] at e
  by_cases h1:i<below t.place J
  ·rw[if_pos h1] at e;exact T.le i j e
  ·rw[if_neg h1] at e
   by_cases h2:i=below t.place J
   ·rw[if_pos h2] at e;cases e;exact hj
   ·rw[if_neg h2] at e;exact T.le _ j e
 ·show(jr t.place (below t.place J) J).size=_
  rw[DY _ _ _ hb,T.size]
  have hb':below t.place J≤hs.length:=by rw[←T.size];exact hb
  rw[fE,hl,fu,kr]
  omega
 ·have e:(jr t.place (below t.place J) J)[i]?=some j:=e
  rw[ix] at e
  rw[ih] at eh
  by_cases h1:i<below t.place J
  ·rw[if_pos h1] at e eh
   obtain⟨k,ek,wk⟩:=T.fnd i j h' e eh
   exact⟨k,ek,fun k' hk=>occ _ (wk k' hk)⟩
  ·rw[if_neg h1] at e eh
   by_cases h2:i=below t.place J
   ·rw[if_pos h2] at e eh
    cases e;cases eh
    exact⟨n,hJ,fun k hk=>occ _ (hway k hk)⟩
   ·rw[if_neg h2] at e eh
    obtain⟨k,ek,wk⟩:=T.fnd _ j h' e eh
    exact⟨k,ek,fun k' hk=>occ _ (wk k' hk)⟩
theorem Tb.fresh(f mv:Nat)(led:Bool):Tb (ie.fresh f mv led) []:=by
 refine⟨.inl rfl,rfl,j4,fun i j e=>?_,rfl,fun i j h e=>?_⟩
 ·have e:(#[]:Array Nat)[i]?=some j:=e
  simp at e
 ·have e:(#[]:Array Nat)[i]?=some j:=e
  simp at e
end
end StT
namespace StT
local macro_rules | `(tactic| omega) => `(tactic| first | lia | omega)
open PySem PySem.SetTable
structure LC(m:Nat)(owner:Array (Option Nat))(hs:List Int):Prop where
 size:owner.size=m+1
 put:∀(r:Nat) (h:Int),hs[r]?=some h→∃j,j≤m∧owner[j]?=some (some r)∧∃n,(advN m n (start m h)).j=j∧∀k,k<n→∃r',owner[(advN m k (start m h)).j]?=some (some r')
 lt:∀j r:Nat,owner[j]?=some (some r)→r<hs.length
 inj:∀j j' r:Nat,owner[j]?=some (some r)→owner[j']?=some (some r)→j=j'
section
variable{m:Nat}{owner:Array (Option Nat)}{hs:List Int}
theorem IP(hz:owner.size=m+1){x:Nat}(hx:x≤m):owner.getD x (some 0)=owner[x]'(by omega)∧owner[x]?=some (owner[x]'(by omega)):=by
 have hx':x<owner.size:=by omega
 exact⟨by simp[mW,hx'],by simp[hx']⟩
theorem VJ(hz:owner.size=m+1){x:Nat}(hx:x≤m)(h:(owner.getD x (some 0)).isNone=false):∃r,owner[x]?=some (some r):=by
 obtain⟨h1,h2⟩:=IP hz hx
 rw[h1] at h
 cases e:owner[x]'(by omega) with
 |none=>rw[e] at h;cases h
 |some r=>exact⟨r,by rw[h2,e]⟩
theorem Sv(hz:owner.size=m+1){x:Nat}(hx:x≤m)(h:(owner.getD x (some 0)).isNone=true):owner[x]?=some none:=by
 obtain⟨h1,h2⟩:=IP hz hx
 rw[h1] at h
 cases e:owner[x]'(by omega) with
 |none=>rw[h2,e]
 |some r=>rw[e] at h;cases h
theorem LY{i q k:Nat}(hk:k≤kP m i-i):(advN m k (st m (i,q) none)).j=i+k:=by
 rw[IJ m k _ hk]
 rfl
theorem HI(m i:Nat):i≤kP m i:=by
 unfold kP
 split<;>omega
theorem HJ(hz:owner.size=m+1){j:Nat}:∀(fuel i q:Nat),i≤m→layClean.free m owner fuel i q=some j→
  ∃n,(advN m n (st m (i,q) none)).j=j∧(∀k,k<n→∃r,owner[(advN m k (st m (i,q) none)).j]?=some (some r))∧owner[j]?=some none∧j≤m
 |0,i,q,_,e=>by simp[layClean.free] at e
 |fuel+1,i,q,hi,e=>by
  have hr:=ER m i hi
  have hge:=HI m i
  rw[layClean.free] at e
  cases hf:(fY (kP m i+1-i)).find? fun k=> (owner.getD (i+k) (some 0)).isNone with
  |some k=>
   rw[hf] at e
   cases e
   have hk1:(owner.getD (i+k) (some 0)).isNone=true:=by simpa using List.find?_some hf
   have hkm:k<kP m i+1-i:=fW.mp (List.mem_of_find?_eq_some hf)
   refine⟨k,LY (by omega),fun k' hk'=>?_,Sv hz (by omega) hk1,by omega⟩
   rw[LY (by omega)]
   refine VJ hz (by omega) ?_
   have:=List.find?_range_eq_some.mp hf
   have h3:=this.2.2 k' hk'
   simpa using h3
  |none=>
   rw[hf] at e
   have hl:(leap m i q).1≤m:=Fl m 1 (i,q) hi
   obtain⟨n,h1,h2,h3⟩:=HJ hz fuel _ _ hl e
   have all:∀k,k≤kP m i-i→∃r,owner[(advN m k (st m (i,q) none)).j]?=some (some r):=fun k hk=>by
    rw[LY hk]
    refine VJ hz (by omega) ?_
    have:=List.find?_eq_none.mp hf k (fW.mpr (by omega))
    exact Bool.eq_false_iff.mpr this
   have hleap:advN m (kP m i-i+1) (st m (i,q) none)=st m (leap m i q) none:=Fk m (st m (i,q) none)
   refine⟨(kP m i-i+1)+n,?_,fun k hk=>?_,h3⟩
   ·rw[Ba,hleap]
    exact h1
   ·by_cases hk':k≤kP m i-i
    ·exact all k hk'
    ·have e2:k=(kP m i-i+1)+(k- (kP m i-i+1)):=by omega
     rw[e2,Ba,hleap]
     exact h2 _ (by omega)
theorem HK(hz:owner.size=m+1){e:Nat}(he:owner[e]?=some none)(hem:e≤m):∀(fuel L i q:Nat),i≤m→L<fuel→(LX m L (i,q)).1=e→layClean.free m owner fuel i q≠none
 |0,L,_,_,_,h,_=>absurd h (lB _)
 |fuel+1,L,i,q,hi,hL,eL=>by
  rw[layClean.free]
  have hge:=HI m i
  cases hf:(fY (kP m i+1-i)).find? fun k=> (owner.getD (i+k) (some 0)).isNone with
  |some k=>simp
  |none=>
   cases L with
   |zero=>
    have eL:i=e:=eL
    subst eL
    have:=List.find?_eq_none.mp hf 0 (fW.mpr (by omega))
    obtain⟨h1,h2⟩:=IP hz hem
    rw[he] at h2
    have h2:=gh.inj h2
    rw[Nat.add_zero,h1,←h2] at this
    exact absurd rfl this
   |succ L=>
    exact HK hz he hem fuel L _ _ (Fl m 1 (i,q) hi) (by omega) eL
def Dv(m:Nat)(acc:Option (Array (Option Nat)×Nat))(h:Int):Option (Array (Option Nat)×Nat):=do
 let(owner,k)←acc
 let j←layClean.free m owner (turns m) (bits h%(m+1)) (bits h)
 pure (owner.setIfInBounds j (some k),k+1)
theorem Jn(m:Nat)(hs:Array Int):layClean m hs=(hs.toList.foldl (Dv m) (some (n6 (m+1) none,0))).map (·.1):=by
 unfold layClean
 rw[Array.foldl_toList]
 rfl
theorem LC.room(c:LC m owner hs)(h:hs.length≤m):∃e,e≤m∧owner[e]?=some none:=by
 apply iY
 intro hn
 have all:∀e,e≤m→∃r,owner[e]?=some (some r):=fun e he=>by
  have hz:=c.size
  cases q:owner[e]'(by omega) with
  |none=>exact absurd ⟨e,he,by rw[←q];simp[show e<owner.size by omega]⟩ hn
  |some r=>exact⟨r,by rw[←q];simp[show e<owner.size by omega]⟩
 have hf:∀e,∃r,e≤m→owner[e]?=some (some r):=fun e=>by
  by_cases he:e≤m
  ·obtain⟨r,hr⟩:=all e he;exact⟨r,fun _=>hr⟩
  ·exact⟨0,fun z=>absurd z he⟩
 obtain⟨f,hf⟩:=Classical.axiomOfChoice hf
 have hl:=By hs.length ((fY (m+1)).map f) (by
  refine m9 f (R:=fun a b=>a≠b∧a≤m∧b≤m) (fun a b hab e=>?_) ?_
  ·have h1:=hf a hab.2.1
   have h2:=hf b hab.2.2
   rw[e] at h1
   exact hab.1 (c.inj a b _ h1 h2)
  ·refine ip (fun{a b} ha hb h=> ⟨fS h,?_,?_⟩) (jm (n:=m+1))
   ·have:=fW.mp ha;omega
   ·have:=fW.mp hb;omega) (fun x hx=>by
  obtain⟨e,he,rfl⟩:=fo.mp hx
  exact c.lt e _ (hf e (by have:=fW.mp he;omega)))
 rw[e8,ig] at hl
 omega
theorem LC.step(hm:Bb m)(c:LC m owner hs)(hl:hs.length≤m)(h:Int):∃o',Dv m (some (owner,hs.length)) h=some (o',hs.length+1)∧LC m o' (hs++[h]):=by
 obtain⟨e,he,hne⟩:=c.room hl
 have hb:bits h%(m+1)≤m:=by have:=oX (bits h) (show 0<m+1 by omega);omega
 obtain⟨L,hL,eL⟩:=VH hm (x:=(bits h%(m+1),bits h)) hb (Ms h) he
 have hs':=HK c.size hne he (turns m) L _ _ hb (by unfold turns;omega) eL
 cases hf:layClean.free m owner (turns m) (bits h%(m+1)) (bits h) with
 |none=>exact absurd hf hs'
 |some j=>
  obtain⟨n,h1,h2,h3,h4⟩:=HJ c.size _ _ _ hb hf
  have hj:j<owner.size:=by rw[c.size];omega
  refine⟨owner.setIfInBounds j (some hs.length),?_,?_⟩
  ·unfold Dv
   show(layClean.free m owner (turns m) (bits h%(m+1)) (bits h)>>=_)=_
   rw[hf]
   rfl
  ·have at_:∀x:Nat,(owner.setIfInBounds j (some hs.length))[x]?=if x=j then some (some hs.length) else owner[x]?:=fun x=>by
    rw[Array.getElem?_setIfInBounds]
    by_cases hx:x=j
    ·subst hx;simp[hj]
    ·rw[if_neg (Ne.symm hx),if_neg hx]
   have occ:∀x r:Nat,owner[x]?=some (some r)→∃r',(owner.setIfInBounds j (some hs.length))[x]?=some (some r'):=fun x r hr=>by
    rw[at_]
    by_cases hx:x=j
    ·exact⟨_,if_pos hx⟩
    ·exact⟨r,by rw[if_neg hx];exact hr⟩
   refine⟨by simpa using c.size,fun r h' e'=>?_,fun x r hr=>?_,fun x y r hx hy=>?_⟩
   ·by_cases hr:r<hs.length
    ·rw[gz hr] at e'
     obtain⟨x,q1,q2,n',q3,q4⟩:=c.put r h' e'
     refine⟨x,q1,?_,n',q3,fun k hk=>?_⟩
     ·rw[at_,if_neg];exact q2
      rintro rfl
      rw[h3] at q2;cases q2
     ·obtain⟨r',hr'⟩:=q4 k hk
      exact occ _ r' hr'
    ·rw[fR (by omega)] at e'
     have hr0:r-hs.length=0:=by
      have:=(fD.mp e').1
      simp at this;omega
     rw[hr0] at e'
     cases e'
     have:r=hs.length:=by omega
     subst this
     refine⟨j,h4,by rw[at_,if_pos rfl],n,h1,fun k hk=>?_⟩
     obtain⟨r',hr'⟩:=h2 k hk
     exact occ _ r' hr'
   ·rw[at_] at hr
    rw[fE]
    by_cases hx:x=j
    ·rw[if_pos hx] at hr;cases hr;simp
    ·rw[if_neg hx] at hr
     have:=c.lt x r hr
     omega
   ·rw[at_] at hx hy
    by_cases h1:x=j
    ·rw[if_pos h1] at hx
     cases hx
     by_cases h2:y=j
     ·rw[h1,h2]
     ·rw[if_neg h2] at hy
      exact absurd (c.lt y _ hy) (gU _)
    ·rw[if_neg h1] at hx
     by_cases h2:y=j
     ·rw[if_pos h2] at hy
      cases hy
      exact absurd (c.lt x _ hx) (gU _)
     ·rw[if_neg h2] at hy
      exact c.inj x y r hx hy
theorem LC.steps(hm:Bb m):∀(rest hs:List Int) (owner:Array (Option Nat)),LC m owner hs→hs.length+rest.length≤m+1→∃o',rest.foldl (Dv m) (some (owner,hs.length))=some (o',hs.length+rest.length)∧LC m o' (hs++rest)
 | [],hs,owner,c,_=> ⟨owner,rfl,by rw[jo];exact c⟩
 |h::rest,hs,owner,c,hl=>by
  simp only[fu] at hl
  obtain⟨o1,e1,c1⟩:=c.step hm (by omega) h
  obtain⟨o2,e2,c2⟩:=LC.steps hm rest (hs++[h]) o1 c1 (by rw[fE];simp;omega)
  refine⟨o2,?_,by rw[i8] at c2;exact c2⟩
  rw[List.foldl_cons,e1]
  have:(hs++[h]).length=hs.length+1:=by simp
  rw[this] at e2
  rw[e2]
  simp only[fu]
  congr 2
  omega
theorem Jo(hm:Bb m)(hs:Array Int)(hl:hs.size≤m+1):∃owner,layClean m hs=some owner∧LC m owner hs.toList:=by
 have c0:LC m (n6 (m+1) none) []:=⟨by simp,fun r h e=>by simp at e,fun j r e=>by
  rw[Array.getElem?_replicate] at e;split at e<;>simp at e,fun j j' r e=>by
  rw[Array.getElem?_replicate] at e;split at e<;>simp at e⟩
 obtain⟨o,e,c⟩:=LC.steps hm hs.toList [] _ c0 (by simpa using hl)
 refine⟨o,?_,by simpa using c⟩
 rw[Jn]
 have e':hs.toList.foldl (Dv m) (some (n6 (m+1) none,0))=_:=e
 rw[e']
 rfl
end
end StT
namespace StT
open PySem PySem.SetTable
section
variable{m:Nat}
theorem Sw(hm:Bb m)(hs:Array Int)(hl:hs.size≤m+1)(f mv:Nat)(led plain:Bool):∃t' order,laid m f mv led plain hs=some (t',order)∧t'.mask=m∧t'.led=led∧t'.plain=plain∧t'.moves=mv∧order.size=hs.size∧
  (∀i r:Nat,order[i]?=some r→r<hs.size)∧(∀i i' r:Nat,order[i]?=some r→order[i']?=some r→i=i')∧(∀r,r<hs.size→∃i:Nat,order[i]?=some r)∧Tb t' (order.toList.map fun r=>hs.getD r 0):=by
 obtain⟨owner,e,c⟩:=Jo hm hs hl
 generalize hlive:(fY (m+1)).filterMap (fun j=> (owner.getD j none).map (j,·))=live
 have mem:∀j r,(j,r)∈live↔j≤m∧owner[j]?=some (some r):=fun j r=>by
  rw[←hlive,jw]
  constructor
  ·rintro⟨x,hx,ex⟩
   have hx:=fW.mp hx
   have hxo:x<owner.size:=by rw[c.size];exact hx
   have eg:owner.getD x none=owner[x]:=by simp[mW,hxo]
   rw[eg] at ex
   cases q:owner[x] with
   |none=>rw[q] at ex;cases ex
   |some r'=>
    rw[q] at ex
    cases ex
    exact⟨by omega,by rw[←q];simp[hxo]⟩
  ·rintro⟨h1,h2⟩
   obtain⟨hxo,q⟩:=gO.mp h2
   refine⟨j,fW.mpr (by omega),?_⟩
   have eg:owner.getD j none=owner[j]:=by simp[mW,hxo]
   rw[eg,q]
   rfl
 have pw:live.Pairwise fun a b=>a.1<b.1:=by
  rw[←hlive,List.pairwise_filterMap]
  refine gc.imp (fun{a b} h x hx y hy=>?_) (jm (n:=m+1))
  cases q1:owner.getD a none with
  |none=>rw[q1] at hx;cases hx
  |some r1=>
   cases q2:owner.getD b none with
   |none=>rw[q2] at hy;cases hy
   |some r2=>
    rw[q1] at hx;rw[q2] at hy
    cases hx;cases hy
    exact h
 have lt:∀j r,(j,r)∈live→r<hs.size:=fun j r h=>by have:=c.lt j r ((mem j r).mp h).2;simpa using this
 have pwr:live.Pairwise fun a b=>a.2≠b.2:=by
  refine ip (fun{a b} ha hb h e=>?_) pw
  obtain⟨a1,a2⟩:=a
  obtain⟨b1,b2⟩:=b
  have h1:=(mem _ _).mp ha
  have h2:=(mem _ _).mp hb
  have e:a2=b2:=e
  subst e
  have:=c.inj _ _ _ h1.2 h2.2
  have h:a1<b1:=h
  omega
 have nd:(live.map (·.2)).Nodup:=m9 _ (fun _ _ h=>h) pwr
 have all:∀r,r<hs.size→∃j,(j,r)∈live:=fun r hr=>by
  obtain⟨j,h1,h2,_⟩:=c.put r (hs[r]) (by simp[hr])
  exact⟨j,(mem j r).mpr ⟨h1,h2⟩⟩
 have len:live.length=hs.size:=by
  apply Nat.le_antisymm
  ·have:=By hs.size (live.map (·.2)) nd fun x hx=>by
    obtain⟨⟨j,r⟩,h1,rfl⟩:=fo.mp hx
    exact lt j r h1
   simpa using this
  ·have:=LU hs.size (live.map (·.2)) fun r hr=>by
    obtain⟨j,hj⟩:=all r hr
    exact fo.mpr ⟨_,hj,rfl⟩
   simpa using this
 refine⟨{mask:=m,place:=(live.map (·.1)).toArray,dummies:=#[],finger:=f,led:=led,moves:=mv,plain:=plain},(live.map (·.2)).toArray,?_,rfl,rfl,rfl,rfl,by simpa using len,fun i r h=>?_,fun i i' r h h'=>?_,fun r hr=>?_,?_⟩
 ·unfold laid
  rw[e]
  show some _=some _
  rw[hlive]
 ·have h:(live.map (·.2))[i]?=some r:=by simpa using h
  rw[fc] at h
  cases q:live[i]? with
  |none=>rw[q] at h;cases h
  |some x=>rw[q] at h;cases h;exact lt x.1 x.2 (fk q)
 ·have h:(live.map (·.2))[i]?=some r:=by simpa using h
  have h':(live.map (·.2))[i']?=some r:=by simpa using h'
  obtain⟨l1,e1⟩:=fD.mp h
  obtain⟨l2,e2⟩:=fD.mp h'
  rcases j3 i i' with hlt|heq|hgt
  ·exact absurd (e1.trans e2.symm) (gR.mp nd i i' l1 l2 hlt)
  ·exact heq
  ·exact absurd (e2.trans e1.symm) (gR.mp nd i' i l2 l1 hgt)
 ·obtain⟨j,hj⟩:=all r hr
  obtain⟨i,hi⟩:=gF hj
  exact⟨i,by simp[hi]⟩
 ·have at_:∀i j:Nat,(live.map (·.1)).toArray[i]?=some j→∃r,live[i]?=some (j,r):=fun i j h=>by
   have h:(live.map (·.1))[i]?=some j:=by simpa using h
   rw[fc] at h
   cases q:live[i]? with
   |none=>rw[q] at h;cases h
   |some x=>
    rw[q] at h
    cases h
    exact⟨x.2,rfl⟩
  refine⟨hm,rfl,?_,fun i j h=>?_,by simp,fun i j h e1 e2=>?_⟩
  ·show(live.map (·.1)).toArray.toList.Pairwise (· < ·)
   exact m9 _ (fun _ _ h=>h) pw
  ·obtain⟨r,hr⟩:=at_ i j h
   exact((mem j r).mp (fk hr)).1
  ·obtain⟨r,hr⟩:=at_ i j e1
   have hrlt:=lt j r (fk hr)
   have e2:((live.map (·.2)).map fun r=>hs.getD r 0)[i]?=some h:=by simpa using e2
   rw[fc,fc,hr] at e2
   have e2:hs.getD r 0=h:=gh.inj e2
   have eh:hs.toList[r]?=some h:=by
    rw[←e2]
    simp[mW,hrlt]
   obtain⟨j2,q1,q2,n,q3,q4⟩:=c.put r h eh
   have ej:=c.inj j2 j r q2 ((mem j r).mp (fk hr)).2
   subst ej
   refine⟨n,q3,fun k hk=>?_⟩
   obtain⟨r',hr'⟩:=q4 k hk
   have hk':(advN m k (start m h)).j≤m:=(Pr.start m h).advN.j
   obtain⟨i',hi'⟩:=gF ((mem _ r').mpr ⟨hk',hr'⟩)
   refine⟨i',?_⟩
   show(live.map (·.1)).toArray[i']?=_
   simp[hi']
theorem OG{n:Nat}(h:Bb m)(h1:n*5<m*3)(h2:m*3≤(n+1)*5)(h3:n<300):Bb (oB (grown (n+1))-1)∧n+1≤oB (grown (n+1))-1∧(n+1)*5< (oB (grown (n+1))-1)*3∧oB (grown (n+1))≤512:=by
 rcases h with rfl|rfl|rfl|rfl
 ·have:n=4:=by omega
  subst this
  refine⟨.inr (.inl (by decide)),by decide,by decide,by decide⟩
 ·have:n=18:=by omega
  subst this
  refine⟨.inr (.inr (.inl (by decide))),by decide,by decide,by decide⟩
 ·have:n=76:=by omega
  subst this
  refine⟨.inr (.inr (.inr (by decide))),by decide,by decide,by decide⟩
 ·omega
theorem CV{α:Type}(es:Array α):∀(l:List Nat),(∀r∈l,r<es.size)→∀i:Nat,(l.filterMap fun r=>es[r]?)[i]?=(l[i]?).bind fun r=>es[r]?
 | [],_,i=>by simp
 |r::l,h,i=>by
  have hr:=h r fQ
  have e:es[r]?=some es[r]:=by simp[hr]
  rw[iw,e]
  cases i with
  |zero=>simp
  |succ i=>
   simp only[ku]
   exact CV es l (fun x hx=>h x (fv _ hx)) i
theorem Bq{α:Type}(es:Array α):∀(l:List Nat),(∀r∈l,r<es.size)→(l.filterMap fun r=>es[r]?).length=l.length
 | [],_=>rfl
 |r::l,h=>by
  have hr:=h r fQ
  have e:es[r]?=some es[r]:=by simp[hr]
  rw[iw,e]
  simp[Bq es l (fun x hx=>h x (fv _ hx))]
end
open PyProof.Rows
section
variable{prog:Program}{w:World}{A:fG}{E:Value→a9→Prop}{s:a9}
abbrev IK(prog:Program)(w:World)(h:Heap)(k:List Int)(a:Addr):Prop:=IsTupleKey (intKind prog w) h k a
abbrev tk(prog:Program)(w:World):HeapKind prog w (List Int):=tupleKind (intKind prog w)
theorem ES{n:Int}{v:Value}(h:(intKind prog w).is n v=true):∃t,v=.int n t:=by
 cases v with
 |int m t=>
  have h2:(intKind prog w).is m (.int m t)=true:=intKind_is _ _ _ _
  have e:=(intKind prog w).inj _ _ _ h h2
  subst e
  exact⟨t,rfl⟩
 |_=>exact absurd h (by simp[intKind,Value.isInt])
theorem Fm{ks:List Int}{vs:List Value}(h:ItemsAre (intKind prog w) ks vs):∀v∈vs,∃n t,v=.int n t:=by
 induction h with
 |nil=>intro v hv;simp at hv
 |cons h1 _ ih=>
  intro v hv
  rcases fh.mp hv with rfl|hv
  ·obtain⟨t,e⟩:=ES h1
   exact⟨_,t,e⟩
  ·exact ih v hv
theorem Zp{k:List Int}{a:Addr}{Q:Bool→a9→Prop}(hk:IK prog w s.heap k a)(h:Q true s):wpAny (model prog w) A (hashByValue 8 (.ref a)) Q E s:=by
 have hT:=hk.typeIs
 obtain⟨o,items,n,ho,_,hd,hi⟩:=hk
 have hints:=Fm hi
 unfold hashByValue
 refine a7 (wpAny_specialOf hT PySem.F.slot_tuple_hash.lookup ?_)
 dsimp only
 refine a7 (iH ho hd ?_)
 show wpAny _ _ ((forIn items _ _)>>=_) _ _ s
 rw[←Array.forIn_toList]
 refine a7 (lU _ (fun rest r s'=>r.1=none∧s'=s∧∀v∈rest,∃n t,v=nG n t) _ ?_ ?_ _ _ ⟨rfl,rfl,hints⟩)
 ·rintro v rest r s' ⟨hr,rfl,hall⟩
  obtain⟨n,t,rfl⟩:=hall v fQ
  refine a7 (b6 ?_)
  simp only[kM,fJ,if_false]
  exact b6 ⟨rfl,rfl,fun u hu'=>hall u (fv _ hu')⟩
 ·rintro⟨r1,r2⟩ s' ⟨hr,rfl,_⟩
  simp only at hr
  subst hr
  exact b6 h
theorem Mt{k:List Int}{a:Addr}{Q:Bool→a9→Prop}(hk:IK prog w s.heap k a)(h:Q false s):wpAny (model prog w) A (mY 8 (.ref a)) Q E s:=by
 have hT:=hk.typeIs
 obtain⟨o,items,n,ho,hc,hd,hi⟩:=hk
 have hints:=Fm hi
 unfold mY
 refine a7 (kU hT ?_)
 dsimp only
 rw[if_pos (by decide)]
 refine a7 (b6 ?_)
 simp only[kM,fJ,if_false]
 refine a7 (iH ho hd ?_)
 show wpAny _ _ ((forIn items _ _)>>=_) _ _ s
 rw[←Array.forIn_toList]
 refine a7 (lU _ (fun rest r s'=>r.1=none∧s'=s∧∀v∈rest,∃n t,v=nG n t) _ ?_ ?_ _ _ ⟨rfl,rfl,hints⟩)
 ·rintro v rest r s' ⟨hr,rfl,hall⟩
  obtain⟨n,t,rfl⟩:=hall v fQ
  unfold mY
  refine a7 (b6 ?_)
  simp only[fJ,if_false]
  exact b6 ⟨rfl,rfl,fun u hu'=>hall u (fv _ hu')⟩
 ·rintro⟨r1,r2⟩ s' ⟨hr,rfl,_⟩
  simp only at hr
  subst hr
  exact b6 h
theorem Sx{k:List Int}{a:Addr}{Q:Bool→a9→Prop}{l:List Value}(hk:IK prog w s.heap k a)(hl:∀v∈l,∃k' b,v=.ref b∧IK prog w s.heap k' b)(h:Q false s):wpAny (model prog w) A (searchCouldBeSeen (.ref a) l) Q E s:=by
 unfold searchCouldBeSeen
 refine a7 (lU _ (fun rest r s'=>r.1=none∧s'=s∧∀v∈rest,∃k' b,v=Value.ref b∧IK prog w s.heap k' b) _ ?_ ?_ _ _ ⟨rfl,rfl,hl⟩)
 ·rintro v rest r s' ⟨hr,rfl,hall⟩
  obtain⟨k',b,rfl,hb⟩:=hall v fQ
  have go:∀u∈rest,∃k' b,u=Value.ref b∧IK prog w s'.heap k' b:=fun u hu'=>hall u (fv _ hu')
  dsimp only
  split
  ·exact b6 ⟨rfl,rfl,go⟩
  ·refine a7 (wpAny_eqIsQuiet_tuple hk ?_)
   simp only[kM,fJ,if_false]
   refine a7 (wpAny_eqIsQuiet_tuple hb ?_)
   simp only[kM,fJ,if_false]
   refine a7 (Mt hk ?_)
   simp only[fJ,if_false]
   refine a7 (Mt hb ?_)
   simp only[fJ,if_false]
   exact b6 ⟨rfl,rfl,go⟩
 ·rintro⟨r1,r2⟩ s' ⟨hr,rfl,_⟩
  simp only at hr
  subst hr
  exact b6 h
end
local macro_rules | `(tactic| omega) => `(tactic| first | lia | omega)
open PySem PySem.SetTable PyProof.Rows
section
variable{prog:Program}{w:World}{A:fG}{E:Value→a9→Prop}{s:a9}
def OH(xs:List (List Int×Addr))(prog:Program)(w:World):List (Int×Value):=xs.map fun p=> ((tk prog w).hash p.1,Value.ref p.2)
structure SetD(prog:Program)(w:World)(h:Heap)(a:Addr)(xs:List (List Int×Addr))(o:Obj)(es:Array (Int×Value))(ep:Nat)(t:ie):Prop where
 get:h.get? a=some o
 ex:o.ExactSet
 dat:o.data=.set es ep t
 es:es.toList=OH xs prog w
 key:∀(i:Nat) (k:List Int) (x:Addr),xs[i]?=some (k,x)→IK prog w h k x
 nd:(xs.map (·.1)).Nodup
 tb:Tb t (xs.map fun p=> (tk prog w).hash p.1)
 pl:t.plain=true
 room:xs.length*5<t.mask*3
 led:t.led=!w.params.followText "set-order"
variable{a:Addr}{xs:List (List Int×Addr)}{o:Obj}{es:Array (Int×Value)}{ep:Nat}{t:ie}
theorem SetD.size(S:SetD prog w s.heap a xs o es ep t):es.size=xs.length:=by
 rw[←fg,S.es];simp[OH]
theorem SetD.fits(S:SetD prog w s.heap a xs o es ep t):t.fits es.size=true:=by
 have h1:=S.tb.size
 have h2:=S.room
 have h3:t.fill=t.place.size:=by unfold oM;rw[S.tb.dum];rfl
 rw[e8] at h1
 unfold ie.fits
 rw[h3,S.size,h1]
 simp only[beq_self_eq_true,oT,decide_eq_true_eq]
 omega
theorem SetD.len(S:SetD prog w s.heap a xs o es ep t):(xs.map fun p=> (tk prog w).hash p.1).length≤t.mask:=by
 have:=S.room
 rw[e8];omega
theorem SetD.at(S:SetD prog w s.heap a xs o es ep t){i:Nat}{k:List Int}{x:Addr}(h:xs[i]?=some (k,x)):es[i]?=some ((tk prog w).hash k,.ref x):=by
 have:es[i]?=es.toList[i]?:=by simp
 rw[this,S.es,OH,fc,h]
 rfl
theorem SetD.of_at(S:SetD prog w s.heap a xs o es ep t){i:Nat}(h:i<xs.length):∃k x,xs[i]?=some (k,x):=⟨_,_,by simp[h];rfl⟩
abbrev FG:Array (Int×Value)→Nat→Int:=PySem.W.hashAt
theorem SetD.hash(S:SetD prog w s.heap a xs o es ep t){i:Nat}{k:List Int}{x:Addr}(h:xs[i]?=some (k,x)):FG es i=(tk prog w).hash k:=by
 show((es[i]?).map jb).getD 0=_
 rw[S.at h]
 rfl
theorem Jp(S:SetD prog w s.heap a xs o es ep t)(hu:A.units<cLine){k:List Int}{x:Addr}(hk:IK prog w s.heap k x){Q:SetFound→a9→Prop}
  (hT:∀(i:Nat) (y:Addr),xs[i]?=some (k,y)→Q (.there none) s)
  (hF:(∀(i:Nat) (y:Addr),xs[i]?≠some (k,y))→∀n,¬Jk t (advN t.mask n (start t.mask ((tk prog w).hash k))).j→(∀c,c<n→Jk t (advN t.mask c (start t.mask ((tk prog w).hash k))).j)→Q (.free (advN t.mask n (start t.mask ((tk prog w).hash k))).j false) s):
  ∀(fuel c:Nat) (stand:Option Probe),stand.getD (t.probeStart ((tk prog w).hash k))=advN t.mask c (start t.mask ((tk prog w).hash k))→
   (∀c',c'<c→Jk t (advN t.mask c' (start t.mask ((tk prog w).hash k))).j∧∀(i:Nat) (y:Addr),t.place[i]?=some (advN t.mask c' (start t.mask ((tk prog w).hash k))).j→xs[i]?≠some (k,y))→
   (∃N,c≤N∧¬Jk t (advN t.mask N (start t.mask ((tk prog w).hash k))).j∧N-c<fuel)→
   wpAny (model prog w) A (setSearchFrom a (.ref x) ((tk prog w).hash k) true fuel stand) Q E s:=by
 intro fuel
 induction fuel with
 |zero=>rintro c stand _ _ ⟨N,_,_,h⟩;exact absurd h (lB _)
 |succ fuel ih=>
  rintro c stand hst hpre ⟨N,hcN,hN,hfu⟩
  have hsz:t.place.size=xs.length:=by have:=S.tb.size;rwa[e8] at this
  unfold setSearchFrom
  refine a7 (iL S.get S.dat S.fits ?_)
  dsimp only
  have hgw:t.gaveWay=false:=by unfold ie.gaveWay;rw[S.tb.odd];rfl
  rw[hgw]
  simp only[fJ,if_false]
  obtain⟨n,hn,hstop⟩:=Jm S.tb S.len (p:=advN t.mask c (start t.mask ((tk prog w).hash k))) (Pr.start _ _).advN (FG es) ((tk prog w).hash k)
  rw[hst]
  have hadd:∀m,advN t.mask m (advN t.mask c (start t.mask ((tk prog w).hash k)))=advN t.mask (c+m) (start t.mask ((tk prog w).hash k)):=fun m=> (Ba _ _ _ _).symm
  have pre2:∀c',c'<c+n→Jk t (advN t.mask c' (start t.mask ((tk prog w).hash k))).j∧∀(i:Nat) (y:Addr),t.place[i]?=some (advN t.mask c' (start t.mask ((tk prog w).hash k))).j→xs[i]?≠some (k,y):=fun c' hc'=>by
   by_cases hlt:c'<c
   ·exact hpre c' hlt
   ·obtain⟨i,h1,h2⟩:=hn (c'-c) (by omega)
    rw[hadd,show c+(c'-c)=c' by omega] at h1
    refine⟨⟨i,h1⟩,fun i' y h1' e=>?_⟩
    have:i'=i:=by
     rw[←BZ S.tb.ris h1',←BZ S.tb.ris h1]
    subst this
    exact h2 (S.hash e)
  obtain⟨met,hmet⟩:∃met,t.probe (FG es) ((tk prog w).hash k) (advN t.mask c (start t.mask ((tk prog w).hash k)))=some met:=by
   rcases hstop with⟨_,hp⟩| ⟨_,_,_,hp⟩<;>exact⟨_,hp⟩
  split
  case h_2 heq=>exact absurd hmet (heq met)
  rename_i met' heq
  have heq:t.probe (FG es) ((tk prog w).hash k) (advN t.mask c (start t.mask ((tk prog w).hash k)))=some met':=heq
  rcases hstop with⟨hf,hp⟩| ⟨i,h1,h2,hp⟩
  ·rw[hp] at heq
   cases heq
   dsimp only
   rw[Dg]
   show wpAny _ _ (pure _) _ _ s
   rw[hadd] at hf ⊢
   refine b6 (hF (fun i y e=>?_) (c+n) hf fun c' hc'=> (pre2 c' hc').1)
   have hi:i<xs.length:=(fD.mp e).1
   have hpl:t.place[i]?=some (t.place[i]'(by omega)):=by simp[show i<t.place.size by omega]
   obtain⟨n',e1,w1⟩:=S.tb.fnd i _ ((tk prog w).hash k) hpl (by rw[fc,e];rfl)
   by_cases hlt:n'<c+n
   ·exact(pre2 n' hlt).2 i y (by rw[e1];exact hpl) e
   ·by_cases heq:n'=c+n
    ·subst heq
     exact hf ⟨i,by rw[e1];exact hpl⟩
    ·exact hf (w1 (c+n) (by omega))
  ·rw[hp] at heq
   cases heq
   dsimp only
   rw[hadd] at h1
   have hi:i<xs.length:=by rw[←hsz];exact(gO.mp h1).1
   obtain⟨k',y,ek⟩:=S.of_at hi
   have hky:=S.key i k' y ek
   have seen:∀v,v∈(es.filter fun e=>e.1==(tk prog w).hash k).toList.map (·.2)→∃k' b,v=Value.ref b∧IK prog w s.heap k' b:=fun v hv=>by
    obtain⟨⟨h',v'⟩,hm,rfl⟩:=fo.mp hv
    have hm:(h',v')∈es.toList:=by
     have:=hm
     simp only[Array.toList_filter] at this
     exact(fO.mp this).1
    rw[S.es,OH] at hm
    obtain⟨⟨k2,b⟩,hb,eb⟩:=fo.mp hm
    cases eb
    obtain⟨j,hj⟩:=gF hb
    exact⟨k2,b,rfl,S.key j k2 b hj⟩
   cases hled:t.led with
   |true=>
    simp only[kM,fJ,if_false]
    rw[S.at ek]
    dsimp only
    refine a7 (gx (wpAny_eqBool_tuple hu hky hk ?_))
    refine a7 (iL S.get S.dat S.fits ?_)
    dsimp only
    by_cases hkk:k'=k
    ·subst hkk
     rw[decide_eq_true rfl]
     exact b6 (hT i y ek)
    ·rw[decide_eq_false hkk]
     have hsm:t.sameMemory t.moves t.mask=some true:=by unfold ie.sameMemory;rw[if_pos (by simp)]
     rw[hsm]
     simp only[mV,fJ,if_false,if_true]
     rw[hadd,S.tb.live h1]
     dsimp only
     rw[S.at ek]
     dsimp only
     have hss:isSame (Value.ref y) (Value.ref y)=pure true:=by
      show(if(y==y)=true then _ else _)=_
      rw[if_pos (beq_self_eq_true y)]
     rw[hss]
     refine a7 (b6 ?_)
     simp only[if_true]
     refine a7 (b6 ?_)
     dsimp only
     rw[hadd]
     refine ih (c+n+1) _ rfl (fun c' hc'=>?_) ?_
     ·by_cases hlt:c'<c+n
      ·exact pre2 c' hlt
      ·have:c'=c+n:=by omega
       subst this
       refine⟨⟨i,h1⟩,fun i' y' h1' e=>?_⟩
       have:i'=i:=by
        rw[←BZ S.tb.ris h1',←BZ S.tb.ris h1]
       subst this
       rw[ek] at e
       exact hkk (congrArg jb (gh.inj e))
     ·have hle:c+n<N:=by
       rcases j3 (c+n) N with hlt|heq|hgt
       ·exact hlt
       ·exact absurd ⟨i,by rw[←heq];exact h1⟩ hN
       ·exact absurd (pre2 N hgt).1 hN
      exact⟨N,by omega,hN,by omega⟩
   |false=>
    simp only[mT,if_true]
    refine a7 (Sx hk seen ?_)
    simp only[fJ,if_false]
    rw[S.at ek]
    dsimp only
    refine a7 (gx (wpAny_eqBool_tuple hu hky hk ?_))
    refine a7 (iL S.get S.dat S.fits ?_)
    dsimp only
    by_cases hkk:k'=k
    ·subst hkk
     rw[decide_eq_true rfl]
     exact b6 (hT i y ek)
    ·rw[decide_eq_false hkk]
     have hsm:t.sameMemory t.moves t.mask=some true:=by unfold ie.sameMemory;rw[if_pos (by simp)]
     rw[hsm]
     simp only[mV,fJ,if_false,if_true]
     rw[hadd,S.tb.live h1]
     dsimp only
     rw[S.at ek]
     dsimp only
     have hss:isSame (Value.ref y) (Value.ref y)=pure true:=by
      show(if(y==y)=true then _ else _)=_
      rw[if_pos (beq_self_eq_true y)]
     rw[hss]
     refine a7 (b6 ?_)
     simp only[if_true]
     refine a7 (b6 ?_)
     dsimp only
     rw[hadd]
     refine ih (c+n+1) _ rfl (fun c' hc'=>?_) ?_
     ·by_cases hlt:c'<c+n
      ·exact pre2 c' hlt
      ·have:c'=c+n:=by omega
       subst this
       refine⟨⟨i,h1⟩,fun i' y' h1' e=>?_⟩
       have:i'=i:=by
        rw[←BZ S.tb.ris h1',←BZ S.tb.ris h1]
       subst this
       rw[ek] at e
       exact hkk (congrArg jb (gh.inj e))
     ·have hle:c+n<N:=by
       rcases j3 (c+n) N with hlt|heq|hgt
       ·exact hlt
       ·exact absurd ⟨i,by rw[←heq];exact h1⟩ hN
       ·exact absurd (pre2 N hgt).1 hN
      exact⟨N,by omega,hN,by omega⟩
end
end StT
namespace StT
local macro_rules | `(tactic| omega) => `(tactic| first | lia | omega)
open PySem PySem.SetTable PyProof.Rows
section
variable{prog:Program}{w:World}{A:fG}{E:Value→a9→Prop}{s:a9}
variable{a:Addr}{xs:List (List Int×Addr)}{o:Obj}{es:Array (Int×Value)}{ep:Nat}{t:ie}
def SetX(prog:Program)(w:World)(h:Heap)(a:Addr)(xs:List (List Int×Addr)):Prop:=∃o es ep t,SetD prog w h a xs o es ep t
theorem Pi{h:Heap}{k:List Int}{x:Addr}(hk:IK prog w h k x)(hg:h.get? a=some o)(he:o.ExactSet):x≠a:=by
 rintro rfl
 obtain⟨o',items,n,ho,hc,_⟩:=hk
 rw[hg] at ho
 cases ho
 rw[he.1] at hc
 exact absurd hc (by decide)
theorem CW{h h':Heap}{k:List Int}{x:Addr}(hk:IK prog w h k x)(hs:∀u,h.get? x=some u→h'.get? x=some u):IK prog w h' k x:=by
 obtain⟨o',items,n,ho,hc,hd,hi⟩:=hk
 exact⟨o',items,n,hs _ ho,hc,hd,hi⟩
theorem HL(hg:s.heap.get? a=some o)(hd:o.data=.set es ep t)(es':Array (Int×Value))(t':ie):(s.heap.update a (mM es' t')).get? a=some {o with data:=.set es' (ep+1) t'}:=by
 have:=jU (mM es' t') hg (by rw[putSet_of es' t' hd];rfl)
 rw[putSet_of es' t' hd] at this;exact this
theorem LZ:(OH xs prog w).length=xs.length:=by simp[OH]
theorem Pj{n:Nat}(hg:s.heap.get? a=some o)(he:o.ExactSet)(hd:o.data=.set es ep t)(hes:es.toList=OH xs prog w)(hkey:∀(i:Nat) (k:List Int) (x:Addr),xs[i]?=some (k,x)→IK prog w s.heap k x)
  (hnd:(xs.map (·.1)).Nodup) (htb:Tb t (xs.map fun p=> (tk prog w).hash p.1)) (hpl:t.plain=true) (hled:t.led=!w.params.followText "set-order") (hn:xs.length=n+1) (h1:n*5<t.mask*3) (h2:t.mask*3≤(n+1)*5) (h3:n<300) {Q:Unit→a9→Prop}
  (h:∀h' xs',jn a s.heap h'→SetX prog w h' a xs'→(∀p,p∈xs'↔p∈xs)→xs'.length=xs.length→Q () {s with heap:=h'}):wpAny (model prog w) A (setRelay a (grown (n+1))) Q E s:=by
 obtain⟨m1,m2,m3,m4⟩:=OG htb.mask h1 h2 h3
 have hsz:es.size=n+1:=by rw[←fg,hes,LZ,hn]
 have hfill:t.fill=t.place.size:=by unfold oM;rw[htb.dum];rfl
 have hps:t.place.size=n+1:=by have:=htb.size;rw[e8,hn] at this;exact this
 have hlow:=htb.low
 have hfit:t.fits es.size=true:=by
  unfold ie.fits
  rw[hfill,hsz,hps]
  simp only[beq_self_eq_true,oT,decide_eq_true_eq]
  omega
 unfold setRelay
 refine a7 (iL hg hd hfit ?_)
 dsimp only
 rw[if_neg (by rw[gM];omega)]
 refine a7 ?_
 obtain⟨t',order,el,q1,q2,q3,q4,q5,q6,q7,q8,q9⟩:=Sw m1 (es.map (·.1)) (by rw[Array.size_map,hsz];omega) t.finger (t.movedTo (oB (grown (n+1))-1)) t.led t.plain
 rw[Array.size_map] at q5 q6 q8
 have el':t.relaid (es.map (·.1)) (grown (n+1))=some (t',order):=el
 rw[el']
 have hfm:(order.filterMap (es[·]?)).toList=order.toList.filterMap fun r=>es[r]?:=by simp
 have hmem:∀r∈order.toList,r<es.size:=fun r hr=>by
  obtain⟨i,hi⟩:=gF hr
  exact q6 i r (by simpa using hi)
 have hes':(order.filterMap (es[·]?)).size=es.size:=by
  rw[←fg,hfm,Bq es _ hmem,fg,q5]
 show wpAny _ _ (if((order.filterMap fun r=>es[r]?).size !=es.size)=true then _ else pure (order.filterMap fun r=>es[r]?,t')) _ _ s
 rw[if_neg (by rw[hes'];simp)]
 refine b6 ?_
 dsimp only
 refine wpAny_storeSet_of hg hd ?_ (by rw[hes',hsz,gM];omega)
 generalize hE:order.filterMap (es[·]?)=es' at*
 have hxs:∀r,r<es.size→∃p,xs[r]?=some p:=fun r hr=> ⟨_,by simp[show r<xs.length by rw[hn];omega];rfl⟩
 have hfx:(order.toList.filterMap fun r=>xs[r]?).length=es.size:=by
  have:=Bq xs.toArray order.toList (fun r hr=>by rw[fm,hn];have:=hmem r hr;omega)
  simp only[List.getElem?_toArray] at this
  rw[this,fg,q5]
 have at_:∀i:Nat,(order.toList.filterMap fun r=>xs[r]?)[i]?=(order.toList[i]?).bind fun r=>xs[r]?:=fun i=>by
  have:=CV xs.toArray order.toList (fun r hr=>by rw[fm,hn];have:=hmem r hr;omega) i
  simpa only[List.getElem?_toArray] using this
 have mem:∀p,p∈(order.toList.filterMap fun r=>xs[r]?)↔p∈xs:=fun p=>by
  rw[jw]
  constructor
  ·rintro⟨r,_,e⟩;exact fk e
  ·intro hp
   obtain⟨r,hr⟩:=gF hp
   have hrl:r<es.size:=by rw[hsz,←hn];exact(fD.mp hr).1
   obtain⟨i,hi⟩:=q8 r hrl
   exact⟨r,fk (i:=i) (by simpa using hi),hr⟩
 have hesx:∀i:Nat,es[i]?=(xs[i]?).map fun p=> ((tk prog w).hash p.1,Value.ref p.2):=fun i=>by
  have:es[i]?=es.toList[i]?:=by simp
  rw[this,hes,OH,fc]
 refine h _ (order.toList.filterMap fun r=>xs[r]?) (kj ..) ⟨_,es',ep+1,t',⟨HL hg hd es' t',he,rfl,?_,fun i k x e=>?_,?_,?_,?_,?_,?_⟩⟩ mem (by rw[hfx,hsz,hn])
 ·apply i7
  intro i
  rw[hfm,CV es _ hmem,OH,fc,at_]
  cases order.toList[i]? with
  |none=>rfl
  |some r=>exact hesx r
 ·have hp:(k,x)∈xs:=(mem _).mp (fk e)
  obtain⟨r,hr⟩:=gF hp
  have ik:=hkey r k x hr
  exact CW ik fun u hu=> ((kj s.heap a (mM es' t')).2 x (Pi ik hg he)).trans hu
 ·rw[gY]
  refine gR.mpr fun i j hi hj hij e=>?_
  rw[e8] at hi hj
  have e1:=at_ i
  have e2:=at_ j
  rw[fz hi] at e1
  rw[fz hj] at e2
  rw[l0,l0] at e
  cases r1:order.toList[i]? with
  |none=>rw[r1] at e1;cases e1
  |some r=>
   cases r2:order.toList[j]? with
   |none=>rw[r2] at e2;cases e2
   |some r'=>
    rw[r1] at e1
    rw[r2] at e2
    have e1:xs[r]?=some _:=e1.symm
    have e2:xs[r']?=some _:=e2.symm
    obtain⟨l1,g1⟩:=fD.mp e1
    obtain⟨l2,g2⟩:=fD.mp e2
    have ee:(xs.map (·.1))[r]'(by simpa using l1)=(xs.map (·.1))[r']'(by simpa using l2):=by rw[l0,l0,g1,g2];exact e
    have nd:=gY.mp hnd
    have:r=r':=by
     rcases j3 r r' with hlt|heq|hgt
     ·exact absurd ee (gR.mp nd r r' _ _ hlt)
     ·exact heq
     ·exact absurd ee.symm (gR.mp nd r' r _ _ hgt)
    subst this
    have:=q7 i j r (by simpa using r1) (by simpa using r2)
    omega
 ·have:(order.toList.filterMap fun r=>xs[r]?).map (fun p=> (tk prog w).hash p.1)=order.toList.map fun r=> (es.map (·.1)).getD r 0:=by
   apply i7
   intro i
   rw[fc,at_,fc]
   cases hr:order.toList[i]? with
   |none=>rfl
   |some r=>
    have hrl:=hmem r (fk hr)
    obtain⟨p,hp⟩:=hxs r hrl
    show(xs[r]?).map _=some ((es.map (·.1)).getD r 0)
    rw[hp]
    have e3:=hesx r
    rw[hp] at e3
    obtain⟨l,g⟩:=gO.mp e3
    simp[mW,hrl,g]
  rw[this]
  exact q9
 ·rw[q3];exact hpl
 ·rw[hfx,hsz,q1];exact m3
 ·rw[q2];exact hled
end
end StT
namespace StT
local macro_rules | `(tactic| omega) => `(tactic| first | lia | omega)
open PySem PySem.SetTable PyProof.Rows
section
variable{prog:Program}{w:World}{A:fG}{E:Value→a9→Prop}{s:a9}
variable{a:Addr}{xs:List (List Int×Addr)}{o:Obj}{es:Array (Int×Value)}{ep:Nat}{t:ie}
theorem Ww(S:SetX prog w s.heap a xs)(hu:A.units<cLine){k:List Int}{x:Addr}(hk:IK prog w s.heap k x)(hl:xs.length<300){Q:Bool→a9→Prop}
  (hT:∀y,(k,y)∈xs→Q false s)
  (hF:(∀y,(k,y)∉xs)→∀h' xs',jn a s.heap h'→SetX prog w h' a xs'→(∀p,p∈xs'↔p∈xs∨p=(k,x))→xs'.length=xs.length+1→Q true {s with heap:=h'}):
  wpAny (model prog w) A (setAddHashed a (.ref x) ((tk prog w).hash k)) Q E s:=by
 obtain⟨o,es,ep,t,S⟩:=S
 unfold setAddHashed setAddHashedIn
 refine gx (a7 (iL S.get S.dat S.fits ?_))
 dsimp only
 have hbs:byScan (.ref x) es=false:=rfl
 rw[hbs]
 simp only[fJ,if_false]
 obtain⟨e,he,hne⟩:=S.tb.room S.len
 obtain⟨N,hN,eN⟩:=VI S.tb.mask (Pr.start t.mask ((tk prog w).hash k)) he
 have hm511:t.mask≤511:=by rcases S.tb.mask with h|h|h|h<;>omega
 refine a7 (Jp S hu hk (fun i y e=>?_) (fun hno n hf hw=>?_) 100000 0 none (Pf t _) (fun c hc=>absurd hc (lB _)) ⟨N,gT _,by rw[eN];exact hne,by omega⟩)
 ·dsimp only
  exact b6 (hT y (fk e))
 ·dsimp only
  refine a7 (iL S.get S.dat S.fits ?_)
  dsimp only
  obtain⟨p1,p2,p3,p4,p5,p6⟩:=S.tb.put hf hw
  generalize hJ:(advN t.mask n (start t.mask ((tk prog w).hash k))).j=J at*
  generalize hput:t.put J=tp at*
  obtain⟨t1,q⟩:=tp
  dsimp only at p1 p2 p3 p4 p5 p6 ⊢
  rw[e8] at p2
  rw[p4,S.pl]
  simp only[if_true]
  refine a7 (Zp hk ?_)
  simp only[if_true]
  refine a7 (wpAny_storeSet_of S.get S.dat ?_ (by
   rw[DY _ _ _ (by rw[S.size];exact p2),S.size,gM];omega))
  have hes1:(jr es q ((tk prog w).hash k,.ref x)).toList=OH (xs.take q++(k,x)::xs.drop q) prog w:=by
   rw[Ax,S.es]
   simp[OH]
  have hmem:∀p,p∈xs.take q++(k,x)::xs.drop q↔p∈xs∨p=(k,x):=fun p=>by
   rw[fI,fh]
   constructor
   ·rintro(h|h|h)
    ·exact .inl (List.mem_of_mem_take h)
    ·exact .inr h
    ·exact .inl (List.mem_of_mem_drop h)
   ·rintro(h|h)
    ·rw[←ja q xs] at h
     rcases fI.mp h with h|h
     ·exact .inl h
     ·exact .inr (.inr h)
    ·exact .inr (.inl h)
  have hlen:(xs.take q++(k,x)::xs.drop q).length=xs.length+1:=by
   rw[fE,fu,gD,kr];omega
  have hnod:((xs.take q++(k,x)::xs.drop q).map (·.1)).Nodup:=by
   have hxs:(xs.take q).map (·.1)++(xs.drop q).map (·.1)=xs.map (·.1):=by rw[←iy,ja]
   have nd:=S.nd
   rw[←hxs] at nd
   rw[iy,fL]
   have hkn:k∉(xs.take q).map (·.1)++(xs.drop q).map (·.1):=by
    rw[hxs]
    intro hm
    obtain⟨⟨k',y⟩,hp,rfl⟩:=fo.mp hm
    obtain⟨i,hi⟩:=gF hp
    exact hno i y hi
   rw[fI,not_or] at hkn
   obtain⟨n1,n2,n3⟩:=gu.mp nd
   refine gu.mpr ⟨n1,fH.mpr ⟨hkn.2,n2⟩,fun b hb c hc=>?_⟩
   rcases fh.mp hc with rfl|hc
   ·rintro rfl;exact hkn.1 hb
   ·exact n3 b hb c hc
  have hsb:=kj s.heap a (mM (jr es q ((tk prog w).hash k,.ref x)) t1)
  have hg1:=HL (s:=s) S.get S.dat (jr es q ((tk prog w).hash k,.ref x)) t1
  have hkey1:∀(i:Nat) (k':List Int) (x':Addr),(xs.take q++(k,x)::xs.drop q)[i]?=some (k',x')→IK prog w (s.heap.update a (mM (jr es q ((tk prog w).hash k,.ref x)) t1)) k' x':=fun i k' x' e=>by
   have ik:IK prog w s.heap k' x':=by
    rcases(hmem _).mp (fk e) with h|h
    ·obtain⟨j,hj⟩:=gF h
     exact S.key j k' x' hj
    ·cases h;exact hk
   exact CW ik fun u hu=> (hsb.2 x' (Pi ik S.get S.ex)).trans hu
  have htb1:Tb t1 ((xs.take q++(k,x)::xs.drop q).map fun p=> (tk prog w).hash p.1):=by
   simpa using p1
  have hno':∀y,(k,y)∉xs:=fun y hy=>by
   obtain⟨i,hi⟩:=gF hy
   exact hno i y hi
  have hfill:t1.fill=xs.length+1:=by
   unfold oM
   rw[htb1.dum]
   have:=htb1.size
   rw[e8,hlen] at this
   rw[this];rfl
  have hroom:=S.room
  simp only[mT,oT]
  cases htf:t1.tooFull with
  |true=>
   simp only[if_true]
   have htf':t1.mask*3≤(xs.length+1)*5:=by
    unfold ie.tooFull at htf
    rw[hfill] at htf
    simpa using htf
   rw[S.size]
   refine a7 (Pj (s:={s with heap:=s.heap.update a (mM (jr es q ((tk prog w).hash k,.ref x)) t1)}) hg1 S.ex rfl hes1 hkey1 hnod htb1 (by rw[p4];exact S.pl) (by rw[p5];exact S.led) hlen (by rw[p3];exact hroom) htf' hl fun h' xs' sb sx mm ll=>?_)
   refine b6 (hF hno' h' xs' (hsb.trans sb) sx (fun p=> (mm p).trans (hmem p)) (ll.trans hlen))
  |false=>
   simp only[fJ,if_false]
   refine b6 (hF hno' _ _ hsb ⟨_,_,_,t1,hg1,S.ex,rfl,hes1,hkey1,hnod,htb1,by rw[p4];exact S.pl,?_,by rw[p5];exact S.led⟩ hmem hlen)
   unfold ie.tooFull at htf
   rw[hfill] at htf
   rw[hlen]
   simpa using htf
def IQ(ks:List (List Int×Addr))(xs:List (List Int×Addr)):Prop:=(∀p,p∈xs→p∈ks)∧(∀k y,(k,y)∈ks→∃y',(k,y')∈xs)∧xs.length≤ks.length
theorem SetX.keep'{h h':Heap}(S:SetX prog w h a xs)(ha:∀u,h.get? a=some u→h'.get? a=some u)(hk:∀k x,(k,x)∈xs→∀u,h.get? x=some u→h'.get? x=some u):SetX prog w h' a xs:=by
 obtain⟨o,es,ep,t,S⟩:=S
 exact⟨o,es,ep,t,ha _ S.get,S.ex,S.dat,S.es,fun i k x e=>CW (S.key i k x e) (hk k x (fk e)),S.nd,S.tb,S.pl,S.room,S.led⟩
theorem Sy{I l:Addr}{items:Array Value}{ps:List (List Int×Addr)}(hh:A.in1.handled=none)(hne:l≠I)(hI:a≠I)(hla:a≠l)(hps:items.toList=ps.map fun p=>Value.ref p.2)(hz:ps.length≤300)(hu:A.units+1<cLine)
  {R:pF→a9→Prop}:∀(n i:Nat) (s:a9) (xs:List (List Int×Addr)),n=ps.length-i→i≤ps.length→s.heap.IsListIter I l i→s.heap.IsList l items→(∀k x,(k,x)∈ps→IK prog w s.heap k x∧x≠I)→SetX prog w s.heap a xs→IQ (ps.take i) xs→
   (∀h' tk' xs',(∀b u,b≠a→b≠I→s.heap.get? b=some u→h'.get? b=some u)→SetX prog w h' a xs'→IQ ps xs'→R (.ok (.ret .none)) {s with heap:=h',toks:=tk'})→
   kW (model prog w) A (.builtin "set.update.loop" ⟨[.ref a,.ref I],[]⟩) R s:=by
 have W:=Walks.list (A:=A.in1) (prog:=prog) (w:=w) hh I l hne items
 have hsz:items.size=ps.length:=by rw[←fg,hps,e8]
 intro n
 induction n with
 |zero=>
  intro i s xs hn hi hit hl hp hX hS hR
  have:i=ps.length:=by omega
  subst this
  rw[iS] at hS
  refine jC PyProof.Rows.F.entry_set_update_loop ?_
  rw[jA iZ _]
  show wpAny _ A.in1 (lF (.ref I)>>=_) _ _ s
  refine a7 (wpAny_pyNext_list_end hh hit hl (by simp[hsz]) fun h' hk=>?_)
  show wpAny _ A.in1 (ret jF) _ _ _
  refine b6 (hR h' s.toks xs (fun b u _ hb e=>hk b u hb e) (hX.keep' (fun u e=>hk a u hI e) fun k x hx u e=>hk x u (hp k x (hS.1 _ hx)).2 e) hS)
 |succ n ih=>
  intro i s xs hn hi hit hl hp hX hS hR
  have hlt:i<ps.length:=by omega
  obtain⟨⟨k,x⟩,hkx⟩:∃p,ps[i]?=some p:=⟨_,by simp[hlt];rfl⟩
  have hitem:items[i]?=some (.ref x):=by
   have:items[i]?=items.toList[i]?:=by simp
   rw[this,hps,fc,hkx];rfl
  refine jC PyProof.Rows.F.entry_set_update_loop ?_
  rw[jA iZ _]
  show wpAny _ A.in1 (lF (.ref I)>>=_) _ _ s
  refine a7 (wpAny_pyNext_list_item hit hl hitem fun h1 hit1 sb1=>?_)
  have hk1:∀b u,b≠I→s.heap.get? b=some u→h1.get? b=some u:=fun b u hb e=> (sb1.2 b hb).trans e
  have kx:=hp k x (fk hkx)
  have hX1:SetX prog w h1 a xs:=hX.keep' (fun u e=>hk1 a u hI e) fun k x hx u e=>hk1 x u (hp k x (List.mem_of_mem_take (hS.1 _ hx))).2 e
  have ik1:∀k x,(k,x)∈ps→IK prog w h1 k x∧x≠I:=fun k x hx=> ⟨CW (hp k x hx).1 fun u e=>hk1 x u (hp k x hx).2 e,(hp k x hx).2⟩
  have hl1:h1.IsList l items:=hl.at fun o e=>hk1 l o hne e
  show wpAny _ A.in1 (holding [Value.ref x] (setAdd a (.ref x))>>=_) _ _ _
  refine a7 (gx ?_)
  unfold setAdd
  refine gx ?_
  refine a7 ((tk prog w).pyHash (s:={s with heap:=h1}) hu (ik1 k x (fk hkx)).1 ?_)
  have htake:ps.take (i+1)=ps.take i++[(k,x)]:=by rw[i6,hkx];rfl
  have hlen:xs.length≤i:=by have:=hS.2.2;rw[gD] at this;omega
  refine Ww (s:={s with heap:=h1,toks:=s.toks+(tk prog w).draws k}) hX1 hu (ik1 k x (fk hkx)).1 (by omega) (fun y hy=>?_) (fun hno h2 xs' sb sx mm ll=>?_)
  ·refine b6 ⟨kJ iZ _,ih (i+1) _ xs (by omega) (by omega) hit1 hl1 ik1 hX1 ⟨fun p hp'=>by rw[htake];exact jf _ (hS.1 p hp'),fun k' y' hm=>?_,by rw[htake,fE];have:=hS.2.2;omega⟩ fun h' tk' xs' kp sx so=>hR h' tk' xs' (fun b u h1' h2' e=>kp b u h1' h2' (hk1 b u h2' e)) sx so⟩
   rw[htake] at hm
   rcases fI.mp hm with hm|hm
   ·exact hS.2.1 k' y' hm
   ·cases b9.mp hm
    exact⟨y,hy⟩
  ·have keep2:∀b u,b≠a→h1.get? b=some u→h2.get? b=some u:=fun b u hb e=> (sb.2 b hb).trans e
   have nea:∀k x,(k,x)∈ps→x≠a:=fun k x hx=>by
    obtain⟨o,es,ep,t,S⟩:=hX1
    exact Pi (ik1 k x hx).1 S.get S.ex
   refine b6 ⟨kJ iZ _,ih (i+1) {s with heap:=h2,toks:=s.toks+(tk prog w).draws k} xs' (by omega) (by omega) (hit1.at fun o e=>keep2 I o (Ne.symm hI) e) (hl1.at fun o e=>keep2 l o (Ne.symm hla) e)
    (fun k x hx=> ⟨CW (ik1 k x hx).1 fun u e=>keep2 x u (nea k x hx) e,(hp k x hx).2⟩) sx ⟨fun p hp'=>?_,fun k' y' hm=>?_,by rw[htake,fE,ll];have:=hS.2.2;simp;omega⟩ fun h' tk' xs2 kp sx so=>hR h' tk' xs2 (fun b u h1' h2' e=>kp b u h1' h2' (keep2 b u h1' (hk1 b u h2' e))) sx so⟩
   ·rw[htake]
    rcases(mm p).mp hp' with h|h
    ·exact jf _ (hS.1 p h)
    ·exact gI _ (b9.mpr h)
   ·rw[htake] at hm
    rcases fI.mp hm with hm|hm
    ·obtain⟨y2,hy2⟩:=hS.2.1 k' y' hm
     exact⟨y2,(mm _).mpr (.inl hy2)⟩
    ·cases b9.mp hm
     exact⟨x,(mm _).mpr (.inr rfl)⟩
end
end StT
namespace StT
open PySem PySem.SetTable PyProof.Rows
theorem Ag:Slot "set_iterator" "__next__" "set_iterator.__next__" :=
 .of (owner:="set_iterator") (n:="__next__") (by rw[typeLookup_type,builtinLookup_eq_fast];kernel_rfl) (by decide+kernel) (by decide+kernel) (by decide+kernel)
  (by first|exact .inl (by decide+kernel)|exact .inr (by decide+kernel)) (by rw[og];kernel_rfl)
theorem Ci:Slot "set_iterator" "__iter__" "set_iterator.__iter__" :=
 .of (owner:="set_iterator") (n:="__iter__") (by rw[typeLookup_type,builtinLookup_eq_fast];kernel_rfl) (by decide+kernel) (by decide+kernel) (by decide+kernel)
  (by first|exact .inl (by decide+kernel)|exact .inr (by decide+kernel)) (by rw[og];kernel_rfl)
theorem Bz:entryFor table "set_iterator.__next__" =some Builtin.«set_iterator.__next__»:=entryFor_of_tree (by kernel_rfl)
theorem EU:entryFor table "set_iterator.__iter__" =some Builtin.«dict_keyiterator.__iter__»:=
 entryFor_alias (id':="dict_keyiterator.__iter__") (by kernel_rfl) (by first|rfl|decide+kernel| (unfold String.splitOn;simp+decide [String.splitOnAux])) (by decide+kernel) (by kernel_rfl)
theorem Fn:entryFor table "set.__iter__" =some Builtin.«frozenset.__iter__»:=
 entryFor_alias (id':="frozenset.__iter__") (by kernel_rfl) (by first|rfl|decide+kernel| (unfold String.splitOn;simp+decide [String.splitOnAux])) (by decide+kernel) (by kernel_rfl)
theorem Eo:Manifest.owners.lookup (String.ofList ['r','o','t','a','r','e','t','i','_','t','e','s'].reverse)=some Manifest.sig_set_iterator:=by kernel_rfl
theorem Cj(a:Value):argsOk "set_iterator.__next__" ⟨[a],[]⟩:=by
 unfold argsOk;rw[signature?_of (id:="set_iterator.__next__") (n:=['_','_','t','x','e','n','_','_']) (o:=['r','o','t','a','r','e','t','i','_','t','e','s']) (by kernel_rfl) Eo];kernel_rfl
theorem Ey(a:Value):argsOk "set_iterator.__iter__" ⟨[a],[]⟩:=by
 unfold argsOk;rw[signature?_of (id:="set_iterator.__iter__") (n:=['_','_','r','e','t','i','_','_']) (o:=['r','o','t','a','r','e','t','i','_','t','e','s']) (by kernel_rfl) Eo];kernel_rfl
theorem Mu{α:Type}:∀(l:List α) (i:Nat) (h:i<l.length),(l[i]::l.eraseIdx i).Perm l
 |x::l,0,_=>kz.refl _
 |x::l,i+1,h=>by
  have ih:=Mu l i (by simpa using h)
  simp only[List.getElem_cons_succ,List.eraseIdx_cons_succ]
  exact(kz.swap _ _ _).trans (ih.cons x)
theorem Mv{α:Type}(next:Nat→Nat):∀(n k:Nat) (left:List α) (out:Array α),left.length=n→(oZ next n k left out).toList.Perm (out.toList++left)
 |0,k,left,out,h=>by
  have:left=[]:=lK.mp h
  subst this
  simp[oZ]
 |n+1,k,left,out,h=>by
  have hlt:next k%left.length<left.length:=oX _ (by omega)
  have e:left[next k%left.length]?=some left[next k%left.length]:=by simp[hlt]
  rw[oZ,e]
  have ih:=Mv next n (k+1) (left.eraseIdx (next k%left.length)) (out.push left[next k%left.length]) (by rw[List.length_eraseIdx_of_lt hlt];omega)
  refine ih.trans ?_
  rw[j5,i8]
  exact kz.append_left _ (Mu left _ hlt)
theorem OI{α:Type}(next:Nat→Nat)(xs:Array α):(mF next xs).toList.Perm xs.toList:=by
 have:=Mv next xs.size 0 xs.toList #[] (by simp)
 simp only[List.nil_append] at this
 exact this
def Dh(w:World)(a:Addr)(ep:Nat)(es:Array (Int×Value)):Array (Int×Value):=if w.params.followText "set-order" =true then mF (w.params.setOrder a ep) es else es
theorem HM(w:World)(a:Addr)(ep:Nat)(es:Array (Int×Value)):(Dh w a ep es).toList.Perm es.toList:=by
 unfold Dh
 split
 ·exact OI _ _
 ·exact kz.refl _
theorem EV(w:World)(a:Addr)(ep:Nat)(es:Array (Int×Value)):(Dh w a ep es).size=es.size:=by
 rw[←fg,←fg];exact(HM w a ep es).length_eq
theorem La{xs:Array Nat}(r:Pe xs){i:Nat}(hi:i≤xs.size){slot:Nat}(hs:(i=0∧slot=0)∨(0<i∧∃j,xs[i-1]?=some j∧slot=j+1)):below xs slot=i:=by
 obtain⟨b1,b2,b3⟩:=CU (j:=slot) r
 rcases hs with⟨rfl,rfl⟩| ⟨h0,j,hj,rfl⟩
 ·apply iY
  intro hne
  have h0:0<xs.size:=by omega
  have:=b2 0 xs[0] (by omega) (by simp[h0])
  omega
 ·have hlt:i-1<xs.size:=(gO.mp hj).1
  rcases j3 (below xs (j+1)) i with hl|he|hg
  ·have hx:xs[below xs (j+1)]?=some xs[below xs (j+1)]:=by simp[show below xs (j+1)<xs.size by omega]
   have h1:=b3 _ _ (fj _) hx
   by_cases hq:below xs (j+1)=i-1
   ·have hx2:xs[below xs (j+1)]?=some j:=by rw[hq];exact hj
    have:=gh.inj (hx.symm.trans hx2)
    omega
   ·have:=Ff r hx hj (by omega)
    omega
  ·exact he
  ·have hx:xs[i]?=some xs[i]:=by simp[show i<xs.size by omega]
   have h1:=b2 i _ hg hx
   have:=Ff r hj hx (by omega)
   omega
section
variable{prog:Program}{w:World}{A:fG}{E:Value→a9→Prop}{s:a9}
variable{a:Addr}{xs:List (List Int×Addr)}{o:Obj}{es:Array (Int×Value)}{ep:Nat}{t:ie}
def CA(w:World)(h:Heap)(I a:Addr)(t:ie)(ep n i:Nat):Prop:=∃slot:Nat,h.get? I=some {cls:=.type "set_iterator",dict:=none,data:=.fields #[lM slot,lM i,.ref a,lM n,lM ep],slots:=#[]}∧
 (w.params.followText "set-order" =false→(i=0∧slot=0)∨(0<i∧∃j,t.place[i-1]?=some j∧slot=j+1))
theorem Fo(hg:s.heap.get? a=some o)(hd:o.data=.set es ep t)(hf:t.fits es.size=true)(hr:Pe t.place)(hpl:t.plain=true)(hled:t.led=!w.params.followText "set-order"){i slot:Nat}(hi:i≤es.size)
  (hs:w.params.followText "set-order" =false→(i=0∧slot=0)∨(0<i∧∃j,t.place[i-1]?=some j∧slot=j+1)) {Q:Option (Value×Nat)→a9→Prop}
  (hsome:∀e slot',(Dh w a ep es)[i]?=some e→(w.params.followText "set-order" =false→∃j,t.place[i]?=some j∧slot'=j+1)→Q (some (e.2,slot')) s) (hnone:i=es.size→Q none s):wpAny (model prog w) A (setNext a slot i ep) Q E s:=by
 have hps:t.place.size=es.size:=by
  simp only[ie.fits,iV,beq_iff_eq] at hf
  exact hf.1
 have ask:∀{R:Bool→a9→Prop},R (w.params.followText "set-order") s→wpAny (model prog w) A setsByText R E s:=fun h=>a7 (lV (b6 h))
 unfold setNext
 refine a7 (iL hg hd hf ?_)
 dsimp only
 refine a7 (ask ?_)
 cases hb:w.params.followText "set-order" with
 |true=>
  simp only[if_true]
  rw[if_neg (by simp)]
  refine a7 ?_
  unfold setWalk
  refine a7 (iL hg hd hf ?_)
  dsimp only
  refine a7 (ask ?_)
  rw[hb]
  simp only[if_true]
  refine a7 (lV (b6 ?_))
  refine b6 ?_
  have ho:Dh w a ep es=mF (w.params.setOrder a ep) es:=by unfold Dh;rw[if_pos hb]
  show Q (((mF (w.params.setOrder a ep) es)[i]?).map fun e=> (e.2,slot)) s
  rw[←ho]
  cases he:(Dh w a ep es)[i]? with
  |some e=>exact hsome e slot he fun z=>by rw[hb] at z;cases z
  |none=>
   refine hnone ?_
   have:=Array.getElem?_eq_none_iff.mp he
   rw[EV] at this
   omega
 |false=>
  rw[hb] at hled
  simp only[fJ,if_false]
  have hdr:(!t.plain&&decide (es.size>1))=false:=by rw[hpl];rfl
  show wpAny _ _ (if(!t.plain&&decide (es.size>1))=true then _ else _) _ _ s
  rw[hdr]
  simp only[fJ,if_false]
  refine a7 ?_
  show wpAny _ _ (if(!t.led&&!es.isEmpty)=true then _ else pure ()) _ _ s
  rw[hled]
  simp only[mT,kM,Bool.false_and,fJ,if_false]
  refine b6 ?_
  rw[La hr (by omega) (hs hb)]
  have ho:Dh w a ep es=es:=by unfold Dh;rw[if_neg (by rw[hb];decide)]
  by_cases hlt:i<es.size
  ·have e1:es[i]?=some es[i]:=by simp[hlt]
   have e2:t.place[i]?=some (t.place[i]'(by omega)):=by simp[show i<t.place.size by omega]
   rw[e1,e2]
   exact b6 (hsome es[i] _ (by rw[ho];exact e1) fun _=> ⟨_,e2,rfl⟩)
  ·have e1:es[i]?=none:=by simp;omega
   rw[e1]
   exact b6 (hnone (by omega))
end
section
variable{prog:Program}{w:World}{A:fG}{E:Value→a9→Prop}{s:a9}
variable{a I:Addr}{xs:List (List Int×Addr)}{o:Obj}{es:Array (Int×Value)}{ep:Nat}{t:ie}
structure Wk(w:World)(o:Obj)(es:Array (Int×Value))(ep:Nat)(t:ie):Prop where
 cls:o.cls=.type "set"
 dat:o.data=.set es ep t
 fits:t.fits es.size=true
 ris:Pe t.place
 pl:t.plain=true
 led:t.led=!w.params.followText "set-order"
theorem SetD.wk(S:SetD prog w s.heap a xs o es ep t):Wk w o es ep t:=⟨S.ex.1,S.dat,S.fits,S.tb.ris,S.pl,S.led⟩
theorem Br(K:Wk w o es ep t)(hg:s.heap.get? a=some o){Q:Array (Int×Value)→a9→Prop}(h:Q es s):wpAny (model prog w) A (oU a) Q E s:=by
 unfold oU
 exact a7 (iL hg K.dat K.fits (b6 h))
theorem EX(K:Wk w o es ep t)(hg:s.heap.get? a=some o)(hne:a≠I){i:Nat}(hi:i<es.size)(it:CA w s.heap I a t ep es.size i){Q:Option Value→a9→Prop}
  (hQ:∀e h',(Dh w a ep es)[i]?=some e→CA w h' I a t ep es.size (i+1)→jn I s.heap h'→Q (some e.2) {s with heap:=h'}):wpAny (model prog w) A (lF (.ref I)) Q E s:=by
 obtain⟨slot,ho,hsl⟩:=it
 have hT:s.TypeIs (.ref I) "set_iterator":=⟨_,ho,rfl⟩
 unfold lF
 refine a7 (j6 (iz (name:=kB "__next__") hT Ag (hV Ag hT Bz ?_ (Cj _))))
 refine a7 (b6 ?_)
 refine a7 (wpAny_fieldsOf ho rfl ?_)
 show wpAny _ _ (oU a>>=_) _ _ s
 refine a7 (Br K hg ?_)
 rw[if_neg (by simp)]
 show wpAny _ _ (setNext a ((slot:Int).toNat) ((i:Int).toNat) ((ep:Int).toNat)>>=_) _ _ s
 simp only[gJ]
 refine a7 (Fo hg K.dat K.fits K.ris K.pl K.led (lP hi) hsl (fun e slot' he hs'=>?_) fun z=>by omega)
 dsimp only
 refine a7 (iO ho (by simp) fun h1 ho1 hs1=>?_)
 refine a7 (iO (s:={s with heap:=h1}) ho1 (by simp) fun h2 ho2 hs2=>?_)
 refine b6 ⟨_,rfl,b6 (hQ e h2 he ⟨slot',?_,fun hb=> .inr ⟨pk _,?_⟩⟩ (hs1.trans hs2))⟩
 ·simpa using ho2
 ·simpa using hs' hb
theorem Fp(K:Wk w o es ep t)(hh:A.handled=none)(hg:s.heap.get? a=some o)(hne:a≠I)(it:CA w s.heap I a t ep es.size es.size){Q:Option Value→a9→Prop}
  (hQ:∀h',oz I s.heap h'→Q none {s with heap:=h'}):wpAny (model prog w) A (lF (.ref I)) Q E s:=by
 obtain⟨slot,ho,hsl⟩:=it
 have hT:s.TypeIs (.ref I) "set_iterator":=⟨_,ho,rfl⟩
 unfold lF
 refine a7 (j6 (iz (name:=kB "__next__") hT Ag (hV Ag hT Bz ?_ (Cj _))))
 refine a7 (b6 ?_)
 refine a7 (wpAny_fieldsOf ho rfl ?_)
 show wpAny _ _ (oU a>>=_) _ _ s
 refine a7 (Br K hg ?_)
 rw[if_neg (by simp)]
 show wpAny _ _ (setNext a ((slot:Int).toNat) ((es.size:Int).toNat) ((ep:Int).toNat)>>=_) _ _ s
 simp only[gJ]
 refine a7 (Fo hg K.dat K.fits K.ris K.pl K.led (fj _) hsl (fun e slot' he hs'=>?_) fun z=>?_)
 ·have:=(gO.mp he).1
  rw[EV] at this
  omega
 dsimp only
 refine a7 (iO ho (by simp) fun h1 ho1 hs1=>?_)
 show wpAny _ _ (newExc (.type "StopIteration") []>>=_) _ _ _
 refine a7 ?_
 simp only[newExc,newTuple]
 refine a7 (ic ?_ (by size_fits))
 refine a7 (m:=mK _ _) (md (a:=jF) (by first|rfl| (simp only[mK];rfl)) ?_)
 refine ic ?_ (by size_fits)
 simp only[raiseNew]
 refine a7 (wpAny_handled ?_)
 rw[show A.in1.handled=none from hh]
 refine a7 (b6 (wpAny_throw ?_))
 refine a7 (nC (T:="StopIteration") (b:=true) ⟨_,fK _ rfl,rfl⟩ isSubtype_stop ?_)
 exact b6 (hQ _ ((hs1.extBut.push _).push _))
theorem OJ{n i:Nat}(it:CA w s.heap I a t ep n i){Q:Value→a9→Prop}(h:Q (.ref I) s):wpAny (model prog w) A (oV (.ref I)) Q E s:=by
 obtain⟨slot,ho,_⟩:=it
 have hT:s.TypeIs (.ref I) "set_iterator":=⟨_,ho,rfl⟩
 refine wpAny_pyIter_slot hT Ci (hV Ci hT EU ?_ (Ey _))
 show wpAny _ _ (ret (.ref I)) _ _ s
 exact b6 ⟨_,rfl,"set_iterator",_,hT,Ag.lookup,h⟩
theorem Pk(K:Wk w o es ep t)(hg:s.heap.get? a=some o){Q:Value→a9→Prop}
  (h:Q (.ref s.heap.objs.size) {s with heap:=s.heap.push {cls:=.type "set_iterator",data:=.fields #[lM 0,lM 0,.ref a,lM es.size,lM ep]}}):wpAny (model prog w) A (oV (.ref a)) Q E s:=by
 have hT:s.TypeIs (.ref a) "set":=⟨_,hg,K.cls⟩
 have ask:∀{A:fG} {E:Value→a9→Prop} {R:Bool→a9→Prop},R (w.params.followText "set-order") s→wpAny (model prog w) A setsByText R E s:=fun h=>a7 (lV (b6 h))
 refine wpAny_pyIter_slot hT PySem.F.slot_set_iter (hV PySem.F.slot_set_iter hT Fn ?_ (PySem.F.args_set_iter_1 _))
 unfold Builtin.«frozenset.__iter__»
 refine a7 (a7 (b6 (b6 ?_)))
 refine a7 (a7 (Br K hg (b6 ?_)))
 refine a7 ?_
 unfold setDrawn
 refine a7 (iL hg K.dat K.fits ?_)
 dsimp only
 refine a7 (ask (b6 ?_))
 have hdr:(!w.params.followText "set-order" &&(!t.plain&&decide (es.size>1)))=false:=by rw[K.pl];simp
 show wpAny _ _ (if(!w.params.followText "set-order" &&(!t.plain&&decide (es.size>1)))=true then _ else _) _ _ s
 rw[hdr]
 simp only[fJ,if_false]
 refine a7 (b6 ?_)
 refine a7 (wpAny_setEpoch_of hg K.dat K.fits ?_)
 refine a7 ?_
 unfold newFields
 refine ic ?_
 refine b6 ⟨_,rfl,"set_iterator",_,⟨_,fK _ rfl,rfl⟩,Ag.lookup,h⟩
theorem OK(K:Wk w o es ep t)(hh:A.handled=none)(hne:a≠I):Walks prog w A I [I,a] [I] es.size (fun i v=>∃h,(Dh w a ep es)[i]?=some (h,v)) (fun i h=>CA w h I a t ep es.size i∧h.get? a=some o) where
 sub:=fun b hb=>by simp at hb;simp[hb]
 frame:=fun i h h' st hk=>by
  obtain⟨⟨slot,h1,h2⟩,h3⟩:=st
  exact⟨⟨slot,hk I (by simp) _ h1,h2⟩,hk a (by simp) _ h3⟩
 item:=fun i s Q E hi st hQ=>EX K st.2 hne hi st.1 fun e h' he it' sb=>hQ e.2 h' s.toks ⟨e.1,he⟩ ⟨it',(sb.2 a hne).trans st.2⟩ fun b o hb e=> (sb.2 b (fun z=>hb (by simp[z]))).trans e
 done:=fun s Q E st hQ=>Fp K hh st.2 hne st.1 fun h' he=>hQ h' s.toks fun b o hb e=>he b o (fun z=>hb (by simp[z])) e
 self:=fun i s Q E st hQ=>OJ st.1 hQ
theorem Pl{r:Addr}{Q:Bool→a9→Prop}(hT:s.TypeIs (.ref r) "set")(h:Q false s):wpAny (model prog w) A (Builtin.List.listLengthHint (.ref r)) Q E s:=by
 unfold Builtin.List.listLengthHint
 refine a7 (wpAny_specialOf hT PySem.F.slot_set_len.lookup ?_)
 generalize hid:("set.__len__" :String)=id0
 wp_delta
 rw[show splitId id0=some ("set","__len__") from by subst hid;decide+kernel]
 subst hid
 refine a7 (nC (T:="set") (b:=true) hT (by rw[og];kernel_rfl) ?_)
 refine wpAny_ite_split (fun hab=>absurd hab (by decide)) (fun _=>?_)
 refine wpAny_ite_split (fun _=>?_) (fun hab=>absurd (by decide+kernel) hab)
 refine a7 (kU hT ?_)
 exact b6 h
theorem Sz(K:Wk w o es ep t):PySem.W.KdlSrc prog w "set" a a es.size (fun i v=>∃h,(Dh w a ep es)[i]?=some (h,v)) (fun h=>h.get? a=some o) where
 type:=fun _ hm=> ⟨_,hm,K.cls⟩
 there:=fun _ hm=> ⟨fq hm,fq hm⟩
 keep:=fun _ _ hm hk=>hk a (.inl rfl) _ hm
 notList:=by decide
 notTuple:=by decide
 hint:=fun _ _ _ _ hm hq=>Pl ⟨_,hm,K.cls⟩ hq
 iter:=fun A s hh hm=> ⟨_,_,(fun _ _ hq=>Pk K hm hq),OK K hh (fS (fq hm)),⟨⟨0,fK _ rfl,fun _=> .inl ⟨rfl,rfl⟩⟩,c9 _ hm⟩⟩
end
end StT
namespace SrtG
open PySem PyProof.Rows
def Mw:Bool→Keyed→Array Keyed→Nat→Nat→Nat→StateT SortSt Sem (Option Nat):=sortPriv%PySem.Builtin.gallop
def Av(left:Bool)(key:Keyed)(arr:Array Keyed)(base i:Nat):StateT gq Sem (Option Bool):=do
 let x←elem' arr (base+i)
 if left then lt' x key else return(←lt' key x).map (!·)
section
variable{prog:Program}{w:World}{A:fG}{E:Value→a9→Prop}{s:a9}
def OL(prog:Program)(w:World)(A:fG)(E:Value→a9→Prop)(s:a9)(kd:jG)(U:Keyed→Prop)(rk:Keyed→Int):Prop:=
 ∀(st:gq) (x y:Keyed) (Q:Option Bool→gq→Prop),kindOf st=kd→U x→U y→Q (some (decide (rk x<rk y))) st→wpS (model prog w) A E s (lt' x y) Q st
variable{kd:jG}{U:Keyed→Prop}{rk:Keyed→Int}
def RK(rk:Keyed→Int)(xs:Array Keyed)(i:Nat):Int:=match xs[i]? with
 |some p=>rk p
 |none=>0
def AllU(U:Keyed→Prop)(xs:Array Keyed):Prop:=∀(i:Nat) (p:Keyed),xs[i]?=some p→U p
def bt(left:Bool)(rk:Keyed→Int)(key:Keyed)(arr:Array Keyed)(base i:Nat):Bool:=if left then decide (RK rk arr (base+i)<rk key) else !decide (rk key<RK rk arr (base+i))
theorem TB{left:Bool}{key:Keyed}{arr:Array Keyed}{base i:Nat}{st:gq}{Q:Option Bool→gq→Prop}(C:OL prog w A E s kd U rk)(hk:kindOf st=kd)(hK:U key)(hU:AllU U arr)(hi:base+i<arr.size)
  (h:Q (some (bt left rk key arr base i)) st):wpS (model prog w) A E s (Av left key arr base i) Q st:=by
 unfold Av
 have e:arr[base+i]?=some arr[base+i]:=getElem?_pos arr (base+i) hi
 rw[elem'_eq,e]
 refine e7 (fb ?_)
 have eR:RK rk arr (base+i)=rk arr[base+i]:=by unfold RK;rw[e]
 unfold bt at h
 rw[eR] at h
 cases left with
 |true=>
  rw[if_pos rfl] at h ⊢
  exact C st _ _ _ hk (hU _ _ e) hK h
 |false=>
  rw[if_neg e6] at h ⊢
  exact e7 (C st _ _ _ hk hK (hU _ _ e) (fb h))
def VL(P:Nat→Bool)(n r:Nat):Prop:=r≤n∧(∀i,i<r→P i=true)∧∀i,r≤i→i<n→P i=false
theorem Pm{α:Type}{P:Nat→Bool}{b:Nat→StateT gq Sem (Option Bool)}{n l h:Nat}{st:gq}(hb:∀i (Q:Option Bool→gq→Prop),i<n→Q (some (P i)) st→wpS (model prog w) A E s (b i) Q st)
  (mono:∀i j,i≤j→j<n→P j=true→P i=true) (hl:l≤h) (hn:h≤n) (h1:∀i,i<l→P i=true) (h2:∀i,h≤i→i<n→P i=false):
  wpS (model prog w) A E s (forIn [:n] ((none:Option (Option Nat)),l,h) fun x __s=>
   if __s.snd.fst≥__s.snd.snd then pure (ForInStep.done (none,__s.snd.fst,__s.snd.snd))
   else do
    let __x←b (__s.snd.fst+(__s.snd.snd-__s.snd.fst)/2)
    match __x with
     |some mr=>
      if mr=true then pure (jq (none,__s.snd.fst+(__s.snd.snd-__s.snd.fst)/2+1,__s.snd.snd))
      else pure (jq (none,__s.snd.fst,__s.snd.fst+(__s.snd.snd-__s.snd.fst)/2))
     |x=>pure (ForInStep.done (some none,__s.snd.fst,__s.snd.snd))) (fun c st'=>st'=st∧c.1=none∧VL P n c.2.2) st:=by
 refine gK (I:=fun x c st'=>st'=st∧∃l h,c=(none,l,h)∧l≤h∧h≤n∧(∀i,i<l→P i=true)∧(∀i,h≤i→i<n→P i=false)∧h-l≤n-x) ?_ ?_ ⟨rfl,l,h,rfl,hl,hn,h1,h2,by omega⟩
 ·rintro x c st' _ hx ⟨rfl,l,h,rfl,hl,hn,h1,h2,hm⟩
  dsimp only
  by_cases hlh:l≥h
  ·rw[if_pos hlh]
   have e:l=h:=by omega
   subst e
   exact fb ⟨rfl,rfl,hn,h1,h2⟩
  ·rw[if_neg hlh]
   refine e7 (hb _ _ (by omega) ?_)
   dsimp only
   cases hP:P (l+(h-l)/2) with
   |true=>
    rw[if_pos rfl]
    exact fb ⟨rfl,_,_,rfl,by omega,hn,fun i hi=>mono i _ (by omega) (by omega) hP,h2,by omega⟩
   |false=>
    rw[if_neg e6]
    refine fb ⟨rfl,_,_,rfl,by omega,by omega,h1,fun i hi hin=>?_,by omega⟩
    cases q:P i with
    |false=>rfl
    |true=>rw[mono _ i hi hin q] at hP;cases hP
 ·rintro c st' ⟨rfl,l,h,rfl,hl,hn,h1,h2,hm⟩
  have e:l=h:=by
   have:max 0 n=n:=by omega
   rw[this] at hm
   omega
  subst e
  exact⟨rfl,rfl,hn,h1,h2⟩
theorem Ar {left : Bool} {key : Keyed} {arr : Array Keyed} {base n hint : Nat} {st : gq} {Q : Option Nat → gq → Prop} (C : OL prog w A E s kd U rk) (hk : kindOf st = kd) (hK : U key) (hU : AllU U arr) (hb : base + n ≤ arr.size) (hh : hint < n)
    (mono : ∀ i j, i ≤ j → j < n → bt left rk key arr base j = true → bt left rk key arr base i = true)
    (h : ∀ r, VL (bt left rk key arr base) n r → Q (some r) st) : wpS (model prog w) A E s (Mw left key arr base n hint) Q st := by
  delta Mw
  have hbey : ∀ i (Q : Option Bool → gq → Prop), i < n → Q (some (bt left rk key arr base i)) st → wpS (model prog w) A E s (Av left key arr base i) Q st := fun i Q hi q => TB C hk hK hU (by omega) q
  have fals : ∀ i j, i ≤ j → j < n → bt left rk key arr base i = false → bt left rk key arr base j = false := fun i j hij hj e => by
    cases q : bt left rk key arr base j with
    | false => rfl
    | true => rw [mono i j hij hj q] at e; cases e
  refine e7 (hbey _ _ hh ?_)
  dsimp only
  cases hP : bt left rk key arr base hint with
  | true =>
    rw [if_pos rfl]
    refine e7 (iW (gK (I := fun x c st' => st' = st ∧ ∃ la o, c = (none, la, o) ∧ la < o ∧ x + 1 ≤ o ∧ hint + la < n ∧ bt left rk key arr base (hint + la) = true)
      (Q := fun c st' => st' = st ∧ ∃ la o, c = (none, la, o) ∧ la < o ∧ hint + la < n ∧ bt left rk key arr base (hint + la) = true ∧ (n - hint ≤ o ∨ bt left rk key arr base (hint + o) = false)) ?_ ?_ ⟨rfl, 0, 1, rfl, by omega, by omega, hh, hP⟩) ?_)
    · rintro x c st' _ hx ⟨rfl, la, o, rfl, h1, h2, h3, h4⟩
      dsimp only
      by_cases ho : o ≥ n - hint
      · rw [if_pos ho]
        exact fb ⟨rfl, la, o, rfl, h1, h3, h4, .inl ho⟩
      · rw [if_neg ho]
        refine e7 (hbey _ _ (by omega) ?_)
        dsimp only
        cases hq : bt left rk key arr base (hint + o) with
        | false =>
          rw [if_pos (by decide)]
          exact fb ⟨rfl, la, o, rfl, h1, h3, h4, .inr hq⟩
        | true =>
          rw [if_neg (by decide)]
          exact fb ⟨rfl, o, _, rfl, by omega, by omega, by omega, hq⟩
    · rintro c st' ⟨rfl, la, o, rfl, h1, h2, h3, h4⟩
      exact ⟨rfl, la, o, rfl, h1, h3, h4, .inl (by have : max 0 n = n := by omega
                                                   omega)⟩
    · rintro c st' ⟨rfl, la, o, rfl, h1, h3, h4, h5⟩
      dsimp only
      refine e7 (iW (Pm (α := Unit) hbey mono (by omega) (by omega) (fun i hi => mono i (hint + la) (by omega) h3 h4) (fun i hi hin => ?_)) ?_)
      · rcases h5 with h5 | h5
        · omega
        · exact fals (hint + o) i (by omega) hin h5
      · rintro ⟨c1, c2, c3⟩ st'' ⟨rfl, e, pt⟩
        cases e
        exact fb (h _ pt)
  | false =>
    rw [if_neg e6]
    refine e7 (iW (gK (I := fun x c st' => st' = st ∧ ∃ la o, c = (none, la, o) ∧ la < o ∧ x + 1 ≤ o ∧ la ≤ hint ∧ bt left rk key arr base (hint - la) = false)
      (Q := fun c st' => st' = st ∧ ∃ la o, c = (none, la, o) ∧ la < o ∧ la ≤ hint ∧ bt left rk key arr base (hint - la) = false ∧ (hint + 1 ≤ o ∨ bt left rk key arr base (hint - o) = true)) ?_ ?_ ⟨rfl, 0, 1, rfl, by omega, by omega, by omega, hP⟩) ?_)
    · rintro x c st' _ hx ⟨rfl, la, o, rfl, h1, h2, h3, h4⟩
      dsimp only
      by_cases ho : o ≥ hint + 1
      · rw [if_pos ho]
        exact fb ⟨rfl, la, o, rfl, h1, h3, h4, .inl ho⟩
      · rw [if_neg ho]
        refine e7 (hbey _ _ (by omega) ?_)
        dsimp only
        cases hq : bt left rk key arr base (hint - o) with
        | true =>
          rw [if_pos rfl]
          exact fb ⟨rfl, la, o, rfl, h1, h3, h4, .inr hq⟩
        | false =>
          rw [if_neg e6]
          exact fb ⟨rfl, o, _, rfl, by omega, by omega, by omega, hq⟩
    · rintro c st' ⟨rfl, la, o, rfl, h1, h2, h3, h4⟩
      exact ⟨rfl, la, o, rfl, h1, h3, h4, .inl (by have : max 0 n = n := by omega
                                                   omega)⟩
    · rintro c st' ⟨rfl, la, o, rfl, h1, h3, h4, h5⟩
      dsimp only
      refine e7 (iW (Pm (α := Unit) hbey mono (by omega) (by omega) (fun i hi => ?_) (fun i hi hin => fals (hint - la) i hi hin h4)) ?_)
      · rcases h5 with h5 | h5
        · omega
        · exact mono i (hint - o) (by omega) (by omega) h5
      · rintro ⟨c1, c2, c3⟩ st'' ⟨rfl, e, pt⟩
        cases e
        exact fb (h _ pt)
end
local macro_rules | `(tactic| omega) => `(tactic| first | lia | omega)
open PySem PyProof.Rows
variable{rk:Keyed→Int}
def EY(rk:Keyed→Int)(a:Array Keyed):Prop:=∀i j,i≤j→j<a.size→RK rk a i≤RK rk a j
structure Mrg(rk:Keyed→Int)(a b out:Array Keyed)(i j:Nat):Prop where
 hi:i≤a.size
 hj:j≤b.size
 perm:out.toList.Perm (a.toList.take i++b.toList.take j)
 srt:out.toList.Pairwise fun x y=>rk x≤rk y
 ha:∀x,x∈out.toList→∀y,i≤y→y<a.size→rk x≤RK rk a y
 hb:∀x,x∈out.toList→∀y,j≤y→y<b.size→rk x≤RK rk b y
structure Fin2(rk:Keyed→Int)(a b r:Array Keyed):Prop where
 perm:r.toList.Perm (a.toList++b.toList)
 srt:r.toList.Pairwise fun x y=>rk x≤rk y
theorem Ai{a:Array Keyed}{i:Nat}(h:i<a.size):RK rk a i=rk a[i]:=by
 unfold RK
 rw[getElem?_pos a i h]
theorem Mrg.sym{a b out:Array Keyed}{i j:Nat}(m:Mrg rk a b out i j):Mrg rk b a out j i:=
 ⟨m.hj,m.hi,m.perm.trans js,m.srt,m.hb,m.ha⟩
theorem Mrg.pushA{a b out:Array Keyed}{i j:Nat}(m:Mrg rk a b out i j)(sa:EY rk a)(h:i<a.size)(hb:∀y,j≤y→y<b.size→rk a[i]≤RK rk b y):Mrg rk a b (out.push a[i]) (i+1) j:=by
 have e:(out.push a[i]).toList=out.toList++[a[i]]:=j5 ..
 have t:a.toList.take (i+1)=a.toList.take i++[a[i]]:=by
  rw[List.take_succ]
  have:a.toList[i]?=some a[i]:=by rw[fT];exact getElem?_pos a i h
  rw[this];rfl
 refine⟨h,m.hj,?_,?_,?_,?_⟩
 ·rw[e,t]
  have p1:=m.perm.append_right [a[i]]
  refine p1.trans ?_
  rw[i8,i8]
  exact kz.append_left _ js
 ·rw[e,jy]
  refine⟨m.srt,ko _ _,fun x hx y hy=>?_⟩
  cases b9.mp hy
  have:=m.ha x hx i (fj _) h
  rwa[Ai h] at this
 ·intro x hx y hy hys
  rw[e] at hx
  rcases fI.mp hx with hx|hx
  ·exact m.ha x hx y (by omega) hys
  ·cases b9.mp hx
   have:=sa i y (by omega) hys
   rwa[Ai h] at this
 ·intro x hx y hy hys
  rw[e] at hx
  rcases fI.mp hx with hx|hx
  ·exact m.hb x hx y hy hys
  ·cases b9.mp hx
   exact hb y hy hys
theorem Mrg.pushB{a b out:Array Keyed}{i j:Nat}(m:Mrg rk a b out i j)(sb:EY rk b)(h:j<b.size)(ha:∀y,i≤y→y<a.size→rk b[j]≤RK rk a y):Mrg rk a b (out.push b[j]) i (j+1):=(m.sym.pushA sb h ha).sym
theorem IR(a:Array Keyed)(i k:Nat)(h:i+k<a.size):a.extract i (i+(k+1))=(a.extract i (i+k)).push a[i+k]:=by
 apply kT
 rw[j5,gW,gW,gB,gB]
 have e1:i+(k+1)-i=k+1:=by omega
 have e2:i+k-i=k:=by omega
 rw[e1,e2,List.take_succ,jd,fT,getElem?_pos a (i+k) h]
 rfl
theorem Mrg.appA{a b:Array Keyed}{i j:Nat}:∀(k:Nat) {out:Array Keyed},Mrg rk a b out i j→EY rk a→i+k≤a.size→(∀x,x<k→∀y,j≤y→y<b.size→RK rk a (i+x)≤RK rk b y)→Mrg rk a b (out++a.extract i (i+k)) (i+k) j
 |0,out,m,_,_,_=>by
  have:out++a.extract i (i+0)=out:=by
   apply kT
   rw[jI,gW,gB]
   have:i+0-i=0:=by omega
   rw[this,ot,jo]
  rw[this];exact m
 |k+1,out,m,sa,h,hb=>by
  have m':=Mrg.appA k m sa (by omega) fun x hx=>hb x (by omega)
  have hk:i+k<a.size:=by omega
  rw[IR a i k hk,Array.append_push]
  exact m'.pushA sa hk fun y h1 h2=>by
   have:=hb k (by omega) y h1 h2
   rwa[Ai hk] at this
theorem Mrg.appB{a b:Array Keyed}{i j:Nat}(k:Nat){out:Array Keyed}(m:Mrg rk a b out i j)(sb:EY rk b)(h:j+k≤b.size)(ha:∀x,x<k→∀y,i≤y→y<a.size→RK rk b (j+x)≤RK rk a y):Mrg rk a b (out++b.extract j (j+k)) i (j+k):=(Mrg.appA k m.sym sb h ha).sym
theorem Mrg.fin{a b out:Array Keyed}(m:Mrg rk a b out a.size b.size):Fin2 rk a b out:=by
 have p:=m.perm
 rw[←fg,←fg,iS,iS] at p
 exact⟨p,m.srt⟩
theorem Mrg.restAB{a b out:Array Keyed}{i j:Nat}(m:Mrg rk a b out i j)(sa:EY rk a)(sb:EY rk b)(h:∀x y,i≤x→x<a.size→j≤y→y<b.size→RK rk a x≤RK rk b y):Fin2 rk a b (out++a.extract i a.size++b.extract j b.size):=by
 have hi:=m.hi
 have hj:=m.hj
 have m1:=m.appA (a.size-i) sa (by omega) fun x hx y h1 h2=>h _ _ (by omega) (by omega) h1 h2
 have e1:i+(a.size-i)=a.size:=by omega
 rw[e1] at m1
 have m2:=m1.appB (b.size-j) sb (by omega) fun x hx y h1 h2=>by omega
 have e2:j+(b.size-j)=b.size:=by omega
 rw[e2] at m2
 exact m2.fin
theorem Mrg.restBA{a b out:Array Keyed}{i j:Nat}(m:Mrg rk a b out i j)(sa:EY rk a)(sb:EY rk b)(h:∀x y,i≤x→x<a.size→j≤y→y<b.size→RK rk b y≤RK rk a x):Fin2 rk a b (out++b.extract j b.size++a.extract i a.size):=by
 have f:=m.sym.restAB sb sa fun x y h1 h2 h3 h4=>h y x h3 h4 h1 h2
 exact⟨f.perm.trans js,f.srt⟩
end SrtG
namespace SrtG
local macro_rules | `(tactic| omega) => `(tactic| first | lia | omega)
open PySem PyProof.Rows
def Jq:Array Keyed→Array Keyed→StateT SortSt Sem (Array Keyed):=sortPriv%PySem.Builtin.mergeLo
def Mx:Nat→StateT SortSt Sem Unit:=sortPriv%PySem.Builtin.setMinGallop
theorem Lb(g:Nat):Mx g=modify fun s=>lX (kindOf s) (arrOf s) (pendingOf s) g (jN s):=rfl
abbrev dn(a b out:Array Keyed)(ia ib:Nat):Array Keyed:=out++a.extract ia a.size++b.extract ib b.size
abbrev la(a b out:Array Keyed)(ia ib:Nat):Array Keyed:=out++b.extract ib b.size++a.extract ia a.size
section
variable{prog:Program}{w:World}{A:fG}{E:Value→a9→Prop}{s:a9}{kd:jG}{U:Keyed→Prop}{rk:Keyed→Int}
structure Like(st st':gq):Prop where
 kd:kindOf st'=kindOf st
 arr:arrOf st'=arrOf st
 pd:pendingOf st'=pendingOf st
 fl:jN st'=jN st
theorem Like.refl(st:gq):Like st st:=⟨rfl,rfl,rfl,rfl⟩
theorem CY{g:Nat}{st0 st:gq}{Q:Unit→gq→Prop}(l:Like st0 st)(h:∀st',Like st0 st'→Q () st'):wpS (model prog w) A E s (Mx g) Q st:=by
 rw[Lb]
 exact kA (h _ ⟨l.kd,l.arr,l.pd,l.fl⟩)
theorem AH{arr:Array Keyed}{i:Nat}{st:gq}{Q:Keyed→gq→Prop}(hi:i<arr.size)(h:Q arr[i] st):wpS (model prog w) A E s (elem' arr i) Q st:=by
 rw[elem'_eq,getElem?_pos arr i hi]
 exact fb h
structure Hd(rk:Keyed→Int)(a b out:Array Keyed)(i j n:Nat):Prop where
 m:Mrg rk a b out i j
 hi:i+1<a.size
 hj:j<b.size
 hn:n≤i+j
theorem Jr{a b:Array Keyed}{st:gq}{Q:Array Keyed→gq→Prop}(C:OL prog w A E s kd U rk)(hk:kindOf st=kd)(uA:AllU U a)(uB:AllU U b)(sa:EY rk a)(sb:EY rk b)(ha0:0<a.size)(hb0:0<b.size)
  (hfst:RK rk b 0≤RK rk a 0) (hlst:RK rk b (b.size-1)≤RK rk a (a.size-1))
  (h:∀r st',Like st st'→Fin2 rk a b r→Q r st'):wpS (model prog w) A E s (Jq a b) Q st:=by
 have Udn:∀{out i j},Mrg rk a b out i j→i=a.size∨j=b.size→Fin2 rk a b (dn a b out i j):=fun m hh=>m.restAB sa sb fun x y _ _ _ _=>by omega
 have Ula:∀{out i j},Mrg rk a b out i j→i+1=a.size→Fin2 rk a b (la a b out i j):=fun{out i j} m hh=>m.restBA sa sb fun x y h1 h2 h3 h4=>by
  have e1:=sb y (b.size-1) (by omega) (by omega)
  have e:x=a.size-1:=by omega
  subst e
  omega
 have uAt:∀{i} (hi:i<a.size),U a[i]:=fun hi=>uA _ _ (getElem?_pos a _ hi)
 have uBt:∀{i} (hi:i<b.size),U b[i]:=fun hi=>uB _ _ (getElem?_pos b _ hi)
 delta Jq
 refine e7 (l9 (jB ⟨rfl,?_⟩))
 refine e7 (AH hb0 ?_)
 have m0:Mrg rk a b #[] 0 0:=⟨by omega,by omega,kz.nil,j4,(fun x hx=>by cases hx),(fun x hx=>by cases hx)⟩
 have m1:Mrg rk a b #[b[0]] 0 1:=m0.pushB sb hb0 fun y _ hy=>by
  have e1:=sa 0 y (by omega) hy
  rw[←Ai (rk:=rk) hb0]
  omega
 dsimp only
 by_cases c1:1=b.size
 ·rw[if_pos (beq_iff_eq.mpr c1)]
  exact fb (h _ _ (Like.refl _) (Udn m1 (.inr c1)))
 rw[if_neg (fun q=>c1 (beq_iff_eq.mp q))]
 by_cases c2:0+1=a.size
 ·rw[if_pos (beq_iff_eq.mpr c2)]
  exact fb (h _ _ (Like.refl _) (Ula m1 c2))
 rw[if_neg (fun q=>c2 (beq_iff_eq.mp q))]
 refine e7 (lz ?_)
 refine e7 (iW (gK (I:=fun x c st'=>Like st st'∧∃out i j mg,c=(none,out,i,j,mg)∧Hd rk a b out i j (x+1))
  (Q:=fun c st'=>Like st st'∧∃r,c.1=some r∧Fin2 rk a b r) ?_ ?_ ⟨Like.refl _,_,_,_,_,rfl,m1,by omega,by omega,by omega⟩) ?_)
 ·rintro x c st1 _ hx ⟨lk,out,i,j,mg,rfl,hd⟩
  dsimp only
  refine e7 (iW (gK (I:=fun _ c st'=>Like st st'∧∃out i j ac bc,c=(none,out,i,j,ac,bc)∧Hd rk a b out i j (x+1))
   (Q:=fun c st'=>Like st st'∧((∃r,c.1=some r∧Fin2 rk a b r)∨∃out i j ac bc,c=(none,out,i,j,ac,bc)∧Hd rk a b out i j (x+1))) ?_ ?_ ⟨lk,_,_,_,_,_,rfl,hd⟩) ?_)
  ·rintro x1 c st2 _ hx1 ⟨lk,out,i,j,ac,bc,rfl,hd⟩
   have hia:i<a.size:=by have:=hd.hi;omega
   have hjb:=hd.hj
   have hin:=hd.hn
   dsimp only
   refine e7 (AH hd.hj ?_)
   refine e7 (AH hia ?_)
   refine e7 (C _ _ _ _ (lk.kd.trans hk) (uBt hd.hj) (uAt hia) ?_)
   dsimp only
   by_cases hlt:rk b[j]<rk a[i]
   ·rw[if_pos (by exact decide_eq_true hlt)]
    have m:=hd.m.pushB sb hd.hj fun y h1 h2=>by
     have:=sa i y h1 h2
     rw[Ai hia] at this
     omega
    refine e7 (AH hd.hj ?_)
    by_cases c3:j+1=b.size
    ·rw[if_pos (beq_iff_eq.mpr c3)]
     exact fb ⟨lk,.inl ⟨_,rfl,Udn m (.inr c3)⟩⟩
    rw[if_neg (fun q=>c3 (beq_iff_eq.mp q))]
    have hd':Hd rk a b (out.push b[j]) i (j+1) (x+1):=⟨m,hd.hi,by have:=hd.hj;omega,by omega⟩
    split
    ·exact fb ⟨lk,.inr ⟨_,_,_,_,_,rfl,hd'⟩⟩
    ·exact fb ⟨lk,_,_,_,_,_,rfl,hd'⟩
   ·rw[if_neg (fun q=>hlt (of_decide_eq_true q))]
    have m:=hd.m.pushA sa hia fun y h1 h2=>by
     have:=sb j y h1 h2
     rw[Ai hd.hj] at this
     omega
    refine e7 (AH hia ?_)
    by_cases c3:i+1+1=a.size
    ·rw[if_pos (beq_iff_eq.mpr c3)]
     exact fb ⟨lk,.inl ⟨_,rfl,Ula m c3⟩⟩
    rw[if_neg (fun q=>c3 (beq_iff_eq.mp q))]
    have hd':Hd rk a b (out.push a[i]) (i+1) j (x+1):=⟨m,by have:=hd.hi;omega,hd.hj,by omega⟩
    split
    ·exact fb ⟨lk,.inr ⟨_,_,_,_,_,rfl,hd'⟩⟩
    ·exact fb ⟨lk,_,_,_,_,_,rfl,hd'⟩
  ·rintro c st2 ⟨lk,hh⟩
   exact⟨lk,.inr hh⟩
  rintro c st2 ⟨lk,⟨r,e,f⟩| ⟨out,i,j,ac,bc,rfl,hd⟩⟩
  ·obtain⟨c1,c2⟩:=c
   cases e
   exact fb ⟨lk,_,rfl,f⟩
  dsimp only
  refine e7 (l9 (jB ⟨rfl,?_⟩))
  refine e7 (iW (gK (I:=fun y c st'=>Like st st'∧∃out i j mg ac bc,c=(none,out,i,j,mg,ac,bc)∧Hd rk a b out i j (x+1+y))
   (Q:=fun c st'=>Like st st'∧((∃r,c.1=some r∧Fin2 rk a b r)∨∃out i j mg ac bc,c=(none,out,i,j,mg,ac,bc)∧Hd rk a b out i j (x+1+1))) ?_ ?_ ⟨lk,_,_,_,_,_,_,rfl,hd⟩) ?_)
  ·rintro x1 c st2 _ hx1 ⟨lk,out,i,j,mg,ac,bc,rfl,hd⟩
   have hia:i<a.size:=by have:=hd.hi;omega
   have hjb:=hd.hj
   have hin:=hd.hn
   dsimp only
   refine dite (mg>1) (fun hmg=>?_) (fun hmg=>?_)
   all_goals first|rw[if_pos hmg]|rw[if_neg hmg]
   all_goals
    refine e7 (CY lk fun st3 lk=>?_)
    refine e7 (AH hjb ?_)
    refine e7 (Ar C (lk.kd.trans hk) (uBt hjb) uA (by omega) (by omega) ?_ ?_)
    ·intro p q hpq hq e
     unfold bt at e ⊢
     rw[if_neg e6] at e ⊢
     have e':=of_decide_eq_false (iN _|>.mp e)
     have:=sa (i+p) (i+q) (by omega) (by omega)
     exact(iN _).mpr (decide_eq_false (by omega))
    rintro k ⟨kn,kt,kf⟩
    have kt':∀x,x<k→RK rk a (i+x)≤RK rk b j:=fun x hx=>by
     have e:=kt x hx
     unfold bt at e
     rw[if_neg e6] at e
     have e':=of_decide_eq_false (iN _|>.mp e)
     rw[Ai hjb]
     omega
    have kf':∀y,i+k≤y→y<a.size→rk b[j]≤RK rk a y:=fun y h1 h2=>by
     have e:=kf (y-i) (by omega) (by omega)
     unfold bt at e
     rw[if_neg e6] at e
     have e':=of_decide_eq_true (mU _|>.mp e)
     have ey:i+(y-i)=y:=by omega
     rw[ey] at e'
     omega
    have m:=hd.m.appA k sa (by omega) fun x hx y h1 h2=>by
     have:=sb j y h1 h2
     have:=kt' x hx
     omega
    dsimp only
    by_cases k0:k>0
    ·rw[if_pos k0]
     by_cases c3:i+k+1=a.size
     ·rw[if_pos (beq_iff_eq.mpr c3)]
      exact fb ⟨lk,.inl ⟨_,rfl,Ula m c3⟩⟩
     rw[if_neg (fun q=>c3 (beq_iff_eq.mp q))]
     by_cases c4:i+k=a.size
     ·rw[if_pos (beq_iff_eq.mpr c4)]
      exact fb ⟨lk,.inl ⟨_,rfl,Udn m (.inl c4)⟩⟩
     rw[if_neg (fun q=>c4 (beq_iff_eq.mp q))]
     have hi':i+k<a.size:=by omega
     have hi2:i+k+1<a.size:=by omega
     have hn':x+1+x1≤i+k+j:=by omega
     refine e7 (AH hjb ?_)
     have m2:=m.pushB sb hjb kf'
     by_cases c5:j+1=b.size
     ·rw[if_pos (beq_iff_eq.mpr c5)]
      exact fb ⟨lk,.inl ⟨_,rfl,Udn m2 (.inr c5)⟩⟩
     rw[if_neg (fun q=>c5 (beq_iff_eq.mp q))]
     refine e7 (AH hi' ?_)
     refine e7 (Ar C (lk.kd.trans hk) (uAt hi') uB (by omega) (by omega) ?_ ?_)
     ·intro p q hpq hq e
      unfold bt at e ⊢
      rw[if_pos rfl] at e ⊢
      have e':=of_decide_eq_true e
      have:=sb (j+1+p) (j+1+q) (by omega) (by omega)
      exact decide_eq_true (by omega)
     rintro k2 ⟨k2n,k2t,k2f⟩
     have k2t':∀x,x<k2→∀y,_≤y→y<a.size→RK rk b (j+1+x)≤RK rk a y:=fun x hx y h1 h2=>by
      have e:=k2t x hx
      unfold bt at e
      rw[if_pos rfl] at e
      have e':=of_decide_eq_true e
      have:=sa _ y h1 h2
      rw[Ai hi'] at this
      omega
     have k2f':∀y,j+1+k2≤y→y<b.size→rk (a[i+k]'hi')≤RK rk b y:=fun y h1 h2=>by
      have e:=k2f (y- (j+1)) (by omega) (by omega)
      unfold bt at e
      rw[if_pos rfl] at e
      have e':=of_decide_eq_false e
      have ey:j+1+(y- (j+1))=y:=by omega
      rw[ey] at e'
      omega
     dsimp only
     by_cases k20:k2>0
     ·rw[if_pos k20]
      have m3:=m2.appB k2 sb (by omega) k2t'
      by_cases c6:j+1+k2=b.size
      ·rw[if_pos (beq_iff_eq.mpr c6)]
       exact fb ⟨lk,.inl ⟨_,rfl,Udn m3 (.inr c6)⟩⟩
      rw[if_neg (fun q=>c6 (beq_iff_eq.mp q))]
      have m4:=m3.pushA sa hi' k2f'
      refine e7 (AH hi' ?_)
      split
      ·rename_i c7
       exact fb ⟨lk,.inl ⟨_,rfl,Ula m4 (beq_iff_eq.mp c7)⟩⟩
      ·rename_i c7
       have c7':¬_=_:=fun q=>c7 (beq_iff_eq.mpr q)
       split
       ·exact fb ⟨lk,.inr ⟨_,_,_,_,_,_,rfl,m4,by omega,by omega,by omega⟩⟩
       ·exact fb ⟨lk,_,_,_,_,_,_,rfl,m4,by omega,by omega,by omega⟩
     ·rw[if_neg k20]
      have e2:j+1+k2=j+1:=by omega
      rw[e2] at k2f'
      have m4:=m2.pushA sa hi' k2f'
      refine e7 (AH hi' ?_)
      split
      ·rename_i c7
       exact fb ⟨lk,.inl ⟨_,rfl,Ula m4 (beq_iff_eq.mp c7)⟩⟩
      ·rename_i c7
       have c7':¬_=_:=fun q=>c7 (beq_iff_eq.mpr q)
       split
       ·exact fb ⟨lk,.inr ⟨_,_,_,_,_,_,rfl,m4,by omega,by omega,by omega⟩⟩
       ·exact fb ⟨lk,_,_,_,_,_,_,rfl,m4,by omega,by omega,by omega⟩
    ·rw[if_neg k0]
     have e0:i+k=i:=by omega
     rw[e0] at kf'
     clear m
     have m:=hd.m
     have hi2:=hd.hi
     have hi':=hia
     have hn':=hin
     refine e7 (AH hjb ?_)
     have m2:=m.pushB sb hjb kf'
     by_cases c5:j+1=b.size
     ·rw[if_pos (beq_iff_eq.mpr c5)]
      exact fb ⟨lk,.inl ⟨_,rfl,Udn m2 (.inr c5)⟩⟩
     rw[if_neg (fun q=>c5 (beq_iff_eq.mp q))]
     refine e7 (AH hi' ?_)
     refine e7 (Ar C (lk.kd.trans hk) (uAt hi') uB (by omega) (by omega) ?_ ?_)
     ·intro p q hpq hq e
      unfold bt at e ⊢
      rw[if_pos rfl] at e ⊢
      have e':=of_decide_eq_true e
      have:=sb (j+1+p) (j+1+q) (by omega) (by omega)
      exact decide_eq_true (by omega)
     rintro k2 ⟨k2n,k2t,k2f⟩
     have k2t':∀x,x<k2→∀y,_≤y→y<a.size→RK rk b (j+1+x)≤RK rk a y:=fun x hx y h1 h2=>by
      have e:=k2t x hx
      unfold bt at e
      rw[if_pos rfl] at e
      have e':=of_decide_eq_true e
      have:=sa _ y h1 h2
      rw[Ai hi'] at this
      omega
     have k2f':∀y,j+1+k2≤y→y<b.size→rk (a[i]'hi')≤RK rk b y:=fun y h1 h2=>by
      have e:=k2f (y- (j+1)) (by omega) (by omega)
      unfold bt at e
      rw[if_pos rfl] at e
      have e':=of_decide_eq_false e
      have ey:j+1+(y- (j+1))=y:=by omega
      rw[ey] at e'
      omega
     dsimp only
     by_cases k20:k2>0
     ·rw[if_pos k20]
      have m3:=m2.appB k2 sb (by omega) k2t'
      by_cases c6:j+1+k2=b.size
      ·rw[if_pos (beq_iff_eq.mpr c6)]
       exact fb ⟨lk,.inl ⟨_,rfl,Udn m3 (.inr c6)⟩⟩
      rw[if_neg (fun q=>c6 (beq_iff_eq.mp q))]
      have m4:=m3.pushA sa hi' k2f'
      refine e7 (AH hi' ?_)
      split
      ·rename_i c7
       exact fb ⟨lk,.inl ⟨_,rfl,Ula m4 (beq_iff_eq.mp c7)⟩⟩
      ·rename_i c7
       have c7':¬_=_:=fun q=>c7 (beq_iff_eq.mpr q)
       split
       ·exact fb ⟨lk,.inr ⟨_,_,_,_,_,_,rfl,m4,by omega,by omega,by omega⟩⟩
       ·exact fb ⟨lk,_,_,_,_,_,_,rfl,m4,by omega,by omega,by omega⟩
     ·rw[if_neg k20]
      have e2:j+1+k2=j+1:=by omega
      rw[e2] at k2f'
      have m4:=m2.pushA sa hi' k2f'
      refine e7 (AH hi' ?_)
      split
      ·rename_i c7
       exact fb ⟨lk,.inl ⟨_,rfl,Ula m4 (beq_iff_eq.mp c7)⟩⟩
      ·rename_i c7
       have c7':¬_=_:=fun q=>c7 (beq_iff_eq.mpr q)
       split
       ·exact fb ⟨lk,.inr ⟨_,_,_,_,_,_,rfl,m4,by omega,by omega,by omega⟩⟩
       ·exact fb ⟨lk,_,_,_,_,_,_,rfl,m4,by omega,by omega,by omega⟩
  ·rintro c st2 ⟨lk,out,i,j,mg,ac,bc,rfl,hd⟩
   have e:max 0 (a.size+b.size)=a.size+b.size:=by omega
   rw[e] at hd
   exact⟨lk,.inr ⟨_,_,_,_,_,_,rfl,hd.m,hd.hi,hd.hj,by have:=hd.hn;omega⟩⟩
  rintro c st2 ⟨lk,⟨r,e,f⟩| ⟨out,i,j,mg,ac,bc,rfl,hd⟩⟩
  ·obtain⟨c1,c2⟩:=c
   cases e
   exact fb ⟨lk,_,rfl,f⟩
  dsimp only
  refine e7 (CY lk fun st3 lk=>?_)
  exact fb ⟨lk,_,_,_,_,rfl,hd⟩
 ·rintro c st1 ⟨lk,out,i,j,mg,rfl,hd⟩
  have e:max 0 (a.size+b.size)=a.size+b.size:=by omega
  rw[e] at hd
  have:=hd.hn
  have:=hd.hi
  have:=hd.hj
  omega
 ·rintro c st1 ⟨lk,r,e,f⟩
  obtain⟨c1,c2⟩:=c
  cases e
  exact fb (h _ _ lk f)
end
end SrtG
namespace SrtG
local macro_rules | `(tactic| omega) => `(tactic| first | lia | omega)
open PySem PyProof.Rows
variable{rk:Keyed→Int}
structure Mrh(rk:Keyed→Int)(a b out:Array Keyed)(i j:Nat):Prop where
 hi:i≤a.size
 hj:j≤b.size
 perm:out.toList.Perm (a.toList.drop i++b.toList.drop j)
 srt:out.toList.Pairwise fun x y=>rk y≤rk x
 ha:∀x,x∈out.toList→∀y,y<i→RK rk a y≤rk x
 hb:∀x,x∈out.toList→∀y,y<j→RK rk b y≤rk x
theorem Mrh.sym{a b out:Array Keyed}{i j:Nat}(m:Mrh rk a b out i j):Mrh rk b a out j i:=
 ⟨m.hj,m.hi,m.perm.trans js,m.srt,m.hb,m.ha⟩
theorem Mrh.pushA{a b out:Array Keyed}{i j:Nat}(m:Mrh rk a b out (i+1) j)(sa:EY rk a)(h:i<a.size)(hb:∀y,y<j→RK rk b y≤rk a[i]):Mrh rk a b (out.push a[i]) i j:=by
 have e:(out.push a[i]).toList=out.toList++[a[i]]:=j5 ..
 have t:a.toList.drop i=a[i]::a.toList.drop (i+1):=by
  have hl:i<a.toList.length:=by rw[fg];exact h
  rw[jV hl]
  rfl
 refine⟨by omega,m.hj,?_,?_,?_,?_⟩
 ·rw[e,t]
  exact js.trans (m.perm.cons a[i])
 ·rw[e,jy]
  refine⟨m.srt,ko _ _,fun x hx y hy=>?_⟩
  cases b9.mp hy
  have:=m.ha x hx i (km _)
  rwa[Ai h] at this
 ·intro x hx y hy
  rw[e] at hx
  rcases fI.mp hx with hx|hx
  ·exact m.ha x hx y (by omega)
  ·cases b9.mp hx
   have:=sa y i (by omega) h
   rwa[Ai h] at this
 ·intro x hx y hy
  rw[e] at hx
  rcases fI.mp hx with hx|hx
  ·exact m.hb x hx y hy
  ·cases b9.mp hx
   exact hb y hy
theorem Mrh.pushB{a b out:Array Keyed}{i j:Nat}(m:Mrh rk a b out i (j+1))(sb:EY rk b)(h:j<b.size)(ha:∀y,y<i→RK rk a y≤rk b[j]):Mrh rk a b (out.push b[j]) i j:=(m.sym.pushA sb h ha).sym
theorem IS(a:Array Keyed)(l h:Nat)(hl:l<h)(hh:h≤a.size):(a.extract l h).reverse=(a.extract (l+1) h).reverse.push (a[l]'(by omega)):=by
 apply kT
 rw[j5,iE,iE,gW,gW,gB,gB]
 have hln:l<a.toList.length:=by rw[fg];omega
 have e1:h-l=(h- (l+1))+1:=by omega
 rw[jV hln,e1,List.take_succ_cons,lR]
 rfl
theorem Mrh.appA{a b:Array Keyed}{i j:Nat}:∀(k:Nat) {out:Array Keyed},Mrh rk a b out i j→EY rk a→k≤i→(∀x,i-k≤x→x<i→∀y,y<j→RK rk b y≤RK rk a x)→Mrh rk a b (out++(a.extract (i-k) i).reverse) (i-k) j
 |0,out,m,_,_,_=>by
  have:out++(a.extract (i-0) i).reverse=out:=by
   apply kT
   rw[jI,iE,gW,gB]
   have:i- (i-0)=0:=by omega
   rw[this,ot,List.reverse_nil,jo]
  rw[this];exact m
 |k+1,out,m,sa,h,hb=>by
  have hi:=m.hi
  have m':=Mrh.appA k m sa (by omega) fun x hx=>hb x (by omega)
  have hk:i- (k+1)<a.size:=by omega
  have e:i- (k+1)+1=i-k:=by omega
  rw[IS a (i- (k+1)) i (by omega) hi,Array.append_push,e]
  rw[←e] at m'
  have q:=m'.pushA sa hk fun y h1=>by
   have:=hb (i- (k+1)) (by omega) (by omega) y h1
   rwa[Ai hk] at this
  rw[e] at q
  exact q
theorem Mrh.appA'{a b out:Array Keyed}{i j l:Nat}(m:Mrh rk a b out i j)(sa:EY rk a)(h:l≤i)(hb:∀x,l≤x→x<i→∀y,y<j→RK rk b y≤RK rk a x):Mrh rk a b (out++(a.extract l i).reverse) l j:=by
 have e:i- (i-l)=l:=by omega
 have q:=m.appA (i-l) sa (by omega) (by rw[e];exact hb)
 rwa[e] at q
theorem Mrh.appB'{a b out:Array Keyed}{i j l:Nat}(m:Mrh rk a b out i j)(sb:EY rk b)(h:l≤j)(ha:∀x,l≤x→x<j→∀y,y<i→RK rk a y≤RK rk b x):Mrh rk a b (out++(b.extract l j).reverse) i l:=(m.sym.appA' sb h ha).sym
theorem Mrh.fin{a b out:Array Keyed}(m:Mrh rk a b out 0 0):Fin2 rk a b out.reverse:=by
 have p:=m.perm
 rw[List.drop_zero,List.drop_zero] at p
 constructor
 ·rw[iE]
  exact(List.reverse_perm _).trans p
 ·rw[iE,List.pairwise_reverse]
  exact m.srt
theorem Mrh.restAB{a b out:Array Keyed}{i j:Nat}(m:Mrh rk a b out i j)(sa:EY rk a)(sb:EY rk b)(h:∀x y,x<i→y<j→RK rk a x≤RK rk b y):Fin2 rk a b (a.extract 0 i++b.extract 0 j++out.reverse):=by
 have m1:=m.appB' (l:=0) sb (by omega) fun x _ hx y hy=>h y x hy hx
 have m2:=m1.appA' (l:=0) sa (by omega) fun x _ _ y hy=>by omega
 have f:=m2.fin
 have e:(out++(b.extract 0 j).reverse++(a.extract 0 i).reverse).reverse=a.extract 0 i++b.extract 0 j++out.reverse:=by
  apply kT
  rw[iE,jI,jI,jI,jI,iE,iE,iE,mw,mw,List.reverse_reverse,List.reverse_reverse,i8]
 rwa[e] at f
theorem Mrh.restBA{a b out:Array Keyed}{i j:Nat}(m:Mrh rk a b out i j)(sa:EY rk a)(sb:EY rk b)(h:∀x y,x<i→y<j→RK rk b y≤RK rk a x):Fin2 rk a b (b.extract 0 j++a.extract 0 i++out.reverse):=by
 have f:=m.sym.restAB sb sa fun x y h1 h2=>h y x h2 h1
 exact⟨f.perm.trans js,f.srt⟩
def Js:Array Keyed→Array Keyed→StateT SortSt Sem (Array Keyed):=sortPriv%PySem.Builtin.mergeHi
abbrev dy(a b out:Array Keyed)(i j:Nat):Array Keyed:=a.extract 0 i++b.extract 0 j++out.reverse
abbrev dz(a b out:Array Keyed)(i j:Nat):Array Keyed:=b.extract 0 j++a.extract 0 i++out.reverse
end SrtG
namespace SrtG
local macro_rules | `(tactic| omega) => `(tactic| first | lia | omega)
open PySem PyProof.Rows
variable{prog:Program}{w:World}{A:fG}{E:Value→a9→Prop}{s:a9}{kd:jG}{U:Keyed→Prop}{rk:Keyed→Int}
theorem Mrh.pushA1{a b out:Array Keyed}{i j:Nat}(m:Mrh rk a b out i j)(sa:EY rk a)(h0:0<i)(h:i-1<a.size)(hb:∀y,y<j→RK rk b y≤rk a[i-1]):Mrh rk a b (out.push a[i-1]) (i-1) j:=by
 cases i with
 |zero=>omega
 |succ i=>exact m.pushA sa h hb
structure Hh(rk:Keyed→Int)(a b out:Array Keyed)(i j n:Nat):Prop where
 m:Mrh rk a b out i j
 hi:0<i
 hj:1<j
 hn:i+j+n≤a.size+b.size
theorem Jt{a b:Array Keyed}{st:gq}{Q:Array Keyed→gq→Prop}(C:OL prog w A E s kd U rk)(hk:kindOf st=kd)(uA:AllU U a)(uB:AllU U b)(sa:EY rk a)(sb:EY rk b)(ha0:0<a.size)(hb0:0<b.size)
  (hfst:RK rk b 0≤RK rk a 0) (hlst:RK rk b (b.size-1)≤RK rk a (a.size-1))
  (h:∀r st',Like st st'→Fin2 rk a b r→Q r st'):wpS (model prog w) A E s (Js a b) Q st:=by
 have Udn:∀{out i j},Mrh rk a b out i j→i=0∨j=0→Fin2 rk a b (dy a b out i j):=fun m hh=>m.restAB sa sb fun x y _ _=>by omega
 have Ula:∀{out i j},Mrh rk a b out i j→j=1→Fin2 rk a b (dz a b out i j):=fun{out i j} m hh=>m.restBA sa sb fun x y h1 h2=>by
  have hi:=m.hi
  have e1:=sa 0 x (by omega) (by omega)
  have e:y=0:=by omega
  subst e
  omega
 have uAt:∀{i} (hi:i<a.size),U a[i]:=fun hi=>uA _ _ (getElem?_pos a _ hi)
 have uBt:∀{i} (hi:i<b.size),U b[i]:=fun hi=>uB _ _ (getElem?_pos b _ hi)
 have hal:a.size-1<a.size:=by omega
 delta Js
 refine e7 (l9 (jB ⟨rfl,?_⟩))
 refine e7 (AH hal ?_)
 have m0:Mrh rk a b #[] (a.size-1+1) b.size:=by
  have e:a.size-1+1=a.size:=by omega
  rw[e]
  refine⟨by omega,by omega,?_,j4,(fun x hx=>by cases hx),(fun x hx=>by cases hx)⟩
  rw[←fg,←fg,List.drop_length,List.drop_length]
  exact kz.nil
 have m1:Mrh rk a b #[a[a.size-1]] (a.size-1) b.size:=m0.pushA sa hal fun y hy=>by
  have e1:=sb y (b.size-1) (by omega) (by omega)
  rw[←Ai (rk:=rk) hal]
  omega
 dsimp only
 by_cases c1:a.size-1=0
 ·rw[if_pos (beq_iff_eq.mpr c1)]
  exact fb (h _ _ (Like.refl _) (Udn m1 (.inl c1)))
 rw[if_neg (fun q=>c1 (beq_iff_eq.mp q))]
 by_cases c2:b.size=1
 ·rw[if_pos (beq_iff_eq.mpr c2)]
  exact fb (h _ _ (Like.refl _) (Ula m1 c2))
 rw[if_neg (fun q=>c2 (beq_iff_eq.mp q))]
 refine e7 (lz ?_)
 refine e7 (iW (gK (I:=fun x c st'=>Like st st'∧∃out i j mg,c=(none,i,j,out,mg)∧Hh rk a b out i j (x+1))
  (Q:=fun c st'=>Like st st'∧∃r,c.1=some r∧Fin2 rk a b r) ?_ ?_ ⟨Like.refl _,_,_,_,_,rfl,m1,by omega,by omega,by omega⟩) ?_)
 ·rintro x c st1 _ hx ⟨lk,out,i,j,mg,rfl,hd⟩
  dsimp only
  refine e7 (iW (gK (I:=fun _ c st'=>Like st st'∧∃out i j ac bc,c=(none,i,j,out,ac,bc)∧Hh rk a b out i j (x+1))
   (Q:=fun c st'=>Like st st'∧((∃r,c.1=some r∧Fin2 rk a b r)∨∃out i j ac bc,c=(none,i,j,out,ac,bc)∧Hh rk a b out i j (x+1))) ?_ ?_ ⟨lk,_,_,_,_,_,rfl,hd⟩) ?_)
  ·rintro x1 c st2 _ hx1 ⟨lk,out,i,j,ac,bc,rfl,hd⟩
   have hi0:=hd.hi
   have hj0:=hd.hj
   have hin:=hd.hn
   have hia:i-1<a.size:=by have:=hd.m.hi;omega
   have hjb:j-1<b.size:=by have:=hd.m.hj;omega
   have ei:i-1+1=i:=by omega
   have ej:j-1+1=j:=by omega
   have m:=hd.m
   dsimp only
   refine e7 (AH hjb ?_)
   refine e7 (AH hia ?_)
   refine e7 (C _ _ _ _ (lk.kd.trans hk) (uBt hjb) (uAt hia) ?_)
   dsimp only
   by_cases hlt:rk b[j-1]<rk a[i-1]
   ·rw[if_pos (by exact decide_eq_true hlt)]
    rw[←ei] at m
    have m:=m.pushA sa hia fun y h1=>by
     have:=sb y (j-1) (by omega) hjb
     rw[Ai hjb] at this
     omega
    refine e7 (AH hia ?_)
    by_cases c3:i-1=0
    ·rw[if_pos (beq_iff_eq.mpr c3)]
     exact fb ⟨lk,.inl ⟨_,rfl,Udn m (.inl c3)⟩⟩
    rw[if_neg (fun q=>c3 (beq_iff_eq.mp q))]
    have hd':Hh rk a b (out.push a[i-1]) (i-1) j (x+1):=⟨m,by omega,by omega,by omega⟩
    split
    ·exact fb ⟨lk,.inr ⟨_,_,_,_,_,rfl,hd'⟩⟩
    ·exact fb ⟨lk,_,_,_,_,_,rfl,hd'⟩
   ·rw[if_neg (fun q=>hlt (of_decide_eq_true q))]
    rw[←ej] at m
    have m:=m.pushB sb hjb fun y h1=>by
     have:=sa y (i-1) (by omega) hia
     rw[Ai hia] at this
     omega
    refine e7 (AH hjb ?_)
    by_cases c3:j-1=1
    ·rw[if_pos (beq_iff_eq.mpr c3)]
     exact fb ⟨lk,.inl ⟨_,rfl,Ula m c3⟩⟩
    rw[if_neg (fun q=>c3 (beq_iff_eq.mp q))]
    have hd':Hh rk a b (out.push b[j-1]) i (j-1) (x+1):=⟨m,by omega,by omega,by omega⟩
    split
    ·exact fb ⟨lk,.inr ⟨_,_,_,_,_,rfl,hd'⟩⟩
    ·exact fb ⟨lk,_,_,_,_,_,rfl,hd'⟩
  ·rintro c st2 ⟨lk,hh⟩
   exact⟨lk,.inr hh⟩
  rintro c st2 ⟨lk,⟨r,e,f⟩| ⟨out,i,j,ac,bc,rfl,hd⟩⟩
  ·obtain⟨c1,c2⟩:=c
   cases e
   exact fb ⟨lk,_,rfl,f⟩
  dsimp only
  refine e7 (l9 (jB ⟨rfl,?_⟩))
  refine e7 (iW (gK (I:=fun y c st'=>Like st st'∧∃out i j mg ac bc,c=(none,i,j,out,mg,ac,bc)∧Hh rk a b out i j (x+1+y))
   (Q:=fun c st'=>Like st st'∧((∃r,c.1=some r∧Fin2 rk a b r)∨∃out i j mg ac bc,c=(none,i,j,out,mg,ac,bc)∧Hh rk a b out i j (x+1+1))) ?_ ?_ ⟨lk,_,_,_,_,_,_,rfl,hd⟩) ?_)
  ·rintro x1 c st2 _ hx1 ⟨lk,out,i,j,mg,ac,bc,rfl,hd⟩
   have hi0:=hd.hi
   have hj0:=hd.hj
   have hin:=hd.hn
   have hia:=hd.m.hi
   have hjl:=hd.m.hj
   have hjb:j-1<b.size:=by omega
   dsimp only
   refine dite (mg>1) (fun hmg=>?_) (fun hmg=>?_)
   all_goals first|rw[if_pos hmg]|rw[if_neg hmg]
   all_goals
    refine e7 (CY lk fun st3 lk=>?_)
    refine e7 (AH hjb ?_)
    refine e7 (Ar C (lk.kd.trans hk) (uBt hjb) uA (by omega) (by omega) ?_ ?_)
    ·intro p q hpq hq e
     unfold bt at e ⊢
     rw[if_neg e6] at e ⊢
     have e':=of_decide_eq_false (iN _|>.mp e)
     have:=sa (0+p) (0+q) (by omega) (by omega)
     exact(iN _).mpr (decide_eq_false (by omega))
    rintro p ⟨kn,kt,kf⟩
    have kf':∀y,y<p→RK rk a y≤rk b[j-1]:=fun y hy=>by
     have e:=kt y hy
     unfold bt at e
     rw[if_neg e6] at e
     have e':=of_decide_eq_false (iN _|>.mp e)
     rw[j0] at e'
     omega
    have kt':∀x,p≤x→x<i→∀y,y<j→RK rk b y≤RK rk a x:=fun x h1 h2 y h3=>by
     have e:=kf x h1 h2
     unfold bt at e
     rw[if_neg e6] at e
     have e':=of_decide_eq_true (mU _|>.mp e)
     rw[j0] at e'
     have:=sb y (j-1) (by omega) hjb
     rw[Ai hjb] at this
     omega
    have m:=hd.m.appA' sa kn kt'
    dsimp only
    by_cases k0:i-p>0
    ·rw[if_pos k0]
     by_cases c3:p=0
     ·rw[if_pos (beq_iff_eq.mpr c3)]
      exact fb ⟨lk,.inl ⟨_,rfl,Udn m (.inl c3)⟩⟩
     rw[if_neg (fun q=>c3 (beq_iff_eq.mp q))]
     have hI:0<p:=by omega
     have ej:j-1+1=j:=by omega
     rw[←ej] at m
     have m2:=m.pushB sb hjb kf'
     refine e7 (AH hjb ?_)
     by_cases c5:j-1=1
     ·rw[if_pos (beq_iff_eq.mpr c5)]
      exact fb ⟨lk,.inl ⟨_,rfl,Ula m2 (by omega)⟩⟩
     rw[if_neg (fun q=>c5 (beq_iff_eq.mp q))]
     have hI1:p-1<a.size:=by omega
     refine e7 (AH hI1 ?_)
     refine e7 (Ar C (lk.kd.trans hk) (uAt hI1) uB (by omega) (by omega) ?_ ?_)
     ·intro p q hpq hq e
      unfold bt at e ⊢
      rw[if_pos rfl] at e ⊢
      have e':=of_decide_eq_true e
      have:=sb (0+p) (0+q) (by omega) (by omega)
      exact decide_eq_true (by omega)
     rintro q ⟨k2n,k2t,k2f⟩
     have k2t':∀y,y<q→RK rk b y≤rk (a[p-1]'hI1):=fun y hx=>by
      have e:=k2t y hx
      unfold bt at e
      rw[if_pos rfl] at e
      have e':=of_decide_eq_true e
      rw[j0] at e'
      omega
     have k2f':∀x,q≤x→x<j-1→∀y,y<p→RK rk a y≤RK rk b x:=fun x h1 h2 y h3=>by
      have e:=k2f x h1 h2
      unfold bt at e
      rw[if_pos rfl] at e
      have e':=of_decide_eq_false e
      rw[j0] at e'
      have:=sa y (p-1) (by omega) hI1
      rw[Ai hI1] at this
      omega
     have eI:p-1+1=p:=by omega
     dsimp only
     by_cases k20:j-1-q>0
     ·rw[if_pos k20]
      have m3:=m2.appB' sb k2n k2f'
      by_cases c6:q=1
      ·rw[if_pos (beq_iff_eq.mpr c6)]
       exact fb ⟨lk,.inl ⟨_,rfl,Ula m3 (by omega)⟩⟩
      rw[if_neg (fun q=>c6 (beq_iff_eq.mp q))]
      by_cases c8:q=0
      ·rw[if_pos (beq_iff_eq.mpr c8)]
       exact fb ⟨lk,.inl ⟨_,rfl,Udn m3 (.inr c8)⟩⟩
      rw[if_neg (fun q=>c8 (beq_iff_eq.mp q))]
      have m4:=m3.pushA1 sa hI hI1 k2t'
      refine e7 (AH hI1 ?_)
      by_cases c7:p-1=0
      ·rw[if_pos (beq_iff_eq.mpr c7)]
       exact fb ⟨lk,.inl ⟨_,rfl,Udn m4 (.inl c7)⟩⟩
      rw[if_neg (fun q=>c7 (beq_iff_eq.mp q))]
      split
      ·exact fb ⟨lk,.inr ⟨_,_,_,_,_,_,rfl,m4,by omega,by omega,by omega⟩⟩
      ·exact fb ⟨lk,_,_,_,_,_,_,rfl,m4,by omega,by omega,by omega⟩
     ·rw[if_neg k20]
      have e2:q=j-1:=by omega
      rw[e2] at k2t'
      have m4:=m2.pushA1 sa hI hI1 k2t'
      refine e7 (AH hI1 ?_)
      by_cases c7:p-1=0
      ·rw[if_pos (beq_iff_eq.mpr c7)]
       exact fb ⟨lk,.inl ⟨_,rfl,Udn m4 (.inl c7)⟩⟩
      rw[if_neg (fun q=>c7 (beq_iff_eq.mp q))]
      split
      ·exact fb ⟨lk,.inr ⟨_,_,_,_,_,_,rfl,m4,by omega,by omega,by omega⟩⟩
      ·exact fb ⟨lk,_,_,_,_,_,_,rfl,m4,by omega,by omega,by omega⟩
    ·rw[if_neg k0]
     have e0:p=i:=by omega
     rw[e0] at kf'
     clear m
     have m:=hd.m
     have hI:=hi0
     have ej:j-1+1=j:=by omega
     rw[←ej] at m
     have m2:=m.pushB sb hjb kf'
     refine e7 (AH hjb ?_)
     by_cases c5:j-1=1
     ·rw[if_pos (beq_iff_eq.mpr c5)]
      exact fb ⟨lk,.inl ⟨_,rfl,Ula m2 (by omega)⟩⟩
     rw[if_neg (fun q=>c5 (beq_iff_eq.mp q))]
     have hI1:i-1<a.size:=by omega
     refine e7 (AH hI1 ?_)
     refine e7 (Ar C (lk.kd.trans hk) (uAt hI1) uB (by omega) (by omega) ?_ ?_)
     ·intro p q hpq hq e
      unfold bt at e ⊢
      rw[if_pos rfl] at e ⊢
      have e':=of_decide_eq_true e
      have:=sb (0+p) (0+q) (by omega) (by omega)
      exact decide_eq_true (by omega)
     rintro q ⟨k2n,k2t,k2f⟩
     have k2t':∀y,y<q→RK rk b y≤rk (a[i-1]'hI1):=fun y hx=>by
      have e:=k2t y hx
      unfold bt at e
      rw[if_pos rfl] at e
      have e':=of_decide_eq_true e
      rw[j0] at e'
      omega
     have k2f':∀x,q≤x→x<j-1→∀y,y<i→RK rk a y≤RK rk b x:=fun x h1 h2 y h3=>by
      have e:=k2f x h1 h2
      unfold bt at e
      rw[if_pos rfl] at e
      have e':=of_decide_eq_false e
      rw[j0] at e'
      have:=sa y (i-1) (by omega) hI1
      rw[Ai hI1] at this
      omega
     have eI:i-1+1=i:=by omega
     dsimp only
     by_cases k20:j-1-q>0
     ·rw[if_pos k20]
      have m3:=m2.appB' sb k2n k2f'
      by_cases c6:q=1
      ·rw[if_pos (beq_iff_eq.mpr c6)]
       exact fb ⟨lk,.inl ⟨_,rfl,Ula m3 (by omega)⟩⟩
      rw[if_neg (fun q=>c6 (beq_iff_eq.mp q))]
      by_cases c8:q=0
      ·rw[if_pos (beq_iff_eq.mpr c8)]
       exact fb ⟨lk,.inl ⟨_,rfl,Udn m3 (.inr c8)⟩⟩
      rw[if_neg (fun q=>c8 (beq_iff_eq.mp q))]
      have m4:=m3.pushA1 sa hI hI1 k2t'
      refine e7 (AH hI1 ?_)
      by_cases c7:i-1=0
      ·rw[if_pos (beq_iff_eq.mpr c7)]
       exact fb ⟨lk,.inl ⟨_,rfl,Udn m4 (.inl c7)⟩⟩
      rw[if_neg (fun q=>c7 (beq_iff_eq.mp q))]
      split
      ·exact fb ⟨lk,.inr ⟨_,_,_,_,_,_,rfl,m4,by omega,by omega,by omega⟩⟩
      ·exact fb ⟨lk,_,_,_,_,_,_,rfl,m4,by omega,by omega,by omega⟩
     ·rw[if_neg k20]
      have e2:q=j-1:=by omega
      rw[e2] at k2t'
      have m4:=m2.pushA1 sa hI hI1 k2t'
      refine e7 (AH hI1 ?_)
      by_cases c7:i-1=0
      ·rw[if_pos (beq_iff_eq.mpr c7)]
       exact fb ⟨lk,.inl ⟨_,rfl,Udn m4 (.inl c7)⟩⟩
      rw[if_neg (fun q=>c7 (beq_iff_eq.mp q))]
      split
      ·exact fb ⟨lk,.inr ⟨_,_,_,_,_,_,rfl,m4,by omega,by omega,by omega⟩⟩
      ·exact fb ⟨lk,_,_,_,_,_,_,rfl,m4,by omega,by omega,by omega⟩
  ·rintro c st2 ⟨lk,out,i,j,mg,ac,bc,rfl,hd⟩
   have e:max 0 (a.size+b.size)=a.size+b.size:=by omega
   rw[e] at hd
   exact⟨lk,.inr ⟨_,_,_,_,_,_,rfl,hd.m,hd.hi,hd.hj,by have:=hd.hn;omega⟩⟩
  rintro c st2 ⟨lk,⟨r,e,f⟩| ⟨out,i,j,mg,ac,bc,rfl,hd⟩⟩
  ·obtain⟨c1,c2⟩:=c
   cases e
   exact fb ⟨lk,_,rfl,f⟩
  dsimp only
  refine e7 (CY lk fun st3 lk=>?_)
  exact fb ⟨lk,_,_,_,_,rfl,hd⟩
 ·rintro c st1 ⟨lk,out,i,j,mg,rfl,hd⟩
  have e:max 0 (a.size+b.size)=a.size+b.size:=by omega
  rw[e] at hd
  have:=hd.hn
  have:=hd.hi
  have:=hd.hj
  omega
 ·rintro c st1 ⟨lk,r,e,f⟩
  obtain⟨c1,c2⟩:=c
  cases e
  exact fb (h _ _ lk f)
end SrtG
namespace SrtG
local macro_rules | `(tactic| omega) => `(tactic| first | lia | omega)
open PySem PyProof.Rows
variable{rk:Keyed→Int}
def Seg(rk:Keyed→Int)(arr:Array Keyed)(lo hi:Nat):Prop:=∀x y,lo≤x→x≤y→y<hi→RK rk arr x≤RK rk arr y
structure Upd(rk:Keyed→Int)(arr arr':Array Keyed)(lo hi:Nat):Prop where
 perm:arr'.toList.Perm arr.toList
 out:∀x,x<lo∨hi≤x→arr'[x]?=arr[x]?
 seg:Seg rk arr' lo hi
theorem Bt{arr arr':Array Keyed}{x:Nat}(h:arr'[x]?=arr[x]?):RK rk arr' x=RK rk arr x:=by unfold RK;rw[h]
abbrev back(l:List (Keyed×Nat))(lo:Nat)(arr:Array Keyed):Array Keyed:=l.foldl (fun a (p,j)=>a.setIfInBounds (lo+j) p) arr
theorem Fq(lo:Nat):∀(l:List Keyed) (n:Nat) (arr:Array Keyed),lo+n+l.length≤arr.size→∀x,(back (l.zipIdx n) lo arr)[x]?=if lo+n≤x∧x<lo+n+l.length then l[x- (lo+n)]? else arr[x]?
 | [],n,arr,_,x=>by
  rw[if_neg (by rintro⟨h1,h2⟩;simp only[iQ] at h2;omega)]
  rfl
 |p::l,n,arr,h,x=>by
  rw[fu] at h
  have e:back ((p::l).zipIdx n) lo arr=back (l.zipIdx (n+1)) lo (arr.setIfInBounds (lo+n) p):=by rw[nH];rfl
  rw[e,Fq lo l (n+1) _ (by rw[Array.size_setIfInBounds];omega) x,fu]
  by_cases c:lo+(n+1)≤x∧x<lo+(n+1)+l.length
  ·rw[if_pos c,if_pos (by omega)]
   have e2:x- (lo+n)=(x- (lo+(n+1)))+1:=by omega
   rw[e2,ku]
  ·rw[if_neg c,Array.getElem?_setIfInBounds]
   by_cases c2:lo+n=x
   ·rw[if_pos c2,if_pos (by omega),if_pos (by omega)]
    have e2:x- (lo+n)=0:=by omega
    rw[e2];rfl
   ·rw[if_neg c2,if_neg (by omega)]
theorem OM{arr:Array Keyed}{l:List Keyed}{lo:Nat}(h:lo+l.length≤arr.size):(back l.zipIdx lo arr).toList=arr.toList.take lo++l++arr.toList.drop (lo+l.length):=by
 apply i7
 intro x
 rw[fT,Fq lo l 0 arr (by omega) x]
 have hlen:arr.toList.length=arr.size:=fg
 by_cases c1:x<lo
 ·rw[if_neg (by omega),i8,gz (by rw[gD];omega),mS,if_pos c1,fT]
 ·by_cases c2:x<lo+l.length
  ·rw[if_pos (by omega),gz (by rw[fE,gD];omega),fR (by rw[gD];omega),gD]
   have e:min lo arr.toList.length=lo:=by omega
   rw[e]
   rfl
  ·rw[if_neg (by omega),fR (by rw[fE,gD];omega),jd,fE,gD]
   have e:lo+l.length+(x- (min lo arr.toList.length+l.length))=x:=by omega
   rw[e,fT]
theorem Pn{arr merged:Array Keyed}{lo hi s0 e0:Nat}(hhi:lo≤hi)(hs:s0≤lo)(he:hi≤e0)(hz:e0≤arr.size)(perm:merged.toList.Perm (arr.extract lo hi).toList)(srt:merged.toList.Pairwise fun x y=>rk x≤rk y)
  (hL:∀x z,s0≤x→x<lo→x≤z→z<e0→RK rk arr x≤RK rk arr z) (hR:∀z y,s0≤z→z≤y→hi≤y→y<e0→RK rk arr z≤RK rk arr y):Upd rk arr (back merged.toList.zipIdx lo arr) s0 e0:=by
 have hx:(arr.extract lo hi).toList=(arr.toList.drop lo).take (hi-lo):=by rw[gW,gB]
 have hlenA:arr.toList.length=arr.size:=fg
 have hlen:merged.toList.length=hi-lo:=by
  rw[perm.length_eq,hx,gD,kr]
  omega
 have hfit:lo+merged.toList.length≤arr.size:=by omega
 have hget:=Fq lo merged.toList 0 arr (by omega)
 have hmid:∀m,m∈merged.toList→∃z,lo≤z∧z<hi∧rk m=RK rk arr z:=fun m hm=>by
  have hm':=perm.mem_iff.mp hm
  rw[hx] at hm'
  obtain⟨i,hi'⟩:=List.mem_iff_getElem?.mp hm'
  rw[mS] at hi'
  split at hi'
  ·rename_i hlt
   rw[jd,fT] at hi'
   exact⟨lo+i,by omega,by omega,by unfold RK;rw[hi']⟩
  ·cases hi'
 have hRK:∀x,lo≤x→x<hi→∃m,m∈merged.toList∧merged.toList[x-lo]?=some m∧RK rk (back merged.toList.zipIdx lo arr) x=rk m:=fun x h1 h2=>by
  have hl:x-lo<merged.toList.length:=by omega
  refine⟨_,iB hl,fz hl,?_⟩
  unfold RK
  rw[hget x,if_pos (by omega)]
  have e:x- (lo+0)=x-lo:=by omega
  rw[e,fz hl]
 have hout:∀x,x<lo∨hi≤x→(back merged.toList.zipIdx lo arr)[x]?=arr[x]?:=fun x h=>by
  rw[hget x,if_neg (by omega)]
 refine⟨?_,fun x h=>hout x (by omega),?_⟩
 ·rw[OM hfit]
  have e:arr.toList=arr.toList.take lo++((arr.toList.drop lo).take (hi-lo))++arr.toList.drop (lo+merged.toList.length):=by
   rw[i8]
   have e2:lo+merged.toList.length=lo+(hi-lo):=by omega
   rw[e2,←List.drop_drop,ja,ja]
  rw[hx] at perm
  have:=(perm.append_left (arr.toList.take lo)).append_right (arr.toList.drop (lo+merged.toList.length))
  rw[←e] at this
  exact this
 ·intro x y h1 h2 h3
  by_cases cx:x<lo
  ·rw[Bt (hout x (.inl cx))]
   by_cases cy:lo≤y∧y<hi
   ·obtain⟨m,hm,_,e⟩:=hRK y cy.1 cy.2
    obtain⟨z,z1,z2,ez⟩:=hmid m hm
    rw[e,ez]
    exact hL x z h1 cx (by omega) (by omega)
   ·rw[Bt (hout y (by omega))]
    exact hL x y h1 cx h2 h3
  ·by_cases cx2:x<hi
   ·obtain⟨m,hm,hm2,e⟩:=hRK x (by omega) cx2
    rw[e]
    by_cases cy:y<hi
    ·obtain⟨m',hm',hm2',e'⟩:=hRK y (by omega) cy
     rw[e']
     by_cases exy:x=y
     ·subst exy
      rw[hm2] at hm2'
      cases hm2'
      exact jz _
     ·have hl:y-lo<merged.toList.length:=by omega
      have hl':x-lo<merged.toList.length:=by omega
      have:=gR.mp srt (x-lo) (y-lo) hl' hl (by omega)
      rw[fz hl'] at hm2
      rw[fz hl] at hm2'
      cases hm2
      cases hm2'
      exact this
    ·rw[Bt (hout y (by omega))]
     obtain⟨z,z1,z2,ez⟩:=hmid m hm
     rw[ez]
     exact hR z y (by omega) (by omega) (by omega) h3
   ·rw[Bt (hout x (by omega)),Bt (hout y (by omega))]
    exact hR x y h1 h2 (by omega) h3
end SrtG
namespace SrtG
local macro_rules | `(tactic| omega) => `(tactic| first | lia | omega)
open PySem PyProof.Rows
variable{rk:Keyed→Int}
theorem FH{arr:Array Keyed}{l h:Nat}(hh:h≤arr.size):(arr.extract l h).size=h-l:=by rw[Array.size_extract];omega
theorem Po{arr:Array Keyed}{l h x:Nat}(hx:x<h-l)(hh:h≤arr.size):(arr.extract l h)[x]?=arr[l+x]?:=by
 rw[←fT,gW,gB,mS,if_pos hx,jd,fT]
theorem HN{arr:Array Keyed}{l h x:Nat}(hx:x<h-l)(hh:h≤arr.size):RK rk (arr.extract l h) x=RK rk arr (l+x):=by unfold RK;rw[Po hx hh]
theorem AllU.ex{U:Keyed→Prop}{arr:Array Keyed}{l h:Nat}(u:AllU U arr)(hh:h≤arr.size):AllU U (arr.extract l h):=fun i p e=>by
 have hi:i< (arr.extract l h).size:=by
  apply iY
  intro hn
  rw[Array.getElem?_eq_none (lZ hn)] at e
  cases e
 rw[FH hh] at hi
 rw[Po hi hh] at e
 exact u _ _ e
theorem Seg.ex{arr:Array Keyed}{l h:Nat}(sg:Seg rk arr l h)(hh:h≤arr.size):EY rk (arr.extract l h):=fun i j hij hj=>by
 rw[FH hh] at hj
 rw[HN (by omega) hh,HN hj hh]
 exact sg _ _ (by omega) (by omega) (by omega)
section
variable{prog:Program}{w:World}{A:fG}{E:Value→a9→Prop}{s:a9}{kd:jG}{U:Keyed→Prop}
theorem TC{st st':gq}{Q:PUnit→gq→Prop}(h:Q ⟨⟩ st'):wpS (model prog w) A E s (set st':StateT gq Sem PUnit) Q st:=by
 unfold wpS;rw[StateT.run_set];exact b6 ⟨rfl,h⟩
theorem Ju{i sa na pa sb nb pb:Nat}{st:gq}{Q:Bool→gq→Prop}(C:OL prog w A E s kd U rk)(hk:kindOf st=kd)(hU:AllU U (arrOf st))(hf:jN st=none)
  (h1:(pendingOf st)[i]?=some (sa,na,pa)) (h2:(pendingOf st)[i+1]?=some (sb,nb,pb)) (hsb:sb=sa+na) (hna:0<na) (hnb:0<nb) (hsz:sb+nb≤(arrOf st).size) (S1:Seg rk (arrOf st) sa sb) (S2:Seg rk (arrOf st) sb (sb+nb))
  (h:∀st',kindOf st'=kd→jN st'=none→pendingOf st'=((pendingOf st).setIfInBounds i (sa,na+nb,pa)).eraseIdxIfInBounds (i+1)→Upd rk (arrOf st) (arrOf st') sa (sb+nb)→Q true st'):
  wpS (model prog w) A E s (mergeAt' i) Q st:=by
 delta mergeAt'
 refine e7 (lz ?_)
 rw[h1,h2]
 dsimp only
 refine e7 (TC ?_)
 have hsbz:sb< (arrOf st).size:=by omega
 have uAt:∀{i} (hi:i< (arrOf st).size),U (arrOf st)[i]:=fun hi=>hU _ _ (getElem?_pos (arrOf st) _ hi)
 refine e7 (AH (arr:=arrOf st) hsbz ?_)
 refine e7 (Ar (arr:=arrOf st) C hk (uAt hsbz) hU (by omega) hna ?_ ?_)
 ·intro p q hpq hq e
  unfold bt at e ⊢
  rw[if_neg e6] at e ⊢
  have e':=of_decide_eq_false (iN _|>.mp e)
  have:=S1 (sa+p) (sa+q) (by omega) (by omega) (by omega)
  exact(iN _).mpr (decide_eq_false (by omega))
 rintro k ⟨kn,kt,kf⟩
 have kt':∀x,sa≤x→x<sa+k→RK rk (arrOf st) x≤RK rk (arrOf st) sb:=fun x hx1 hx=>by
  have e:=kt (x-sa) (by omega)
  unfold bt at e
  rw[if_neg e6] at e
  have e':=of_decide_eq_false (iN _|>.mp e)
  have ex:sa+(x-sa)=x:=by omega
  rw[ex] at e'
  rw[Ai hsbz]
  omega
 have kf':∀x,sa+k≤x→x<sb→RK rk (arrOf st) sb<RK rk (arrOf st) x:=fun x hx1 hx=>by
  have e:=kf (x-sa) (by omega) (by omega)
  unfold bt at e
  rw[if_neg e6] at e
  have e':=of_decide_eq_true (mU _|>.mp e)
  have ex:sa+(x-sa)=x:=by omega
  rw[ex] at e'
  rw[Ai hsbz]
  omega
 dsimp only
 by_cases c1:na-k=0
 ·rw[if_pos (beq_iff_eq.mpr c1)]
  refine fb (h _ hk hf rfl ⟨kz.refl _,fun _ _=>rfl,fun x y hx1 hx2 hx3=>?_⟩)
  by_cases cy:y<sb
  ·exact S1 x y hx1 hx2 cy
  ·by_cases cx:x<sb
   ·have e1:=kt' x hx1 (by omega)
    have e2:=S2 sb y (by omega) (by omega) hx3
    exact jK e1 e2
   ·exact S2 x y (by omega) hx2 hx3
 rw[if_neg (fun q=>c1 (beq_iff_eq.mp q))]
 have el:sa+k+(na-k)-1=sb-1:=by omega
 rw[el]
 have hlz:sb-1< (arrOf st).size:=by omega
 refine e7 (AH (arr:=arrOf st) hlz ?_)
 refine e7 (Ar (arr:=arrOf st) C hk (uAt hlz) hU (by omega) (by omega) ?_ ?_)
 ·intro p q hpq hq e
  unfold bt at e ⊢
  rw[if_pos rfl] at e ⊢
  have e':=of_decide_eq_true e
  have:=S2 (sb+p) (sb+q) (by omega) (by omega) (by omega)
  exact decide_eq_true (by omega)
 rintro n2 ⟨nn,nt,nf⟩
 have nt':∀x,sb≤x→x<sb+n2→RK rk (arrOf st) x<RK rk (arrOf st) (sb-1):=fun x hx1 hx=>by
  have e:=nt (x-sb) (by omega)
  unfold bt at e
  rw[if_pos rfl] at e
  have e':=of_decide_eq_true e
  have ex:sb+(x-sb)=x:=by omega
  rw[ex] at e'
  rw[Ai hlz]
  omega
 have nf':∀x,sb+n2≤x→x<sb+nb→RK rk (arrOf st) (sb-1)≤RK rk (arrOf st) x:=fun x hx1 hx=>by
  have e:=nf (x-sb) (by omega) (by omega)
  unfold bt at e
  rw[if_pos rfl] at e
  have e':=of_decide_eq_false e
  have ex:sb+(x-sb)=x:=by omega
  rw[ex] at e'
  rw[Ai hlz]
  omega
 dsimp only
 have hlast:=kf' (sb-1) (by omega) (by omega)
 by_cases c2:n2=0
 ·have:=nf' sb (by omega) (by omega)
  omega
 rw[if_neg (fun q=>c2 (beq_iff_eq.mp q))]
 have hy:sb+n2≤(arrOf st).size:=by omega
 have hx':sb≤(arrOf st).size:=by omega
 have sA:EY rk ((arrOf st).extract (sa+k) sb):=Seg.ex (fun x y q1 q2 q3=>S1 x y (by omega) q2 q3) hx'
 have sB:EY rk ((arrOf st).extract sb (sb+n2)):=Seg.ex (fun x y q1 q2 q3=>S2 x y q1 q2 (by omega)) hy
 have zA:((arrOf st).extract (sa+k) sb).size=sb- (sa+k):=FH hx'
 have zB:((arrOf st).extract sb (sb+n2)).size=sb+n2-sb:=FH hy
 have q0:RK rk ((arrOf st).extract sb (sb+n2)) 0≤RK rk ((arrOf st).extract (sa+k) sb) 0:=by
  rw[HN (by omega) hy,HN (by omega) hx']
  have:=kf' (sa+k+0) (by omega) (by omega)
  exact iT this
 have q1:RK rk ((arrOf st).extract sb (sb+n2)) (((arrOf st).extract sb (sb+n2)).size-1)≤RK rk ((arrOf st).extract (sa+k) sb) (((arrOf st).extract (sa+k) sb).size-1):=by
  rw[zA,zB,HN (by omega) hy,HN (by omega) hx']
  have:=nt' (sb+(sb+n2-sb-1)) (by omega) (by omega)
  have e:sa+k+(sb- (sa+k)-1)=sb-1:=by omega
  rw[e]
  exact iT this
 have fin:∀r (st':gq),Like (mJ st (((pendingOf st).setIfInBounds i (sa,na+nb,pa)).eraseIdxIfInBounds (i+1))) st'→Fin2 rk ((arrOf st).extract (sa+k) sb) ((arrOf st).extract sb (sb+n2)) r→
   wpS (model prog w) A E s (do
    modify fun z=>setArr z (back r.toList.zipIdx (sa+k) (arrOf z))
    return(jN (←get)).isNone) Q st':=fun r st' lk f=>by
  refine e7 (kA ?_)
  refine e7 (lz ?_)
  have e:(jN st').isNone=true:=by rw[lk.fl];show(jN st).isNone=true;rw[hf];rfl
  show wpS _ _ _ _ (pure ((jN st').isNone)) _ _
  rw[e]
  refine fb (h _ (lk.kd.trans hk) (lk.fl.trans hf) lk.pd ?_)
  have ea:arrOf st'=arrOf st:=lk.arr
  show Upd rk (arrOf st) (back r.toList.zipIdx (sa+k) (arrOf st')) sa (sb+nb)
  rw[ea]
  refine Pn (hi:=sb+n2) (by omega) (by omega) (by omega) hsz ?_ f.srt ?_ ?_
  ·have e2:((arrOf st).extract (sa+k) (sb+n2)).toList=((arrOf st).extract (sa+k) sb).toList++((arrOf st).extract sb (sb+n2)).toList:=by
    rw[gW,gW,gW,gB,gB,gB]
    have e3:sb+n2- (sa+k)=(sb- (sa+k))+(sb+n2-sb):=by omega
    rw[e3,List.take_add,List.drop_drop]
    have e4:sa+k+(sb- (sa+k))=sb:=by omega
    rw[e4]
   rw[e2]
   exact f.perm
  ·intro x z hx1 hx2 hx3 hx4
   by_cases cz:z<sb
   ·exact S1 x z hx1 hx3 cz
   ·have e1:=kt' x hx1 hx2
    have e2:=S2 sb z (by omega) (by omega) hx4
    exact jK e1 e2
  ·intro z y hx1 hx2 hx3 hx4
   by_cases cz:z<sb
   ·have e1:=S1 z (sb-1) hx1 (by omega) (by omega)
    exact jK e1 (nf' y hx3 hx4)
   ·exact S2 z y (by omega) hx2 hx4
 by_cases c3:na-k≤n2
 ·rw[if_pos c3]
  exact e7 (Jr (a:=(arrOf st).extract (sa+k) sb) (b:=(arrOf st).extract sb (sb+n2)) C hk (hU.ex hx') (hU.ex hy) sA sB (by omega) (by omega) q0 q1 fin)
 ·rw[if_neg c3]
  exact e7 (Jt (a:=(arrOf st).extract (sa+k) sb) (b:=(arrOf st).extract sb (sb+n2)) C hk (hU.ex hx') (hU.ex hy) sA sB (by omega) (by omega) q0 q1 fin)
end
end SrtG
namespace SrtG
open PySem PyProof.Rows
variable{rk:Keyed→Int}
structure Kp(st0 st:gq)(lo hi:Nat):Prop where
 kd:kindOf st=kindOf st0
 pd:pendingOf st=pendingOf st0
 fl:jN st=jN st0
 perm:(arrOf st).toList.Perm (arrOf st0).toList
 out:∀x,x<lo∨hi≤x→(arrOf st)[x]?=(arrOf st0)[x]?
theorem Kp.refl(st:gq)(lo hi:Nat):Kp st st lo hi:=⟨rfl,rfl,rfl,kz.refl _,fun _ _=>rfl⟩
theorem Kp.size{st0 st:gq}{lo hi:Nat}(k:Kp st0 st lo hi):(arrOf st).size=(arrOf st0).size:=by
 rw[←fg,←fg];exact k.perm.length_eq
theorem AllU.of_perm{U:Keyed→Prop}{a b:Array Keyed}(u:AllU U a)(p:b.toList.Perm a.toList):AllU U b:=fun i q e=>by
 have hm:q∈b.toList:=by rw[←fT] at e;exact fk e
 have hm':=p.mem_iff.mp hm
 obtain⟨j,hj⟩:=List.mem_iff_getElem?.mp hm'
 rw[fT] at hj
 exact u j q hj
theorem Kp.setA{st0 st:gq}{lo hi:Nat}(k:Kp st0 st lo hi){xs:Array Keyed}(hp:xs.toList.Perm (arrOf st).toList)(ho:∀x,x<lo∨hi≤x→xs[x]?=(arrOf st)[x]?):Kp st0 (setArr st xs) lo hi:=
 ⟨k.kd,k.pd,k.fl,hp.trans k.perm,fun x hx=> (ho x hx).trans (k.out x hx)⟩
theorem Cv{xs ys:Array Keyed}{i j:Nat}(h:xs[i]?=ys[j]?):RK rk xs i=RK rk ys j:=by unfold RK;rw[h]
theorem HP{xs:Array Keyed}{src d:Nat}(hs:src<xs.size)(hd:d≤src)(k:Nat):RK rk (bubble xs src d) k=if k=src-d then RK rk xs src else if src-d<k∧k≤src then RK rk xs (k-1) else RK rk xs k:=by
 have e:=getElem?_bubble hs d hd k
 by_cases c1:k=src-d
 ·rw[if_pos c1] at e ⊢;exact Cv e
 ·rw[if_neg c1] at e ⊢
  by_cases c2:src-d<k∧k≤src
  ·rw[if_pos c2] at e ⊢;exact Cv e
  ·rw[if_neg c2] at e ⊢;exact Cv e
section
variable{prog:Program}{w:World}{A:fG}{E:Value→a9→Prop}{s:a9}{kd:jG}{U:Keyed→Prop}
theorem BA{st:gq}{i j:Nat}{Q:Option Bool→gq→Prop}(C:OL prog w A E s kd U rk)(hk:kindOf st=kd)(hU:AllU U (arrOf st))(hi:i< (arrOf st).size)(hj:j< (arrOf st).size)
  (h:Q (some (decide (RK rk (arrOf st) i<RK rk (arrOf st) j))) st):wpS (model prog w) A E s (ltAt' i j) Q st:=by
 rw[ltAt'_eq]
 refine e7 (lz ?_)
 refine e7 (AH hi ?_)
 refine e7 (AH hj ?_)
 rw[Ai hi,Ai hj] at h
 exact C _ _ _ _ hk (hU _ _ (getElem?_pos (arrOf st) _ hi)) (hU _ _ (getElem?_pos (arrOf st) _ hj)) h
theorem Lc{st:gq}{lo n ok:Nat}{Q:Bool→gq→Prop}(C:OL prog w A E s kd U rk)(hk:kindOf st=kd)(hU:AllU U (arrOf st))(hn:lo+n≤(arrOf st).size)(hok:ok≤n)(hs:Seg rk (arrOf st) lo (lo+ok))
  (h:∀st',Kp st st' lo (lo+n)→Seg rk (arrOf st') lo (lo+n)→Q true st'):wpS (model prog w) A E s (binarySort' lo n ok) Q st:=by
 rw[binarySort'_eq]
 refine e7 (iW (gK (I:=fun k c st'=>c=(none,())∧Kp st st' lo (lo+n)∧Seg rk (arrOf st') lo (lo+min k n))
  (Q:=fun c st'=>c=(none,())∧Kp st st' lo (lo+n)∧Seg rk (arrOf st') lo (lo+n)) ?step ?fin ?init) ?post)
 case post=>
  rintro c st' ⟨rfl,hB',hs'⟩
  exact fb (h st' hB' hs')
 case init=>
  refine⟨rfl,Kp.refl _ _ _,fun i j hi hij hj=>?_⟩
  by_cases c1:ok=0
  ·have:i=j:=by omega
   subst this;exact jz _
  ·exact hs i j hi hij (by omega)
 case fin=>
  rintro c st' ⟨hc,hB',hs'⟩
  refine⟨hc,hB',?_⟩
  have e:min (max (max ok 1) n) n=n:=by omega
  rwa[e] at hs'
 case step=>
  rintro k c st' hak hkn ⟨rfl,hB',hs'⟩
  have e:min k n=k:=by omega
  rw[e] at hs'
  have hz:=hB'.size
  have hks:lo+k< (arrOf st').size:=by omega
  have hU':=hU.of_perm hB'.perm
  refine e7 (iW (gK (I:=fun x c st''=>st''=st'∧∃l r,c=(none,l,r)∧l≤r∧r≤k∧r-l≤k-x∧
    (∀i,i<l→RK rk (arrOf st') (lo+i)≤RK rk (arrOf st') (lo+k))∧(∀i,r≤i→i<k→RK rk (arrOf st') (lo+k)<RK rk (arrOf st') (lo+i)))
   (Q:=fun c st''=>st''=st'∧∃l r,c=(none,l,r)∧l≤k∧
    (∀i,i<l→RK rk (arrOf st') (lo+i)≤RK rk (arrOf st') (lo+k))∧(∀i,l≤i→i<k→RK rk (arrOf st') (lo+k)<RK rk (arrOf st') (lo+i))) ?istep ?ifin ?iinit) ?ipost)
  case iinit=>exact⟨rfl,0,k,rfl,by omega,by omega,by omega,fun i hi=>by omega,fun i h1 h2=>by omega⟩
  case ifin=>
   rintro c st'' ⟨rfl,l,r,rfl,hlr,hrk,hm,hlo,hhi⟩
   have:l=r:=by omega
   subst this
   exact⟨rfl,l,l,rfl,hrk,hlo,hhi⟩
  case istep=>
   rintro x c st'' _ hxk ⟨rfl,l,r,rfl,hlr,hrk,hm,hlo,hhi⟩
   dsimp only
   by_cases hge:l≥r
   ·rw[if_pos hge]
    have:l=r:=by omega
    subst this
    exact fb ⟨rfl,l,l,rfl,hrk,hlo,hhi⟩
   ·rw[if_neg hge]
    refine e7 (BA C (hB'.kd.trans hk) hU' hks (by omega) ?_)
    dsimp only
    by_cases hless:RK rk (arrOf st'') (lo+k)<RK rk (arrOf st'') (lo+(l+r)/2)
    ·rw[if_pos (decide_eq_true hless)]
     refine fb ⟨rfl,l,(l+r)/2,rfl,by omega,by omega,by omega,hlo,fun i q1 q2=>?_⟩
     exact Int.lt_of_lt_of_le hless (hs' _ _ (by omega) (by omega) (by omega))
    ·rw[if_neg (fun q=>hless (of_decide_eq_true q))]
     refine fb ⟨rfl,(l+r)/2+1,r,rfl,by omega,by omega,by omega,fun i q1=>?_,hhi⟩
     exact jK (hs' (lo+i) (lo+(l+r)/2) (by omega) (by omega) (by omega)) (Int.not_lt.mp hless)
  case ipost=>
   rintro c st'' ⟨rfl,l,r,rfl,hlk,hlo,hhi⟩
   show wpS _ _ _ _ (do moveDown' (lo+k) (lo+l);pure (jq (none,()))) _ _
   rw[moveDown'_eq]
   have ed:lo+k- (lo+l)=k-l:=by omega
   refine e7 (kA (fb ⟨rfl,hB'.setA (Array.perm_iff_toList_perm.mp (bubble_perm _ _ _)) ?_,?_⟩))
   ·intro x hx
    rw[ed,getElem?_bubble hks _ (by omega),if_neg (by omega),if_neg (by omega)]
   have e2:lo+min (k+1) n=lo+k+1:=by omega
   rw[e2]
   intro i j hi hij hj
   show RK rk (bubble (arrOf st'') (lo+k) (lo+k- (lo+l))) i≤RK rk (bubble (arrOf st'') (lo+k) (lo+k- (lo+l))) j
   rw[ed,HP hks (by omega),HP hks (by omega)]
   have e3:lo+k- (k-l)=lo+l:=by omega
   rw[e3]
   have hlo':∀i,lo≤i→i<lo+l→RK rk (arrOf st'') i≤RK rk (arrOf st'') (lo+k):=fun i q1 q2=>by
    have:=hlo (i-lo) (by omega)
    have e4:lo+(i-lo)=i:=by omega
    rwa[e4] at this
   have hhi':∀i,lo+l≤i→i<lo+k→RK rk (arrOf st'') (lo+k)≤RK rk (arrOf st'') i:=fun i q1 q2=>by
    have:=hhi (i-lo) (by omega) (by omega)
    have e4:lo+(i-lo)=i:=by omega
    rw[e4] at this
    exact iT this
   repeat' split
   all_goals first
    | (exfalso;omega)
    |exact jz _
    |exact hlo' _ (by omega) (by omega)
    |exact hhi' _ (by omega) (by omega)
    |exact hs' _ _ (by omega) (by omega) (by omega)
end
local macro_rules | `(tactic| omega) => `(tactic| first | lia | omega)
open PySem PyProof.Rows
variable{rk:Keyed→Int}
def Dsc(rk:Keyed→Int)(arr:Array Keyed)(lo hi:Nat):Prop:=∀x y,lo≤x→x≤y→y<hi→RK rk arr y≤RK rk arr x
theorem ON{xs:Array Keyed}{i j:Nat}(hj:j≤xs.size)(k:Nat):RK rk (mirror xs i j ((j-i)/2)) k=if i≤k∧k<j then RK rk xs (i+j-1-k) else RK rk xs k:=by
 have e:=getElem?_mirror_all (i:=i) hj k
 by_cases c1:i≤k∧k<j
 ·rw[if_pos c1] at e ⊢;exact Cv e
 ·rw[if_neg c1] at e ⊢;exact Cv e
section
variable{prog:Program}{w:World}{A:fG}{E:Value→a9→Prop}{s:a9}{kd:jG}{U:Keyed→Prop}
theorem Dw{st0 st:gq}{lo hi i j:Nat}{Q:Unit→gq→Prop}(k:Kp st0 st lo hi)(h1:lo≤i)(h2:j≤hi)(hj:j≤(arrOf st).size)
  (h:∀st',Kp st0 st' lo hi→(∀k,RK rk (arrOf st') k=if i≤k∧k<j then RK rk (arrOf st) (i+j-1-k) else RK rk (arrOf st) k)→Q () st'):wpS (model prog w) A E s (reverseSlice' i j) Q st:=by
 rw[reverseSlice'_eq]
 refine kA (h _ (k.setA (Array.perm_iff_toList_perm.mp (mirror_perm _ _ _ _)) fun x hx=>?_) fun k=>ON hj k)
 rw[getElem?_mirror_all hj,if_neg (by omega)]
theorem Cw{st0 st:gq}{lo hi i j:Nat}{Q:Unit→gq→Prop}(k:Kp st0 st lo hi)(h1:lo≤i)(h2:j≤hi)(hj:j≤(arrOf st).size)(heq:∀k,i≤k→k<j→RK rk (arrOf st) k=RK rk (arrOf st) (j-1))
  (h:∀st',Kp st0 st' lo hi→(∀k,RK rk (arrOf st') k=RK rk (arrOf st) k)→Q () st'):wpS (model prog w) A E s (reverseSlice' i j) Q st:=by
 refine Dw (rk:=rk) k h1 h2 hj fun st' k' e=>h st' k' fun x=>?_
 rw[e x]
 split
 ·rw[heq _ (by omega) (by omega),heq x (by omega) (by omega)]
 ·rfl
theorem Seg.up{arr:Array Keyed}{lo n:Nat}(sg:Seg rk arr lo (lo+n))(h1:1≤n)(hx:¬RK rk arr (lo+n)<RK rk arr (lo+n-1)):Seg rk arr lo (lo+(n+1)):=fun i j hi hij hj=>by
 by_cases c:j<lo+n
 ·exact sg i j hi hij c
 ·have e:j=lo+n:=by omega
  subst e
  by_cases c2:i=lo+n
  ·subst c2;exact jz _
  ·exact jK (sg i (lo+n-1) hi (by omega) (by omega)) (Int.not_lt.mp hx)
theorem Dsc.up{arr arr':Array Keyed}{lo n:Nat}(sg:Dsc rk arr lo (lo+n))(h1:1≤n)(hx:RK rk arr (lo+n)≤RK rk arr (lo+n-1))(he:∀k,RK rk arr' k=RK rk arr k):Dsc rk arr' lo (lo+(n+1)):=fun i j hi hij hj=>by
 rw[he,he]
 by_cases c:j<lo+n
 ·exact sg i j hi hij c
 ·have e:j=lo+n:=by omega
  subst e
  by_cases c2:i=lo+n
  ·subst c2;exact jz _
  ·exact jK hx (sg i (lo+n-1) hi (by omega) (by omega))
theorem Ld{st:gq}{lo nrem:Nat}{Q:Option Nat→gq→Prop}(C:OL prog w A E s kd U rk)(hk:kindOf st=kd)(hU:AllU U (arrOf st))(hn:lo+nrem≤(arrOf st).size)(h1:1≤nrem)
  (h:∀m st',Kp st st' lo (lo+nrem)→1≤m→m≤nrem→Seg rk (arrOf st') lo (lo+m)→Q (some m) st'):
  wpS (model prog w) A E s (countRun' lo nrem) Q st:=by
 rw[countRun'_eq]
 refine e7 (iW (gK (I:=fun x c st'=>st'=st∧c=(none,x)∧Seg rk (arrOf st) lo (lo+x))
  (Q:=fun c st'=>st'=st∧∃n,c=(none,n)∧1≤n∧n≤nrem∧Seg rk (arrOf st) lo (lo+n)∧(n=nrem∨RK rk (arrOf st) (lo+n)<RK rk (arrOf st) (lo+n-1))) ?step ?fin ⟨rfl,rfl,fun i j hi hij hj=>by have:i=j:=(by omega);subst this;exact jz _⟩) ?post)
 case fin=>
  rintro c st' ⟨rfl,rfl,hs'⟩
  have e:max 1 nrem=nrem:=by omega
  rw[e] at hs' ⊢
  exact⟨rfl,nrem,rfl,h1,fj _,hs',.inl rfl⟩
 case step=>
  rintro x c st' hax hxn ⟨rfl,rfl,hs'⟩
  dsimp only
  refine e7 (BA C hk hU (by omega) (by omega) ?_)
  dsimp only
  by_cases hless:RK rk (arrOf st') (lo+x)<RK rk (arrOf st') (lo+x-1)
  ·rw[if_pos (decide_eq_true hless)]
   exact fb ⟨rfl,x,rfl,hax,by omega,hs',.inr hless⟩
  ·rw[if_neg (fun q=>hless (of_decide_eq_true q))]
   exact fb ⟨rfl,rfl,hs'.up hax hless⟩
 case post=>
  rintro c st' ⟨rfl,n,rfl,hn1,hn2,hsn,hor⟩
  dsimp only
  by_cases hnn:n=nrem
  ·rw[if_pos (beq_iff_eq.mpr hnn)]
   exact fb (h n _ (Kp.refl _ _ _) hn1 hn2 hsn)
  rw[if_neg (fun q=>hnn (beq_iff_eq.mp q))]
  have hlt:=hor.resolve_left hnn
  by_cases hgt:n>1
  ·rw[if_pos hgt]
   refine e7 (BA C hk hU (by omega) (by omega) ?_)
   dsimp only
   by_cases hrose:RK rk (arrOf st') lo<RK rk (arrOf st') (lo+n-1)
   ·rw[if_pos (decide_eq_true hrose)]
    exact fb (h n _ (Kp.refl _ _ _) hn1 hn2 hsn)
   rw[if_neg (fun q=>hrose (of_decide_eq_true q))]
   have hall:∀k,lo≤k→k<lo+n→RK rk (arrOf st') k=RK rk (arrOf st') (lo+n-1):=fun k q1 q2=>by
    have a1:=hsn lo k (by omega) q1 q2
    have a2:=hsn k (lo+n-1) q1 (by omega) (by omega)
    omega
   refine e7 (Cw (rk:=rk) (Kp.refl st' lo (lo+nrem)) (fj _) (by omega) (by omega) hall fun st2 kp hRK=>?_)
   have hd:Dsc rk (arrOf st2) lo (lo+(n+1)):=Dsc.up (arr:=arrOf st') (fun i j q1 q2 q3=>by rw[hall i q1 (by omega),hall j (by omega) q3];exact jz _) hn1 (iT hlt) hRK
   refine e7 (l9 (jB ⟨rfl,?_⟩))
   refine e7 (iW (gK (I:=fun x c st3=>∃neq,c=(none,x,neq)∧Kp st' st3 lo (lo+nrem)∧Dsc rk (arrOf st3) lo (lo+x)∧neq+1≤x∧(∀i,lo+x- (neq+1)≤i→i<lo+x→RK rk (arrOf st3) i=RK rk (arrOf st3) (lo+x-1)))
    (Q:=fun c st3=>∃m neq,c=(none,m,neq)∧Kp st' st3 lo (lo+nrem)∧n+1≤m∧m≤nrem∧Dsc rk (arrOf st3) lo (lo+m)∧neq+1≤m∧(∀i,lo+m- (neq+1)≤i→i<lo+m→RK rk (arrOf st3) i=RK rk (arrOf st3) (lo+m-1))) ?_ ?_ ⟨0,rfl,kp,hd,by omega,fun i q1 q2=>by congr 1;omega⟩) ?_)
   ·rintro x c st3 hax hxn ⟨neq,rfl,kp,hd,hq,he⟩
    have hz:=kp.size
    have hU3:=hU.of_perm kp.perm
    dsimp only
    refine e7 (BA C (kp.kd.trans hk) hU3 (by omega) (by omega) ?_)
    dsimp only
    by_cases hless:RK rk (arrOf st3) (lo+x)<RK rk (arrOf st3) (lo+x-1)
    ·rw[if_pos (decide_eq_true hless)]
     by_cases hneq:neq>0
     ·rw[if_pos hneq]
      refine e7 (Cw (rk:=rk) kp (by omega) (by omega) (by omega) he fun st4 kp4 hRK=>?_)
      exact fb ⟨0,rfl,kp4,hd.up (by omega) (iT hless) hRK,by omega,fun i q1 q2=>by congr 1;omega⟩
     ·rw[if_neg hneq]
      exact fb ⟨0,rfl,kp,hd.up (by omega) (iT hless) fun _=>rfl,by omega,fun i q1 q2=>by congr 1;omega⟩
    ·rw[if_neg (fun q=>hless (of_decide_eq_true q))]
     refine e7 (BA C (kp.kd.trans hk) hU3 (by omega) (by omega) ?_)
     dsimp only
     by_cases hlarger:RK rk (arrOf st3) (lo+x-1)<RK rk (arrOf st3) (lo+x)
     ·rw[if_pos (decide_eq_true hlarger)]
      exact fb ⟨x,neq,rfl,kp,hax,by omega,hd,hq,he⟩
     ·rw[if_neg (fun q=>hlarger (of_decide_eq_true q))]
      have heqx:RK rk (arrOf st3) (lo+x)=RK rk (arrOf st3) (lo+x-1):=by omega
      refine fb ⟨neq+1,rfl,kp,hd.up (by omega) (by omega) fun _=>rfl,by omega,fun i q1 q2=>?_⟩
      have e1:lo+(x+1)-1=lo+x:=by omega
      rw[e1]
      by_cases hix:i=lo+x
      ·rw[hix]
      ·rw[heqx];exact he i (by omega) (by omega)
   ·rintro c st3 ⟨neq,rfl,kp,hd,hq,he⟩
    have e:max (n+1) nrem=nrem:=by omega
    rw[e] at hd hq he ⊢
    exact⟨nrem,neq,rfl,kp,by omega,fj _,hd,hq,he⟩
   rintro c st3 ⟨m,neq,rfl,kp,hm1,hm2,hd,hq,he⟩
   have hz:=kp.size
   dsimp only
   have rest:∀(st4:gq),Kp st' st4 lo (lo+nrem)→Dsc rk (arrOf st4) lo (lo+m)→∀st5,Kp st' st5 lo (lo+nrem)→(∀k,RK rk (arrOf st5) k=if lo≤k∧k<lo+m then RK rk (arrOf st4) (lo+(lo+m)-1-k) else RK rk (arrOf st4) k)→Seg rk (arrOf st5) lo (lo+m):=fun st4 _ d4 st5 _ e5 i j q1 q2 q3=>by
    rw[e5,e5,if_pos (by omega),if_pos (by omega)]
    exact d4 _ _ (by omega) (by omega) (by omega)
   by_cases hneq:neq>0
   ·rw[if_pos hneq]
    refine e7 (Cw (rk:=rk) kp (by omega) (by omega) (by omega) he fun st4 kp4 hRK=>?_)
    have d4:Dsc rk (arrOf st4) lo (lo+m):=fun i j q1 q2 q3=>by rw[hRK,hRK];exact hd i j q1 q2 q3
    have hz4:=kp4.size
    refine e7 (Dw (rk:=rk) kp4 (fj _) (by omega) (by omega) fun st5 kp5 e5=>?_)
    have s5:=rest _ kp4 d4 st5 kp5 e5
    have hz5:=kp5.size
    have hU5:=hU.of_perm kp5.perm
    refine e7 (iW (gK (I:=fun x c st6=>st6=st5∧c=(none,x)∧Seg rk (arrOf st5) lo (lo+x))
     (Q:=fun c st6=>st6=st5∧∃n,c=(none,n)∧1≤n∧n≤nrem∧Seg rk (arrOf st5) lo (lo+n)) ?_ ?_ ⟨rfl,rfl,s5⟩) ?_)
    ·rintro x c st6 hax hxn ⟨rfl,rfl,hs'⟩
     dsimp only
     refine e7 (BA C (kp5.kd.trans hk) hU5 (by omega) (by omega) ?_)
     dsimp only
     by_cases hless:RK rk (arrOf st6) (lo+x)<RK rk (arrOf st6) (lo+x-1)
     ·rw[if_pos (decide_eq_true hless)]
      exact fb ⟨rfl,x,rfl,by omega,by omega,hs'⟩
     ·rw[if_neg (fun q=>hless (of_decide_eq_true q))]
      exact fb ⟨rfl,rfl,hs'.up (by omega) hless⟩
    ·rintro c st6 ⟨rfl,rfl,hs'⟩
     have e:max m nrem=nrem:=by omega
     rw[e] at hs' ⊢
     exact⟨rfl,nrem,rfl,h1,fj _,hs'⟩
    rintro c st6 ⟨rfl,n5,rfl,q1,q2,q3⟩
    exact fb (h n5 _ kp5 q1 q2 q3)
   ·rw[if_neg hneq]
    have kp4:=kp
    have d4:=hd
    have hz4:=hz
    refine e7 (Dw (rk:=rk) kp4 (fj _) (by omega) (by omega) fun st5 kp5 e5=>?_)
    have s5:=rest _ kp4 d4 st5 kp5 e5
    have hz5:=kp5.size
    have hU5:=hU.of_perm kp5.perm
    refine e7 (iW (gK (I:=fun x c st6=>st6=st5∧c=(none,x)∧Seg rk (arrOf st5) lo (lo+x))
     (Q:=fun c st6=>st6=st5∧∃n,c=(none,n)∧1≤n∧n≤nrem∧Seg rk (arrOf st5) lo (lo+n)) ?_ ?_ ⟨rfl,rfl,s5⟩) ?_)
    ·rintro x c st6 hax hxn ⟨rfl,rfl,hs'⟩
     dsimp only
     refine e7 (BA C (kp5.kd.trans hk) hU5 (by omega) (by omega) ?_)
     dsimp only
     by_cases hless:RK rk (arrOf st6) (lo+x)<RK rk (arrOf st6) (lo+x-1)
     ·rw[if_pos (decide_eq_true hless)]
      exact fb ⟨rfl,x,rfl,by omega,by omega,hs'⟩
     ·rw[if_neg (fun q=>hless (of_decide_eq_true q))]
      exact fb ⟨rfl,rfl,hs'.up (by omega) hless⟩
    ·rintro c st6 ⟨rfl,rfl,hs'⟩
     have e:max m nrem=nrem:=by omega
     rw[e] at hs' ⊢
     exact⟨rfl,nrem,rfl,h1,fj _,hs'⟩
    rintro c st6 ⟨rfl,n5,rfl,q1,q2,q3⟩
    exact fb (h n5 _ kp5 q1 q2 q3)
  ·rw[if_neg hgt]
   have hd:Dsc rk (arrOf st') lo (lo+(n+1)):=Dsc.up (arr:=arrOf st') (fun i j q1 q2 q3=>by have:i=j:=(by omega);subst this;exact jz _) hn1 (iT hlt) fun _=>rfl
   have kp:=Kp.refl st' lo (lo+nrem)
   refine e7 (l9 (jB ⟨rfl,?_⟩))
   refine e7 (iW (gK (I:=fun x c st3=>∃neq,c=(none,x,neq)∧Kp st' st3 lo (lo+nrem)∧Dsc rk (arrOf st3) lo (lo+x)∧neq+1≤x∧(∀i,lo+x- (neq+1)≤i→i<lo+x→RK rk (arrOf st3) i=RK rk (arrOf st3) (lo+x-1)))
    (Q:=fun c st3=>∃m neq,c=(none,m,neq)∧Kp st' st3 lo (lo+nrem)∧n+1≤m∧m≤nrem∧Dsc rk (arrOf st3) lo (lo+m)∧neq+1≤m∧(∀i,lo+m- (neq+1)≤i→i<lo+m→RK rk (arrOf st3) i=RK rk (arrOf st3) (lo+m-1))) ?_ ?_ ⟨0,rfl,kp,hd,by omega,fun i q1 q2=>by congr 1;omega⟩) ?_)
   ·rintro x c st3 hax hxn ⟨neq,rfl,kp,hd,hq,he⟩
    have hz:=kp.size
    have hU3:=hU.of_perm kp.perm
    dsimp only
    refine e7 (BA C (kp.kd.trans hk) hU3 (by omega) (by omega) ?_)
    dsimp only
    by_cases hless:RK rk (arrOf st3) (lo+x)<RK rk (arrOf st3) (lo+x-1)
    ·rw[if_pos (decide_eq_true hless)]
     by_cases hneq:neq>0
     ·rw[if_pos hneq]
      refine e7 (Cw (rk:=rk) kp (by omega) (by omega) (by omega) he fun st4 kp4 hRK=>?_)
      exact fb ⟨0,rfl,kp4,hd.up (by omega) (iT hless) hRK,by omega,fun i q1 q2=>by congr 1;omega⟩
     ·rw[if_neg hneq]
      exact fb ⟨0,rfl,kp,hd.up (by omega) (iT hless) fun _=>rfl,by omega,fun i q1 q2=>by congr 1;omega⟩
    ·rw[if_neg (fun q=>hless (of_decide_eq_true q))]
     refine e7 (BA C (kp.kd.trans hk) hU3 (by omega) (by omega) ?_)
     dsimp only
     by_cases hlarger:RK rk (arrOf st3) (lo+x-1)<RK rk (arrOf st3) (lo+x)
     ·rw[if_pos (decide_eq_true hlarger)]
      exact fb ⟨x,neq,rfl,kp,hax,by omega,hd,hq,he⟩
     ·rw[if_neg (fun q=>hlarger (of_decide_eq_true q))]
      have heqx:RK rk (arrOf st3) (lo+x)=RK rk (arrOf st3) (lo+x-1):=by omega
      refine fb ⟨neq+1,rfl,kp,hd.up (by omega) (by omega) fun _=>rfl,by omega,fun i q1 q2=>?_⟩
      have e1:lo+(x+1)-1=lo+x:=by omega
      rw[e1]
      by_cases hix:i=lo+x
      ·rw[hix]
      ·rw[heqx];exact he i (by omega) (by omega)
   ·rintro c st3 ⟨neq,rfl,kp,hd,hq,he⟩
    have e:max (n+1) nrem=nrem:=by omega
    rw[e] at hd hq he ⊢
    exact⟨nrem,neq,rfl,kp,by omega,fj _,hd,hq,he⟩
   rintro c st3 ⟨m,neq,rfl,kp,hm1,hm2,hd,hq,he⟩
   have hz:=kp.size
   dsimp only
   have rest:∀(st4:gq),Kp st' st4 lo (lo+nrem)→Dsc rk (arrOf st4) lo (lo+m)→∀st5,Kp st' st5 lo (lo+nrem)→(∀k,RK rk (arrOf st5) k=if lo≤k∧k<lo+m then RK rk (arrOf st4) (lo+(lo+m)-1-k) else RK rk (arrOf st4) k)→Seg rk (arrOf st5) lo (lo+m):=fun st4 _ d4 st5 _ e5 i j q1 q2 q3=>by
    rw[e5,e5,if_pos (by omega),if_pos (by omega)]
    exact d4 _ _ (by omega) (by omega) (by omega)
   by_cases hneq:neq>0
   ·rw[if_pos hneq]
    refine e7 (Cw (rk:=rk) kp (by omega) (by omega) (by omega) he fun st4 kp4 hRK=>?_)
    have d4:Dsc rk (arrOf st4) lo (lo+m):=fun i j q1 q2 q3=>by rw[hRK,hRK];exact hd i j q1 q2 q3
    have hz4:=kp4.size
    refine e7 (Dw (rk:=rk) kp4 (fj _) (by omega) (by omega) fun st5 kp5 e5=>?_)
    have s5:=rest _ kp4 d4 st5 kp5 e5
    have hz5:=kp5.size
    have hU5:=hU.of_perm kp5.perm
    refine e7 (iW (gK (I:=fun x c st6=>st6=st5∧c=(none,x)∧Seg rk (arrOf st5) lo (lo+x))
     (Q:=fun c st6=>st6=st5∧∃n,c=(none,n)∧1≤n∧n≤nrem∧Seg rk (arrOf st5) lo (lo+n)) ?_ ?_ ⟨rfl,rfl,s5⟩) ?_)
    ·rintro x c st6 hax hxn ⟨rfl,rfl,hs'⟩
     dsimp only
     refine e7 (BA C (kp5.kd.trans hk) hU5 (by omega) (by omega) ?_)
     dsimp only
     by_cases hless:RK rk (arrOf st6) (lo+x)<RK rk (arrOf st6) (lo+x-1)
     ·rw[if_pos (decide_eq_true hless)]
      exact fb ⟨rfl,x,rfl,by omega,by omega,hs'⟩
     ·rw[if_neg (fun q=>hless (of_decide_eq_true q))]
      exact fb ⟨rfl,rfl,hs'.up (by omega) hless⟩
    ·rintro c st6 ⟨rfl,rfl,hs'⟩
     have e:max m nrem=nrem:=by omega
     rw[e] at hs' ⊢
     exact⟨rfl,nrem,rfl,h1,fj _,hs'⟩
    rintro c st6 ⟨rfl,n5,rfl,q1,q2,q3⟩
    exact fb (h n5 _ kp5 q1 q2 q3)
   ·rw[if_neg hneq]
    have kp4:=kp
    have d4:=hd
    have hz4:=hz
    refine e7 (Dw (rk:=rk) kp4 (fj _) (by omega) (by omega) fun st5 kp5 e5=>?_)
    have s5:=rest _ kp4 d4 st5 kp5 e5
    have hz5:=kp5.size
    have hU5:=hU.of_perm kp5.perm
    refine e7 (iW (gK (I:=fun x c st6=>st6=st5∧c=(none,x)∧Seg rk (arrOf st5) lo (lo+x))
     (Q:=fun c st6=>st6=st5∧∃n,c=(none,n)∧1≤n∧n≤nrem∧Seg rk (arrOf st5) lo (lo+n)) ?_ ?_ ⟨rfl,rfl,s5⟩) ?_)
    ·rintro x c st6 hax hxn ⟨rfl,rfl,hs'⟩
     dsimp only
     refine e7 (BA C (kp5.kd.trans hk) hU5 (by omega) (by omega) ?_)
     dsimp only
     by_cases hless:RK rk (arrOf st6) (lo+x)<RK rk (arrOf st6) (lo+x-1)
     ·rw[if_pos (decide_eq_true hless)]
      exact fb ⟨rfl,x,rfl,by omega,by omega,hs'⟩
     ·rw[if_neg (fun q=>hless (of_decide_eq_true q))]
      exact fb ⟨rfl,rfl,hs'.up (by omega) hless⟩
    ·rintro c st6 ⟨rfl,rfl,hs'⟩
     have e:max m nrem=nrem:=by omega
     rw[e] at hs' ⊢
     exact⟨rfl,nrem,rfl,h1,fj _,hs'⟩
    rintro c st6 ⟨rfl,n5,rfl,q1,q2,q3⟩
    exact fb (h n5 _ kp5 q1 q2 q3)
end
end SrtG
namespace SrtG
local macro_rules | `(tactic| omega) => `(tactic| first | lia | omega)
open PySem PyProof.Rows
variable{rk:Keyed→Int}
abbrev Pp:=Nat×Nat×Nat
def Cov(rk:Keyed→Int)(arr:Array Keyed):Nat→List Pp→Nat→Prop
 |a,[],hi=>a=hi
 |a,e::l,hi=>e.1=a∧0<e.2.1∧Seg rk arr a (a+e.2.1)∧Cov rk arr (a+e.2.1) l hi
theorem Cov.le{arr:Array Keyed}:∀{l:List Pp} {a hi:Nat},Cov rk arr a l hi→a+l.length≤hi
 | [],a,hi,h=>by have:a=hi:=h;simp only[iQ];omega
 |e::l,a,hi,h=>by have:=Cov.le h.2.2.2;have:=h.2.1;rw[fu];omega
theorem Cov.app{arr:Array Keyed}:∀{l1:List Pp} {l2:List Pp} {a hi:Nat},Cov rk arr a (l1++l2) hi↔∃m,Cov rk arr a l1 m∧Cov rk arr m l2 hi
 | [],l2,a,hi=> ⟨fun h=> ⟨a,rfl,h⟩,fun⟨m,h1,h2⟩=>by have:a=m:=h1;subst this;exact h2⟩
 |e::l1,l2,a,hi=> ⟨fun⟨h1,h2,h3,h4⟩=>by
   obtain⟨m,q1,q2⟩:=Cov.app.mp h4
   exact⟨m,⟨h1,h2,h3,q1⟩,q2⟩,fun⟨m,⟨h1,h2,h3,h4⟩,q2⟩=> ⟨h1,h2,h3,Cov.app.mpr ⟨m,h4,q2⟩⟩⟩
theorem Cov.cong{arr arr':Array Keyed}:∀{l:List Pp} {a hi:Nat},(∀x,a≤x→x<hi→RK rk arr' x=RK rk arr x)→Cov rk arr a l hi→Cov rk arr' a l hi
 | [],_,_,_,h=>h
 |e::l,a,hi,hx,⟨h1,h2,h3,h4⟩=>by
  have hl:=h4.le
  exact⟨h1,h2,fun x y q1 q2 q3=>by rw[hx x q1 (by omega),hx y (by omega) (by omega)];exact h3 x y q1 q2 q3,h4.cong fun x q1 q2=>hx x (by omega) q2⟩
theorem Wx{p:Array Pp}{i:Nat}(h:i+1<p.size):∃l1 e1 e2 l2,p.toList=l1++e1::e2::l2∧l1.length=i∧p[i]?=some e1∧p[i+1]?=some e2:=by
 have hl:p.toList.length=p.size:=fg
 have h1:i<p.toList.length:=by omega
 have h2:i+1<p.toList.length:=by omega
 refine⟨p.toList.take i,p.toList[i],p.toList[i+1],p.toList.drop (i+2),?_,?_,?_,?_⟩
 ·rw[←jV h2,←jV h1,ja]
 ·rw[gD];omega
 ·rw[←fT];exact fz h1
 ·rw[←fT];exact fz h2
theorem Wy{p:Array Pp}{i:Nat}{e e1 e2:Pp}{l1 l2:List Pp}(hp:p.toList=l1++e1::e2::l2)(hl:l1.length=i):((p.setIfInBounds i e).eraseIdxIfInBounds (i+1)).toList=l1++e::l2:=by
 have hz:i+1<p.size:=by
  rw[←fg,hp,fE,fu,fu];omega
 have hz':i+1< (p.setIfInBounds i e).size:=by rw[Array.size_setIfInBounds];exact hz
 unfold Array.eraseIdxIfInBounds
 rw[dif_pos hz',Array.toList_eraseIdx,Array.toList_setIfInBounds,hp]
 subst hl
 rw[List.set_append_right _ _ (fj _),Nat.sub_self,List.set_cons_zero,List.eraseIdx_append_of_length_le (by omega)]
 have e:l1.length+1-l1.length=1:=by omega
 rw[e]
 rfl
structure Bs(kd:jG)(a₀:Array Keyed)(st:gq):Prop where
 kd:kindOf st=kd
 fl:jN st=none
 perm:(arrOf st).toList.Perm a₀.toList
theorem Bs.size{kd:jG}{a₀:Array Keyed}{st:gq}(b:Bs kd a₀ st):(arrOf st).size=a₀.size:=by
 rw[←fg,←fg];exact b.perm.length_eq
theorem Bs.kp{kd:jG}{a₀:Array Keyed}{st st':gq}{lo hi:Nat}(b:Bs kd a₀ st)(k:Kp st st' lo hi):Bs kd a₀ st':=⟨k.kd.trans b.kd,k.fl.trans b.fl,k.perm.trans b.perm⟩
section
variable{prog:Program}{w:World}{A:fG}{E:Value→a9→Prop}{s:a9}{kd:jG}{U:Keyed→Prop}{a₀:Array Keyed}
theorem Di{i hi:Nat}{st:gq}{Q:Bool→gq→Prop}(C:OL prog w A E s kd U rk)(hU:AllU U a₀)(b:Bs kd a₀ st)(hc:Cov rk (arrOf st) 0 (pendingOf st).toList hi)(hhi:hi≤a₀.size)(hi1:i+1< (pendingOf st).size)
  (h:∀st',Bs kd a₀ st'→Cov rk (arrOf st') 0 (pendingOf st').toList hi→(pendingOf st').size+1=(pendingOf st).size→(∀x,hi≤x→RK rk (arrOf st') x=RK rk (arrOf st) x)→Q true st'):wpS (model prog w) A E s (mergeAt' i) Q st:=by
 obtain⟨l1,⟨s1,n1,p1⟩,⟨s2,n2,p2⟩,l2,hp,hl,e1,e2⟩:=Wx hi1
 have hc0:=hc
 rw[hp] at hc0
 obtain⟨m,c1,q1,q2,q3,q4,q5,q6,q7⟩:=Cov.app.mp hc0
 dsimp only at q1 q2 q3 q4 q5 q6 q7
 subst q1
 have hle:=q7.le
 have hz:=b.size
 refine Ju C b.kd (hU.of_perm b.perm) b.fl e1 e2 q4 q2 q5 (by omega) (by rw[q4];exact q3) (by rw[q4];exact q6) fun st' k1 k2 k3 u=>?_
 have hj:=Wy (e:=(s1,n1+n2,p1)) hp hl
 have c1le:=c1.le
 refine h st' ⟨k1,k2,u.perm.trans b.perm⟩ ?_ ?_ ?_
 ·rw[k3,hj]
  refine Cov.app.mpr ⟨s1,c1.cong fun x _ hx=>Bt (u.out x (.inl hx)),rfl,by show 0<n1+n2;omega,?_,?_⟩
  ·show Seg rk (arrOf st') s1 (s1+(n1+n2))
   have:=u.seg
   rw[q4,oQ] at this
   exact this
  ·show Cov rk (arrOf st') (s1+(n1+n2)) l2 hi
   rw[←oQ]
   exact q7.cong fun x hx _=>Bt (u.out x (.inr (by omega)))
 ·rw[←fg,←fg,k3,hj,hp,fE,fE,fu,fu,fu]
  omega
 ·intro x hx
  exact Bt (u.out x (.inr (by omega)))
end
end SrtG
namespace SrtG
local macro_rules | `(tactic| omega) => `(tactic| first | lia | omega)
open PySem PyProof.Rows
variable{rk:Keyed→Int}
theorem Cov.shape{arr:Array Keyed}:∀{l l':List Pp} {a hi:Nat},l'.map (fun e=> (e.1,e.2.1))=l.map (fun e=> (e.1,e.2.1))→Cov rk arr a l hi→Cov rk arr a l' hi
 | [],[],_,_,_,h=>h
 |e::l,e'::l',a,hi,hm,⟨h1,h2,h3,h4⟩=>by
  rw[fL,fL] at hm
  injection hm with hm1 hm2
  injection hm1 with q1 q2
  exact⟨q1.trans h1,by rw[q2];exact h2,by rw[q2];exact h3,by rw[q2];exact h4.shape hm2⟩
 | [],_::_,_,_,hm,_=>by cases hm
 |_::_,[],_,_,hm,_=>by cases hm
theorem Cov.power{arr:Array Keyed}{p:Array Pp}{i pw hi:Nat}(h:Cov rk arr 0 p.toList hi):Cov rk arr 0 (p.modify i fun e=> (e.1,e.2.1,pw)).toList hi:=by
 refine h.shape ?_
 apply i7
 intro j
 rw[fc,fc,fT,fT,Array.getElem?_modify]
 split
 ·cases p[j]?<;>rfl
 ·rfl
section
variable{prog:Program}{w:World}{A:fG}{E:Value→a9→Prop}{s:a9}{kd:jG}{U:Keyed→Prop}{a₀:Array Keyed}
theorem Jv{st:gq}{Q:Unit→gq→Prop}(C:OL prog w A E s kd U rk)(hU:AllU U a₀)(b:Bs kd a₀ st)(hp:pendingOf st= #[])
  (h:∀st',Bs kd a₀ st'→EY rk (arrOf st')→Q () st'):wpS (model prog w) A E s oA Q st:=by
 rw[sortRuns'_eq]
 refine e7 (lz ?_)
 dsimp only
 have hz:=b.size
 refine e7 (iW (gK
  (I:=fun x c st'=>∃lo,c=(none,lo)∧x≤lo∧lo≤(arrOf st).size∧Bs kd a₀ st'∧Cov rk (arrOf st') 0 (pendingOf st').toList lo)
  (Q:=fun c st'=>c.1=none∧Bs kd a₀ st'∧Cov rk (arrOf st') 0 (pendingOf st').toList (arrOf st).size) ?step ?fin ⟨0,rfl,fj _,gT _,b,by rw[hp];rfl⟩) ?post)
 case fin=>
  rintro c st' ⟨lo,rfl,h1,h2,bs,cv⟩
  have e:lo=(arrOf st).size:=by omega
  subst e
  exact⟨rfl,bs,cv⟩
 case step=>
  rintro x c st1 _ hx ⟨lo,rfl,h1,h2,bs,cv⟩
  dsimp only
  have hz1:=bs.size
  by_cases cl:lo≥(arrOf st).size
  ·rw[if_pos cl]
   have e:lo=(arrOf st).size:=by omega
   subst e
   exact fb ⟨rfl,bs,cv⟩
  rw[if_neg cl]
  have nextOf:∀(st3:gq) (n:Nat),Bs kd a₀ st3→Cov rk (arrOf st3) 0 (pendingOf st3).toList lo→0<n→lo+n≤(arrOf st).size→Seg rk (arrOf st3) lo (lo+n)→∀{c:Option PUnit×Nat},c=(none,lo+n)→∃lo',c=(none,lo')∧x+1≤lo'∧lo'≤(arrOf st).size∧Bs kd a₀ (mJ st3 ((pendingOf st3).push (lo,n,0)))∧Cov rk (arrOf (mJ st3 ((pendingOf st3).push (lo,n,0)))) 0 (pendingOf (mJ st3 ((pendingOf st3).push (lo,n,0)))).toList lo':=fun st3 n bs3 cv3 hpos hfit sg c hc=>by
   refine⟨lo+n,hc,by omega,hfit,⟨bs3.kd,bs3.fl,bs3.perm⟩,?_⟩
   show Cov rk (arrOf st3) 0 ((pendingOf st3).push (lo,n,0)).toList (lo+n)
   rw[j5]
   exact Cov.app.mpr ⟨lo,cv3,rfl,hpos,sg,rfl⟩
  refine e7 (Ld C bs.kd (hU.of_perm bs.perm) (by omega) (by omega) fun n st2 kp2 hn1 hn2 sg2=>?_)
  have bs2:=bs.kp kp2
  have cv2:Cov rk (arrOf st2) 0 (pendingOf st2).toList lo:=by
   rw[kp2.pd]
   exact cv.cong fun x _ hx=>Bt (kp2.out x (.inl hx))
  dsimp only
  by_cases cm:n<oF (arrOf st).size (arrOf st).size 0
  ·rw[if_pos cm]
   refine e7 (l9 (jB ⟨rfl,?_⟩))
   have hz2:=bs2.size
   refine e7 (Lc (n:=min ((arrOf st).size-lo) (oF (arrOf st).size (arrOf st).size 0)) C bs2.kd (hU.of_perm bs2.perm) (by omega) (by omega) sg2 fun st3 kp3 sg3=>?_)
   rw[if_neg (by decide)]
   have bs3:=bs2.kp kp3
   have cv3:Cov rk (arrOf st3) 0 (pendingOf st3).toList lo:=by
    rw[kp3.pd]
    exact cv2.cong fun x _ hx=>Bt (kp3.out x (.inl hx))
   have hpos:0<min ((arrOf st).size-lo) (oF (arrOf st).size (arrOf st).size 0):=by omega
   have hfit:lo+min ((arrOf st).size-lo) (oF (arrOf st).size (arrOf st).size 0)≤(arrOf st).size:=by omega
   refine e7 (lz ?_)
   cases hb:(pendingOf st3).back? with
   |none=>
    dsimp only
    exact e7 (kA (fb (nextOf st3 _ bs3 cv3 hpos hfit sg3 rfl)))
   |some e=>
    obtain⟨s1,n1,p1⟩:=e
    dsimp only
    refine e7 (iW (gK (I:=fun _ c st4=>c=(none,())∧Bs kd a₀ st4∧Cov rk (arrOf st4) 0 (pendingOf st4).toList lo∧∀x,lo≤x→RK rk (arrOf st4) x=RK rk (arrOf st3) x)
     (Q:=fun c st4=>c=(none,())∧Bs kd a₀ st4∧Cov rk (arrOf st4) 0 (pendingOf st4).toList lo∧∀x,lo≤x→RK rk (arrOf st4) x=RK rk (arrOf st3) x) ?_ (fun _ _ q=>q) ⟨rfl,bs3,cv3,fun _ _=>rfl⟩) ?_)
    ·rintro y c st4 _ _ ⟨rfl,bs4,cv4,ou4⟩
     refine e7 (lz ?_)
     by_cases cp:(pendingOf st4).size>1
     ·rw[if_pos cp]
      obtain⟨o1,o2,o3⟩:=(pendingOf st4)[(pendingOf st4).size-2]
      have hge:(pendingOf st4)[(pendingOf st4).size-2]?=some (pendingOf st4)[(pendingOf st4).size-2]:=getElem?_pos _ _ (by omega)
      rw[hge]
      dsimp only
      by_cases co:(pendingOf st4)[(pendingOf st4).size-2].2.2≤power' (arrOf st).size (2*s1+n1) (2*s1+n1+n1+min ((arrOf st).size-lo) (oF (arrOf st).size (arrOf st).size 0)) (arrOf st).size
      ·rw[if_pos co]
       exact fb ⟨rfl,bs4,cv4,ou4⟩
      ·rw[if_neg co]
       refine e7 (Di C hU bs4 cv4 (by omega) (by omega) fun st5 bs5 cv5 _ ou5=>?_)
       rw[if_neg (by decide)]
       exact fb ⟨rfl,bs5,cv5,fun x hx=> (ou5 x hx).trans (ou4 x hx)⟩
     ·rw[if_neg cp]
      exact fb ⟨rfl,bs4,cv4,ou4⟩
    ·rintro c st4 ⟨rfl,bs4,cv4,ou4⟩
     dsimp only
     refine e7 (kA ?_)
     refine e7 (kA (fb ?_))
     have sg4:Seg rk (arrOf st4) lo (lo+min ((arrOf st).size-lo) (oF (arrOf st).size (arrOf st).size 0)):=fun i j q1 q2 q3=>by rw[ou4 i q1,ou4 j (by omega)];exact sg3 i j q1 q2 q3
     exact nextOf (mJ st4 ((pendingOf st4).modify ((pendingOf st4).size-1) fun e=> (e.1,e.2.1,power' (arrOf st).size (2*s1+n1) (2*s1+n1+n1+min ((arrOf st).size-lo) (oF (arrOf st).size (arrOf st).size 0)) (arrOf st).size))) _ ⟨bs4.kd,bs4.fl,bs4.perm⟩ (Cov.power cv4) hpos hfit sg4 rfl
  ·rw[if_neg cm]
   have bs3:=bs2
   have cv3:=cv2
   have sg3:=sg2
   have hpos:0<n:=by omega
   have hfit:lo+n≤(arrOf st).size:=by omega
   refine e7 (lz ?_)
   cases hb:(pendingOf st2).back? with
   |none=>
    dsimp only
    exact e7 (kA (fb (nextOf st2 _ bs3 cv3 hpos hfit sg3 rfl)))
   |some e=>
    obtain⟨s1,n1,p1⟩:=e
    dsimp only
    refine e7 (iW (gK (I:=fun _ c st4=>c=(none,())∧Bs kd a₀ st4∧Cov rk (arrOf st4) 0 (pendingOf st4).toList lo∧∀x,lo≤x→RK rk (arrOf st4) x=RK rk (arrOf st2) x)
     (Q:=fun c st4=>c=(none,())∧Bs kd a₀ st4∧Cov rk (arrOf st4) 0 (pendingOf st4).toList lo∧∀x,lo≤x→RK rk (arrOf st4) x=RK rk (arrOf st2) x) ?_ (fun _ _ q=>q) ⟨rfl,bs3,cv3,fun _ _=>rfl⟩) ?_)
    ·rintro y c st4 _ _ ⟨rfl,bs4,cv4,ou4⟩
     refine e7 (lz ?_)
     by_cases cp:(pendingOf st4).size>1
     ·rw[if_pos cp]
      obtain⟨o1,o2,o3⟩:=(pendingOf st4)[(pendingOf st4).size-2]
      have hge:(pendingOf st4)[(pendingOf st4).size-2]?=some (pendingOf st4)[(pendingOf st4).size-2]:=getElem?_pos _ _ (by omega)
      rw[hge]
      dsimp only
      by_cases co:(pendingOf st4)[(pendingOf st4).size-2].2.2≤power' (arrOf st).size (2*s1+n1) (2*s1+n1+n1+n) (arrOf st).size
      ·rw[if_pos co]
       exact fb ⟨rfl,bs4,cv4,ou4⟩
      ·rw[if_neg co]
       refine e7 (Di C hU bs4 cv4 (by omega) (by omega) fun st5 bs5 cv5 _ ou5=>?_)
       rw[if_neg (by decide)]
       exact fb ⟨rfl,bs5,cv5,fun x hx=> (ou5 x hx).trans (ou4 x hx)⟩
     ·rw[if_neg cp]
      exact fb ⟨rfl,bs4,cv4,ou4⟩
    ·rintro c st4 ⟨rfl,bs4,cv4,ou4⟩
     dsimp only
     refine e7 (kA ?_)
     refine e7 (kA (fb ?_))
     have sg4:Seg rk (arrOf st4) lo (lo+n):=fun i j q1 q2 q3=>by rw[ou4 i q1,ou4 j (by omega)];exact sg3 i j q1 q2 q3
     exact nextOf (mJ st4 ((pendingOf st4).modify ((pendingOf st4).size-1) fun e=> (e.1,e.2.1,power' (arrOf st).size (2*s1+n1) (2*s1+n1+n1+n) (arrOf st).size))) _ ⟨bs4.kd,bs4.fl,bs4.perm⟩ (Cov.power cv4) hpos hfit sg4 rfl
 case post=>
  rintro⟨c1,c2⟩ st1 ⟨e,bs,cv⟩
  cases e
  dsimp only
  have done:∀st',Bs kd a₀ st'→Cov rk (arrOf st') 0 (pendingOf st').toList (arrOf st).size→(pendingOf st').size≤1→EY rk (arrOf st'):=fun st' bs' cv' hl=>by
   have hz':=bs'.size
   intro i j hij hj
   rw[←fg] at hl
   revert cv' hl
   generalize (pendingOf st').toList=l
   intro cv' hl
   match l,cv',hl with
   | [],cv',_=>
    have:0=(arrOf st).size:=cv'
    omega
   | [e],cv',_=>
    obtain⟨q1,q2,q3,q4⟩:=cv'
    have:0+e.2.1=(arrOf st).size:=q4
    exact q3 i j (by omega) hij (by omega)
   |_::_::_,_,hl=>simp only[fu] at hl;omega
  have hlen:=cv.le
  rw[fg] at hlen
  refine e7 (iW (gK (I:=fun x c st'=>c=(none,())∧Bs kd a₀ st'∧Cov rk (arrOf st') 0 (pendingOf st').toList (arrOf st).size∧(pendingOf st').size+x≤(arrOf st).size)
   (Q:=fun c st'=>c=(none,())∧Bs kd a₀ st'∧Cov rk (arrOf st') 0 (pendingOf st').toList (arrOf st).size∧(pendingOf st').size≤1) ?_ ?_ ⟨rfl,bs,cv,by omega⟩) ?_)
  ·rintro x c st2 _ hx ⟨rfl,bs2,cv2,hm⟩
   refine e7 (lz ?_)
   by_cases cp:(pendingOf st2).size≤1
   ·rw[if_pos cp]
    exact fb ⟨rfl,bs2,cv2,cp⟩
   ·rw[if_neg cp]
    refine e7 (Di C hU bs2 cv2 (by omega) ?_ fun st5 bs5 cv5 hs5 _=>?_)
    ·split<;>split<;>omega
    ·rw[if_neg (by decide)]
     exact fb ⟨rfl,bs5,cv5,by omega⟩
  ·rintro c st2 ⟨rfl,bs2,cv2,hm⟩
   exact⟨rfl,bs2,cv2,by omega⟩
  ·rintro c st2 ⟨rfl,bs2,cv2,hm⟩
   exact fb (h _ bs2 (done _ bs2 cv2 hm))
end
end SrtG
namespace SrtG
open PySem PyProof.Rows
def Le(h:Heap)(v:Value)(a b:Int):Prop:=∃x o t u n,v=.ref x∧h.get? x=some o∧o.data=.seq #[.int a t,.int b u] n
def SJ(h:Heap)(k:Keyed):Int:=match k.1 with
  | .ref x=>match h.get? x with
    |some o=>match o.data with
     | .seq xs _=>match (xs[0]?:Option Value),(xs[1]?:Option Value) with
      |some (.int a _),some (.int b _)=>65536*a+b
      |_,_=>0
     |_=>0
    |_=>0
  |_=>0
theorem EZ{h:Heap}{k:Keyed}{a b:Int}(p:Le h k.1 a b):SJ h k=65536*a+b:=by
 obtain⟨x,o,t,u,n,e1,e2,e3⟩:=p
 unfold SJ
 rw[e1]
 dsimp only
 rw[e2]
 dsimp only
 rw[e3]
 rfl
def Zq(h:Heap)(k:Keyed):Prop:=∃a b,Le h k.1 a b∧0≤b∧b<65536
variable{prog:Program}{w:World}{A:fG}{E:Value→a9→Prop}{s:a9}
theorem OO:OL prog w A E s (tuples' true) (Zq s.heap) (SJ s.heap):=by
 intro st x y Q hk hx hy h
 obtain⟨a,b,px,b0,b1⟩:=hx
 obtain⟨c,d,py,d0,d1⟩:=hy
 rw[EZ px,EZ py] at h
 obtain⟨p,o,t,u,n,e1,e2,e3⟩:=px
 obtain⟨p',o',t',u',n',e1',e2',e3'⟩:=py
 rw[lt'_eq]
 refine e7 (lz ?_)
 rw[hk,e1,e1']
 refine e7 (l9 (j6 ?_))
 refine PySem.W.kat_lt e2 e3 e2' e3' ?_
 have fin:∀r:Bool,r=decide (65536*a+b<65536*c+d)→(s=s∧wpS (model prog w) A E s (match (Except.ok r:Except Value Bool) with
   | .ok b=>pure (some b)
   | .error e=>do
    modify (fun s=>lX (kindOf s) (arrOf s) (pendingOf s) (gallopOf s) (some e))
    pure none) Q st):=fun r hr=> ⟨rfl,by rw[hr];exact fb h⟩
 refine PySem.W.kat_cons (nD ?_)
 refine PySem.W.kat_go (fun e=>?_) (fun e=>?_)
 ·have e':=eq_of_beq e
  refine PySem.W.kat_yes (PySem.W.kat_cons (nD ?_))
  refine PySem.W.kat_go (fun q=>?_) (fun q=>?_)
  ·have q':=eq_of_beq q
   exact PySem.W.kat_yes (PySem.W.kat_nil (fin _ (by rw[e',q'];simp)))
  ·exact PySem.W.kat_no (PySem.W.kat_one _ _ (lt_int (fin _ (by congr 1;rw[e'];apply propext;constructor<;>intro<;>omega))))
 ·have e':a≠c:=fun q=>by rw[q] at e;simp at e
  refine PySem.W.kat_no (oneLt_int (fin _ ?_))
  congr 1
  apply propext
  constructor<;>intro<;>omega
open PySem.Calls PySem.W
theorem Dx:∀(vs:List Value),vs.zip vs=vs.map fun v=> (v,v)
 | []=>rfl
 |v::vs=>by rw[mQ,fL,Dx vs]
structure Rk(prog:Program)(w:World)(U:Heap→Value→Prop)(rk:Heap→Value→Int)(T:Value):Prop where
 cmp:∀{A:fG} {E:Value→a9→Prop} {s:a9},OL prog w A E s (tuples' true) (fun k=>U s.heap k.1) (fun k=>rk s.heap k.1)
 kept:∀{h h':Heap} {v:Value},U h v→(∀b o,o.cls=.type "tuple"→h.get? b=some o→h'.get? b=some o)→U h' v∧rk h' v=rk h v
 kat:∀{h:Heap} {vs:List Value},(∀v∈vs,U h v)→∃fs:List Value,KatTups h vs fs∧fs.length=vs.length∧∀v∈fs,∀M h',Looks M h' (typeOf v) T
 t1:(T==T)=true
 t2:(T !=ji "tuple")=true
section
variable{prog:Program}{w:World}{A:fG}{E:Value→a9→Prop}{s:a9}{U:Heap→Value→Prop}{rk:Heap→Value→Int}{T:Value}
theorem TF{vs:List Value}{Q:gq→a9→Prop}(R:Rk prog w U rk T)(ok:∀v∈vs,U s.heap v)
  (h:∀st',jN st'=none→((arrOf st').map (·.2)).toList.Perm vs→((arrOf st').map (·.2)).toList.Pairwise (fun x y=>rk s.heap x≤rk s.heap y)→Q st' s):
  wpAny (model prog w) A ((oA).run (lX (tuples' true) (vs.toArray.zip vs.toArray) #[] 7 none)) (fun r s'=>Q r.2 s') E s:=by
 have hz:(vs.toArray.zip vs.toArray)=(vs.map fun v=> (v,v)).toArray:=by
  apply kT
  rw[nJ]
  show vs.zip vs=vs.map fun v=> (v,v)
  exact Dx vs
 have hU:AllU (fun k=>U s.heap k.1) (vs.toArray.zip vs.toArray):=fun i p e=>by
  rw[hz] at e
  have e':(vs.map fun v=> ((v,v):Keyed))[i]?=some p:=by rw[←fT] at e;exact e
  obtain⟨v,hv,rfl⟩:=fo.mp (fk e')
  exact ok v hv
 have hwp:wpS (model prog w) A E s oA (fun _ st'=>Q st' s) (lX (tuples' true) (vs.toArray.zip vs.toArray) #[] 7 none):=by
  refine Jv (a₀:=vs.toArray.zip vs.toArray) (rk:=fun k=>rk s.heap k.1) R.cmp hU ⟨rfl,rfl,kz.refl _⟩ rfl fun st' b srt=>?_
  have hpm:=b.perm
  rw[hz] at hpm
  have hsame:∀k,k∈(arrOf st').toList→k=(k.2,k.2):=fun k hk=>by
   obtain⟨v,_,rfl⟩:=fo.mp (hpm.mem_iff.mp hk)
   rfl
  refine h st' b.fl ?_ ?_
  ·rw[k6]
   have:=hpm.map (fun k:Keyed=>k.2)
   rw[show((vs.map fun v=> ((v,v):Keyed)).toArray.toList.map fun k:Keyed=>k.2)=vs from by
    show(vs.map fun v=> ((v,v):Keyed)).map (fun k:Keyed=>k.2)=vs
    rw[gZ]
    exact ou vs] at this
   exact this
  ·rw[k6,gP]
   refine gR.mpr fun i j hi hj hij=>?_
   have hi':i< (arrOf st').size:=by rw[←fg];exact hi
   have hj':j< (arrOf st').size:=by rw[←fg];exact hj
   have q:=srt i j (lP hij) hj'
   rw[Ai hi',Ai hj'] at q
   have e1:=hsame (arrOf st').toList[i] (iB hi)
   have e2:=hsame (arrOf st').toList[j] (iB hj)
   rw[←(show(arrOf st').toList[i].1=(arrOf st').toList[i].2 from congrArg jb e1),←(show(arrOf st').toList[j].1=(arrOf st').toList[j].2 from congrArg jb e2)]
   exact q
 exact jM hwp (fun r s' q=>by rw[q.1];exact q.2) fun _ _ e=>e
theorem Pq{a:Addr}{vs:List Value}{n:Nat}{P:oI→a9→Prop}(ho:s.heap.get? a=some (fV "list" vs.toArray n))(R:Rk prog w U rk T)(ok:∀v∈vs,U s.heap v)(h2:2≤vs.length)(hn:vs.length≤9000000)
  (h:∀out c h',out.Perm vs→out.Pairwise (fun x y=>rk s.heap x≤rk s.heap y)→h'.get? a=some (fV "list" (lQ out) c)→(∀b o,b≠a→s.heap.get? b=some o→h'.get? b=some o)→P (.done (.ret .none)) {s with heap:=h'}):
  wpAny (model prog w) A (Builtin.«list.sort» ⟨[.ref a],[]⟩) P E s:=by
 obtain⟨e1,ho1⟩:∃e1,(s.heap.update a (gQ fun _=> (#[]:Array Value))).get? a=some (fV "list" #[] e1):=⟨_,kH ho fun _=> #[]⟩
 have keep:∀b o,b≠a→s.heap.get? b=some o→(((s.heap.update a (gQ fun _=> (#[]:Array Value))).push (fV "tuple" vs.toArray 0)).push (fV "list" #[] 0)).get? b=some o:=fun b o hb e=>
  c9 _ (c9 _ (by rw[jH _ _ _ _ hb];exact e))
 have keepT:∀b o,o.cls=.type "tuple"→s.heap.get? b=some o→(((s.heap.update a (gQ fun _=> (#[]:Array Value))).push (fV "tuple" vs.toArray 0)).push (fV "list" #[] 0)).get? b=some o:=fun b o ht e=>by
  refine keep b o (fun q=>?_) e
  rw[q,ho] at e
  cases e
  exact absurd (show ji "list" =ji "tuple" from ht) (by decide)
 have ho3:(((s.heap.update a (gQ fun _=> (#[]:Array Value))).push (fV "tuple" vs.toArray 0)).push (fV "list" #[] 0)).get? a=some (fV "list" #[] e1):=c9 _ (c9 _ ho1)
 have ok3:∀v∈vs,U _ v:=fun v hv=> (R.kept (ok v hv) keepT).1
 have rk3:∀v∈vs,rk _ v=rk s.heap v:=fun v hv=> (R.kept (ok v hv) keepT).2
 rw[nU]
 refine a7 (nL ho rfl ?_)
 refine a7 (lr ho rfl ?_ (by rw[fm,gM];omega) (gT _))
 refine a7 (me ho1 rfl ?_)
 refine a7 (mH ?_ (by show vs.length≤_;rw[gM];omega))
 refine a7 (lj ?_ (gT _))
 refine gx ?_
 show wpAny (model prog w) A _ P E {s with heap:=((s.heap.update a (gQ fun _=> (#[]:Array Value))).push (fV "tuple" vs.toArray 0)).push (fV "list" #[] 0)}
 generalize hG:((s.heap.update a (gQ fun _=> (#[]:Array Value))).push (fV "tuple" vs.toArray 0)).push (fV "list" #[] 0)=G at keep ho3 ok3 rk3 ⊢
 dsimp only
 have hn2:¬vs.toArray.size<2:=by rw[fm];omega
 rw[if_neg hn2,if_neg hn2]
 obtain⟨fs,kt,hl,hf⟩:=R.kat ok3
 refine a7 (kat_kind (s:={s with heap:=G}) (T:=T) kt (by omega) (fun v hv=>hf v hv _ _) R.t1 ?_)
 rw[R.t2]
 refine a7 (jM (TF (s:={s with heap:=G}) (Q:=fun st' s'=>s'={s with heap:=G}∧jN st'=none∧((arrOf st').map (·.2)).toList.Perm vs∧((arrOf st').map (·.2)).toList.Pairwise (fun x y=>rk G x≤rk G y)) R ok3 (fun st' a1 a2 a3=> ⟨rfl,a1,a2,a3⟩)) ?_ fun _ _ e=>e)
 rintro⟨⟨⟩,st'⟩ s' ⟨rfl,hfl,hpm,hpw⟩
 dsimp only
 have hsz:((arrOf st').map (·.2)).size=vs.length:=by rw[←fg];exact hpm.length_eq
 obtain⟨c2,hc2⟩:∃c2,(G.update a (gQ fun _=> (arrOf st').map (·.2))).get? a=some (fV "list" ((arrOf st').map (·.2)) c2):=⟨_,kH ho3 fun _=> (arrOf st').map (·.2)⟩
 refine a7 (me ho3 rfl ?_)
 refine a7 (lr ho3 rfl ?_ (gT _) (gL (pB hsz) (by rw[gM];omega)))
 rw[hfl]
 simp only[bne_self_eq_false,fJ,if_false]
 refine b6 (h ((arrOf st').map (·.2)).toList c2 _ hpm ?_ hc2 fun b o hb e=>by rw[jH _ _ _ _ hb];exact keep b o hb e)
 refine ip (fun{x y} hx hy q=>?_) hpw
 rw[rk3 _ (hpm.mem_iff.mp hx),rk3 _ (hpm.mem_iff.mp hy)] at q
 exact q
end
def TupAt(h:Heap)(v:Value)(a b:Int):Prop:=∃x o t u n,v=.ref x∧h.get? x=some o∧o.cls=.type "tuple"∧o.data=.seq #[.int a t,.int b u] n
def TupsOk(h:Heap)(vs:List Value):Prop:=∀v,v∈vs→∃a b,TupAt h v a b∧0≤b∧b<65536
theorem TupAt.pair{h:Heap}{v:Value}{a b:Int}(t:TupAt h v a b):Le h v a b:=by
 obtain⟨x,o,t,u,n,e1,e2,_,e4⟩:=t
 exact⟨x,o,t,u,n,e1,e2,e4⟩
theorem TupsOk.kat{h:Heap}:∀{vs:List Value},TupsOk h vs→∃fs:List Value,KatTups h vs fs∧fs.length=vs.length∧∀v∈fs,∃a t,v=.int a t
 | [],_=> ⟨[],KatTups.nil,rfl,fun v hv=>by cases hv⟩
 |v::vs,ok=>by
  obtain⟨fs,k,hl,hf⟩:=TupsOk.kat (vs:=vs) fun v hv=>ok v (.tail _ hv)
  obtain⟨a,b,⟨x,o,t,u,n,rfl,e,hc,hd⟩,_,_⟩:=ok v (.head _)
  exact⟨.int a t::fs,KatTups.cons e hc hd rfl k,by rw[fu,fu,hl],fun v hv=>by
   rcases fh.mp hv with rfl|hv
   ·exact⟨a,t,rfl⟩
   ·exact hf v hv⟩
variable{prog:Program}{w:World}{A:fG}{E:Value→a9→Prop}{s:a9}
theorem TupsOk.kept{h h':Heap}{vs:List Value}(ok:TupsOk h vs)(k:∀b o,o.cls=.type "tuple"→h.get? b=some o→h'.get? b=some o):TupsOk h' vs:=fun v hv=>by
 obtain⟨a,b,⟨x,o,t,u,n,e1,e2,e3,e4⟩,q⟩:=ok v hv
 exact⟨a,b,⟨x,o,t,u,n,e1,k _ _ e3 e2,e3,e4⟩,q⟩
theorem TupsOk.rk{h h':Heap}{vs:List Value}(ok:TupsOk h vs)(k:∀b o,o.cls=.type "tuple"→h.get? b=some o→h'.get? b=some o){v:Value}(hv:v∈vs):SJ h' (v,v)=SJ h (v,v):=by
 obtain⟨a,b,t,q⟩:=ok v hv
 obtain⟨x,o,t',u,n,e1,e2,e3,e4⟩:=t
 rw[EZ (k:=(v,v)) (TupAt.pair ⟨x,o,t',u,n,e1,e2,e3,e4⟩),EZ (k:=(v,v)) (TupAt.pair ⟨x,o,t',u,n,e1,k _ _ e3 e2,e3,e4⟩)]
theorem Pt:Rk prog w (fun h v=>∃a b,TupAt h v a b∧0≤b∧b<65536) (fun h v=>SJ h (v,v)) (.type "int") where
 cmp:=by
  intro A E s st x y Q hk hx hy h
  obtain⟨a,b,t,q⟩:=hx
  obtain⟨c,d,u,r⟩:=hy
  exact OO st x y Q hk ⟨a,b,t.pair,q⟩ ⟨c,d,u.pair,r⟩ h
 kept:=fun{h h' v} ok k=> ⟨TupsOk.kept (vs:=[v]) (fun u hu=>b9.mp hu▸ok) k v (by simp),TupsOk.rk (vs:=[v]) (fun u hu=>b9.mp hu▸ok) k (by simp)⟩
 kat:=fun{h vs} ok=>by
  obtain⟨fs,kt,hl,hf⟩:=TupsOk.kat ok
  refine⟨fs,kt,hl,fun v hv M h'=>?_⟩
  obtain⟨x,t,rfl⟩:=hf v hv
  exact fun _ _ _ _ _ q=>b6 q
 t1:=rfl
 t2:=rfl
theorem Lf{a:Addr}{vs:List Value}{n:Nat}{P:oI→a9→Prop}(ho:s.heap.get? a=some (fV "list" vs.toArray n))(ok:TupsOk s.heap vs)(h2:2≤vs.length)(hn:vs.length≤4096)
  (h:∀out c h',out.Perm vs→out.Pairwise (fun x y=>SJ s.heap (x,x)≤SJ s.heap (y,y))→h'.get? a=some (fV "list" (lQ out) c)→(∀b o,b≠a→s.heap.get? b=some o→h'.get? b=some o)→P (.done (.ret .none)) {s with heap:=h'}):
  wpAny (model prog w) A (Builtin.«list.sort» ⟨[.ref a],[]⟩) P E s:=Pq ho Pt ok h2 (by omega) h
end SrtG
namespace StT
open PySem PySem.SetTable PyProof.Rows
section
variable{prog:Program}{w:World}{A:fG}{E:Value→a9→Prop}{s:a9}
abbrev Bu(w:World):Obj:={cls:=.type "set",dict:=none,data:=.set #[] 0 (.fresh 0 0 (!w.params.followText "set-order"))}
theorem Pu(a:Value){Q₁:Value→a9→Prop}(h:Q₁ (.ref s.heap.objs.size) {s with heap:=s.heap.push (Bu w)}):
  kW (model prog w) A (.call (.builtin "set.__new__") ⟨[.type "set",a],[]⟩) (wants Q₁ E) s:=by
 refine codeAny_of_tree ?_
 show wpAny _ A.in1 (do nF "set.__new__" ⟨[.type "set",a],[]⟩;again (.builtin "set.__new__" ⟨[.type "set",a],[]⟩)) _ _ s
 refine a7 (md (PySem.F.newCall_set_1 a) (b6 ⟨kJ PySem.F.plain_set_new _,jC PySem.F.entry_set_new ?_⟩))
 rw[jA PySem.F.plain_set_new _]
 unfold Builtin.«set.__new__» Builtin.Frozenset.newClass
 have hsub:=sub_set_self
 obtain⟨hp,g,d,tk,os⟩:=s
 dsimp only
 wp_walk
 refine lV (b6 ?_)
 dsimp only
 simp only[newObj]
 refine a7 (wpAny_alloc (b6 ?_))
 exact b6 h
theorem Lg{T newId initId:String}{args:List Value}{Q Q₁:Value→a9→Prop}(ft:TypeCalled T newId initId)
  (hct:checkTypeCall T ⟨args,[]⟩=pure ())
  (hnew:kW (model prog w) A.in1 (.call (.builtin newId) ⟨.type T::args,[]⟩) (wants Q₁ E) s)
  (hnext:∀obj s₁,Q₁ obj s₁→s₁.TypeIs obj T∧kW (model prog w) A.in1 (.call (.builtin initId) ⟨obj::args,[]⟩) (wants (fun r s₂=>r=.none∧Q obj s₂) E) s₁):
  wpAny (model prog w) A (call (.type T) args) Q E s:=by
 obtain⟨c,tl,hmro⟩:=ft.mro
 have hmade:=ft.made
 have hsub:=ft.sub
 refine nK (codeAny_of_tree ?_)
 show wpAny _ _ (callAny (.type T) _) _ _ _
 refine b6 ⟨Code.quiet_builtin _ (by decide+kernel),jC PySem.F.entry_type_call ?_⟩
 rw[fG.under_plain (weight_type_call_type T args []) rfl]
 have h1:=ft.notType
 have h2:=ft.canCreate
 repeat (any_goals (first|assumption|wp_step))
 refine mz hnew fun r s₁ hr=>?_
 cases r with
 |error e=>exact hr
 |ok fl=>
  cases fl with
  |ret obj=>
   obtain⟨hT,hsi⟩:=hnext _ _ hr
   have hli:=ft.init.lookup
   have hbi:=ft.init.bind obj
   repeat (any_goals (first|assumption|wp_step))
   refine mz hsi fun r₂ s₂ hr₂=>?_
   cases r₂ with
   |error e=>exact hr₂
   |ok fl₂=>
    cases fl₂ with
    |ret r=>
     obtain⟨rfl,hq⟩:=hr₂
     repeat (any_goals (first|assumption|wp_step))
    |_=>exact hr₂.elim
  |_=>exact hr.elim
theorem Fs{l:Addr}{items:Array Value}{ps:List (List Int×Addr)}{Q:Value→a9→Prop}
  (hh:A.handled=none) (hl:s.heap.IsList l items) (hps:items.toList=ps.map fun p=>Value.ref p.2) (hp:∀k x,(k,x)∈ps→IK prog w s.heap k x) (hz:ps.length≤300) (hu:A.units+8<cLine)
  (h:∀(h':Heap) (tk:Nat) (xs:List (List Int×Addr)),SetX prog w h' s.heap.objs.size xs→IQ ps xs→
   (∀b o,b<s.heap.objs.size→s.heap.get? b=some o→h'.get? b=some o)→Q (.ref s.heap.objs.size) {s with heap:=h',toks:=tk}):
  wpAny (model prog w) A (call (.type "set") [.ref l]) Q E s:=by
 refine Lg (Q₁:=fun obj s₁=>obj=.ref s.heap.objs.size∧s₁={s with heap:=s.heap.push (Bu w)}) PySem.F.called_set (PySem.F.typeCall_set_1 _) (Pu _ ⟨rfl,rfl⟩) ?_
 rintro obj s₁ ⟨rfl,rfl⟩
 have hS:(s.heap.push (Bu w)).get? s.heap.objs.size=some (Bu w):=fK _ rfl
 have hT:a9.TypeIs {s with heap:=s.heap.push (Bu w)} (.ref s.heap.objs.size) "set":=⟨_,hS,rfl⟩
 refine⟨hT,kR PySem.F.called_set.init.plain PySem.F.entry_set_init (check_set_init_1 hT ?_)⟩
 obtain⟨ol,hol,hcl,nl,hdl⟩:=hl
 obtain⟨ocls,odict,odata,oslots⟩:=ol
 simp only at hcl hdl
 subst hcl;subst hdl
 have hol':(s.heap.push (Bu w)).get? l=some {cls:=.type "list",dict:=odict,data:=.seq items nl,slots:=oslots}:=c9 _ hol
 have hsls:=PySem.F.sub_list_set
 have hslf:=PySem.F.sub_list_frozenset
 have hne:(ji "list" ==ji "dict")=false:=by decide
 have hl1:(s.heap.push (Bu w)).IsList l items:=⟨_,hol',rfl,nl,rfl⟩
 unfold Builtin.«set.__init__» noKeywords Builtin.Frozenset.updateFrom
 generalize hPI:oV=PI
 wp_walk
 subst hPI
 refine mX hl1 ?_
 refine a7 (wpAny_runValue ?_)
 have hlS:l<s.heap.objs.size:=fq hol
 have hneI:l≠(s.heap.push (Bu w)).objs.size:=by
  rw[iJ];exact fS (jl hlS)
 have kp:∀b o,s.heap.get? b=some o→((s.heap.push (Bu w)).push {cls:=.type "list_iterator",data:=.fields #[.ref l,.int 0 0]}).get? b=some o:=fun b o e=>c9 _ (c9 _ e)
 refine Sy (a:=s.heap.objs.size) (l:=l) (ps:=ps) (by simpa using hh) hneI (by rw[iJ];exact fS (km _)) (kY hlS) hps hz (by
   show A.in1.in1.units+1<cLine
   exact mO (show A.units+1+1+1≤A.units+8 by omega) hu) (ps.length-0) 0 _ [] rfl (gT _)
  ⟨_,fK _ rfl,rfl,rfl⟩ (hl1.push _) (fun k x hx=> ⟨CW (hp k x hx) fun u e=>kp x u e,?_⟩) ⟨Bu w,#[],0,_,c9 _ hS,⟨rfl,rfl,rfl⟩,rfl,rfl,fun i k x e=>by simp at e,List.nodup_nil,Tb.fresh _ _ _,rfl,(by show 0*5<7*3;decide),rfl⟩ ⟨fun p hp=>by simp at hp,fun k y hy=>by simp at hy,by simp⟩ ?_
 ·obtain⟨o',_,_,ho',_⟩:=hp k x hx
  have:=fq ho'
  rw[iJ]
  exact fS (jl this)
 ·intro h' tk' xs' kk sx so
  refine b6 ?_
  show wpAny _ _ (ret jF) _ _ _
  refine b6 ⟨rfl,h h' tk' xs' sx so fun b o hb e=>kk b o (fS hb) ?_ (kp b o e)⟩
  rw[iJ];exact fS (jl hb)
end
open PySem.Calls PySem.W
section
variable{prog:Program}{w:World}{A:fG}{E:Value→a9→Prop}{s:a9}
theorem Jw{a:Addr}{vs:List Value}{n:Nat}{P:oI→a9→Prop}(ho:s.heap.get? a=some (fV "list" vs.toArray n))(h2:vs.length<2)
  (h:∀c h',h'.get? a=some (fV "list" vs.toArray c)→(∀b o,b≠a→s.heap.get? b=some o→h'.get? b=some o)→P (.done (.ret .none)) {s with heap:=h'}):
  wpAny (model prog w) A (Builtin.«list.sort» ⟨[.ref a],[]⟩) P E s:=by
 obtain⟨e1,ho1⟩:∃e1,(s.heap.update a (gQ fun _=> (#[]:Array Value))).get? a=some (fV "list" #[] e1):=⟨_,kH ho fun _=> #[]⟩
 have keep:∀b o,b≠a→s.heap.get? b=some o→(((s.heap.update a (gQ fun _=> (#[]:Array Value))).push (fV "tuple" vs.toArray 0)).push (fV "list" #[] 0)).get? b=some o:=fun b o hb e=>
  c9 _ (c9 _ (by rw[jH _ _ _ _ hb];exact e))
 have ho3:(((s.heap.update a (gQ fun _=> (#[]:Array Value))).push (fV "tuple" vs.toArray 0)).push (fV "list" #[] 0)).get? a=some (fV "list" #[] e1):=c9 _ (c9 _ ho1)
 rw[nU]
 refine a7 (nL ho rfl ?_)
 refine a7 (lr ho rfl ?_ (by rw[fm,gM];omega) (gT _))
 refine a7 (me ho1 rfl ?_)
 refine a7 (mH ?_ (by show vs.length≤_;rw[gM];omega))
 refine a7 (lj ?_ (gT _))
 refine gx ?_
 show wpAny (model prog w) A _ P E {s with heap:=((s.heap.update a (gQ fun _=> (#[]:Array Value))).push (fV "tuple" vs.toArray 0)).push (fV "list" #[] 0)}
 generalize hG:((s.heap.update a (gQ fun _=> (#[]:Array Value))).push (fV "tuple" vs.toArray 0)).push (fV "list" #[] 0)=G at keep ho3 ⊢
 dsimp only
 have hn2:vs.toArray.size<2:=by rw[fm];omega
 rw[if_pos hn2,if_pos hn2]
 refine a7 (b6 ?_)
 refine a7 (b6 ?_)
 dsimp only
 have har:((vs.toArray.zip vs.toArray).map (·.2))=vs.toArray:=by
  apply kT
  rw[k6,nJ]
  show(vs.zip vs).map (·.2)=vs
  rw[SrtG.Dx,gZ]
  exact ou vs
 have har':(arrOf (lX general' (vs.toArray.zip vs.toArray) #[] 7 none)).map (·.2)=vs.toArray:=har
 rw[har']
 obtain⟨c2,hc2⟩:∃c2,(G.update a (gQ fun _=>vs.toArray)).get? a=some (fV "list" vs.toArray c2):=⟨_,kH ho3 fun _=>vs.toArray⟩
 refine a7 (me ho3 rfl ?_)
 refine a7 (lr ho3 rfl ?_ (gT _) (by rw[fm,gM];omega))
 show wpAny _ _ (if(e1 !=e1)=true then _ else _) _ _ _
 rw[if_neg (by simp)]
 exact b6 (h c2 _ hc2 fun b o hb e=>by rw[jH _ _ _ _ hb];exact keep b o hb e)
theorem BV {α β : Type} {f : α → β} {l1 l2 : List β} (h : l1.Perm l2) : ∀ {xs : List α}, l2 = xs.map f → ∃ ys : List α, ys.Perm xs ∧ ys.map f = l1 := by
  induction h with
  | nil => intro xs e; cases xs with
    | nil => exact ⟨[], .refl _, rfl⟩
    | cons x xs => cases e
  | cons x _ ih => intro xs e; cases xs with
    | nil => cases e
    | cons y xs =>
      rw [fL] at e
      injection e with e1 e2
      obtain ⟨ys, h1, h2⟩ := ih e2
      exact ⟨y :: ys, h1.cons y, by rw [fL, h2, e1]⟩
  | swap x y l => intro xs e; match xs, e with
    | a :: b :: xs, e =>
      simp only [fL] at e
      injection e with e1 e2
      injection e2 with e2 e3
      exact ⟨b :: a :: xs, .swap _ _ _, by simp only [fL]; rw [← e1, ← e2, ← e3]⟩
  | trans _ _ ih1 ih2 => intro xs e
                         obtain ⟨ys, h1, h2⟩ := ih2 e
                         obtain ⟨zs, h3, h4⟩ := ih1 h2.symm
                         exact ⟨zs, h3.trans h1, h4⟩
theorem Lh{a:Addr}{xs:List (List Int×Addr)}{Q:Value→a9→Prop}(hh:A.handled=none)(S:SetX prog w s.heap a xs)(hz:xs.length≤300)
  (hp:∀k x,(k,x)∈xs→∃p q,k=[p,q]∧0≤q∧q<65536)
  (h:∀(h':Heap) (tk:Nat) (ys:List (List Int×Addr)) (D:Addr) (c:Nat),s.heap.get? D=none→h'.get? D=some (fV "list" (ys.map fun p=>Value.ref p.2).toArray c)→(∀b o,s.heap.get? b=some o→h'.get? b=some o)→
   ys.Perm xs→ys.Pairwise (fun x y=>65536*x.1.getD 0 0+x.1.getD 1 0≤65536*y.1.getD 0 0+y.1.getD 1 0)→Q (.ref D) {s with heap:=h',toks:=tk}):
  wpAny (model prog w) A (call (.builtin "sorted") [.ref a]) Q E s:=by
 obtain⟨o,es,ep,t,S⟩:=S
 refine call_function_entry pI oY o6 (pe _) ?_
 unfold Builtin.«sorted»
 refine a7 (m:=checkCount "sorted" 1 1 _) (b6 ?_)
 refine a7 (kdu_collect (A:=A.in1) (Sz S.wk) hh S.get (by rw[S.size,gM];omega) fun h1 tk1 acc hk1 hacc=>?_)
 have hsz:acc.toList.length=xs.length:=by rw[fg,hacc.1,S.size]
 have hacc2:acc.toList=(Dh w a ep es).toList.map (·.2):=by
  apply i7
  intro i
  rw[fc]
  by_cases hi:i<acc.size
  ·have e1:acc[i]?=some acc[i]:=by simp[hi]
   obtain⟨hh',e2⟩:=hacc.2 i _ e1
   have e2':(Dh w a ep es).toList[i]?=some (hh',acc[i]):=by simpa using e2
   rw[e2']
   simpa using e1
  ·have h1':acc.toList[i]?=none:=by simp;omega
   have h2':(Dh w a ep es).toList[i]?=none:=by
    apply jS
    rw[fg,EV,←hacc.1];omega
   rw[h1',h2'];rfl
 have hperm:acc.toList.Perm (xs.map fun p=>Value.ref p.2):=by
  rw[hacc2]
  refine((HM w a ep es).map (·.2)).trans ?_
  rw[S.es,OH,gZ]
  exact kz.refl _
 have hIK:∀k x,(k,x)∈xs→IK prog w h1 k x:=fun k x hx=>by
  obtain⟨i,hi⟩:=gF hx
  exact CW (S.key i k x hi) fun u e=>hk1 x u e
 have tupAt:∀k x,(k,x)∈xs→∃p q,k=[p,q]∧SrtG.TupAt h1 (.ref x) p q∧0≤q∧q<65536:=fun k x hx=>by
  obtain⟨p,q,rfl,h0,h1'⟩:=hp k x hx
  obtain⟨o',items,n,ho',hc',hd',hi'⟩:=hIK _ x hx
  refine⟨p,q,rfl,?_,h0,h1'⟩
  generalize hL:items.toList=L at hi'
  cases hi' with
  |cons i1 i2=>
   cases i2 with
   |cons i3 i4=>
    cases i4
    obtain⟨t1,rfl⟩:=ES i1
    obtain⟨t2,rfl⟩:=ES i3
    have:items= #[.int p t1,.int q t2]:=by
     apply kT
     rw[hL]
    exact⟨x,o',t1,t2,n,rfl,ho',hc',by rw[hd',this]⟩
 refine a7 (lj ?_ (by rw[hsz,gM];omega))
 have hoL:(h1.push (fV "list" acc.toList.toArray 0)).get? h1.objs.size=some (fV "list" acc.toList.toArray 0):=fK _ rfl
 have hDn:s.heap.get? h1.objs.size=none:=by
  cases e:s.heap.get? h1.objs.size with
  |none=>rfl
  |some o'=>exact absurd (fq (hk1 _ _ e)) (gU _)
 have hkp:∀b o,h1.get? b=some o→(h1.push (fV "list" acc.toList.toArray 0)).get? b=some o:=fun b o e=>c9 _ e
 obtain⟨ws,hw1,hw2⟩:=BV hperm rfl
 have fin:∀(out:List Value) (c:Nat) (h2:Heap),out.Perm acc.toList→out.Pairwise (fun x y=>SrtG.SJ (h1.push (fV "list" acc.toList.toArray 0)) (x,x)≤SrtG.SJ (h1.push (fV "list" acc.toList.toArray 0)) (y,y))→
   h2.get? h1.objs.size=some (fV "list" (lQ out) c)→(∀b o,b≠h1.objs.size→(h1.push (fV "list" acc.toList.toArray 0)).get? b=some o→h2.get? b=some o)→Q (.ref h1.objs.size) {s with heap:=h2,toks:=tk1}:=fun out c h2 pm pw hg hk=>by
  obtain⟨ys,y1,y2⟩:=BV (pm.trans hperm) rfl
  subst y2
  refine h h2 tk1 ys _ c hDn hg (fun b o e=>?_) y1 ?_
  ·have hlt:=fq (hk1 b o e)
   exact hk b o (fS hlt) (hkp b o (hk1 b o e))
  ·rw[gP] at pw
   refine ip (fun{x y} hx hy q=>?_) pw
   obtain⟨k1,x1⟩:=x
   obtain⟨k2,x2⟩:=y
   obtain⟨p,q',rfl,t1,_⟩:=tupAt k1 x1 (y1.mem_iff.mp hx)
   obtain⟨p2,q2,rfl,t2,_⟩:=tupAt k2 x2 (y1.mem_iff.mp hy)
   have keepT:∀{v:Value} {i j:Int},SrtG.TupAt h1 v i j→SrtG.TupAt (h1.push (fV "list" acc.toList.toArray 0)) v i j:=fun t=>by
    obtain⟨x,o,t,u,n,e1,e2,e3,e4⟩:=t
    exact⟨x,o,t,u,n,e1,hkp _ _ e2,e3,e4⟩
   rw[SrtG.EZ (k:=(Value.ref x1,Value.ref x1)) (keepT t1).pair,SrtG.EZ (k:=(Value.ref x2,Value.ref x2)) (keepT t2).pair] at q
   exact q
 refine a7 (gx (hV n8 ⟨_,hoL,rfl⟩ nV ?body (oh _)))
 case body=>
  by_cases hlen:acc.toList.length<2
  ·refine Jw (s:={s with heap:=h1.push (fV "list" acc.toList.toArray 0),toks:=tk1}) hoL hlen fun c h2 hg hk=> ⟨_,rfl,b6 ⟨_,rfl,fin acc.toList c h2 (.refl _) ?_ hg hk⟩⟩
   generalize acc.toList=l at hlen
   match l,hlen with
   | [],_=>exact .nil
   | [x],_=>exact ko _ _
  ·refine SrtG.Lf (s:={s with heap:=h1.push (fV "list" acc.toList.toArray 0),toks:=tk1}) hoL (fun v hv=>?_) (by omega) (by omega) fun out c h2 pm pw hg hk=> ⟨_,rfl,b6 ⟨_,rfl,fin out c h2 pm pw hg hk⟩⟩
   obtain⟨⟨k,x⟩,hx,rfl⟩:=fo.mp (hperm.mem_iff.mp hv)
   obtain⟨p,q,rfl,⟨x',o',t1,t2,n,e1,e2,e3,e4⟩,h0,h1'⟩:=tupAt k x hx
   exact⟨p,q,⟨x',o',t1,t2,n,e1,hkp _ _ e2,e3,e4⟩,h0,h1'⟩
end
end StT
namespace L2
open PySem PySem.Spec PyProof.Rows
section
variable{X:Cx}{pins:List (Addr×Obj)}{σ:St}{H:Hp}{s:a9}{h':Heap}
theorem Inv.laidF{a:Addr}{o:HO}{t':Nat}(I:Inv X pins σ H s)(k:∀b u,s.heap.get? b=some u→h'.get? b=some u)(hp:s.heap.get? a=none)(new:ObjOk X.prog X.w (upd H a o) h' a o):
  Inv X pins σ (upd H a o) {s with heap:=h',toks:=t'}:=by
 have hn:H a=none:=by
  cases q:H a with
  |none=>rfl
  |some u=>
   obtain⟨ob,e⟩:=(I.hok a u q).obj
   rw[hp] at e;cases e
 have ne:∀b u,s.heap.get? b=some u→b≠a:=fun b u e z=>by rw[z,hp] at e;cases e
 refine I.un ⟨fun b u q _ _ _=>k b u q,fun b u q _ _ _=> ⟨u.slots,k b u q⟩,fun b u q n _=>by rw[AO (ne b u q)];exact n,fun b u q _=> ⟨u,k b u q⟩,fun b xs q=>by rw[AO (AM q hn)];exact q,fun b u xs q=>by rw[AO (AM q hn)];exact q,fun b ps q=> ⟨#[],by rw[AO (AM q hn),q];simp⟩⟩ ?_
 intro b u e
 by_cases hb:b=a
 ·subst hb;rw[AY] at e;cases e;exact new
 ·rw[AO hb] at e
  exact(I.hok b u e).stay (fun c v _ q=>k c v q) (fun c q=>by rw[AO (AM q hn)];exact q) fun c xs q=>by rw[AO (AM q hn)];exact q
def Zr(P:Program)(w:World)(a:Addr)(xs:List (List Int×Addr))(h:Heap):Prop:=∃o es ep t,h.get? a=some o∧o.ExactSet∧o.data=.set es ep t∧es.toList=StT.OH xs P w∧(xs.map (·.1)).Nodup∧StT.Tb t (xs.map fun p=> (StT.tk P w).hash p.1)∧t.plain=true∧xs.length*5<t.mask*3∧t.led=!w.params.followText "set-order"
def SetO(P:Program)(w:World)(a:Addr)(xs:List (List Int×Addr)):HO:=.ext (Zr P w a xs)
theorem TH{P:Program}{w:World}{H:Hp}{h:Heap}{a:Addr}{xs:List (List Int×Addr)}(S:StT.SetX P w h a xs):ObjOk P w H h a (SetO P w a xs):=by
 obtain⟨o,es,ep,t,S⟩:=S
 refine⟨⟨o,es,ep,t,S.get,S.ex,S.dat,S.es,S.nd,S.tb,S.pl,S.room,S.led⟩,⟨o,S.get⟩,fun h1 h2 ⟨o,es,ep,t,g,r⟩ hk=> ⟨o,es,ep,t,hk _ g,r⟩⟩
def Pv(K:a8)(H:Hp)(xs:List (List Int×Addr)):Prop:=∀k x,(k,x)∈xs→Cm K H x (k.map V.int)
theorem HQ{prog:Program}{w:World}:∀{k:List Int} {us:List Value},Vals (k.map V.int) us→ItemsAre (intKind prog w) k us
 | [],us,r=>by rw[lS] at r;cases r;exact .nil
 |n::k,us,r=>by
  rw[fL] at r
  cases r with
  |cons r1 r2=>
   obtain⟨t,rfl⟩:=r1
   exact .cons (intKind_is _ _ _ _) (HQ r2)
theorem Inv.ik{x:Addr}{k:List Int}(I:Inv X pins σ H s)(h:Cm X.K H x (k.map V.int)):StT.IK X.prog X.w s.heap k x:=by
 obtain⟨its,r,⟨o,ho,hc,n,hd⟩,hz⟩:=I.tuple h
 exact⟨o,its.toArray,n,ho,hc,hd,by simpa using HQ r⟩
def cY(X:Cx):List V→Hp→VK→Prop:=fun vs H Q=>∃a ps,vs=[.ref a]∧De X.K H a (ps.map fun p=>V.ref p.2)∧Pv X.K H ps∧ps.length≤300∧
 ∀p xs,H p=none→StT.IQ ps xs→(xs.map (·.1)).Nodup→Q (.ref p) (upd H p (SetO X.prog X.w p xs))
theorem HR:∀{ps:List (List Int×Addr)} {us:List Value},Vals (ps.map fun p=>V.ref p.2) us→us=ps.map fun p=>Value.ref p.2
 | [],us,r=>by rw[lS] at r;cases r;rfl
 |p::ps,us,r=>by
  rw[fL] at r
  cases r with
  |cons r1 r2=>
   rw[HR r2]
   have r1:_=Value.ref p.2:=r1
   rw[r1]
   rfl
theorem OP(hc:X.calm=true)(hu:X.A.units+8<cLine):Au X (.type "set") (cY X):=by
 intro pins s σ H vs us Q I r h
 obtain⟨a,ps,rfl,hl,hk,hz,q⟩:=h
 obtain⟨u,rfl,ru⟩:=Vals.one r
 cases ru
 obtain⟨its,rv,p,_⟩:=I.list hl
 refine StT.Fs (ps:=ps) (I.ok.hd hc) p.isList (by simpa using HR rv) (fun k x hx=>I.ik (hk k x hx)) hz hu fun h' tk xs sx so kp=>?_
 have hf:H s.heap.objs.size=none:=I.hok.fresh (fj _)
 have nd:(xs.map (·.1)).Nodup:=by obtain⟨_,_,_,_,S⟩:=sx;exact S.nd
 exact⟨.ref s.heap.objs.size,upd H s.heap.objs.size (SetO X.prog X.w s.heap.objs.size xs),I.laid (t':=tk) (fun b u e=>kp b u (fq e) e) (fj _) (TH sx),rfl,q _ _ hf so nd⟩
def Wz(X:Cx):List V→Hp→VK→Prop:=fun vs H Q=>∃p xs,vs=[.ref p]∧H p=some (SetO X.prog X.w p xs)∧Pv X.K H xs∧xs.length≤300∧(∀k x,(k,x)∈xs→∃i j,k=[i,j]∧0≤j∧j<65536)∧
 ∀(q:Addr) (ys:List (List Int×Addr)),H q=none→ys.Perm xs→ys.Pairwise (fun x y=>65536*x.1.getD 0 0+x.1.getD 1 0≤65536*y.1.getD 0 0+y.1.getD 1 0)→Q (.ref q) (upd H q (.lst (ys.map fun p=>V.ref p.2)))
theorem HU:∀(ps:List (List Int×Addr)),Vals (ps.map fun p=>V.ref p.2) (ps.map fun p=>Value.ref p.2)
 | []=> .nil
 |p::ps=> .cons rfl (HU ps)
theorem IT(hc:X.calm=true):Au X (.builtin "sorted") (Wz X):=by
 intro pins s σ H vs us Q I r h
 obtain⟨p,xs,rfl,hp,hk,hz,h2,q⟩:=h
 obtain⟨u,rfl,ru⟩:=Vals.one r
 cases ru
 obtain⟨⟨o,es,ep,t,g1,g2,g3,g4,g5,g6,g7,g8,g9⟩,_,_⟩:=I.hok p _ hp
 refine StT.Lh (xs:=xs) (I.ok.hd hc) ⟨o,es,ep,t,g1,g2,g3,g4,fun i k x e=>I.ik (hk k x (fk e)),g5,g6,g7,g8,g9⟩ hz h2 fun h' tk ys D c hD hg kp pm pw=>?_
 have hf:H D=none:=I.hok.none_of hD
 refine⟨.ref D,upd H D (.lst (ys.map fun p=>V.ref p.2)),I.laidF (t':=tk) kp hD ⟨?_,_,c,HU ys,hg⟩,rfl,q D ys hf pm pw⟩
 rw[e8,pm.length_eq,gM]
 omega
end
end L2
namespace ZpT
open PySem PySem.Spec PyProof.Rows
structure Nx(prog:Program)(w:World)(I ax:Addr)(items:Array Value)(St:Nat→Heap→Prop):Prop where
 item:∀(A:fG) (i:Nat) (s:a9) (x:Value) (Q:Value→a9→Prop) (E:Value→a9→Prop),St i s.heap→items[i]?=some x→(∀h',St (i+1) h'→jn I s.heap h'→Q x {s with heap:=h'})→wpAny (model prog w) A (gH (.ref I)) Q E s
 fin:∀(A:fG) (i:Nat) (s:a9) (Q:Value→a9→Prop) (E:Value→a9→Prop),A.handled=none→St i s.heap→items[i]?=none→(∀h' e,oz I s.heap h'→(∃o,h'.get? e=some o∧o.cls=.type "StopIteration")→E (.ref e) {s with heap:=h'})→wpAny (model prog w) A (gH (.ref I)) Q E s
 keep:∀(i:Nat) (h h':Heap),St i h→(∀o,h.get? I=some o→h'.get? I=some o)→(∀o,h.get? ax=some o→h'.get? ax=some o)→St i h'
 there:∀(i:Nat) (h:Heap),St i h→I<h.objs.size
section
variable{prog:Program}{w:World}
theorem Pw{A:fG}{E:Value→a9→Prop}{s:a9}{it l:Addr}{i:Nat}{items:Array Value}{x:Value}{Q:Value→a9→Prop}(hit:s.heap.IsTupleIter it l i)(hl:s.heap.IsTuple l items)(hx:items[i]?=some x)
  (hQ:∀h',h'.IsTupleIter it l (i+1)→jn it s.heap h'→Q x {s with heap:=h'}):wpAny (model prog w) A (gH (.ref it)) Q E s:=by
 obtain⟨o,ho,hc,hd⟩:=id hit
 obtain⟨ol,hol,_,nl,hdl⟩:=hl
 have hne:¬((Value.ref l==jF)=true):=e6
 unfold gH
 refine a7 (iz (name:=kB "__next__") hit.typeIs jk ?_)
 refine hV jk hit.typeIs PySem.F.entry_tuple_iterator_next ?_ (PySem.F.args_tuple_iterator_next_1 _)
 show wpAny _ _ (field (.ref it) 0>>=_) _ _ s;refine a7 (i5 ho hd (x:=.ref l) rfl ?_)
 show wpAny _ _ (if(Value.ref l==jF)=true then _ else _) _ _ s;rw[if_neg hne]
 show wpAny _ _ (field (.ref it) 1>>=_) _ _ s;refine a7 (i5 ho hd (x:=.int i 0) rfl ?_)
 show wpAny _ _ (oC (.ref l)>>=_) _ _ s;refine a7 (iH hol hdl ?_)
 simp only[gJ,hx]
 refine a7 (wpAny_setField ho hd (by simp) ?_)
 refine b6 ⟨x,rfl,b6 (hQ _ ⟨_,jU _ ho (Obj.isFreed_of_fields (Obj.data_mapFields hd _)),(Obj.cls_mapFields ..).trans hc,?_⟩ (kj ..))⟩
 rw[Obj.data_mapFields hd];simp[lM]
theorem TJ{A:fG}{E:Value→a9→Prop}{s:a9}{it l:Addr}{i:Nat}{items:Array Value}{Q:Value→a9→Prop}(hh:A.handled=none)(hit:s.heap.IsTupleIter it l i)(hl:s.heap.IsTuple l items)(hx:items[i]?=none)
  (hE:∀h' e,oz it s.heap h'→(∃o,h'.get? e=some o∧o.cls=.type "StopIteration")→E (.ref e) {s with heap:=h'}):wpAny (model prog w) A (gH (.ref it)) Q E s:=by
 obtain⟨o,ho,hc,hd⟩:=id hit
 obtain⟨ol,hol,_,nl,hdl⟩:=hl
 have hne:¬((Value.ref l==jF)=true):=e6
 unfold gH
 refine a7 (iz (name:=kB "__next__") hit.typeIs jk ?_)
 refine hV jk hit.typeIs PySem.F.entry_tuple_iterator_next ?_ (PySem.F.args_tuple_iterator_next_1 _)
 show wpAny _ _ (field (.ref it) 0>>=_) _ _ s;refine a7 (i5 ho hd (x:=.ref l) rfl ?_)
 show wpAny _ _ (if(Value.ref l==jF)=true then _ else _) _ _ s;rw[if_neg hne]
 show wpAny _ _ (field (.ref it) 1>>=_) _ _ s;refine a7 (i5 ho hd (x:=.int i 0) rfl ?_)
 show wpAny _ _ (oC (.ref l)>>=_) _ _ s;refine a7 (iH hol hdl ?_)
 simp only[gJ,hx]
 refine a7 (jB (a7 (wpAny_setField ho hd (by simp) ?_)))
 show wpAny _ _ (newExc (.type "StopIteration") []>>=_) _ _ _
 refine a7 ?_
 simp only[newExc,newTuple]
 refine a7 (ic (a7 (m:=mK _ _) (md (a:=jF) (by first|rfl| (simp only[mK];rfl)) ?_)) (by size_fits))
 refine ic ?_ (by size_fits)
 simp only[raiseNew]
 refine a7 (wpAny_handled ?_)
 rw[show A.in1.handled=none from hh]
 exact a7 (b6 (wpAny_throw (hE _ _ (((kj ..).extBut.push _).push _) ⟨_,fK _ rfl,rfl⟩)))
theorem IU(I ax:Addr)(hne:ax≠I)(items:Array Value):Nx prog w I ax items (fun i h=>h.IsTupleIter I ax i∧h.IsTuple ax items) where
 item:=fun A i s x Q E st hx hQ=>Pw st.1 st.2 hx fun h' hit sb=>hQ h' ⟨hit,st.2.at fun o e=> (sb.2 ax hne).trans e⟩ sb
 fin:=fun A i s Q E hh st hx hE=>TJ hh st.1 st.2 hx hE
 keep:=fun i h h' st h1 h2=> ⟨st.1.at h1,st.2.at h2⟩
 there:=fun i h st=>by obtain⟨_,e,_⟩:=st.1;exact fq e
end
section
variable{prog:Program}{w:World}{A:fG}{E:Value→a9→Prop}{s:a9}
variable{z TI TO i1 i2 l1 l2:Addr}{xs ys:Array Value}{S1 S2:Nat→Heap→Prop}
theorem Ck{i:Nat}{I ax b:Addr}{h h':Heap}{items:Array Value}{St:Nat→Heap→Prop}(N:Nx prog w I ax items St)(st:St i h)(hs:oz b h h')(h1:I≠b)(h2:ax≠b):St i h':=N.keep i h h' st (fun o e=>hs I o h1 e) fun o e=>hs ax o h2 e
theorem Px(D:pf z TI TO i1 i2 l1 l2)(N1:Nx prog w i1 l1 xs S1)(N2:Nx prog w i2 l2 ys S2){k1 k2:Nat}{x y a b:Value}{Q:Value→a9→Prop}
  (hz:IsZip s.heap z TI TO .none) (hTI:kb s.heap TI (.ref i1) (.ref i2)) (hTO:kb s.heap TO a b) (h1:S1 k1 s.heap) (h2:S2 k2 s.heap) (hx:xs[k1]?=some x) (hy:ys[k2]?=some y)
  (hQ:∀h',IsZip h' z TI TO (lM s.heap.objs.size)→kb h' TO x y→S1 (k1+1) h'→S2 (k2+1) h'→kb h' s.heap.objs.size x y→
   (∀c o,c≠z→c≠TO→c≠i1→c≠i2→s.heap.get? c=some o→h'.get? c=some o)→Q (.ref s.heap.objs.size) {s with heap:=h'}):
  wpAny (model prog w) A (Builtin.«zip.__next__» ⟨[.ref z],[]⟩) (fun fin s'=>∃v,fin=.done (.ret v)∧Q v s') E s:=by
 show wpAny _ _ (field (.ref z) 2>>=_) _ _ _;refine a7 (i5 hz rfl (x:=.bool false) rfl ?_)
 show wpAny _ _ (field (.ref z) 3>>=_) _ _ _;refine a7 (i5 hz rfl (x:=.ref TI) rfl (a7 (iH hTI rfl ?_)))
 show wpAny _ _ (jc (.ref z)>>=_) _ _ _
 refine a7 ?_;unfold jc
 refine a7 (i5 hz rfl (x:=.none) rfl (b6 ?_));simp only[if_true]
 refine a7 (jB (a7 (i5 hz rfl (x:=.ref TO) rfl (a7 (iO hz (by simp) fun g1 z1 b1=>?_)))))
 replace z1:IsZip g1 z TI TO .ellipsis:=z1
 refine a7 ?_;simp only[nH,List.zipIdx_nil,mn,ow]
 refine a7 (a7 (ni ?_));show wpAny _ _ (gH (.ref i1)>>=_) _ _ _
 refine a7 (N1.item _ k1 {s with heap:=g1} x _ _ (Ck N1 h1 b1.extBut D.i1z D.l1z) hx fun g2 s12 b2=>b6 ?_)
 have t2:kb g2 TO a b:=b2.extBut _ _ D.TOi1 (b1.extBut _ _ D.TOz hTO)
 refine a7 (iH t2 rfl (a7 (ma (s:={s with heap:=g2}) t2 fun g3 t3 b3=>?_)))
 replace t3:kb g3 TO x b:=t3
 refine a7 (lH (b6 (a7 (a7 (ni ?_)))));show wpAny _ _ (gH (.ref i2)>>=_) _ _ _
 have s23:S2 k2 g3:=Ck N2 (Ck N2 (Ck N2 h2 b1.extBut D.i2z D.l2z) b2.extBut D.i12.symm D.l2i1) b3.extBut D.TOi2.symm D.l2TO
 refine a7 (N2.item _ k2 {s with heap:=g3} y _ _ s23 hy fun g4 s24 b4=>b6 ?_)
 have t4:kb g4 TO x b:=b4.extBut _ _ D.TOi2 t3
 refine a7 (iH t4 rfl (a7 (ma (s:={s with heap:=g4}) t4 fun g5 t5 b5=>?_)))
 replace t5:kb g5 TO x y:=t5
 refine a7 (lH (b6 (b6 (a7 (iH t5 rfl (a7 (mH ?_)))))))
 have hsz:g5.objs.size=s.heap.objs.size:=by rw[b5.1,b4.1,b3.1,b2.1,b1.1]
 have z5:IsZip g5 z TI TO .ellipsis:=b5.extBut _ _ D.TOz.symm (b4.extBut _ _ D.i2z.symm (b3.extBut _ _ D.TOz.symm (b2.extBut _ _ D.i1z.symm z1)))
 have k5:∀c o,c≠z→c≠TO→c≠i1→c≠i2→s.heap.get? c=some o→g5.get? c=some o:=fun c o c1 c2 c3 c4 e=>b5.extBut _ _ c2 (b4.extBut _ _ c4 (b3.extBut _ _ c2 (b2.extBut _ _ c3 (b1.extBut _ _ c1 e))))
 have s15:S1 (k1+1) g5:=Ck N1 (Ck N1 (Ck N1 s12 b3.extBut D.TOi1.symm D.l1TO) b4.extBut D.i12 D.l1i2) b5.extBut D.TOi1.symm D.l1TO
 have s25:S2 (k2+1) g5:=Ck N2 s24 b5.extBut D.TOi2.symm D.l2TO
 have zlt:z<g5.objs.size:=fq z5
 show wpAny _ _ (Builtin.SmallTypes.ownedTupleHandOut (.ref z) (.ref g5.objs.size)>>=_) _ _ _
 refine a7 ?_;unfold Builtin.SmallTypes.ownedTupleHandOut
 have z6:IsZip (g5.push {cls:=.type "tuple",data:=.seq #[x,y]}) z TI TO .ellipsis:=c9 _ z5
 refine a7 (iO z6 (by simp) fun g7 z7 b7=>?_)
 replace z7:IsZip g7 z TI TO (lM g5.objs.size):=z7
 refine iO (s:={s with heap:=g7}) z7 (by simp) fun g8 z8 b8=>?_
 replace z8:IsZip g8 z TI TO (lM g5.objs.size):=z8
 have up:∀c o,c≠z→g5.get? c=some o→g8.get? c=some o:=fun c o c1 e=>b8.extBut _ _ c1 (b7.extBut _ _ c1 (c9 _ e))
 have t8:kb g8 g5.objs.size x y:=b8.extBut _ _ (kY zlt) (b7.extBut _ _ (kY zlt) (fK _ rfl))
 rw[hsz] at z8 t8
 refine b6 ⟨_,rfl,?_⟩
 show Q (.ref g5.objs.size) _
 rw[hsz]
 exact hQ g8 z8 (up _ _ D.TOz t5) (N1.keep _ _ _ s15 (fun o e=>up _ o D.i1z e) fun o e=>up _ o D.l1z e) (N2.keep _ _ _ s25 (fun o e=>up _ o D.i2z e) fun o e=>up _ o D.l2z e) t8 fun c o c1 c2 c3 c4 e=>up c o c1 (k5 c o c1 c2 c3 c4 e)
theorem TK(hh:A.handled=none)(D:pf z TI TO i1 i2 l1 l2)(N1:Nx prog w i1 l1 xs S1)(N2:Nx prog w i2 l2 ys S2){k1 k2:Nat}{a b:Value}{Q:oI→a9→Prop}
  (hz:IsZip s.heap z TI TO .none) (hTI:kb s.heap TI (.ref i1) (.ref i2)) (hTO:kb s.heap TO a b) (h1:S1 k1 s.heap) (h2:S2 k2 s.heap) (hend:xs[k1]?=none∨ys[k2]?=none)
  (hE:∀h' e,(∀c o,c≠z→c≠TO→c≠i1→c≠i2→s.heap.get? c=some o→h'.get? c=some o)→(∃o,h'.get? e=some o∧o.cls=.type "StopIteration")→E (.ref e) {s with heap:=h'}):
  wpAny (model prog w) A (Builtin.«zip.__next__» ⟨[.ref z],[]⟩) Q E s:=by
 show wpAny _ _ (field (.ref z) 2>>=_) _ _ _;refine a7 (i5 hz rfl (x:=.bool false) rfl ?_)
 show wpAny _ _ (field (.ref z) 3>>=_) _ _ _;refine a7 (i5 hz rfl (x:=.ref TI) rfl (a7 (iH hTI rfl ?_)))
 show wpAny _ _ (jc (.ref z)>>=_) _ _ _
 refine a7 ?_;unfold jc
 refine a7 (i5 hz rfl (x:=.none) rfl (b6 ?_));simp only[if_true]
 refine a7 (jB (a7 (i5 hz rfl (x:=.ref TO) rfl (a7 (iO hz (by simp) fun g1 z1 b1=>?_)))))
 replace z1:IsZip g1 z TI TO .ellipsis:=z1
 refine a7 ?_;simp only[nH,List.zipIdx_nil,mn,ow]
 refine a7 (a7 (ni ?_));show wpAny _ _ (gH (.ref i1)>>=_) _ _ _
 have s11:=Ck N1 h1 b1.extBut D.i1z D.l1z
 cases hx:xs[k1]? with
 |none=>
  refine a7 (N1.fin _ k1 {s with heap:=g1} _ _ hh s11 hx fun g2 e b2 ⟨oe,hoe,hce⟩=>?_)
  have z2:IsZip g2 z TI TO .ellipsis:=b2 _ _ D.i1z.symm z1
  have hez:e≠z:=fun q=>by rw[q,z2] at hoe;cases hoe;simp at hce
  exact iO (s:={s with heap:=g2}) z2 (by simp) fun g3 _ b3=>hE g3 e (fun c o c1 _ c3 _ q=>b3.extBut _ _ c1 (b2 _ _ c3 (b1.extBut _ _ c1 q))) ⟨oe,b3.extBut _ _ hez hoe,hce⟩
 |some x=>
  have hy:ys[k2]?=none:=hend.resolve_left (by rw[hx];simp)
  refine a7 (N1.item _ k1 {s with heap:=g1} x _ _ s11 hx fun g2 s12 b2=>b6 ?_)
  have t2:kb g2 TO a b:=b2.extBut _ _ D.TOi1 (b1.extBut _ _ D.TOz hTO)
  refine a7 (iH t2 rfl (a7 (ma (s:={s with heap:=g2}) t2 fun g3 t3 b3=>?_)))
  refine a7 (lH (b6 (a7 (a7 (ni ?_)))));show wpAny _ _ (gH (.ref i2)>>=_) _ _ _
  have s23:S2 k2 g3:=Ck N2 (Ck N2 (Ck N2 h2 b1.extBut D.i2z D.l2z) b2.extBut D.i12.symm D.l2i1) b3.extBut D.TOi2.symm D.l2TO
  refine a7 (N2.fin _ k2 {s with heap:=g3} _ _ hh s23 hy fun g4 e b4 ⟨oe,hoe,hce⟩=>?_)
  have z4:IsZip g4 z TI TO .ellipsis:=b4 _ _ D.i2z.symm (b3.extBut _ _ D.TOz.symm (b2.extBut _ _ D.i1z.symm z1))
  have hez:e≠z:=fun q=>by rw[q,z4] at hoe;cases hoe;simp at hce
  exact iO (s:={s with heap:=g4}) z4 (by simp) fun g5 _ b5=>hE g5 e (fun c o c1 c2 c3 c4 q=>b5.extBut _ _ c1 (b4 _ _ c4 (b3.extBut _ _ c2 (b2.extBut _ _ c3 (b1.extBut _ _ c1 q))))) ⟨oe,b5.extBut _ _ hez hoe,hce⟩
theorem EX(D:pf z TI TO i1 i2 l1 l2)(N1:Nx prog w i1 l1 xs S1)(N2:Nx prog w i2 l2 ys S2){k1 k2:Nat}{x y a b:Value}{Q:Option Value→a9→Prop}
  (hz:IsZip s.heap z TI TO .none) (hTI:kb s.heap TI (.ref i1) (.ref i2)) (hTO:kb s.heap TO a b) (h1:S1 k1 s.heap) (h2:S2 k2 s.heap) (hx:xs[k1]?=some x) (hy:ys[k2]?=some y)
  (hQ:∀h',IsZip h' z TI TO (lM s.heap.objs.size)→kb h' TO x y→S1 (k1+1) h'→S2 (k2+1) h'→kb h' s.heap.objs.size x y→
   (∀c o,c≠z→c≠TO→c≠i1→c≠i2→s.heap.get? c=some o→h'.get? c=some o)→Q (some (.ref s.heap.objs.size)) {s with heap:=h'}):wpAny (model prog w) A (lF (.ref z)) Q E s:=by
 have hT:s.TypeIs (.ref z) "zip":=⟨_,hz,rfl⟩
 unfold lF
 refine a7 (j6 (iz (name:=kB "__next__") hT kN ?_))
 refine hV kN hT PySem.F.entry_zip_next (Px D N1 N2 hz hTI hTO h1 h2 hx hy fun h' a1 a2 a3 a4 a5 a6=>?_) (PySem.F.args_zip_next_1 _)
 exact b6 (hQ h' a1 a2 a3 a4 a5 a6)
theorem Fp(hh:A.handled=none)(D:pf z TI TO i1 i2 l1 l2)(N1:Nx prog w i1 l1 xs S1)(N2:Nx prog w i2 l2 ys S2){k1 k2:Nat}{a b:Value}{Q:Option Value→a9→Prop}
  (hz:IsZip s.heap z TI TO .none) (hTI:kb s.heap TI (.ref i1) (.ref i2)) (hTO:kb s.heap TO a b) (h1:S1 k1 s.heap) (h2:S2 k2 s.heap) (hend:xs[k1]?=none∨ys[k2]?=none)
  (hQ:∀h',(∀c o,c≠z→c≠TO→c≠i1→c≠i2→s.heap.get? c=some o→h'.get? c=some o)→Q none {s with heap:=h'}):wpAny (model prog w) A (lF (.ref z)) Q E s:=by
 have hT:s.TypeIs (.ref z) "zip":=⟨_,hz,rfl⟩
 unfold lF
 refine a7 (j6 (iz (name:=kB "__next__") hT kN ?_))
 refine hV kN hT PySem.F.entry_zip_next (TK (A:=A.in1) hh D N1 N2 hz hTI hTO h1 h2 hend fun h' e hk ⟨o,ho,hc⟩=>?_) (PySem.F.args_zip_next_1 _)
 exact a7 (nC (T:="StopIteration") (b:=true) ⟨o,ho,hc⟩ isSubtype_stop (b6 (hQ _ hk)))
theorem Py{t u:Addr}{xs ys:Array Value}{Q:Value→a9→Prop}(ht:s.heap.IsTuple t xs)(hu:s.heap.IsTuple u ys)
  (h:∀h' n,n=s.heap.objs.size→IsZip h' (n+4) (n+2) (n+3) .none→kb h' (n+2) (.ref n) (.ref (n+1))→kb h' (n+3) .none .none→h'.IsTupleIter n t 0→h'.IsTupleIter (n+1) u 0→
   (∀c o,s.heap.get? c=some o→h'.get? c=some o)→Q (.ref (n+4)) {s with heap:=h'}):wpAny (model prog w) A (call (.type "zip") [.ref t,.ref u]) Q E s:=by
 have M:Meets (Builtin.«zip.__new__» ⟨[.type "zip",.ref t,.ref u],[]⟩) (fun _ R s=>s.heap.IsTuple t xs∧s.heap.IsTuple u ys∧
   ∀h',h'=((((s.heap.push {cls:=.type "tuple_iterator",data:=.fields #[.ref t,.int 0 0]}).push {cls:=.type "tuple_iterator",data:=.fields #[.ref u,.int 0 0]}).push {cls:=.type "tuple",data:=.seq #[.ref s.heap.objs.size,.ref (s.heap.objs.size+1)]}).push {cls:=.type "tuple",data:=.seq #[.none,.none]}).push
     {cls:=.type "zip",data:=.fields #[.none,.bool false,.bool false,.ref (s.heap.objs.size+2),.ref (s.heap.objs.size+3)]}→R (.ok (.ret (.ref (s.heap.objs.size+4)))) {s with heap:=h'}):=
  .of_wp fun prog w A R s h=>by
   obtain⟨hp,g,d,tk,os⟩:=s
   obtain⟨hl1,hl2,h⟩:=h
   have hsub:=sub_zip
   have hL1:Heap.IsTuple (a9.heap ⟨hp,g,d,tk,os⟩) t xs:=hl1
   have hL2:Heap.IsTuple (a9.heap ⟨hp.push {cls:=.type "tuple_iterator",data:=.fields #[.ref t,.int 0 0]},g,d,tk,os⟩) u ys:=hl2.at fun o e=>c9 _ e
   wp_walk using lD hL1,lD hL2
   simp only[iJ] at h ⊢
   exact⟨_,rfl,h _ rfl⟩
 refine callType_new PySem.F.called_zip (by decide) (PySem.F.typeCall_zip_2 _ _) (PySem.F.newCall_zip_2 _ _) (fun obj=>PySem.F.args_object_init_3 obj _ _) PySem.F.entry_zip_new M ⟨ht,hu,?_⟩
 rintro h' rfl
 have sz:∀(h:Heap) (o:Obj),(h.push o).objs.size=h.objs.size+1:=fun h o=>iJ ..
 have up:∀{h:Heap} {c:Addr} {o o':Obj},h.get? c=some o→(h.push o').get? c=some o:=fun e=>c9 _ e
 have g0:∀(h:Heap) (o:Obj) (n:Nat),h.objs.size=n→o.isFreed=false→(h.push o).get? n=some o:=fun h o n e f=>by rw[←e];exact fK _ f
 refine⟨⟨_,g0 _ _ _ (by simp[sz]) rfl,rfl⟩,h _ _ rfl (g0 _ _ _ (by simp[sz]) rfl) (up (up (g0 _ _ _ (by simp[sz]) rfl))) (up (g0 _ _ _ (by simp[sz]) rfl)) ⟨_,up (up (up (up (g0 _ _ _ rfl rfl)))),rfl,rfl⟩ ⟨_,up (up (up (g0 _ _ _ (by simp[sz]) rfl))),rfl,rfl⟩ fun c o e=>up (up (up (up (up e))))⟩
end
end ZpT
namespace L2
open PySem PySem.Spec PyProof.Rows
def cZ(K:a8)(t u:Addr):It:=⟨fun i H=>∃xs ys x y,Cm K H t xs∧Cm K H u ys∧xs[i]?=some x∧ys[i]?=some y,
 fun i H v H'=>∃p x y,H p=none∧v=.ref p∧H'=upd H p (.tup [x,y])∧(∀xs,Cm K H t xs→xs[i]?=some x)∧∀ys,Cm K H u ys→ys[i]?=some y,fun i H=>∃xs ys,Cm K H t xs∧Cm K H u ys∧(xs.length≤i∨ys.length≤i)⟩
section
variable{X:Cx}
theorem Inv.turns{pins:List (Addr×Obj)}{σ:St}{H:Hp}{s:a9}{h':Heap}{t':Nat}{ch:List Addr}(I:Inv X pins σ H s)(hf:∀b∈ch,FT X pins H b)(k:∀b o,b∉ch→s.heap.get? b=some o→h'.get? b=some o):Inv X pins σ H {s with heap:=h',toks:=t'}:=by
 refine I.call' (s':={s with heap:=h',toks:=t'}) (ch:=ch) rfl ⟨fun b o e _ _ hb=>k b o hb e,fun b o e _ _ hb=> ⟨o.slots,k b o hb e⟩,fun _ _ _ n _=>n,fun b o e hb=> ⟨o,k b o hb e⟩,fun _ _ e=>e,fun _ _ _ e=>e,fun b ps e=> ⟨#[],by rw[e];simp⟩⟩ (I.hok.by_keep fun b o hb e=>k b o (fun z=>hb (hf b z).1) e) I.bare fun b hb=>?_
 obtain⟨_,q2,q3,q4,q5,q6⟩:=hf b hb
 exact⟨q4,q2,q5,q6⟩
theorem Pz{P:Program}{w:World}{K:a8}{es:List Expr}{k:Nat}{pos:Pos}{z TI TO i1 i2 t u:Addr}(D:pf z TI TO i1 i2 t u):
  Turn P w K (.Tuple es k pos) (cZ K t u) [z,TI,TO,i1,i2] z (fun i h=>IsZip h z TI TO .none∧kb h TI (.ref i1) (.ref i2)∧(∃a b,kb h TO a b)∧h.IsTupleIter i1 t i∧h.IsTupleIter i2 u i) where
 mem:=by simp
 obj:=fun i h st b hb=>by
  obtain⟨s1,s2,⟨a,c,s3⟩,⟨o4,e4,c4,d4⟩,⟨o5,e5,c5,d5⟩⟩:=st
  simp only[fh,gC,or_false] at hb
  rcases hb with rfl|rfl|rfl|rfl|rfl
  ·exact⟨_,s1,fun v q=>by have q:Data.fields _=pG v:=q;cases q⟩
  ·exact⟨_,s2,fun v q=>by have q:Data.seq _ _=pG v:=q;cases q⟩
  ·exact⟨_,s3,fun v q=>by have q:Data.seq _ _=pG v:=q;cases q⟩
  ·exact⟨o4,e4,fun v q=>by rw[d4] at q;cases q⟩
  ·exact⟨o5,e5,fun v q=>by rw[d5] at q;cases q⟩
 keep:=fun i h h' st kk=>by
  obtain⟨s1,s2,⟨a,c,s3⟩,s4,s5⟩:=st
  exact⟨kk z (by simp) _ s1,kk TI (by simp) _ s2,⟨a,c,kk TO (by simp) _ s3⟩,s4.at fun o e=>kk i1 (by simp) o e,s5.at fun o e=>kk i2 (by simp) o e⟩
 item:=by
  intro X hP hw hK hc i pins s σ H E I hf st hg
  subst hP hw hK
  obtain⟨xs,ys,x,y,hq1,hq2,hx,hy⟩:=hg
  obtain⟨its,rv,p,hz⟩:=I.tuple hq1
  obtain⟨its2,rv2,p2,hz2⟩:=I.tuple hq2
  obtain⟨a,ha,ra⟩:=rv.get hx
  obtain⟨b,hb,rb⟩:=rv2.get hy
  obtain⟨s1,s2,⟨c,d,s3⟩,s4,s5⟩:=st
  refine ZpT.EX D (ZpT.IU i1 t D.l1i1 its.toArray) (ZpT.IU i2 u D.l2i2 its2.toArray) s1 s2 s3 ⟨s4,p⟩ ⟨s5,p2⟩ (by simpa using ha) (by simpa using hb) fun h1 z1 to1 a1 a2 n1 k1=>?_
  refine⟨_,rfl,wpAny_letOwnedTupleGo_zip (s:={s with heap:=h1}) z1 fun h2 z2 sb2=>?_⟩
  have hlt:∀v o,s.heap.get? v=some o→v≠s.heap.objs.size:=fun v o e=>fS (fq e)
  have zs:z≠s.heap.objs.size:=hlt z _ s1
  have up2:∀v o,v≠z→h1.get? v=some o→h2.get? v=some o:=fun v o hv e=> (sb2.2 v hv).trans e
  have hT:H s.heap.objs.size=none:=I.hok.fresh (fj _)
  have kk:∀v o,v∉[z,TI,TO,i1,i2]→s.heap.get? v=some o→h2.get? v=some o:=fun v o hv e=>by
   simp only[fh,gC,or_false,not_or] at hv
   exact up2 v o hv.1 (k1 v o hv.1 hv.2.2.1 hv.2.2.2.1 hv.2.2.2.2 e)
  have I1:Inv X pins σ (upd H s.heap.objs.size (.tup [x,y])) {s with heap:=h2}:=by
   have ne:∀v o,s.heap.get? v=some o→upd H s.heap.objs.size (.tup [x,y]) v=H v:=fun v o e=>AO (hlt v o e)
   refine I.call' (s':={s with heap:=h2}) (ch:=[z,TI,TO,i1,i2]) rfl ⟨fun v o e _ _ hv=>kk v o hv e,fun v o e _ _ hv=> ⟨o.slots,kk v o hv e⟩,fun v o e n _=>by rw[ne v o e];exact n,fun v o e hv=> ⟨o,kk v o hv e⟩,fun v xs e=>?_,fun v o xs e=>?_,fun v ps e=>?_⟩ ?_ I.bare fun v hv=>?_
   ·rw[AO (AM e hT)];exact e
   ·rw[AO (AM e hT)];exact e
   ·exact⟨#[],by rw[AO (AM e hT),e];simp⟩
   ·intro v o e
    by_cases hv:v=s.heap.objs.size
    ·subst hv
     rw[AY] at e;cases e
     exact⟨by show 2≤sizeLine;decide,[a,b],.cons ra (.cons rb .nil),⟨_,up2 _ _ (Ne.symm zs) n1,rfl,_,rfl⟩⟩
    ·rw[AO hv] at e
     refine(I.hok v o e).stay (fun c w' hc' q=>kk c w' (fun hm=>?_) q) (fun c q=>by rw[AO (AM q hT)];exact q) fun c xs q=>by rw[AO (AM q hT)];exact q
     have hn:=(hf c hm).1
     rcases hc' with rfl|hc'
     ·rw[e] at hn;cases hn
     ·rw[hc'] at hn;cases hn
   ·obtain⟨_,q2,q3,q4,q5,q6⟩:=hf v hv
    exact⟨q4,q2,q5,q6⟩
  refine⟨.ref s.heap.objs.size,_,I1,rfl,⟨_,x,y,hT,rfl,rfl,fun xs' q=>by rw[I.tuple_inj q hq1];exact hx,fun ys' q=>by rw[I.tuple_inj q hq2];exact hy⟩,⟨z2,up2 TI _ D.TIz (k1 TI _ D.TIz D.TITO D.TIi1 D.TIi2 s2),⟨_,_,up2 TO _ D.TOz to1⟩,a1.1.at fun o e=>up2 i1 o D.i1z e,a2.1.at fun o e=>up2 i2 o D.i2z e⟩,fun v hv=>?_⟩
  have hvo:∃o,s.heap.get? v=some o:=by
   simp only[fh,gC,or_false] at hv
   rcases hv with rfl|rfl|rfl|rfl|rfl
   ·exact⟨_,s1⟩
   ·exact⟨_,s2⟩
   ·exact⟨_,s3⟩
   ·obtain⟨o,e,_⟩:=s4;exact⟨o,e⟩
   ·obtain⟨o,e,_⟩:=s5;exact⟨o,e⟩
  obtain⟨o,e⟩:=hvo
  rw[AO (hlt v o e)]
  exact(hf v hv).1
 done:=by
  intro X hP hw hK hc i pins s σ H E I hf st hg
  subst hP hw hK
  obtain⟨xs,ys,hq1,hq2,hl⟩:=hg
  obtain⟨its,rv,p,hz⟩:=I.tuple hq1
  obtain⟨its2,rv2,p2,hz2⟩:=I.tuple hq2
  have l1:=rv.length
  have l2:=rv2.length
  obtain⟨s1,s2,⟨c,d,s3⟩,s4,s5⟩:=st
  refine ZpT.Fp (I.ok.hd hc) D (ZpT.IU i1 t D.l1i1 its.toArray) (ZpT.IU i2 u D.l2i2 its2.toArray) s1 s2 s3 ⟨s4,p⟩ ⟨s5,p2⟩ (hl.imp (fun q=>by simp;omega) fun q=>by simp;omega) fun h' k1=> ⟨rfl,I.turns (t':=s.toks) hf fun v o hv e=>?_⟩
  simp only[fh,gC,or_false,not_or] at hv
  exact k1 v o hv.1 hv.2.2.1 hv.2.2.2.1 hv.2.2.2.2 e
 self:=fun _ _ _ _ _ st h=>wpAny_pyIter_zip st.1 h
theorem QA:gk "zip" =some (.type "zip"):=by decide+kernel
def cb(K:a8)(ta:TA):TI:=fun σ H R=>ta σ H fun vs H1=>∃t u,vs=[.ref t,.ref u]∧(∃xs,Cm K H1 t xs)∧(∃ys,Cm K H1 u ys)∧R (cZ K t u) H1
theorem XA{a b:Expr}{ta:TA}{p pos tpos:Pos}{es:List Expr}{k:Nat}(hg:Gl X "zip")(hm:X.mg "zip" =none)(ha:PA X [a,b] ta)(hs:e9 [a,b] X.env=[(false,eval a X.env),(false,eval b X.env)]:=by rfl)(hs2:e9 [b] X.env=[(false,eval b X.env)]:=by rfl):
  PI X (.Tuple es k tpos) (.Call (.Name "zip" p) [a,b] [] pos) (cb X.K ta):=by
 intro pins s σ H R I h
 refine Call_ (Dd I hg hm QA (jJ (Ao (ha pos pins s σ H _ I h) fun us s1 ⟨vs,H1,I1,r1,q1⟩=>?_) (by rw[hs,hs2]) (by rw[hs2];rfl)))
 obtain⟨t,u,rfl,⟨xs,h1⟩,⟨ys,h2⟩,q⟩:=q1
 obtain⟨v1,v2,rfl,e1,e2⟩:=Mj r1
 cases e1;cases e2
 obtain⟨its,rv,p1,_⟩:=I1.tuple h1
 obtain⟨its2,rv2,p2,_⟩:=I1.tuple h2
 have a1:t<s1.heap.objs.size:=by obtain⟨_,e,_⟩:=p1;exact fq e
 have a2:u<s1.heap.objs.size:=by obtain⟨_,e,_⟩:=p2;exact fq e
 refine ZpT.Py (xs:=its.toArray) (ys:=its2.toArray) p1 p2 fun h' n hn z1 z2 z3 z4 z5 kp=>?_
 subst hn
 refine wpAny_pyIter_zip z1 ?_
 refine⟨_,_,_,_,H1,rfl,I1.kept (t':=s1.toks) kp,Pz (zipApart_new a1 a2),⟨z1,z2,⟨_,_,z3⟩,z4,z5⟩,fun b hb=>?_,q⟩
 have hge:s1.heap.objs.size≤b:=by
  simp only[fh,gC,or_false] at hb
  rcases hb with rfl|rfl|rfl|rfl|rfl<;>omega
 exact I1.fpOk hge (I1.hok.fresh hge)
end
open PySem.Calls
section
variable{X:Cx}
def Yq(K:a8)(H:Hp)(a:Addr)(xs:List V):Prop:=De K H a xs∨Cm K H a xs
theorem Inv.walk{pins:List (Addr×Obj)}{σ:St}{H:Hp}{s:a9}{a:Addr}{xs:List V}(I:Inv X pins σ H s)(hq:Yq X.K H a xs):∃its:List Value,Vals xs its∧a<s.heap.objs.size∧∀(A:fG) (E:Value→a9→Prop) (Q:Value→a9→Prop),A.handled=none→
  (∀(o:Obj) (St:Nat→Heap→Prop),Walks X.prog X.w A s.heap.objs.size [s.heap.objs.size,a] [s.heap.objs.size] its.length (fun i v=>its[i]?=some v) St→St 0 (s.heap.push o)→Q (.ref s.heap.objs.size) {s with heap:=s.heap.push o})→wpAny (model X.prog X.w) A (oV (.ref a)) Q E s:=by
 rcases hq with hq|hq
 ·obtain⟨its,rv,p,_⟩:=I.list hq
  have lt:a<s.heap.objs.size:=by obtain⟨_,_,e,_⟩:=p;exact fq e
  refine⟨its,rv,lt,fun A E Q hh h=>mX p.isList ?_⟩
  have W:=Walks.list (prog:=X.prog) (w:=X.w) (A:=A) hh s.heap.objs.size a (fS lt) its.toArray
  have W':Walks X.prog X.w A s.heap.objs.size [s.heap.objs.size,a] [s.heap.objs.size] its.length (fun i v=>its[i]?=some v) (fun i h=>h.IsListIter s.heap.objs.size a i∧h.IsList a its.toArray):=by simpa using W
  exact h _ _ W' ⟨⟨_,fK _ rfl,rfl,rfl⟩,p.isList.push _⟩
 ·obtain⟨its,rv,p,_⟩:=I.tuple hq
  have lt:a<s.heap.objs.size:=by obtain⟨_,e,_⟩:=p;exact fq e
  refine⟨its,rv,lt,fun A E Q hh h=>lD (items:=its.toArray) p ?_⟩
  have W:=Walks.tuple (prog:=X.prog) (w:=X.w) (A:=A) hh s.heap.objs.size a (fS lt) its.toArray
  have W':Walks X.prog X.w A s.heap.objs.size [s.heap.objs.size,a] [s.heap.objs.size] its.length (fun i v=>its[i]?=some v) (fun i h=>h.IsTupleIter s.heap.objs.size a i∧h.IsTuple a its.toArray):=by simpa using W
  have p':s.heap.IsTuple a its.toArray:=p
  exact h _ _ W' ⟨⟨_,fK _ rfl,rfl,rfl⟩,p'.at fun o e=>c9 _ e⟩
theorem Ft{s:a9}{o:Obj}{h':Heap}(hk:∀b x,b∉[s.heap.objs.size]→(s.heap.push o).get? b=some x→h'.get? b=some x):∀b x,s.heap.get? b=some x→h'.get? b=some x:=fun b x e=>
 hk b x (by simpa using fS (fq e)) (c9 _ e)
theorem TM{bs:List Bool}:∀{us:List Value},Vals (bs.map V.bl) us→us=bs.map lW:=by
 induction bs with
 |nil=>intro us r;rw[lS] at r;cases r;rfl
 |cons b bs ih=>
  intro us r
  rw[fL] at r
  cases r with
  |cons r1 r2=>
   cases r1
   rw[ih r2];rfl
theorem Jx(bs:List Bool):((fY bs.length).all fun i=> (bs[i]?).getD true)=bs.all id:=LSm.range_all bs
theorem QB(hc:X.calm=true):Au X (.builtin "all") (fun vs H Q=>∃(a:Addr) (bs:List Bool),vs=[.ref a]∧Yq X.K H a (bs.map V.bl)∧Q (.bl (bs.all id)) H):=by
 intro pins s σ H vs us Q I r h
 obtain⟨a,bs,rfl,hq,q⟩:=h
 obtain⟨u,rfl,ru⟩:=DW r
 cases ru
 obtain⟨its,rv,lt,wk⟩:=I.walk hq
 have e:=TM rv
 refine call_all_walk (wk X.A.in1 _ _ (I.ok.hd hc) fun o St W st=> ⟨_,_,_,_,_,_,fun i=> (bs[i]?).getD true,rfl,W,st,fun i v s' Q' E' hP hQ=>?_,fun h' tk hk=>?_⟩)
 ·rw[e,fc] at hP
  cases hb:bs[i]? with
  |none=>rw[hb] at hP;cases hP
  |some b=>
   rw[hb] at hP
   cases hP
   simp only[hb,Option.getD_some] at hQ
   exact jh hQ
 ·have e2:its.length=bs.length:=by rw[e,e8]
  rw[e2,Jx]
  exact⟨.bl _,H,I.kept (t':=tk) (Ft hk),rfl,q⟩
theorem CB{ns:List Int}{us:List Value}(r:Vals (ns.map V.int) us)(i:Nat)(v:Value)(h:us[i]?=some v):∃t,v=.int (ns.getD i 0) t:=by
 have hl:=r.length
 have hi:i<ns.length:=by
  have:=(fD.mp h).1
  rw[e8] at hl;omega
 obtain⟨u,e,t,rfl⟩:=r.get (i:=i) (x:=.int ns[i]) (by simp[hi])
 rw[h] at e;cases e
 exact⟨t,by simp[kZ,hi]⟩
def Fu(ns:List Int)(m:Int):Prop:=m∈ns∧∀n∈ns,m≤n
def My(ns:List Int)(m:Int):Prop:=m∈ns∧∀n∈ns,n≤m
theorem Fv{ns:List Int}{i:Nat}(h:i<ns.length):ns.getD i 0∈ns:=by simp[kZ,h]
theorem OQ(hc:X.calm=true):Au X (.builtin "min") (fun vs H Q=>∃(a:Addr) (ns:List Int),vs=[.ref a]∧Yq X.K H a (ns.map V.int)∧0<ns.length∧∀m,Fu ns m→Q (.int m) H):=by
 intro pins s σ H vs us Q I r h
 obtain⟨a,ns,rfl,hq,h0,q⟩:=h
 obtain⟨u,rfl,ru⟩:=DW r
 cases ru
 obtain⟨its,rv,lt,wk⟩:=I.walk hq
 have hl:its.length=ns.length:=by have:=rv.length;rw[e8] at this;exact this.symm
 refine call_min_walk (wk X.A.in1 _ _ (I.ok.hd hc) fun o St W st=> ⟨_,_,_,_,_,_,_,rfl,W,st,fun b hb=>?_,by omega,CmpOf.ints_lt (fun i=>ns.getD i 0) (fun i v hv=>CB rv i v hv),fun v h' tk hP hk=>?_⟩)
 ·show b< (s.heap.push o).objs.size
  rw[iJ]
  simp only[fh,gC,or_false] at hb
  rcases hb with rfl|rfl
  ·exact km _
  ·exact jl lt
 ·obtain⟨t,rfl⟩:=CB rv _ v hP
  obtain⟨b1,b2⟩:=argBest_lt (fun i=>ns.getD i 0) (its.length-1)
  exact⟨.int _,H,I.kept (t':=tk) (Ft hk),⟨t,rfl⟩,q _ ⟨Fv (by omega),fun n hn=>by
   obtain⟨j,hj,rfl⟩:=k9 hn
   have:=b2 j (by omega)
   simpa[kZ,hj] using this⟩⟩
theorem OR(hc:X.calm=true):Au X (.builtin "max") (fun vs H Q=>∃(a:Addr) (ns:List Int),vs=[.ref a]∧Yq X.K H a (ns.map V.int)∧0<ns.length∧∀m,My ns m→Q (.int m) H):=by
 intro pins s σ H vs us Q I r h
 obtain⟨a,ns,rfl,hq,h0,q⟩:=h
 obtain⟨u,rfl,ru⟩:=DW r
 cases ru
 obtain⟨its,rv,lt,wk⟩:=I.walk hq
 have hl:its.length=ns.length:=by have:=rv.length;rw[e8] at this;exact this.symm
 refine call_max_walk (wk X.A.in1 _ _ (I.ok.hd hc) fun o St W st=> ⟨_,_,_,_,_,_,_,rfl,W,st,fun b hb=>?_,by omega,CmpOf.ints_gt (fun i=>ns.getD i 0) (fun i v hv=>CB rv i v hv),fun v h' tk hP hk=>?_⟩)
 ·show b< (s.heap.push o).objs.size
  rw[iJ]
  simp only[fh,gC,or_false] at hb
  rcases hb with rfl|rfl
  ·exact km _
  ·exact jl lt
 ·obtain⟨t,rfl⟩:=CB rv _ v hP
  obtain⟨b1,b2⟩:=argBest_gt (fun i=>ns.getD i 0) (its.length-1)
  exact⟨.int _,H,I.kept (t':=tk) (Ft hk),⟨t,rfl⟩,q _ ⟨Fv (by omega),fun n hn=>by
   obtain⟨j,hj,rfl⟩:=k9 hn
   have:=b2 j (by omega)
   simpa[kZ,hj] using this⟩⟩
theorem Jy:Au X (.type "tuple") (fun vs H Q=>∃a xs,vs=[.ref a]∧De X.K H a xs∧∀p,H p=none→Q (.ref p) (upd H p (.tup xs))):=by
 intro pins s σ H vs us Q I r h
 obtain⟨a,xs,rfl,hq,q⟩:=h
 obtain⟨u,rfl,ru⟩:=DW r
 cases ru
 obtain⟨its,rv,p,hz⟩:=I.list hq
 have hl:=rv.length
 refine call_tuple_list p.isList (fun h' hk=>?_) (by simpa[←hl] using hz)
 have hn:s.heap.get? h'.objs.size=none:=by
  cases e:s.heap.get? h'.objs.size with
  |none=>rfl
  |some o=>exact absurd (fq (hk _ _ e)) (gU _)
 exact⟨.ref h'.objs.size,upd H h'.objs.size (.tup xs),I.laidF (t':=s.toks) (fun b u e=>c9 _ (hk b u e)) hn ⟨hz,its,rv,⟨_,fK _ rfl,rfl,_,rfl⟩⟩,rfl,q _ (I.hok.none_of hn)⟩
theorem Li:Au X (.type "list") (fun vs H Q=>∃a xs,vs=[.ref a]∧Yq X.K H a xs∧∀p,H p=none→Q (.ref p) (upd H p (.lst xs))):=by
 intro pins s σ H vs us Q I r h
 obtain⟨a,xs,rfl,hq,q⟩:=h
 obtain⟨u,rfl,ru⟩:=DW r
 cases ru
 have hf:H s.heap.objs.size=none:=I.hok.fresh (fj _)
 have fin:∀(its:List Value) (h':Heap) (c:Nat),Vals xs its→xs.length≤sizeLine→(∀b o',s.heap.get? b=some o'→h'.get? b=some o')→h'.get? s.heap.objs.size=some {cls:=.type "list",dict:=none,data:=.seq its.toArray c,slots:=#[]}→EP X pins σ Q (.ref s.heap.objs.size) {s with heap:=h'}:=fun its h' c rv hz hk hD=>
  ⟨.ref s.heap.objs.size,upd H s.heap.objs.size (.lst xs),I.laid (t':=s.toks) hk (fj _) ⟨hz,its,c,rv,hD⟩,rfl,q _ hf⟩
 rcases hq with hq|hq
 ·obtain⟨its,rv,⟨o,n,ho,hc,hd,hdt⟩,hz⟩:=I.list hq
  have hl:=rv.length
  exact call_list_seq (hsz:=by simpa[←hl] using hz) a (.inl rfl) ho hc hdt fun h' c' hk hD=>fin its h' c' rv hz hk hD
 ·obtain⟨its,rv,⟨o,ho,hc,n,hdt⟩,hz⟩:=I.tuple hq
  have hl:=rv.length
  exact call_list_seq (hsz:=by simpa[←hl] using hz) a (.inr rfl) ho hc hdt fun h' c' hk hD=>fin its h' c' rv hz hk hD
theorem Jz:Au X (.type "range") (fun vs H Q=>∃k:Int,vs=[.int k]∧∀p,H p=none→Q (.ref p) (upd H p (.rng 0 k))):=by
 intro pins s σ H vs us Q I r h
 obtain⟨k,rfl,q⟩:=h
 obtain⟨u,rfl,t,rfl⟩:=DW r
 have hf:H s.heap.objs.size=none:=I.hok.fresh (fj _)
 exact call_range_1 ⟨.ref s.heap.objs.size,upd H s.heap.objs.size (.rng 0 k),I.laid (fun b u e=>c9 _ e) (fj _) ⟨_,_,_,fK _ rfl⟩,rfl,q _ hf⟩
theorem Lj(hc:X.calm=true):Au X (.type "list") (fun vs H Q=>∃(a:Addr) (k:Int),vs=[.ref a]∧H a=some (.rng 0 k)∧0≤k∧k≤1000∧∀p,H p=none→Q (.ref p) (upd H p (.lst ((fY k.toNat).map fun(i:Nat)=>V.int i)))):=by
 intro pins s σ H vs us Q I r h
 obtain⟨a,k,rfl,ha,k0,k1,q⟩:=h
 obtain⟨u,rfl,ru⟩:=DW r
 cases ru
 obtain⟨t,u,v,hr⟩:=I.hok a _ ha
 have hf:H s.heap.objs.size=none:=I.hok.fresh (fj _)
 have hn:Builtin.Range.rangeSize 0 k 1=k.toNat:=by rw[rangeSize_one];split<;>omega
 refine call_list_range (I.ok.hd hc) hr (small_one (by omega) (by omega) (by omega) (by omega)) hn (by omega) fun h' tk acc c hk hD hacc=>?_
 refine⟨.ref s.heap.objs.size,_,I.laid (o:=.lst ((fY k.toNat).map fun(i:Nat)=>V.int i)) (t':=tk) hk (fj _) ⟨?_,acc.toList,c,?_,by rw[Array.toArray_toList];exact hD⟩,rfl,q _ hf⟩
 ·rw[e8,ig,gM];omega
 ·have all:∀(l:List Value) (n m:Nat),l.length=n→(∀i v,l[i]?=some v→∃t,v=nG ((m+i:Nat):Int) t)→Vals ((List.range' m n).map fun(i:Nat)=>V.int i) l:=by
   intro l
   induction l with
   |nil=>intro n m e _;subst e;exact .nil
   |cons x l ih=>
    intro n m e hv
    subst e
    rw[fu,List.range'_succ,fL]
    refine .cons ?_ (ih l.length (m+1) rfl fun i v e=>?_)
    ·obtain⟨t,e⟩:=hv 0 x rfl
     exact⟨t,by rw[e];simp⟩
    ·obtain⟨t,e'⟩:=hv (i+1) v (by simpa using e)
     exact⟨t,by rw[e'];congr 1;omega⟩
  rw[List.range_eq_range']
  refine all acc.toList _ 0 (by rw[fg];exact hacc.1) fun i v e=>?_
  obtain⟨t,e'⟩:=hacc.2 i v (by rw[←fT];exact e)
  exact⟨t,by rw[e'];congr 1;omega⟩
end
end L2
namespace HT
open PySem PySem.Spec PyProof.Rows
section
open PySem.SeqAt
open PySem.AutoSeq1 (wpAny_loadPart')
open PySem.MeetsSeq PySem.MeetsSeq2 PySem.MeetsSeq3
end
section
variable{prog:Program}{w:World}{A:fG}{E:Value→a9→Prop}{s:a9}
theorem KA(l b:Addr)(items items2:Array Value)(n n2:Nat)(dd dd2:Option Addr)(sl sl2:Array (Option Value))(hc0:items.isEmpty=true):
  Meets (Builtin.«tuple.__add__» ⟨[.ref l,.ref b],[]⟩) (fun _ R s=>s.heap.get? l=some ⟨.type "tuple",dd,.seq items n,sl⟩∧s.heap.get? b=some ⟨.type "tuple",dd2,.seq items2 n2,sl2⟩∧R (.ok (.ret (Value.ref b))) s):=
 .of_wp fun prog w A R s h=>by
  obtain⟨hp,g,d,tk,os⟩:=s
  obtain⟨hl,hb,h⟩:=h
  have f2:=AutoSeq1.sub_tuple_tuple
  wp_walk using AutoSeq1.wpAny_loadPart' hl,AutoSeq1.wpAny_loadPart' hb
  exact⟨_,rfl,h⟩
theorem QC{t b:Addr}{ws:List Value}{Q:Value→a9→Prop}(ht:IsTup s.heap t #[])(hb:IsTup s.heap b ws.toArray)(h1:Q (.ref b) s):wpAny (model prog w) A (kl .Add (.ref t) (.ref b)) Q E s:=by
 obtain⟨⟨cls,dd,data,sl⟩,ho,hc,n,hd⟩:=id ht
 obtain⟨⟨cls2,dd2,data2,sl2⟩,ho2,hc2,n2,hd2⟩:=id hb
 simp only at hc hd hc2 hd2
 subst hc hd hc2 hd2
 exact o8 ⟨_,ho,rfl⟩ ⟨_,ho2,rfl⟩ nE oJ lO lJ (lu _ _) (KA t b _ ws.toArray n n2 dd dd2 sl sl2 rfl) ⟨ho,ho2,h1⟩
theorem DV{t sl:Addr}{items:Array Value}{vl vu:Value}{lo hi:Option Int}{Q:Value→a9→Prop}(ht:IsTup s.heap t items)(hs:s.heap.IsSliceOf sl vl vu .none)(pl:nS vl lo)(pu:nS vu hi)
  (h1:Az items.size 0 lo=0) (h2:Az items.size items.size hi=items.size) (h:Q (.ref t) s):wpAny (model prog w) A (oG (.ref t) (.ref sl)) Q E s:=by
 obtain⟨os,hos,hcs,hds⟩:=id hs
 have hTs:s.TypeIs (.ref sl) "slice":=⟨os,hos,hcs⟩
 unfold oG
 try with_reducible refine gx ?_
 first|refine a7 (b6 ?_)|skip
 refine a7 (wpAny_sequenceKey ht.typeIs (by decide) ?_)
 refine a7 (iz (name:=kB "__getitem__") ht.typeIs iq
  (hV iq ht.typeIs entry_tuple_getitem ?_ (args_tuple_getitem _ _)))
 show wpAny _ _ (Builtin.Tuple.tupleItemsOf (.ref t)>>=_) _ _ s
 refine a7 (tupleItemsOf_ ht ?_)
 refine a7 (kU hTs ?_)
 rw[if_pos (by decide)]
 refine a7 (Bx hs pl pu ?_)
 rw[h1,h2]
 show wpAny _ _ (if(((0:Nat):Int)==0&&(1:Int)==1&&(items.size-0)==items.size)=true then _ else _) _ _ s
 rw[if_pos (by simp)]
 unfold Builtin.Tuple.tupleIsExact
 refine a7 (a7 (kU ht.typeIs (b6 ?_)))
 rw[if_pos (by decide)]
 exact a7 (jB (b6 ⟨_,rfl,b6 h⟩))
end
end HT
namespace L2
open PySem PySem.Spec PyProof.Rows
section
variable{X:Cx}{e:Expr}{te:TE}{pos p2 p3 p4:Pos}
def Zs(K:a8):V→Option Int→Option Int→Hp→VK→Prop:=fun x lo hi H Q=>∃a xs,x=.ref a∧Cm K H a xs∧∀p H',((p=a∧H'=H∧EN xs lo hi=xs)∨(H p=none∧H'=upd H p (.tup (EN xs lo hi))))→Q (.ref p) H'
theorem TN:ba X (Zs X.K):=by
 intro pins s σ H x v vl vu lo hi sl Q I rx hs pl pu h
 obtain⟨a,xs,rfl,hx,q⟩:=h
 cases rx
 by_cases hw:HT.Az xs.length 0 lo=0∧HT.Az xs.length xs.length hi=xs.length
 ·obtain⟨its,r,ht,hz⟩:=I.tuple hx
  have hlen:its.toArray.size=xs.length:=by rw[fm];exact r.length.symm
  refine⟨"tuple",_,iq.lookup,ht.typeIs,HT.DV ht hs pl pu (by rw[hlen];exact hw.1) (by rw[hlen];exact hw.2) ⟨.ref a,H,I,rfl,q a H (.inl ⟨rfl,rfl,?_⟩)⟩⟩
  unfold EN
  rw[hw.1,hw.2]
  simp
 ·exact We pins s σ H (.ref a) (.ref a) vl vu lo hi sl Q I rfl hs pl pu ⟨a,xs,rfl,hx,hw,fun p hp=>q p _ (.inr ⟨hp,rfl⟩)⟩
def Zt(K:a8):R2:=fun x y H Q=>∃a b xs ys,x=.ref a∧y=.ref b∧Cm K H a xs∧Cm K H b ys∧xs.length+ys.length≤sizeLine∧∀p H',((p=a∧H'=H∧ys=[])∨(p=b∧H'=H∧xs=[])∨(H p=none∧H'=upd H p (.tup (xs++ys))))→Q (.ref p) H'
theorem TQ:CO X (kl .Add) (Zt X.K):=by
 intro pins s σ H x y v u Q I rx ry h
 obtain⟨a,b,xs,ys,rfl,rfl,ha,hb,hz,q⟩:=h
 cases xs with
 |cons x xs=>exact Sf pins s σ H _ _ v u Q I rx ry ⟨a,b,x::xs,ys,rfl,rfl,ha,hb,by simp,hz,fun e=>q a H (.inl ⟨rfl,rfl,e⟩),fun _ p hp=>q p _ (.inr (.inr ⟨hp,rfl⟩))⟩
 |nil=>
  cases rx;cases ry
  obtain⟨its,r1,p1,_⟩:=I.tuple ha
  obtain⟨its2,r2,p2,_⟩:=I.tuple hb
  cases r1
  exact HT.QC p1 p2 ⟨.ref b,H,I,rfl,q b H (.inr (.inl ⟨rfl,rfl,rfl⟩))⟩
end
end L2
namespace L2.TL
open PySem PySem.Spec PyProof.Rows
inductive T where
 |non|bl (b:Bool)|int (i:Int)|str (x:Str)|tup (ts:List T)|lst (ts:List T)|frz (ts:List T)|dct|raw (v:V)
abbrev AG:=Addr→Option (List T)
def Aj(O:AG)(a:Addr)(ts:List T):AG:=fun b=>if b=a then some ts else O b
def DZ(O:AG)(a:Addr):AG:=fun b=>if b=a then none else O b
theorem AI{O:AG}{a:Addr}{ts:List T}:Aj O a ts a=some ts:=by unfold Aj;rw[if_pos rfl]
theorem AZ{O:AG}{a b:Addr}{ts:List T}(h:b≠a):Aj O a ts b=O b:=by unfold Aj;rw[if_neg h]
theorem Bl{O:AG}{a:Addr}{ts us:List T}:Aj (Aj O a ts) a us=Aj O a us:=by
 funext b;unfold Aj;split<;>rfl
theorem CZ{O:AG}{a:Addr}:DZ O a a=none:=by unfold DZ;rw[if_pos rfl]
theorem Dy{O:AG}{a b:Addr}(h:b≠a):DZ O a b=O b:=by unfold DZ;rw[if_neg h]
mutual
inductive Rep (K:a8) (O:AG) (H:Hp):V→T→Prop
 |non:Rep K O H .non .non
 |bl (b:Bool):Rep K O H (.bl b) (.bl b)
 |int (i:Int):Rep K O H (.int i) (.int i)
 |str (x:Str):Rep K O H (.str x) (.str x)
 |tup {a:Addr} {xs:List V} {ts:List T}:H a=some (.tup xs)→Reps K O H xs ts→Rep K O H (.ref a) (.tup ts)
 |lst {a:Addr} {xs:List V} {ts:List T}:H a=some (.lst xs)→O a=none→Reps K O H xs ts→Rep K O H (.ref a) (.lst ts)
 |frz {a:Addr} {o:Obj} {xs:List V} {ts:List T}:H a=some (.frz o (.lst xs))→Reps K O H xs ts→Rep K O H (.ref a) (.frz ts)
 |dct {a:Addr}:H a=some (.dK [])→Rep K O H (.ref a) .dct
 |raw (v:V):Rep K O H v (.raw v)
inductive Reps (K:a8) (O:AG) (H:Hp):List V→List T→Prop
 |nil:Reps K O H [] []
 |cons {v:V} {t:T} {vs:List V} {ts:List T}:Rep K O H v t→Reps K O H vs ts→Reps K O H (v::vs) (t::ts)
end
section
variable{K:a8}{O O' O1:AG}{H H' H1:Hp}
mutual
theorem Rep.mono (hT:∀a o,H a=some o→(∀xs,o≠.lst xs)→H' a=some o) (hL:∀a xs,H a=some (.lst xs)→O a=none→H' a=some (.lst xs)∧O' a=none):∀{v:V} {t:T},Rep K O H v t→Rep K O' H' v t
 |_,_,.non=> .non
 |_,_,.bl b=> .bl b
 |_,_,.int i=> .int i
 |_,_,.str x=> .str x
 |_,_,.tup h r=> .tup (hT _ _ h fun _ z=>by cases z) (Reps.mono hT hL r)
 |_,_,.lst h o r=> .lst (hL _ _ h o).1 (hL _ _ h o).2 (Reps.mono hT hL r)
 |_,_,.frz h r=> .frz (hT _ _ h fun _ z=>by cases z) (Reps.mono hT hL r)
 |_,_,.dct h=> .dct (hT _ _ h fun _ z=>by cases z)
 |_,_,.raw v=> .raw v
theorem Reps.mono (hT:∀a o,H a=some o→(∀xs,o≠.lst xs)→H' a=some o) (hL:∀a xs,H a=some (.lst xs)→O a=none→H' a=some (.lst xs)∧O' a=none):∀{v:List V} {t:List T},Reps K O H v t→Reps K O' H' v t
 |_,_,.nil=> .nil
 |_,_,.cons h r=> .cons (Rep.mono hT hL h) (Reps.mono hT hL r)
end
theorem Reps.length:∀{vs:List V} {ts:List T},Reps K O H vs ts→vs.length=ts.length
 |_,_,.nil=>rfl
 |_,_,.cons _ r=>congrArg (· +1) r.length
theorem Reps.get:∀{vs:List V} {ts:List T} {i:Nat} {t:T},Reps K O H vs ts→ts[i]?=some t→∃v,vs[i]?=some v∧Rep K O H v t
 |_,_,_,_,.nil,e=>by simp at e
 |_,_,0,_,.cons h _,e=>by simp at e;subst e;exact⟨_,rfl,h⟩
 |_,_,i+1,t,.cons _ r,e=>by
  obtain⟨u,h1,h2⟩:=Reps.get (i:=i) (t:=t) r (by simpa using e)
  exact⟨u,by simpa using h1,h2⟩
theorem Reps.append:∀{vs ws:List V} {ts us:List T},Reps K O H vs ts→Reps K O H ws us→Reps K O H (vs++ws) (ts++us)
 |_,_,_,_,.nil,s=>s
 |_,_,_,_,.cons h r,s=> .cons h (r.append s)
theorem Reps.take:∀{vs:List V} {ts:List T} (n:Nat),Reps K O H vs ts→Reps K O H (vs.take n) (ts.take n)
 |_,_,0,_=> .nil
 |_,_,_+1,.nil=> .nil
 |_,_,n+1,.cons h r=> .cons h (r.take n)
theorem Reps.drop:∀{vs:List V} {ts:List T} (n:Nat),Reps K O H vs ts→Reps K O H (vs.drop n) (ts.drop n)
 |_,_,0,r=>r
 |_,_,_+1,.nil=> .nil
 |_,_,n+1,.cons h r=>r.drop n
theorem Reps.set{x:V}{t:T}(h:Rep K O H x t):∀{vs:List V} {ts:List T} (i:Nat),Reps K O H vs ts→Reps K O H (vs.set i x) (ts.set i t)
 |_,_,_,.nil=> .nil
 |_,_,0,.cons _ r=> .cons h r
 |_,_,i+1,.cons q r=> .cons q (Reps.set h i r)
theorem Reps.one{v:V}{t:T}(h:Rep K O H v t):Reps K O H [v] [t]:=.cons h .nil
def Kp(O:AG)(H:Hp)(O':AG)(H':Hp):Prop:=∀b o,H b=some o→O b=none→H' b=some o∧O' b=none
def OwnOk(K:a8)(O:AG)(H:Hp):Prop:=∀a ts,O a=some ts→∃xs,H a=some (.lst xs)∧Reps K O H xs ts
theorem OwnOk.free(w:OwnOk K O H){a:Addr}{o:HO}(h:H a=some o)(hn:∀xs,o≠.lst xs):O a=none:=by
 cases e:O a with
 |none=>rfl
 |some ts=>
  obtain⟨xs,e',_⟩:=w a ts e
  rw[h] at e'
  exact absurd (gh.inj e') (hn xs)
theorem OwnOk.none_of(w:OwnOk K O H){a:Addr}(h:H a=none):O a=none:=by
 cases e:O a with
 |none=>rfl
 |some ts=>
  obtain⟨xs,e',_⟩:=w a ts e
  rw[h] at e';cases e'
theorem Kp.refl:Kp O H O H:=fun _ _ h n=> ⟨h,n⟩
theorem Kp.trans(a:Kp O H O1 H1)(b:Kp O1 H1 O' H'):Kp O H O' H':=fun c o h n=>b c o (a c o h n).1 (a c o h n).2
theorem Kp.oth(k:Kp O H O' H')(w:OwnOk K O H){a:Addr}{o:HO}(h:H a=some o)(hn:∀xs,o≠.lst xs):H' a=some o:=(k a _ h (w.free h hn)).1
theorem Kp.lst(k:Kp O H O' H'){a:Addr}{xs:List V}(h:H a=some (.lst xs))(n:O a=none):H' a=some (.lst xs)∧O' a=none:=k a _ h n
theorem Rep.kp(k:Kp O H O' H')(w:OwnOk K O H){v:V}{t:T}(r:Rep K O H v t):Rep K O' H' v t:=r.mono (fun _ _ h hn=>k.oth w h hn) fun _ _=>k.lst
theorem Reps.kp(k:Kp O H O' H')(w:OwnOk K O H){v:List V}{t:List T}(r:Reps K O H v t):Reps K O' H' v t:=r.mono (fun _ _ h hn=>k.oth w h hn) fun _ _=>k.lst
structure Frm(K:a8)(O:AG)(H:Hp)(O':AG)(H':Hp):Prop where
 kp:Kp O H O' H'
 own:∀b ts,O b=some ts→∃ts',O' b=some ts'
 ok:OwnOk K O' H'
theorem Frm.refl(w:OwnOk K O H):Frm K O H O H:=⟨.refl,fun _ ts e=> ⟨ts,e⟩,w⟩
theorem Frm.trans(a:Frm K O H O1 H1)(b:Frm K O1 H1 O' H'):Frm K O H O' H':=⟨a.kp.trans b.kp,fun c ts e=>by
 obtain⟨t1,e1⟩:=a.own c ts e
 exact b.own c t1 e1,b.ok⟩
theorem Bc{p:Addr}{o:HO}(w:OwnOk K O H)(hp:H p=none):Kp O H O (upd H p o):=fun b u h n=> ⟨by rw[AO (AM h hp)];exact h,n⟩
theorem Frm.new{p:Addr}{o:HO}(w:OwnOk K O H)(hp:H p=none):Frm K O H O (upd H p o) where
 kp:=Bc w hp
 own:=fun _ ts e=> ⟨ts,e⟩
 ok:=fun a ts e=>by
  obtain⟨xs,h,r⟩:=w a ts e
  exact⟨xs,by rw[AO (AM h hp)];exact h,r.kp (Bc w hp) w⟩
theorem IV{p:Addr}{o:HO}{ts:List T}(w:OwnOk K O H)(hp:H p=none):Kp O H (Aj O p ts) (upd H p o):=fun b u h n=>by
 have:=AM h hp
 rw[AO this,AZ this]
 exact⟨h,n⟩
theorem Frm.newO{p:Addr}{xs:List V}{ts:List T}(w:OwnOk K O H)(hp:H p=none)(r:Reps K O H xs ts):Frm K O H (Aj O p ts) (upd H p (.lst xs)) where
 kp:=IV w hp
 own:=fun b us e=>by
  by_cases hb:b=p
  ·exact⟨ts,by rw[hb,AI]⟩
  ·exact⟨us,by rw[AZ hb];exact e⟩
 ok:=fun a us e=>by
  by_cases hb:a=p
  ·subst hb
   rw[AI] at e;cases e
   exact⟨xs,AY,r.kp (IV w hp) w⟩
  ·rw[AZ hb] at e
   obtain⟨ys,h,q⟩:=w a us e
   exact⟨ys,by rw[AO hb];exact h,q.kp (IV w hp) w⟩
theorem Lk{a:Addr}{o:HO}{ts us:List T}(ha:O a=some ts):Kp O H (Aj O a us) (upd H a o):=fun b u h n=>by
 have:b≠a:=fun z=>by rw[z,ha] at n;cases n
 rw[AO this,AZ this]
 exact⟨h,n⟩
theorem Frm.put{a:Addr}{xs:List V}{ts us:List T}(w:OwnOk K O H)(ha:O a=some ts)(r:Reps K O H xs us):Frm K O H (Aj O a us) (upd H a (.lst xs)) where
 kp:=Lk ha
 own:=fun b vs e=>by
  by_cases hb:b=a
  ·exact⟨us,by rw[hb,AI]⟩
  ·exact⟨vs,by rw[AZ hb];exact e⟩
 ok:=fun b vs e=>by
  by_cases hb:b=a
  ·subst hb
   rw[AI] at e;cases e
   exact⟨xs,AY,r.kp (Lk ha) w⟩
  ·rw[AZ hb] at e
   obtain⟨ys,h,q⟩:=w b vs e
   exact⟨ys,by rw[AO hb];exact h,q.kp (Lk ha) w⟩
theorem DJ{a:Addr}:Kp O H (DZ O a) H:=fun b u h n=> ⟨h,by
 by_cases hb:b=a
 ·rw[hb,CZ]
 ·rw[Dy hb];exact n⟩
theorem OwnOk.drop{a:Addr}(w:OwnOk K O H):OwnOk K (DZ O a) H:=fun b ts e=>by
 by_cases hb:b=a
 ·rw[hb,CZ] at e;cases e
 ·rw[Dy hb] at e
  obtain⟨xs,h,r⟩:=w b ts e
  exact⟨xs,h,r.kp DJ w⟩
theorem OwnOk.rep{a:Addr}{ts:List T}(w:OwnOk K O H)(e:O a=some ts):Rep K (DZ O a) H (.ref a) (.lst ts):=by
 obtain⟨xs,h,r⟩:=w a ts e
 exact .lst h CZ (r.kp DJ w)
end
def Rl(K:a8)(O:AG)(H:Hp)(σ:St)(ρ:List (Option T)):Prop:=σ.length=ρ.length∧∀(i:Nat) (t:T),ρ[i]?=some (some t)→∃v,σ[i]?=some (some v)∧Rep K O H v t
section
variable{K:a8}{O O':AG}{H H':Hp}{σ:St}{ρ:List (Option T)}
theorem Rl.kp(k:Kp O H O' H')(w:OwnOk K O H)(r:Rl K O H σ ρ):Rl K O' H' σ ρ:=⟨r.1,fun i t e=>by
 obtain⟨v,h1,h2⟩:=r.2 i t e
 exact⟨v,h1,h2.kp k w⟩⟩
theorem Rl.set{i:Nat}{v:V}{t:T}(r:Rl K O H σ ρ)(h:Rep K O H v t):Rl K O H (σ.set i (some v)) (ρ.set i (some t)):=⟨by simpa using r.1,fun j u e=>by
 by_cases hj:j=i
 ·subst hj
  have hl:j<ρ.length:=by
   have:=(fD.mp e).1
   simpa using this
  rw[gm hl] at e
  cases e
  exact⟨v,by rw[gm (by rw[r.1];exact hl)],h⟩
 ·rw[fZ (Ne.symm hj)] at e ⊢
  exact r.2 j u e⟩
end
structure Zx where
 X:Cx
 Oe:AG
 He:Hp
 Xi:Value→AG→Prop
abbrev Zx.K(Z:Zx):a8:=Z.X.K
def Zx.W(Z:Zx):St→XK:=fun _ cls d H'=>d=none∧∃O',Z.Xi cls O'∧Frm Z.K Z.Oe Z.He O' H'
structure Asr(Z:Zx)(ρ:List (Option T))(O:AG)(σ:St)(H:Hp):Prop where
 rl:Rl Z.K O H σ ρ
 fr:Frm Z.K Z.Oe Z.He O H
section
variable{Z:Zx}{ρ:List (Option T)}{O O':AG}{σ:St}{H H':Hp}
theorem Asr.ok(a:Asr Z ρ O σ H):OwnOk Z.K O H:=a.fr.ok
theorem Asr.step(a:Asr Z ρ O σ H)(f:Frm Z.K O H O' H'):Asr Z ρ O' σ H':=⟨a.rl.kp f.kp a.ok,a.fr.trans f⟩
theorem Asr.refl(a:Asr Z ρ O σ H):Frm Z.K O H O H:=.refl a.ok
end
abbrev BJ:=T→AG→Prop
abbrev Ll:=List T→AG→Prop
abbrev KB:=Bool→AG→Prop
def Acc(K:a8)(O:AG)(H:Hp)(Φ:BJ)(Q:VK):Prop:=∀v H' t O',Φ t O'→Frm K O H O' H'→Rep K O' H' v t→Q v H'
def cc(K:a8)(O:AG)(H:Hp)(Φ:Ll)(Q:List V→Hp→Prop):Prop:=∀vs H' ts O',Φ ts O'→Frm K O H O' H'→Reps K O' H' vs ts→Q vs H'
def AccT(K:a8)(O:AG)(H:Hp)(Φ:KB)(Q:Bool→Hp→Prop):Prop:=∀b H' O',Φ b O'→Frm K O H O' H'→Q b H'
def tW(Z:Zx)(ρ:List (Option T))(O:AG)(Φ:BJ):TE:=fun σ H Q=>Asr Z ρ O σ H∧Acc Z.K O H Φ Q
def dU(Z:Zx)(ρ:List (Option T))(O:AG)(Φ:Ll):TA:=fun σ H Q=>Asr Z ρ O σ H∧cc Z.K O H Φ Q
def Yr(Z:Zx)(ρ:List (Option T))(O:AG)(Φ:KB):TT:=fun σ H Q=>Asr Z ρ O σ H∧AccT Z.K O H Φ Q
def WE(Z:Zx)(ρ:List (Option T))(O:AG)(e:Expr)(Φ:BJ):Prop:=PE Z.X e (tW Z ρ O Φ)
def WA(Z:Zx)(ρ:List (Option T))(O:AG)(es:List Expr)(Φ:Ll):Prop:=PA Z.X es (dU Z ρ O Φ)
def WT(Z:Zx)(ρ:List (Option T))(O:AG)(e:Expr)(Φ:KB):Prop:=PT Z.X e (Yr Z ρ O Φ)
def WW(Z:Zx)(ρ:List (Option T))(O:AG)(e:Expr)(Φ:KB):Prop:=PW Z.X e (Yr Z ρ O Φ)
def ET(Z:Zx)(ρ:List (Option T))(O:AG)(e:Expr)(t:T):Prop:=∀Φ:BJ,Φ t O→WE Z ρ O e Φ
def EA(Z:Zx)(ρ:List (Option T))(O:AG)(es:List Expr)(ts:List T):Prop:=∀Φ:Ll,Φ ts O→WA Z ρ O es Φ
def EB(Z:Zx)(ρ:List (Option T))(O:AG)(e:Expr)(b:Bool):Prop:=∀Φ:KB,Φ b O→WT Z ρ O e Φ
theorem PE.weak{X:Cx}{e:Expr}{t t':TE}(h:PE X e t)(w:∀σ H Q,t' σ H Q→t σ H Q):PE X e t':=fun pins s σ H Q I q=>h pins s σ H Q I (w σ H Q q)
theorem PA.weak{X:Cx}{e:List Expr}{t t':TA}(h:PA X e t)(w:∀σ H Q,t' σ H Q→t σ H Q):PA X e t':=fun pos pins s σ H Q I q=>h pos pins s σ H Q I (w σ H Q q)
theorem PT.weak{X:Cx}{e:Expr}{t t':TT}(h:PT X e t)(w:∀σ H Q,t' σ H Q→t σ H Q):PT X e t':=fun pins s σ H Q I q=>h pins s σ H Q I (w σ H Q q)
theorem PW.weak{X:Cx}{e:Expr}{t t':TT}(h:PW X e t)(w:∀σ H Q,t' σ H Q→t σ H Q):PW X e t':=fun whole pins s σ H Q I q=>h whole pins s σ H Q I (w σ H Q q)
theorem PS.weak{X:Cx}{e:Stmt}{t t':TS}(h:PS X e t)(w:∀D σ H,t' D σ H→t D σ H):PS X e t':=fun pins s σ H D I q=>h pins s σ H D I (w D σ H q)
theorem PSs.weak{X:Cx}{e:List Stmt}{t t':TS}(h:PSs X e t)(w:∀D σ H,t' D σ H→t D σ H):PSs X e t':=fun pins s σ H D I q=>h pins s σ H D I (w D σ H q)
def tX(Z:Zx)(ρ:List (Option T))(e:Expr):TE:=fun σ H Q=>∃O Φ,WE Z ρ O e Φ∧tW Z ρ O Φ σ H Q
theorem BL{Z:Zx}{ρ:List (Option T)}{e:Expr}:PE Z.X e (tX Z ρ e):=fun pins s σ H Q I ⟨_,_,w,q⟩=>w pins s σ H Q I q
def eB(Z:Zx)(ρ:List (Option T))(e:List Expr):TA:=fun σ H Q=>∃O Φ,WA Z ρ O e Φ∧dU Z ρ O Φ σ H Q
theorem KC{Z:Zx}{ρ:List (Option T)}{e:List Expr}:PA Z.X e (eB Z ρ e):=fun pos pins s σ H Q I ⟨_,_,w,q⟩=>w pos pins s σ H Q I q
def eC(Z:Zx)(ρ:List (Option T))(e:Expr):TT:=fun σ H Q=>∃O Φ,WW Z ρ O e Φ∧Yr Z ρ O Φ σ H Q
theorem Zu{Z:Zx}{ρ:List (Option T)}{e:Expr}:PW Z.X e (eC Z ρ e):=fun whole pins s σ H Q I ⟨_,_,w,q⟩=>w whole pins s σ H Q I q
section
variable{Z:Zx}{ρ:List (Option T)}{O:AG}{e a b:Expr}{es:List Expr}{Φ Φ':BJ}{pos:Pos}{t ta tb:T}{ts:List T}
theorem Acc.mono{K:a8}{H:Hp}{Q:VK}(h:Acc K O H Φ' Q)(w:∀t O',Φ t O'→Φ' t O'):Acc K O H Φ Q:=fun v H' t O' p=>h v H' t O' (w t O' p)
theorem Acc.step{K:a8}{H H1:Hp}{O1:AG}{Q:VK}(h:Acc K O H Φ Q)(f:Frm K O H O1 H1):Acc K O1 H1 Φ Q:=fun v H' t O' p f' r=>h v H' t O' p (f.trans f') r
theorem AccT.step{K:a8}{H H1:Hp}{O1:AG}{Φ:KB}{Q:Bool→Hp→Prop}(h:AccT K O H Φ Q)(f:Frm K O H O1 H1):AccT K O1 H1 Φ Q:=fun v H' O' p f'=>h v H' O' p (f.trans f')
theorem DL(h:WE Z ρ O e Φ)(w:∀t O',Φ t O'→Φ' t O'):WE Z ρ O e Φ':=PE.weak h fun _ _ _ q=> ⟨q.1,q.2.mono w⟩
theorem ET.we(h:ET Z ρ O e t)(p:Φ t O):WE Z ρ O e Φ:=h Φ p
theorem XB{i:Nat}{x:Str}(hN:Z.X.N[i]?=some x)(hv:Yo Z.X.env.scope x)(e:ρ[i]?=some (some t))(p:Φ t O)(hd:(x==("__debug__" :Str))=false:=by decide)(hcd:(x==("__classdict__" :Str))=false:=by decide):WE Z ρ O (.Name x pos) Φ:=
 PE.weak (Ov hN hv hd hcd) fun σ H Q q=>by
  obtain⟨v,h1,h2⟩:=q.1.rl.2 i t e
  exact⟨v,h1,q.2 v H t O p q.1.refl h2⟩
theorem ev(i:Nat){x:Str}(e:ρ[i]?=some (some t):=by rfl)(hN:Z.X.N[i]?=some x:=by rfl)(hv:Yo Z.X.env.scope x:=by first|exact om rfl|exact nA (om rfl)|exact nA (nA rfl))(hd:(x==("__debug__" :Str))=false:=by decide)
  (hcd:(x==("__classdict__" :Str))=false:=by decide):ET Z ρ O (.Name x pos) t:=fun _ p=>XB hN hv e p hd hcd
theorem QD{v:V}(h:PE Z.X e (tC v))(r:∀O H,Rep Z.K O H v t):ET Z ρ O e t:=fun _ p=>PE.weak h fun _ H _ q=>q.2 v H _ O p q.1.refl (r O H)
theorem AC{i:Int}{j:Nat}:ET Z ρ O (.Constant (.int i) j pos) (.int i):=QD Ow fun _ _=> .int i
theorem VM{i:Bool}{j:Nat}:ET Z ρ O (.Constant (.bool i) j pos) (.bl i):=QD Yv fun _ _=> .bl i
theorem Ca{j:Nat}:ET Z ρ O (.Constant .none j pos) .non:=QD Vs fun _ _=> .non
theorem BK{x:Str}{i:Int}(hm:∃t:Tok,Z.X.mg x=some (.int i t))(hg:Gl Z.X x:=by rfl)(hd:(x==("__debug__" :Str))=false:=by decide):ET Z ρ O (.Name x pos) (.int i):=by
 cases hm with
 |intro t hm=>exact QD (SO (v:=.int i) hg hm ⟨t,rfl⟩ hd) fun _ _=> .int i
theorem Zv{x:Str}{n:String}(hm:Z.X.mg x=none)(hv:gk x=some (.type n))(hg:Gl Z.X x:=by rfl)(hn:x≠"__name__":=by decide)(hd:(x==("__debug__" :Str))=false:=by decide):ET Z ρ O (.Name x pos) (.raw (.ty n)):=
 QD (SQ (v:=.ty n) hg hm hv rfl hn hd) fun _ _=> .raw _
def RT(K:a8)(r:R2)(ta tb:T)(O:AG)(Φ:BJ):Prop:=∀H v w Q,OwnOk K O H→Rep K O H v ta→Rep K O H w tb→Acc K O H Φ Q→r v w H Q
def RP(K:a8)(r:R2)(ta tb:T)(O:AG)(t:T):Prop:=∀Φ:BJ,Φ t O→RT K r ta tb O Φ
theorem IW{r:R2}{σ:St}{H:Hp}{Q:VK}(q:tW Z ρ O Φ σ H Q)(h:WE Z ρ O a fun ta O1=>WE Z ρ O1 b fun tb O2=>RT Z.K r ta tb O2 Φ):ZK r (tX Z ρ a) (tX Z ρ b) σ H Q:=
 ⟨O,_,h,q.1,fun v H1 ta O1 p f1 r1=> ⟨O1,_,p,q.1.step f1,fun w H2 tb O2 p2 f2 r2=>p2 H2 v w Q f2.ok (r1.kp f2.kp f1.ok) r2 (q.2.step (f1.trans f2))⟩⟩
theorem HV{op:oq}{r:R2}(ho:CO Z.X (kl op) r)(h:WE Z ρ O a fun ta O1=>WE Z ρ O1 b fun tb O2=>RT Z.K r ta tb O2 Φ):WE Z ρ O (.BinOp a op b pos) Φ:=
 PE.weak (ZL ho BL BL) fun _ _ _ q=>IW q h
theorem QE{op:CmpOp}{r:R2}(ho:CO Z.X (hZ op) r)(hm:behindInMarks op b=false)(h:WE Z ρ O a fun ta O1=>WE Z ρ O1 b fun tb O2=>RT Z.K r ta tb O2 Φ):WE Z ρ O (.Compare a [op] [b] pos) Φ:=
 PE.weak (SY ho BL BL hm) fun _ _ _ q=>IW q h
theorem Ep{op:oq}{r:R2}(ho:CO Z.X (kl op) r)(hp:RP Z.K r ta tb O t)(ha:ET Z ρ O a ta)(hb:ET Z ρ O b tb):ET Z ρ O (.BinOp a op b pos) t:=fun Φ p=>HV ho (ha _ (hb _ (hp Φ p)))
theorem Ea{op:CmpOp}{r:R2}(ho:CO Z.X (hZ op) r)(hm:behindInMarks op b=false)(hp:RP Z.K r ta tb O t)(ha:ET Z ρ O a ta)(hb:ET Z ρ O b tb):ET Z ρ O (.Compare a [op] [b] pos) t:=fun Φ p=>QE ho hm (ha _ (hb _ (hp Φ p)))
theorem VN{r:R2}(ho:ZY Z.X r)(hs:DI b)(h:WE Z ρ O a fun ta O1=>WE Z ρ O1 b fun tb O2=>RT Z.K r ta tb O2 Φ):WE Z ρ O (.Subscript a b pos) Φ:=
 PE.weak (VF ho BL BL hs) fun _ _ _ q=>IW q h
theorem QF{r:R2}(ho:ZY Z.X r)(hs:DI b)(hp:RP Z.K r ta tb O t)(ha:ET Z ρ O a ta)(hb:ET Z ρ O b tb):ET Z ρ O (.Subscript a b pos) t:=fun Φ p=>VN ho hs (ha _ (hb _ (hp Φ p)))
theorem BR{Φ:Ll}(p:Φ [] O):WA Z ρ O [] Φ:=PA.weak IB fun _ H _ q=>q.2 [] H [] O p q.1.refl .nil
theorem DM{Φ:Ll}(h:WE Z ρ O e fun t O1=>WA Z ρ O1 es fun ts O2=>Φ (t::ts) O2)(hs:e9 (e::es) Z.X.env=(false,eval e Z.X.env)::e9 es Z.X.env:=by rfl):WA Z ρ O (e::es) Φ:=
 PA.weak (FE BL KC hs) fun σ H Q q=> ⟨O,_,h,q.1,fun v H1 t O1 p f1 r1=> ⟨O1,_,p,q.1.step f1,fun vs H2 ts O2 p2 f2 r2=>q.2 _ H2 _ O2 p2 (f1.trans f2) (.cons (r1.kp f2.kp f1.ok) r2)⟩⟩
theorem AB:EA Z ρ O [] []:=fun _ p=>BR p
theorem AN(h:ET Z ρ O e t)(hr:EA Z ρ O es ts)(hs:e9 (e::es) Z.X.env=(false,eval e Z.X.env)::e9 es Z.X.env:=by rfl):EA Z ρ O (e::es) (t::ts):=fun Φ p=>DM (h _ (hr _ p)) hs
theorem Lm{x1}(h:WA Z ρ O es fun ts O1=>ts.length≤sizeLine∧Φ (.tup ts) O1):WE Z ρ O (.Tuple es x1 pos) Φ:=
 PE.weak (Wc h) fun σ H Q q=> ⟨q.1,fun vs H1 ts O1 p f r=> ⟨by rw[r.length];exact p.1,fun a ha=>q.2 _ _ _ O1 p.2 (f.trans (.new f.ok ha)) (.tup AY (r.kp (Bc f.ok ha) f.ok))⟩⟩
theorem Dj{x1}(h:EA Z ρ O es ts)(hl:ts.length≤sizeLine:=by first| (show 1≤sizeLine;decide)| (show 2≤sizeLine;decide)| (show 3≤sizeLine;decide)| (show 0≤sizeLine;decide)):ET Z ρ O (.Tuple es x1 pos) (.tup ts):=fun _ p=>Lm (h _ ⟨hl,p⟩)
theorem QG(h:WA Z ρ O es fun ts O1=>ts.length≤sizeLine∧Φ (.lst ts) O1):WE Z ρ O (.List es pos) Φ:=
 PE.weak (PK h) fun σ H Q q=> ⟨q.1,fun vs H1 ts O1 p f r=> ⟨by rw[r.length];exact p.1,fun a ha=>q.2 _ _ _ O1 p.2 (f.trans (.new f.ok ha)) (.lst AY (f.ok.none_of ha) (r.kp (Bc f.ok ha) f.ok))⟩⟩
theorem Ln(h:EA Z ρ O es ts)(hl:ts.length≤sizeLine):ET Z ρ O (.List es pos) (.lst ts):=fun _ p=>QG (h _ ⟨hl,p⟩)
theorem FI(h:WA Z ρ O es fun ts O1=>ts.length≤sizeLine∧∀a,O1 a=none→Φ (.raw (.ref a)) (Aj O1 a ts)):WE Z ρ O (.List es pos) Φ:=
 PE.weak (PK h) fun σ H Q q=> ⟨q.1,fun vs H1 ts O1 p f r=> ⟨by rw[r.length];exact p.1,fun a ha=>q.2 _ _ _ _ (p.2 a (f.ok.none_of ha)) (f.trans (.newO f.ok ha r)) (.raw _)⟩⟩
end
section
variable{K:a8}{O:AG}{H:Hp}{v:V}
theorem Rep.int_inv{i:Int}(r:Rep K O H v (.int i)):v=.int i:=by cases r;rfl
theorem Rep.bl_inv{i:Bool}(r:Rep K O H v (.bl i)):v=.bl i:=by cases r;rfl
theorem Rep.non_inv(r:Rep K O H v .non):v=.non:=by cases r;rfl
theorem Rep.raw_inv{i:V}(r:Rep K O H v (.raw i)):v=i:=by cases r;rfl
theorem Rep.tup_inv{ts:List T}(r:Rep K O H v (.tup ts)):∃a xs,v=.ref a∧H a=some (.tup xs)∧Reps K O H xs ts:=by
 cases r with
 |tup h r=>exact⟨_,_,rfl,h,r⟩
theorem Rep.lst_inv{ts:List T}(r:Rep K O H v (.lst ts)):∃a xs,v=.ref a∧H a=some (.lst xs)∧O a=none∧Reps K O H xs ts:=by
 cases r with
 |lst h o r=>exact⟨_,_,rfl,h,o,r⟩
theorem Reps.cons_inv{vs:List V}{t:T}{ts:List T}(r:Reps K O H vs (t::ts)):∃v vs',vs=v::vs'∧Rep K O H v t∧Reps K O H vs' ts:=by
 cases r with
 |cons h r=>exact⟨_,_,rfl,h,r⟩
theorem Reps.nil_inv{vs:List V}(r:Reps K O H vs []):vs=[]:=by cases r;rfl
theorem Reps.one_inv{vs:List V}{t:T}(r:Reps K O H vs [t]):∃v,vs=[v]∧Rep K O H v t:=by
 obtain⟨v,vs',rfl,h,r⟩:=r.cons_inv
 cases r.nil_inv
 exact⟨v,rfl,h⟩
theorem Reps.two_inv{vs:List V}{t u:T}(r:Reps K O H vs [t,u]):∃v w,vs=[v,w]∧Rep K O H v t∧Rep K O H w u:=by
 obtain⟨v,vs',rfl,h,r⟩:=r.cons_inv
 obtain⟨w,rfl,h2⟩:=r.one_inv
 exact⟨v,w,rfl,h,h2⟩
theorem Reps.ints:∀{vs:List V} {ns:List Int},Reps K O H vs (ns.map T.int)→vs=ns.map V.int
 |_,[],r=>r.nil_inv
 |_,n::ns,r=>by
  obtain⟨v,vs',rfl,h,r⟩:=Reps.cons_inv r
  rw[h.int_inv,Reps.ints r]
  rfl
end
section
variable{Z:Zx}{ρ:List (Option T)}{O:AG}{e a b c:Expr}{es:List Expr}{Φ Φ':BJ}{pos:Pos}{t ta tb:T}{ts:List T}{K:a8}{i j:Int}
theorem HW{g:Int→Int→Int}:RP K (SH fun i j=> .int (g i j)) (.int i) (.int j) O (.int (g i j)):=fun Φ p H v w Q ok r1 r2 q=> ⟨i,j,r1.int_inv,r2.int_inv,q _ H _ O p (.refl ok) (.int _)⟩
theorem Fw{g:Int→Int→Bool}:RP K (SH fun i j=> .bl (g i j)) (.int i) (.int j) O (.bl (g i j)):=fun Φ p H v w Q ok r1 r2 q=> ⟨i,j,r1.int_inv,r2.int_inv,q _ H _ O p (.refl ok) (.bl _)⟩
theorem TR{C:Int→Int→Prop}{g:Int→Int→Int}(hc:C i j):RP K (rI C fun i j=> .int (g i j)) (.int i) (.int j) O (.int (g i j)):=fun Φ p H v w Q ok r1 r2 q=> ⟨i,j,r1.int_inv,r2.int_inv,hc,q _ H _ O p (.refl ok) (.int _)⟩
theorem BE(ha:ET Z ρ O a (.int i))(hb:ET Z ρ O b (.int j)):ET Z ρ O (.BinOp a .Add b pos) (.int (i+j)):=Ep FV HW ha hb
theorem Fy(ha:ET Z ρ O a (.int i))(hb:ET Z ρ O b (.int j)):ET Z ρ O (.BinOp a .Sub b pos) (.int (i-j)):=Ep WR HW ha hb
theorem Cy(ha:ET Z ρ O a (.int i))(hb:ET Z ρ O b (.int j))(h:CMul i j):ET Z ρ O (.BinOp a .Mult b pos) (.int (i*j)):=Ep WU (TR h) ha hb
theorem DN(ha:ET Z ρ O a (.int i))(hb:ET Z ρ O b (.int j))(h:ZN i j):ET Z ρ O (.BinOp a .FloorDiv b pos) (.int (i/j)):=Ep SX (TR h) ha hb
theorem Cb(ha:ET Z ρ O a (.int i))(hb:ET Z ρ O b (.int j))(h:0<j):ET Z ρ O (.BinOp a .Mod b pos) (.int (i%j)):=Ep WV (TR h) ha hb
theorem XC(ha:ET Z ρ O a (.int i))(hb:ET Z ρ O b (.int j))(h:ZO i j):ET Z ρ O (.BinOp a .Pow b pos) (.int (i^j.toNat)):=Ep WX (TR h) ha hb
theorem QH(ha:ET Z ρ O a (.int i))(hb:ET Z ρ O b (.int j)):ET Z ρ O (.Compare a [.Lt] [b] pos) (.bl (decide (i<j))):=Ea PD (Af _) Fw ha hb
theorem Zw(ha:ET Z ρ O a (.int i))(hb:ET Z ρ O b (.int j)):ET Z ρ O (.Compare a [.GtE] [b] pos) (.bl (decide (j≤i))):=Ea ZR (Af _) Fw ha hb
theorem QI:RP K dN (.int i) (.int j) O (.bl (decide (i=j))):=fun Φ p H v w Q ok r1 r2 q=>by
 cases r1.int_inv;cases r2.int_inv
 refine⟨rfl,?_⟩
 have:decide (V.int i=V.int j)=decide (i=j):=by simp
 rw[this]
 exact q _ H _ O p (.refl ok) (.bl _)
theorem QJ:RP K cN (.int i) (.int j) O (.bl (!decide (i=j))):=fun Φ p H v w Q ok r1 r2 q=>by
 cases r1.int_inv;cases r2.int_inv
 refine⟨rfl,?_⟩
 have:decide (V.int i=V.int j)=decide (i=j):=by simp
 rw[this]
 exact q _ H _ O p (.refl ok) (.bl _)
theorem XD{x y:Bool}:RP K cN (.bl x) (.bl y) O (.bl (!(x==y))):=fun Φ p H v w Q ok r1 r2 q=>by
 cases r1.bl_inv;cases r2.bl_inv
 refine⟨rfl,?_⟩
 have:decide (V.bl x=V.bl y)=(x==y):=LF
 rw[this]
 exact q _ H _ O p (.refl ok) (.bl _)
theorem XE(ha:ET Z ρ O a (.int i))(hb:ET Z ρ O b (.int j)):ET Z ρ O (.Compare a [.NotEq] [b] pos) (.bl (!decide (i=j))):=Ea PC (Af _) QJ ha hb
theorem QK{op op':CmpOp}{r r':R2}{tc:T}{x y:Bool}(ho:CO Z.X (hZ op) r)(ho':CO Z.X (hZ op') r')(hp:RP Z.K r ta tb O (.bl x))(hp':x=true→RP Z.K r' tb tc O (.bl y))
  (ha:ET Z ρ O a ta) (hb:ET Z ρ O b tb) (hc:x=true→ET Z ρ O c tc) (hm:lastMarks [op,op'] [b,c]=false:=by with_unfolding_all rfl):ET Z ρ O (.Compare a [op,op'] [b,c] pos) (.bl (x&&y)):=fun Φ p=>
 by
 refine PE.weak (PH ho ho' (BL (ρ:=ρ)) (BL (ρ:=ρ)) (BL (ρ:=ρ)) hm) fun σ H Q q=>?_
 refine⟨O,_,ha (fun t O'=>t=ta∧O'=O) ⟨rfl,rfl⟩,q.1,?_⟩
 rintro v H1 _ _ ⟨rfl,rfl⟩ f1 r1
 refine⟨_,_,hb (fun t O'=>t=tb∧O'=_) ⟨rfl,rfl⟩,q.1.step f1,?_⟩
 rintro w H2 _ _ ⟨rfl,rfl⟩ f2 r2
 refine hp (fun t O'=>t=.bl x∧O'=_) ⟨rfl,rfl⟩ H2 v w _ f2.ok (r1.kp f2.kp f1.ok) r2 ?_
 rintro z H3 _ _ ⟨rfl,rfl⟩ f3 r3
 refine⟨x,r3.bl_inv,?_⟩
 cases x with
 |false=>exact Sj (q.2 _ H3 _ _ p (f1.trans (f2.trans f3)) (.bl _))
 |true=>
  refine LM ⟨_,_,hc rfl (fun t O'=>t=tc∧O'=_) ⟨rfl,rfl⟩,q.1.step (f1.trans (f2.trans f3)),?_⟩
  rintro w' H4 _ _ ⟨rfl,rfl⟩ f4 r4
  exact hp' rfl _ p H4 w w' _ f4.ok (r2.kp (f3.trans f4).kp f2.ok) r4 (q.2.step (f1.trans (f2.trans (f3.trans f4))))
def TruT(O:AG):T→Bool→Prop
 | .non,k=>k=false
 | .bl b,k=>k=b
 | .int i,k=>k=(i !=0)
 | .str y,k=>y.length≤sizeLine∧k=((y.length:Int) !=0)
 | .tup ts,k=>k=!ts.isEmpty
 | .lst ts,k=>k=!ts.isEmpty
 | .frz ts,k=>k=!ts.isEmpty
 | .dct,_=>False
 | .raw (.ref a),k=>∃ts,O a=some ts∧k=!ts.isEmpty
 | .raw _,_=>False
theorem Reps.isEmpty{vs:List V}{ts:List T}{H:Hp}(r:Reps K O H vs ts):vs.isEmpty=ts.isEmpty:=by cases r<;>rfl
theorem TruT.v{H:Hp}{v:V}{k:Bool}(h:TruT O t k)(r:Rep K O H v t)(ok:OwnOk K O H):Wa K v H k:=by
 cases r with
 |non=>exact h
 |bl=>exact h
 |int=>exact h
 |str=>exact h
 |tup h1 r=>
  have h:k=!_:=h
  exact .inr (.inl ⟨_,.inl (.inl h1),by rw[h,r.isEmpty]⟩)
 |lst h1 o r=>
  have h:k=!_:=h
  exact .inl ⟨_,.inl (.inl h1),by rw[h,r.isEmpty]⟩
 |frz h1 r=>
  have h:k=!_:=h
  exact .inl ⟨_,.inl (.inr ⟨_,h1⟩),by rw[h,r.isEmpty]⟩
 |dct=>exact h.elim
 |raw v=>
  cases v with
  |ref a=>
   obtain⟨ts,e,h⟩:=h
   obtain⟨xs,h1,r⟩:=ok a ts e
   exact .inl ⟨xs,.inl (.inl h1),by rw[h,r.isEmpty]⟩
  |_=>exact h.elim
theorem QL{Φ:KB}(h:WE Z ρ O e fun t O'=>∃k,TruT O' t k∧Φ k O')(he:∀whole,isTrue e Z.X.env whole=(do let v←whole;standAt e.pos;holding [v] (truthy v)):=by intro _;rfl):WT Z ρ O e Φ:=
 PT.weak (PJ BL he) fun σ H Q q=> ⟨O,_,h,q.1,fun v H1 t O1 ⟨k,tr,p⟩ f r=> ⟨k,tr.v r f.ok,q.2 k H1 O1 p f⟩⟩
theorem Dz{k:Bool}(h:ET Z ρ O e t)(tr:TruT O t k)(he:∀whole,isTrue e Z.X.env whole=(do let v←whole;standAt e.pos;holding [v] (truthy v)):=by intro _;rfl):EB Z ρ O e k:=fun Φ p=>QL (h _ ⟨k,tr,p⟩) he
theorem Da{k:Bool}(h:ET Z ρ O e (.bl k))(he:∀whole,isTrue e Z.X.env whole=(do let v←whole;standAt e.pos;holding [v] (truthy v)):=by intro _;rfl):EB Z ρ O e k:=Dz h rfl he
theorem IX{Φ:KB}{op:CmpOp}{r:R2}(ho:CO Z.X (hZ op) r)(hm:behindInMarks op b=false)(h:WE Z ρ O a fun ta O1=>WE Z ρ O1 b fun tb O2=>RT Z.K r ta tb O2 fun t O3=>∃k,t=.bl k∧Φ k O3):WT Z ρ O (.Compare a [op] [b] pos) Φ:=
 PT.weak (Mi ho BL BL hm) fun σ H Q q=>IW (Φ:=fun t O3=>∃k,t=.bl k∧Φ k O3) ⟨q.1,fun v H' t O' ⟨k,e,p⟩ f r=>by
  subst e
  exact⟨k,r.bl_inv,q.2 k H' O' p f⟩⟩ h
theorem BF{op:CmpOp}{r:R2}{k:Bool}(ho:CO Z.X (hZ op) r)(hm:behindInMarks op b=false)(hp:RP Z.K r ta tb O (.bl k))(ha:ET Z ρ O a ta)(hb:ET Z ρ O b tb):EB Z ρ O (.Compare a [op] [b] pos) k:=fun Φ p=>
 IX ho hm (ha _ (hb _ (hp _ ⟨k,rfl,p⟩)))
theorem QM(ha:ET Z ρ O a (.int i))(hb:ET Z ρ O b (.int j)):EB Z ρ O (.Compare a [.Lt] [b] pos) (decide (i<j)):=BF PD (Af _) Fw ha hb
theorem Zy(ha:ET Z ρ O a (.int i))(hb:ET Z ρ O b (.int j)):EB Z ρ O (.Compare a [.LtE] [b] pos) (decide (i≤j)):=BF PF (Af _) Fw ha hb
theorem Fz(ha:ET Z ρ O a (.int i))(hb:ET Z ρ O b (.int j)):EB Z ρ O (.Compare a [.Gt] [b] pos) (decide (j<i)):=BF ZQ (Af _) Fw ha hb
theorem Eb(ha:ET Z ρ O a (.int i))(hb:ET Z ρ O b (.int j)):EB Z ρ O (.Compare a [.Eq] [b] pos) (decide (i=j)):=BF VE (Af _) QI ha hb
theorem IY(ha:ET Z ρ O a (.int i))(hb:ET Z ρ O b (.int j)):EB Z ρ O (.Compare a [.NotEq] [b] pos) (!decide (i=j)):=BF PC (Af _) QJ ha hb
theorem XF{x y:Bool}(ha:ET Z ρ O a (.bl x))(hb:ET Z ρ O b (.bl y)):EB Z ρ O (.Compare a [.NotEq] [b] pos) (!(x==y)):=BF PC (Af _) XD ha hb
theorem TU{k:Int}(ha:ET Z ρ O a (.int i))(hb:ET Z ρ O b (.int j))(hc:ET Z ρ O c (.int k))(hm:lastMarks [CmpOp.LtE,.LtE] [b,c]=false:=by with_unfolding_all rfl):ET Z ρ O (.Compare a [.LtE,.LtE] [b,c] pos) (.bl (decide (i≤j)&&decide (j≤k))):=QK PF PF Fw (fun _=>Fw) ha hb (fun _=>hc) hm
theorem XG{Φ:KB}(h:WT Z ρ O a fun k O'=>Φ (!k) O'):WT Z ρ O (.UnaryOp .Not a pos) Φ:=PT.weak (Vv h) fun σ H Q q=> ⟨q.1,fun k H1 O1 p f=>q.2 _ H1 O1 p f⟩
theorem Ay{k:Bool}(h:EB Z ρ O a k):EB Z ρ O (.UnaryOp .Not a pos) (!k):=fun Φ p=>XG (h _ p)
def EW(Z:Zx)(ρ:List (Option T))(O:AG)(e:Expr)(b:Bool):Prop:=∀Φ:KB,Φ b O→WW Z ρ O e Φ
theorem EW.eb{k:Bool}(h:EW Z ρ O e k):EB Z ρ O e k:=fun Φ p=> (h Φ p).pt
theorem TV{Φ:KB}(h:WT Z ρ O a Φ):WW Z ρ O (.BoolOp .And [a] pos) Φ:=SR h
theorem XH{Φ:KB}(h:WT Z ρ O a Φ):WW Z ρ O (.BoolOp .Or [a] pos) Φ:=Vt h
theorem XI{Φ:KB}(h:WT Z ρ O a fun k O1=>if k=true then WW Z ρ O1 (.BoolOp .And (b::es) pos) Φ else Φ false O1):WW Z ρ O (.BoolOp .And (a::b::es) pos) Φ:=
 PW.weak (Vu h Zu) fun σ H Q q=> ⟨q.1,fun k H1 O1 p f=>by
  cases k with
  |true=>rw[if_pos rfl] at p ⊢;exact⟨O1,_,p,q.1.step f,q.2.step f⟩
  |false=>rw[if_neg e6] at p ⊢;exact q.2 _ H1 O1 p f⟩
theorem Zz{Φ:KB}(h:WT Z ρ O a fun k O1=>if k=true then Φ true O1 else WW Z ρ O1 (.BoolOp .Or (b::es) pos) Φ):WW Z ρ O (.BoolOp .Or (a::b::es) pos) Φ:=
 PW.weak (Yw h Zu) fun σ H Q q=> ⟨q.1,fun k H1 O1 p f=>by
  cases k with
  |true=>rw[if_pos rfl] at p ⊢;exact q.2 _ H1 O1 p f
  |false=>rw[if_neg e6] at p ⊢;exact⟨O1,_,p,q.1.step f,q.2.step f⟩⟩
theorem FJ{k:Bool}(h:EB Z ρ O a k):EW Z ρ O (.BoolOp .And [a] pos) k:=fun Φ p=>TV (h _ p)
theorem Bd{k:Bool}(h:EB Z ρ O a k):EW Z ρ O (.BoolOp .Or [a] pos) k:=fun Φ p=>XH (h _ p)
theorem Dk{x y:Bool}(ha:EB Z ρ O a x)(hb:x=true→EW Z ρ O (.BoolOp .And (b::es) pos) y):EW Z ρ O (.BoolOp .And (a::b::es) pos) (x&&y):=fun Φ p=>XI (ha _ (by
 cases x with
 |true=>rw[if_pos rfl];exact hb rfl _ p
 |false=>rw[if_neg e6];exact p))
theorem Bm{x y:Bool}(ha:EB Z ρ O a x)(hb:x=false→EW Z ρ O (.BoolOp .Or (b::es) pos) y):EW Z ρ O (.BoolOp .Or (a::b::es) pos) (x||y):=fun Φ p=>Zz (ha _ (by
 cases x with
 |true=>rw[if_pos rfl];exact p
 |false=>rw[if_neg e6];exact hb rfl _ p))
theorem GA{op}(h:ET Z ρ O a t):ET Z ρ O (.BoolOp op [a] pos) t:=fun Φ p=>Vw (h Φ p)
theorem Ec{x y:Bool}(ha:ET Z ρ O a (.bl x))(hb:x=true→ET Z ρ O (.BoolOp .And (b::es) pos) (.bl y)):ET Z ρ O (.BoolOp .And (a::b::es) pos) (.bl (x&&y)):=fun Φ p=>
 by
 refine PE.weak (Vx (BL (ρ:=ρ)) (BL (ρ:=ρ))) fun σ H Q q=>?_
 refine⟨O,_,ha (fun t O'=>t=.bl x∧O'=O) ⟨rfl,rfl⟩,q.1,?_⟩
 rintro v H1 _ _ ⟨rfl,rfl⟩ f r
 refine⟨x,r.bl_inv,?_⟩
 cases x with
 |true=>exact LM ⟨_,_,hb rfl _ p,q.1.step f,q.2.step f⟩
 |false=>exact Sj (q.2 _ H1 _ _ p f (.bl _))
theorem XJ{x:Bool}(ha:ET Z ρ O a (.bl x)):ET Z ρ O (.UnaryOp .Not a pos) (.bl (!x)):=fun Φ p=>
 PE.weak (Vy BL) fun σ H Q q=> ⟨O,_,ha (fun t O'=>t=.bl x∧O'=O) ⟨rfl,rfl⟩,q.1,fun v H1 t O1 ⟨e1,e2⟩ f r=>by
  subst e1;subst e2
  exact⟨x,r.bl_inv,q.2 _ H1 _ _ p f (.bl _)⟩⟩
theorem aA(h:WT Z ρ O c fun k O1=>if k=true then WE Z ρ O1 a Φ else WE Z ρ O1 b Φ):WE Z ρ O (.IfExp c a b pos) Φ:=
 PE.weak (Ox h BL BL) fun σ H Q q=> ⟨q.1,fun k H1 O1 p f=>by
  cases k with
  |true=>rw[if_pos rfl] at p ⊢;exact⟨O1,_,p,q.1.step f,q.2.step f⟩
  |false=>rw[if_neg e6] at p ⊢;exact⟨O1,_,p,q.1.step f,q.2.step f⟩⟩
theorem HX{x:Bool}(hc:EB Z ρ O c x)(ha:x=true→ET Z ρ O a ta)(hb:x=false→ET Z ρ O b tb):ET Z ρ O (.IfExp c a b pos) (if x=true then ta else tb):=fun Φ p=>aA (hc _ (by
 cases x with
 |true=>rw[if_pos rfl] at p ⊢;exact ha rfl _ p
 |false=>rw[if_neg e6] at p ⊢;exact hb rfl _ p))
theorem Reps.atI{vs:List V}{H:Hp}(r:Reps K O H vs ts)(e:L2.atI ts i=some t):∃v,L2.atI vs i=some v∧Rep K O H v t:=by
 unfold L2.atI at e ⊢
 rw[r.length]
 cases hx:PQ ts.length i with
 |none=>rw[hx] at e;cases e
 |some j=>rw[hx] at e;exact r.get e
theorem XM(e:atI ts i=some t):RP K (ZZ K) (.tup ts) (.int i) O t:=fun Φ p H v w Q ok r1 r2 q=>by
 obtain⟨a,xs,rfl,h1,r1⟩:=r1.tup_inv
 obtain⟨x,ex,rx⟩:=r1.atI e
 exact⟨a,xs,i,x,rfl,r2.int_inv,.inl (.inl h1),ex,q _ H _ O p (.refl ok) rx⟩
theorem QN(e:atI ts i=some t):RP K (Wg K) (.lst ts) (.int i) O t:=fun Φ p H v w Q ok r1 r2 q=>by
 obtain⟨a,xs,rfl,h1,o1,r1⟩:=r1.lst_inv
 obtain⟨x,ex,rx⟩:=r1.atI e
 exact⟨a,xs,i,x,rfl,r2.int_inv,.inl (.inl h1),ex,q _ H _ O p (.refl ok) rx⟩
theorem XN{a:Addr}(ha:O a=some ts)(e:atI ts i=some t):RP K (Wg K) (.raw (.ref a)) (.int i) O t:=fun Φ p H v w Q ok r1 r2 q=>by
 cases r1.raw_inv
 obtain⟨xs,h1,r1⟩:=ok a ts ha
 obtain⟨x,ex,rx⟩:=r1.atI e
 exact⟨a,xs,i,x,rfl,r2.int_inv,.inl (.inl h1),ex,q _ H _ O p (.refl ok) rx⟩
theorem Al(ha:ET Z ρ O a (.tup ts))(hb:ET Z ρ O b (.int i))(e:atI ts i=some t:=by rfl)(hs:DI b:=by exact fun _ _=>rfl):ET Z ρ O (.Subscript a b pos) t:=QF Wh hs (XM e) ha hb
theorem GB(ha:ET Z ρ O a (.lst ts))(hb:ET Z ρ O b (.int i))(e:atI ts i=some t:=by rfl)(hs:DI b:=by exact fun _ _=>rfl):ET Z ρ O (.Subscript a b pos) t:=QF FF hs (QN e) ha hb
theorem Cz{p:Addr}(hp:O p=some ts)(ha:ET Z ρ O a (.raw (.ref p)))(hb:ET Z ρ O b (.int i))(e:atI ts i=some t:=by rfl)(hs:DI b:=by exact fun _ _=>rfl):ET Z ρ O (.Subscript a b pos) t:=QF FF hs (XN hp e) ha hb
end
abbrev BX:=List T→AG→BJ→(Value→AG→Prop)→Prop
def BY(K:a8)(s:BX):Sp:=fun vs H Q E=>∃ts O Φ Ξ,Reps K O H vs ts∧OwnOk K O H∧s ts O Φ Ξ∧Acc K O H Φ Q∧∀cls O' H',Ξ cls O'→Frm K O H O' H'→E cls none H'
structure FnT(P:Program)(w:World)(K:a8)(mg:Str→Option Value)(base:Heap)(x:Str)(k:Nat)(ps:List Str)(s:BX):Prop where
 ex:∃f fd,FnOk P w K mg base (CXe P w) k f fd ps (BY K s)∧mg x=some (.ref f)∧jP K (.ref f)=true∧Binds K fd ps []
def Er(φ:List T→T→Prop):BX:=fun ts O Φ _=>∃t,φ ts t∧Φ t O
section
variable{Z:Zx}{ρ:List (Option T)}{O:AG}{e a b c:Expr}{es:List Expr}{Φ Φ':BJ}{pos p:Pos}{t ta tb:T}{ts:List T}{K:a8}{i j:Int}{x:Str}
theorem AW{k:Nat}{ps:List Str}{s:BX}(G:FnT Z.X.prog Z.X.w Z.X.K Z.X.mg Z.X.base x k ps s)(hr:Room k Z.X.A)(xf:XFly Z.X Z.W)(h:WA Z ρ O (e::es) fun ts O1=>s ts O1 Φ Z.Xi)(hg:Gl Z.X x:=by rfl)
  (hdb:(x==("__debug__" :Str))=false:=by decide) (he:e9 (e::es) Z.X.env=(false,eval e Z.X.env)::e9 es Z.X.env:=by rfl) (hpl:(jD pos (e9 es Z.X.env)).any (·.1)=false:=by rfl):WE Z ρ O (.Call (.Name x p) (e::es) [] pos) Φ:=by
 obtain⟨f,fd,F,hm,hk,hb⟩:=G.ex
 refine PE.weak (Jj xf F hr hg hm hk hb (KC (ρ:=ρ)) hdb he hpl) fun σ H Q q=>?_
 exact⟨O,_,h,q.1,fun vs H1 ts O1 p f r=> ⟨ts,O1,Φ,Z.Xi,r,f.ok,p,q.2.step f,fun cls O' H' x f'=> ⟨rfl,O',x,(q.1.fr.trans f).trans f'⟩⟩⟩
theorem FK{k:Nat}{ps:List Str}{s:BX}(G:FnT Z.X.prog Z.X.w Z.X.K Z.X.mg Z.X.base x k ps s)(hr:Room k Z.X.A)(xf:XFly Z.X Z.W)(h:EA Z ρ O (e::es) ts)(hs:∀Φ:BJ,Φ t O→s ts O Φ Z.Xi)(hg:Gl Z.X x:=by rfl)
  (hdb:(x==("__debug__" :Str))=false:=by decide) (he:e9 (e::es) Z.X.env=(false,eval e Z.X.env)::e9 es Z.X.env:=by rfl) (hpl:(jD pos (e9 es Z.X.env)).any (·.1)=false:=by rfl):ET Z ρ O (.Call (.Name x p) (e::es) [] pos) t:=
 fun Φ p=>AW G hr xf (h _ (hs Φ p)) hg hdb he hpl
theorem AQ{k:Nat}{ps:List Str}{φ:List T→T→Prop}(G:FnT Z.X.prog Z.X.w Z.X.K Z.X.mg Z.X.base x k ps (Er φ))(hr:Room k Z.X.A)(xf:XFly Z.X Z.W)(h:EA Z ρ O (e::es) ts)(hs:φ ts t)(hg:Gl Z.X x:=by rfl)
  (hdb:(x==("__debug__" :Str))=false:=by decide) (he:e9 (e::es) Z.X.env=(false,eval e Z.X.env)::e9 es Z.X.env:=by rfl) (hpl:(jD pos (e9 es Z.X.env)).any (·.1)=false:=by rfl):ET Z ρ O (.Call (.Name x p) (e::es) [] pos) t:=
 FK G hr xf h (fun Φ p=> ⟨t,hs,p⟩) hg hdb he hpl
def CT(K:a8)(r:List V→Hp→VK→Prop)(ts:List T)(O:AG)(Φ:BJ):Prop:=∀H vs Q,OwnOk K O H→Reps K O H vs ts→Acc K O H Φ Q→r vs H Q
def CP(K:a8)(r:List V→Hp→VK→Prop)(ts:List T)(O:AG)(t:T):Prop:=∀Φ:BJ,Φ t O→CT K r ts O Φ
theorem GC{id:String}{r:List V→Hp→VK→Prop}(hc:Au Z.X (.builtin id) r)(hm:Z.X.mg x=none)(hv:gk x=some (.builtin id))(h:WA Z ρ O (e::es) fun ts O1=>CT Z.K r ts O1 Φ)(hg:Gl Z.X x:=by rfl)(hn:x≠"__name__":=by decide)(hdb:(x==("__debug__" :Str))=false:=by decide)
  (he:e9 (e::es) Z.X.env=(false,eval e Z.X.env)::e9 es Z.X.env:=by rfl) (hpl:(jD pos (e9 es Z.X.env)).any (·.1)=false:=by rfl):WE Z ρ O (.Call (.Name x p) (e::es) [] pos) Φ:=
 PE.weak (FY hc hg hm hv (KC (ρ:=ρ)) hn hdb he hpl) fun σ H Q q=> ⟨O,_,h,q.1,fun vs H1 ts O1 p f r=>p H1 vs Q f.ok r (q.2.step f)⟩
theorem Ed{id:String}{r:List V→Hp→VK→Prop}(hc:Au Z.X (.type id) r)(hm:Z.X.mg x=none)(hv:gk x=some (.type id))(h:WA Z ρ O (e::es) fun ts O1=>CT Z.K r ts O1 Φ)(hg:Gl Z.X x:=by rfl)(hn:x≠"__name__":=by decide)(hdb:(x==("__debug__" :Str))=false:=by decide)
  (he:e9 (e::es) Z.X.env=(false,eval e Z.X.env)::e9 es Z.X.env:=by rfl) (hpl:(jD pos (e9 es Z.X.env)).any (·.1)=false:=by rfl):WE Z ρ O (.Call (.Name x p) (e::es) [] pos) Φ:=
 PE.weak (DH hc hg hm hv (KC (ρ:=ρ)) hn hdb he hpl) fun σ H Q q=> ⟨O,_,h,q.1,fun vs H1 ts O1 p f r=>p H1 vs Q f.ok r (q.2.step f)⟩
theorem BM{id:String}{r:List V→Hp→VK→Prop}(hc:Au Z.X (.builtin id) r)(hm:Z.X.mg x=none)(hv:gk x=some (.builtin id))(h:EA Z ρ O (e::es) ts)(hp:CP Z.K r ts O t)(hg:Gl Z.X x:=by rfl)(hn:x≠"__name__":=by decide)(hdb:(x==("__debug__" :Str))=false:=by decide)
  (he:e9 (e::es) Z.X.env=(false,eval e Z.X.env)::e9 es Z.X.env:=by rfl) (hpl:(jD pos (e9 es Z.X.env)).any (·.1)=false:=by rfl):ET Z ρ O (.Call (.Name x p) (e::es) [] pos) t:=fun Φ q=>GC hc hm hv (h _ (hp Φ q)) hg hn hdb he hpl
theorem OS{id:String}{r:List V→Hp→VK→Prop}(hc:Au Z.X (.type id) r)(hm:Z.X.mg x=none)(hv:gk x=some (.type id))(h:EA Z ρ O (e::es) ts)(hp:CP Z.K r ts O t)(hg:Gl Z.X x:=by rfl)(hn:x≠"__name__":=by decide)(hdb:(x==("__debug__" :Str))=false:=by decide)
  (he:e9 (e::es) Z.X.env=(false,eval e Z.X.env)::e9 es Z.X.env:=by rfl) (hpl:(jD pos (e9 es Z.X.env)).any (·.1)=false:=by rfl):ET Z ρ O (.Call (.Name x p) (e::es) [] pos) t:=fun Φ q=>Ed hc hm hv (h _ (hp Φ q)) hg hn hdb he hpl
def MT(K:a8)(ty:String)(r:V→List V→Hp→VK→Prop)(t:T)(ts:List T)(O:AG)(Φ:BJ):Prop:=∀H v vs Q,OwnOk K O H→Rep K O H v t→Reps K O H vs ts→Acc K O H Φ Q→r v vs H Q
def dW(K:a8)(ty:String)(O:AG)(t:T):Prop:=∀H v,OwnOk K O H→Rep K O H v t→cT K ty v H
theorem VO{o:Expr}{name:Str}{apos cpos:Pos}{ty id:String}{r:V→List V→Hp→VK→Prop}(pa:PlainAttrs ty)(slot:Slot ty name id)(hty:typeOf (.builtin id)=pure (.type "method_descriptor"))(hm:dP Z.X id r)
  (h:WE Z ρ O o fun t O1=>dW Z.K ty O1 t∧WA Z ρ O1 (e::es) fun ts O2=>MT Z.K ty r t ts O2 Φ)
  (hbase:nu o name Z.X.env (eval o Z.X.env)=eval o Z.X.env:=by rfl)
  (hfew:((jD cpos (e9 (e::es) Z.X.env)).all (fun x=>!x.1)&&(pQ cpos (oa [] Z.X.env)).all (fun x=>x.1.isSome)
   &&decide ((e::es).length+([]:List ng).length+(if([]:List ng).isEmpty then 0 else 1)<30))=true:=by rfl)
  (hline:(apos.endLine==cpos.line)=true:=by rfl) (hs:e9 (e::es) Z.X.env=(false,eval e Z.X.env)::e9 es Z.X.env:=by rfl) (hplain:(jD cpos (e9 es Z.X.env)).any (·.1)=false:=by rfl):WE Z ρ O (.Call (.Attribute o name apos) (e::es) [] cpos) Φ:=
 PE.weak (Zb pa slot hty hm (BL (ρ:=ρ)) (KC (ρ:=ρ)) hbase hfew hline hs hplain) fun σ H Q q=> ⟨O,_,h,q.1,fun v H1 t O1 ⟨ty,p⟩ f1 r1=> ⟨ty H1 v f1.ok r1,O1,_,p,q.1.step f1,fun vs H2 ts O2 p2 f2 r2=>
  p2 H2 v vs Q f2.ok (r1.kp f2.kp f1.ok) r2 (q.2.step (f1.trans f2))⟩⟩
theorem Mz{a:Addr}(ha:O a=some ts):dW K "list" O (.raw (.ref a)):=fun H v ok r=>by
 cases r.raw_inv
 obtain⟨xs,h,_⟩:=ok a ts ha
 exact .inl ⟨rfl,xs,.inl (.inl h)⟩
theorem Lo{a:Addr}{u:T}(ha:O a=some ts)(hl:ts.length<sizeLine)(p:Φ .non (Aj O a (ts++[u]))):MT K "list" Mn (.raw (.ref a)) [u] O Φ:=fun H v vs Q ok r1 r2 q=>by
 cases r1.raw_inv
 obtain⟨w,rfl,r3⟩:=r2.one_inv
 obtain⟨xs,h,r⟩:=ok a ts ha
 exact⟨a,xs,w,rfl,rfl,h,by rw[r.length];exact hl,q _ _ _ _ p (.put ok ha (r.append (.one r3))) .non⟩
theorem Ee{o:Expr}{apos cpos:Pos}(h:WE Z ρ O o fun t O1=>∃a,t=.raw (.ref a)∧(∃ts,O1 a=some ts)∧WE Z ρ O1 e fun u O2=>∃ts,O2 a=some ts∧ts.length<sizeLine∧Φ .non (Aj O2 a (ts++[u])))
  (hbase:nu o "append" Z.X.env (eval o Z.X.env)=eval o Z.X.env:=by rfl)
  (hfew:((jD cpos (e9 [e] Z.X.env)).all (fun x=>!x.1)&&(pQ cpos (oa [] Z.X.env)).all (fun x=>x.1.isSome)
   &&decide ([e].length+([]:List ng).length+(if([]:List ng).isEmpty then 0 else 1)<30))=true:=by rfl)
  (hline:(apos.endLine==cpos.line)=true:=by rfl) (hs:e9 [e] Z.X.env=(false,eval e Z.X.env)::e9 [] Z.X.env:=by rfl) (hplain:(jD cpos (e9 [] Z.X.env)).any (·.1)=false:=by rfl):WE Z ρ O (.Call (.Attribute o "append" apos) [e] [] cpos) Φ:=by
 refine VO PySem.F.plainAttrs_list PySem.F.slot_list_append PySem.F.type_list_append HG (DL h ?_) hbase hfew hline hs hplain
 rintro t O1 ⟨a,rfl,⟨ts,hts⟩,w⟩
 refine⟨Mz hts,DM (DL w ?_) hs⟩
 rintro u O2 ⟨us,h1,h2,p⟩
 exact BR (Lo h1 h2 p)
end
abbrev OT:=List (Option T)→AG→Prop
structure Es where
 nx:OT
 rt:BJ
 bk:OT:=fun _ _=>False
 ct:OT:=fun _ _=>False
def AccN(Z:Zx)(O:AG)(H:Hp)(N:OT)(D:St→Hp→Prop):Prop:=∀ρ' O' σ' H',N ρ' O'→Asr Z ρ' O' σ' H'→Kp O H O' H'→D σ' H'
structure AccS(Z:Zx)(O:AG)(H:Hp)(Ψ:Es)(D:Ends):Prop where
 nx:AccN Z O H Ψ.nx D.nx
 rt:∀v H' t O',Ψ.rt t O'→Frm Z.K Z.Oe Z.He O' H'→Rep Z.K O' H' v t→D.rt v H'
 bk:AccN Z O H Ψ.bk D.bk
 ct:AccN Z O H Ψ.ct D.ct
def tS(Z:Zx)(ρ:List (Option T))(O:AG)(Ψ:Es):TS:=fun D σ H=>Asr Z ρ O σ H∧AccS Z O H Ψ D
def WS(Z:Zx)(ρ:List (Option T))(O:AG)(s:Stmt)(Ψ:Es):Prop:=PS Z.X s (tS Z ρ O Ψ)
def GD(Z:Zx)(ρ:List (Option T))(O:AG)(s:List Stmt)(Ψ:Es):Prop:=PSs Z.X s (tS Z ρ O Ψ)
def eD(Z:Zx)(ss:List Stmt):TS:=fun D σ H=>∃ρ O Ψ,GD Z ρ O ss Ψ∧tS Z ρ O Ψ D σ H
theorem KE{Z:Zx}{ss:List Stmt}:PSs Z.X ss (eD Z ss):=fun pins s σ H D I ⟨_,_,_,w,q⟩=>w pins s σ H D I q
section
variable{Z:Zx}{ρ:List (Option T)}{O O1:AG}{e a b c:Expr}{es:List Expr}{Ψ:Es}{pos p:Pos}{t ta tb:T}{ts:List T}{i j:Nat}{x:Str}{s:Stmt}{ss:List Stmt}{H H1:Hp}{D:Ends}
theorem AccN.step{N:OT}{D:St→Hp→Prop}(h:AccN Z O H N D)(k:Kp O H O1 H1):AccN Z O1 H1 N D:=fun ρ' O' σ' H' n a k'=>h ρ' O' σ' H' n a (k.trans k')
theorem AccS.step(h:AccS Z O H Ψ D)(k:Kp O H O1 H1):AccS Z O1 H1 Ψ D:=⟨h.nx.step k,h.rt,h.bk.step k,h.ct.step k⟩
theorem Ac(h:Ψ.nx ρ O):GD Z ρ O [] Ψ:=PSs.weak Md fun D σ H q=>q.2.nx ρ O σ H h q.1 .refl
theorem AE(h:WS Z ρ O s {Ψ with nx:=fun ρ' O'=>GD Z ρ' O' ss Ψ}):GD Z ρ O (s::ss) Ψ:=
 PSs.weak (JY h KE) fun D σ H q=> ⟨q.1,fun ρ' O' σ' H' w a k=> ⟨ρ',O',Ψ,w,a,q.2.step k⟩,q.2.rt,q.2.bk,q.2.ct⟩
theorem AF(h:WS Z ρ O s Ψ):GD Z ρ O [s] Ψ:=PSs.weak (Hy h) fun _ _ _ q=>q
theorem TX{Ψ':Es}(h:WS Z ρ O s Ψ)(n:∀ρ' O',Ψ.nx ρ' O'→Ψ'.nx ρ' O')(r:∀t O',Ψ.rt t O'→Ψ'.rt t O')(bk:∀ρ' O',Ψ.bk ρ' O'→Ψ'.bk ρ' O')(ct:∀ρ' O',Ψ.ct ρ' O'→Ψ'.ct ρ' O'):WS Z ρ O s Ψ':=
 PS.weak h fun D σ H q=> ⟨q.1,fun ρ' O' σ' H' w=>q.2.nx ρ' O' σ' H' (n ρ' O' w),fun v H' t O' w=>q.2.rt v H' t O' (r t O' w),fun ρ' O' σ' H' w=>q.2.bk ρ' O' σ' H' (bk ρ' O' w),fun ρ' O' σ' H' w=>q.2.ct ρ' O' σ' H' (ct ρ' O' w)⟩
theorem DA{p:Addr}{n:Nat}(hp:O p=some ts)(he:Z.Oe p=none)(hn:ρ[n]?=some (some (.raw (.ref p))))(h:GD Z (ρ.set n (some (.lst ts))) (DZ O p) ss Ψ):GD Z ρ O ss Ψ:=PSs.weak h fun D σ H q=>by
 refine⟨⟨?_,⟨q.1.fr.kp.trans DJ,fun b us e=>?_,q.1.ok.drop⟩⟩,q.2.step DJ⟩
 ·have r1:=q.1.rl.kp (DJ (a:=p)) q.1.ok
  obtain⟨v,e1,e2⟩:=q.1.rl.2 n _ hn
  cases e2.raw_inv
  have r2:=r1.set (i:=n) (q.1.ok.rep hp)
  have:σ.set n (some (.ref p))=σ:=by
   apply i7
   intro m
   by_cases hm:m=n
   ·subst hm
    have hl:m<σ.length:=(fD.mp e1).1
    rw[gm hl,e1]
   ·rw[fZ (Ne.symm hm)]
  rw[this] at r2
  exact r2
 ·obtain⟨us',e'⟩:=q.1.fr.own b us e
  have:b≠p:=fun z=>by rw[z,he] at e;cases e
  exact⟨us',by rw[Dy this];exact e'⟩
theorem AJ(h:WE Z ρ O e Ψ.rt):WS Z ρ O (.Return (some e) pos) Ψ:=PS.weak (LA h) fun D σ H q=> ⟨q.1,fun v H' t O' p f r=>q.2.rt v H' t O' p (q.1.fr.trans f) r⟩
theorem Ad(h:WE Z ρ O e fun _ O'=>Ψ.nx ρ O')(hs:mE e none pos.line Z.X.env=pure false:=by rfl):WS Z ρ O (.Expr e pos) Ψ:=
 PS.weak (SS h hs) fun D σ H q=> ⟨q.1,fun v H' t O' p f r=>q.2.nx ρ O' σ H' p (q.1.step f) f.kp⟩
theorem Aa(i:Nat)(h:WE Z ρ O e fun t O'=>Ψ.nx (ρ.set i (some t)) O')(hN:Z.X.N.Nodup){pos':Pos}(hi:Z.X.N[i]?=some x:=by rfl)(hx:SG Z.X.env.scope x:=by first|exact om rfl|exact nA rfl)(hs:mE e (some (.Name x pos')) pos.line Z.X.env=pure false:=by rfl)
  (hf:Z.X.fn x=true∨Z.X.env.scope.names.lookup x=some .local:=by first|exact .inl rfl|exact .inr rfl):WS Z ρ O (.Assign [.Name x pos'] e pos) Ψ:=
 PS.weak (WJ hN hi hx h hs hf) fun D σ H q=> ⟨q.1,fun v H' t O' p f r=>q.2.nx _ O' _ H' p ⟨(q.1.step f).rl.set r,(q.1.step f).fr⟩ f.kp⟩
theorem Lp{op:oq}{ti:ZD}(i:Nat){pos':Pos}(ho:bY Z.X op ti)(hρ:ρ[i]?=some (some ta))(h:WE Z ρ O e fun tb O1=>RT Z.K ti ta tb O1 fun t O2=>Ψ.nx (ρ.set i (some t)) O2)(hN:Z.X.N.Nodup)(hi:Z.X.N[i]?=some x:=by rfl)(hx:SG Z.X.env.scope x:=by first|exact om rfl|exact nA rfl)
  (hf:Z.X.fn x=true∨Z.X.env.scope.names.lookup x=some .local:=by first|exact .inl rfl|exact .inr rfl):WS Z ρ O (.AugAssign (.Name x pos') op e pos) Ψ:=
 PS.weak (WL hN hi hx h ho hf) fun D σ H q=>by
  obtain⟨v,e1,r1⟩:=q.1.rl.2 i _ hρ
  exact⟨v,e1,q.1,fun w H1 tb O1 p f r=>p H1 v w _ f.ok (r1.kp f.kp q.1.ok) r fun z H2 t O2 p2 f2 r2=>q.2.nx _ O2 _ H2 p2 ⟨(q.1.step (f.trans f2)).rl.set r2,(q.1.step (f.trans f2)).fr⟩ (f.trans f2).kp⟩
theorem VP{ea eb:List Stmt}(h:WT Z ρ O c fun k O1=>if k=true then GD Z ρ O1 ea Ψ else GD Z ρ O1 eb Ψ):WS Z ρ O (.If c ea eb pos) Ψ:=
 PS.weak (VC h KE KE) fun D σ H q=> ⟨q.1,fun k H1 O1 p f=>by
  cases k with
  |true=>rw[if_pos rfl] at p ⊢;exact⟨ρ,O1,Ψ,p,q.1.step f,q.2.step f.kp⟩
  |false=>rw[if_neg e6] at p ⊢;exact⟨ρ,O1,Ψ,p,q.1.step f,q.2.step f.kp⟩⟩
theorem Ab{ea eb:List Stmt}{k:Bool}(hc:EB Z ρ O c k)(h1:k=true→GD Z ρ O ea Ψ)(h2:k=false→GD Z ρ O eb Ψ):WS Z ρ O (.If c ea eb pos) Ψ:=VP (hc _ (by
 cases k with
 |true=>rw[if_pos rfl];exact h1 rfl
 |false=>rw[if_neg e6];exact h2 rfl))
def tG(Z:Zx)(n:Nat)(ρ:List (Option T))(O:AG)(t:T)(ρ':List (Option T)):TG:=fun v σ H Q=>Asr Z ρ O σ H∧Rep Z.K O H v t∧∀σ',Asr Z ρ' O σ' H→(σ'.length=σ.length∧∀j,n≤j→σ'[j]?=σ[j]?)→Q σ' H
def WG(Z:Zx)(n:Nat)(ρ:List (Option T))(O:AG)(tg:Expr)(t:T)(ρ':List (Option T)):Prop:=PG Z.X tg (tG Z n ρ O t ρ')
theorem PG.weak{X:Cx}{e:Expr}{t t':TG}(h:PG X e t)(w:∀v σ H Q,t' v σ H Q→t v σ H Q):PG X e t':=fun pins s σ H v u Q I r q=>h pins s σ H v u Q I r (w v σ H Q q)
def eE(Z:Zx)(n:Nat)(tg:Expr):TG:=fun v σ H Q=>∃ρ O t ρ',WG Z n ρ O tg t ρ'∧tG Z n ρ O t ρ' v σ H Q
theorem cf{n:Nat}{tg:Expr}:PG Z.X tg (eE Z n tg):=fun pins s σ H v u Q I r ⟨_,_,_,_,w,q⟩=>w pins s σ H v u Q I r q
theorem AX(i:Nat){n:Nat}(hN:Z.X.N.Nodup)(hn:i<n)(hi:Z.X.N[i]?=some x:=by rfl)(hx:SG Z.X.env.scope x:=by first|exact om rfl|exact nA rfl)
  (hf:Z.X.fn x=true∨Z.X.env.scope.names.lookup x=some .local:=by first|exact .inl rfl|exact .inr rfl):WG Z n ρ O (.Name x pos) t (ρ.set i (some t)):=
 PG.weak (Hz hN hi hx hf) fun v σ H Q q=>q.2.2 _ ⟨q.1.rl.set q.2.1,q.1.fr⟩ ⟨by simp,fun j hj=>by rw[fZ (by omega)]⟩
theorem Cc(i j:Nat){n:Nat}{y:Str}{p1 p2:Pos}{k:Nat}(hc:Z.X.calm=true)(hN:Z.X.N.Nodup)(hni:i<n)(hnj:j<n)(hi:Z.X.N[i]?=some x:=by rfl)(hj:Z.X.N[j]?=some y:=by rfl)(hx:SG Z.X.env.scope x:=by first|exact om rfl|exact nA rfl)(hy:SG Z.X.env.scope y:=by first|exact om rfl|exact nA rfl)
  (hf:Z.X.fn x=true∨Z.X.env.scope.names.lookup x=some .local:=by first|exact .inl rfl|exact .inr rfl) (hf2:Z.X.fn y=true∨Z.X.env.scope.names.lookup y=some .local:=by first|exact .inl rfl|exact .inr rfl)
  (hs:(jE [.Name x p1,.Name y p2] Z.X.env).map (·.2)=assign (.Name x p1) Z.X.env::(jE [.Name y p2] Z.X.env).map (·.2):=by rfl) (hs2:(jE [.Name y p2] Z.X.env).map (·.2)=assign (.Name y p2) Z.X.env::(jE [] Z.X.env).map (·.2):=by rfl)
  (hl:(jE [.Name x p1,.Name y p2] Z.X.env).length=2:=by rfl) (hst:(jE [.Name x p1,.Name y p2] Z.X.env).findIdx? (·.1)=none:=by rfl):
  WG Z n ρ O (.Tuple [.Name x p1,.Name y p2] k pos) (.tup [ta,tb]) ((ρ.set i (some ta)).set j (some tb)):=
 PG.weak (WC hc (JZ (Hz hN hi hx hf) (JZ (Hz hN hj hy hf2) SU hs2) hs) hl hst) fun v σ H Q q=>by
  obtain⟨q1,q2,q3⟩:=q
  obtain⟨a,xs,rfl,h1,r⟩:=q2.tup_inv
  obtain⟨v,w,rfl,r1,r2⟩:=r.two_inv
  exact⟨a,_,rfl,.inl (.inl h1),rfl,v,_,rfl,w,_,rfl,rfl,q3 _ ⟨(q1.rl.set r1).set r2,q1.fr⟩ ⟨by simp,fun m hm=>by rw[fZ (by omega),fZ (by omega)]⟩⟩
theorem GE{o ix:Expr}{px:Pos}(h:WE Z ρ O e fun t O1=>WE Z ρ O1 o fun u O2=>∃a,u=.raw (.ref a)∧WE Z ρ O2 ix fun w O3=>∃ts k m,w=.int k∧O3 a=some ts∧PQ ts.length k=some m∧Ψ.nx ρ (Aj O3 a (ts.set m t)))
  (ha:∀v,assign (.Subscript o ix px) Z.X.env v=(do
   let ov←holding [v] (eval o Z.X.env)
   let iv←holding [v,ov] (eval ix Z.X.env)
   standAt px
   holding [v,ov,iv] (setItem ov iv v)
   release [v,ov,iv] []):=by intro _;rfl)
  (hs:nj [.Subscript o ix px] e pos.line Z.X.env=pure false:=by rfl) (hw:nr [.Subscript o ix px] e Z.X.env=pure none:=by rfl)
  (h1:(jE [.Subscript o ix px] Z.X.env).map (·.2)=[assign (.Subscript o ix px) Z.X.env]:=by rfl):WS Z ρ O (.Assign [.Subscript o ix px] e pos) Ψ:=by
 refine PS.weak (WH h (WD (BL (ρ:=ρ)) (BL (ρ:=ρ)) PR ha) hs hw h1) fun D σ H q=> ⟨q.1,fun v H1 t O1 p1 f1 r1=>?_⟩
 refine⟨O1,_,p1,q.1.step f1,?_⟩
 rintro vo H2 _ O2 ⟨a,rfl,p2⟩ f2 r2
 refine⟨O2,_,p2,q.1.step (f1.trans f2),?_⟩
 rintro vi H3 _ O3 ⟨ts,k,m,rfl,ho,hm,p3⟩ f3 r3
 cases r2.raw_inv
 obtain⟨xs,hx,rx⟩:=f3.ok a ts ho
 have r1':=(r1.kp f2.kp f1.ok).kp f3.kp f2.ok
 have f:=f1.trans (f2.trans (f3.trans (Frm.put f3.ok ho (rx.set r1' m))))
 exact⟨a,xs,k,m,rfl,r3.int_inv,hx,by rw[rx.length];exact hm,q.2.nx ρ _ σ _ p3 (q.1.step f) f.kp⟩
def Lq(K:a8)(J:It)(O:AG)(H:Hp)(ts:List T):Prop:=∀O' H',Kp O H O' H'→OwnOk K O' H'→
 (∀i,i<ts.length→J.go i H')∧(∀i x H'',J.yld i H' x H''→∀t,ts[i]?=some t→Frm K O' H' O' H''∧Rep K O' H'' x t)∧∀i,ts.length≤i→J.stop i H'
def WI(Z:Zx)(ρ:List (Option T))(O:AG)(tg iter:Expr)(Φ:Ll):Prop:=PI Z.X tg iter fun σ H R=>Asr Z ρ O σ H∧∀J H' ts O',Φ ts O'→Frm Z.K O H O' H'→Lq Z.K J O' H' ts→R J H'
theorem PI.weak{X:Cx}{tg e:Expr}{t t':TI}(h:PI X tg e t)(w:∀σ H R,t' σ H R→t σ H R):PI X tg e t':=fun pins s σ H R I q=>h pins s σ H R I (w σ H R q)
theorem OU{K:a8}{a:Addr}{xs:List V}(ok:OwnOk K O H)(h:H a=some (.lst xs))(n:O a=none)(r:Reps K O H xs ts):Lq K (cI K a) O H ts:=fun O' H' k ok'=>by
 have h':=(k.lst h n).1
 have r':=r.kp k ok
 refine⟨fun i hi=>?_,fun i x H'' y t e=>?_,fun i hi=> ⟨xs,.inl (.inl h'),by rw[r.length];exact hi⟩⟩
 ·obtain⟨v,e,_⟩:=r'.get (i:=i) (t:=ts[i]) (by simp[hi])
  exact⟨xs,v,.inl (.inl h'),e⟩
 ·obtain⟨rfl,y⟩:=y
  obtain⟨v,e',q⟩:=r'.get e
  have:=y xs (.inl (.inl h'))
  rw[e'] at this;cases this
  exact⟨.refl ok',q⟩
theorem QO{K:a8}{a:Addr}{xs:List V}(ok:OwnOk K O H)(h:H a=some (.tup xs))(r:Reps K O H xs ts):Lq K (cJ K a) O H ts:=fun O' H' k ok'=>by
 have h':Cm K H' a xs:=.inl (.inl (k.oth ok h fun _ z=>by cases z))
 have r':=r.kp k ok
 refine⟨fun i hi=>?_,fun i x H'' y t e=>?_,fun i hi=> ⟨xs,h',by rw[r.length];exact hi⟩⟩
 ·obtain⟨v,e,_⟩:=r'.get (i:=i) (t:=ts[i]) (by simp[hi])
  exact⟨xs,v,h',e⟩
 ·obtain⟨rfl,y⟩:=y
  obtain⟨v,e',q⟩:=r'.get e
  have:=y xs h'
  rw[e'] at this;cases this
  exact⟨.refl ok',q⟩
def GF(lo:Int)(n:Nat):List T:=(fY n).map fun(i:Nat)=>T.int (lo+i)
theorem BN{lo:Int}{n:Nat}:(GF lo n).length=n:=by simp[GF]
theorem DB{lo:Int}{n i:Nat}(h:(GF lo n)[i]?=some t):i<n∧t=.int (lo+i):=by
 unfold GF at h
 rw[fc] at h
 by_cases hi:i<n
 ·rw[ki hi] at h
  cases h
  exact⟨hi,rfl⟩
 ·rw[jS (by simpa using hi)] at h
  cases h
theorem KG{K:a8}{lo:Int}{n:Nat}:Lq K (ZG lo n) O H (GF lo n):=fun O' H' k ok'=>by
 refine⟨fun i hi=>by rwa[BN] at hi,fun i x H'' y t e=>?_,fun i hi=>by rwa[BN] at hi⟩
 obtain⟨rfl,rfl⟩:=y
 obtain⟨_,rfl⟩:=DB e
 exact⟨.refl ok',.int _⟩
theorem IZ{tg:Expr}{Φ:Ll}(h:WE Z ρ O e fun t O'=>∃ts,t=.lst ts∧Φ ts O'):WI Z ρ O tg e Φ:=PI.weak (SV h) fun σ H R q=> ⟨q.1,by
 rintro v H' _ O' ⟨ts,rfl,p⟩ f r
 obtain⟨a,xs,rfl,h1,n,r⟩:=r.lst_inv
 exact⟨a,rfl,⟨xs,.inl (.inl h1)⟩,q.2 _ H' ts O' p f (OU f.ok h1 n r)⟩⟩
theorem XO{tg:Expr}{Φ:Ll}(h:WE Z ρ O e fun t O'=>∃ts,t=.tup ts∧Φ ts O'):WI Z ρ O tg e Φ:=PI.weak (WN h) fun σ H R q=> ⟨q.1,by
 rintro v H' _ O' ⟨ts,rfl,p⟩ f r
 obtain⟨a,xs,rfl,h1,r⟩:=r.tup_inv
 exact⟨a,rfl,⟨xs,.inl (.inl h1)⟩,q.2 _ H' ts O' p f (QO f.ok h1 r)⟩⟩
theorem OV{tg:Expr}{Φ:Ll}(hm:Z.X.mg "range" =none)(h:WA Z ρ O [a] fun ts O'=>∃j:Int,ts=[.int j]∧-(2^62)≤j∧j<2^62∧Φ (GF 0 j.toNat) O')(hg:Gl Z.X "range":=by rfl)(hs:e9 [a] Z.X.env=[(false,eval a Z.X.env)]:=by rfl):WI Z ρ O tg (.Call (.Name "range" p) [a] [] pos) Φ:=
 PI.weak (Nn hg hm h hs) fun σ H R q=> ⟨q.1,by
  rintro vs H' _ O' ⟨j,rfl,h1,h2,p⟩ f r
  obtain⟨v,rfl,r'⟩:=r.one_inv
  exact⟨j,by rw[r'.int_inv],h1,h2,q.2 _ H' _ O' p f KG⟩⟩
theorem OW{tg:Expr}{Φ:Ll}(hm:Z.X.mg "range" =none)(h:WA Z ρ O [a,b] fun ts O'=>∃i j:Int,ts=[.int i,.int j]∧(-(2^62)≤i∧i<2^62∧-(2^62)≤j∧j<2^62)∧Φ (GF i (j-i).toNat) O')(hg:Gl Z.X "range":=by rfl)(hs:e9 [a,b] Z.X.env=[(false,eval a Z.X.env),(false,eval b Z.X.env)]:=by rfl)(hs2:e9 [b] Z.X.env=[(false,eval b Z.X.env)]:=by rfl):WI Z ρ O tg (.Call (.Name "range" p) [a,b] [] pos) Φ:=
 PI.weak (Np hg hm h hs hs2) fun σ H R q=> ⟨q.1,by
  rintro vs H' _ O' ⟨i,j,rfl,h1,p⟩ f r
  obtain⟨v,w,rfl,r1,r2⟩:=r.two_inv
  exact⟨i,j,by rw[r1.int_inv,r2.int_inv],h1,q.2 _ H' _ O' p f KG⟩⟩
def EI(Z:Zx)(ρ:List (Option T))(O:AG)(tg iter:Expr)(ts:List T):Prop:=∀Φ:Ll,Φ ts O→WI Z ρ O tg iter Φ
theorem BB{tg:Expr}(h:ET Z ρ O e (.lst ts)):EI Z ρ O tg e ts:=fun Φ p=>IZ (h _ ⟨ts,rfl,p⟩)
theorem Bv{tg:Expr}(h:ET Z ρ O e (.tup ts)):EI Z ρ O tg e ts:=fun Φ p=>XO (h _ ⟨ts,rfl,p⟩)
theorem DO{tg:Expr}{k:Int}(hm:Z.X.mg "range" =none)(h:ET Z ρ O a (.int k))(h1: -(2^62)≤k∧k<2^62)(hg:Gl Z.X "range":=by rfl)(hs:e9 [a] Z.X.env=[(false,eval a Z.X.env)]:=by rfl):EI Z ρ O tg (.Call (.Name "range" p) [a] [] pos) (GF 0 k.toNat):=fun Φ q=>OV hm (AN h AB hs _ ⟨k,rfl,h1.1,h1.2,q⟩) hg hs
theorem Ef{tg:Expr}{k l:Int}(hm:Z.X.mg "range" =none)(h:ET Z ρ O a (.int k))(h2:ET Z ρ O b (.int l))(h1: -(2^62)≤k∧k<2^62∧-(2^62)≤l∧l<2^62)(hg:Gl Z.X "range":=by rfl)(hs:e9 [a,b] Z.X.env=[(false,eval a Z.X.env),(false,eval b Z.X.env)]:=by rfl)(hs2:e9 [b] Z.X.env=[(false,eval b Z.X.env)]:=by rfl):EI Z ρ O tg (.Call (.Name "range" p) [a,b] [] pos) (GF k (l-k).toNat):=
 fun Φ q=>OW hm (AN h (AN h2 AB hs2) (by rw[hs,hs2]) _ ⟨k,l,rfl,h1,q⟩) hg hs hs2
theorem Cd{tg iter:Expr}{body:List Stmt}(hp:mG (model Z.X.prog Z.X.w) Z.X.A Z.X.env Z.X.xe)(hc:Z.X.calm=true)
  (h:WI Z ρ O tg iter fun ts O1=>∃I:Nat→OT,I 0 ρ O1∧(∀i t ρ' O',ts[i]?=some t→I i ρ' O'→∃ρ2,WG Z Z.X.N.length ρ' O' tg t ρ2∧GD Z ρ2 O' body {nx:=I (i+1),rt:=Ψ.rt,bk:=Ψ.nx,ct:=I (i+1)})∧∀ρ' O',I ts.length ρ' O'→Ψ.nx ρ' O')
  (hs:∀x,iM iter Z.X.env x=pure x:=by intro _;rfl):WS Z ρ O (.For tg iter body [] pos) Ψ:=by
 refine PS.weak (WO hp hc h (cf (n:=Z.X.N.length)) KE hs) fun D σ H q=> ⟨q.1,?_⟩
 rintro J H1 ts O1 ⟨I,i0,step,fin⟩ f1 it
 refine⟨fun i m σ' H'=>m=ts.length-i∧i≤ts.length∧∃ρ' O',I i ρ' O'∧Asr Z ρ' O' σ' H'∧Kp O1 H1 O' H',⟨ts.length,by simp,gT _,ρ,O1,i0,q.1.step f1,.refl⟩,?_⟩
 rintro i m σ2 H2 ⟨rfl,hi,ρ2,O2,i2,a2,k2⟩
 obtain⟨g1,g2,g3⟩:=it O2 H2 k2 a2.ok
 by_cases hlt:i<ts.length
 ·refine .inr ⟨g1 i hlt,fun σ' H'=>∃ρ' O',I (i+1) ρ' O'∧Asr Z ρ' O' σ' H'∧Kp O1 H1 O' H',fun σ' H' w=> ⟨_,by omega,rfl,by omega,w⟩,fun x H3 y=>?_⟩
  obtain⟨f3,r3⟩:=g2 i x H3 y ts[i] (by simp[hlt])
  obtain⟨ρ3,wg,wb⟩:=step i ts[i] ρ2 O2 (by simp[hlt]) i2
  refine⟨ρ2,O2,_,ρ3,wg,a2.step f3,r3,fun σ3 a3 _=> ⟨ρ3,O2,_,wb,a3,?_⟩⟩
  have kk:=(k2.trans f3.kp)
  exact⟨fun ρ' O' σ' H' w a k=> ⟨ρ',O',w,a,kk.trans k⟩,q.2.rt,fun ρ' O' σ' H' w a k=>q.2.nx ρ' O' σ' H' w a (f1.kp.trans (kk.trans k)),fun ρ' O' σ' H' w a k=> ⟨ρ',O',w,a,kk.trans k⟩⟩
 ·have:i=ts.length:=by omega
  subst this
  exact .inl ⟨g3 _ (fj _),q.2.nx ρ2 O2 σ2 H2 (fin ρ2 O2 i2) a2 (f1.kp.trans k2)⟩
end
def zc(X:Cx)(Oe:AG)(He:Hp):Zx:=⟨X,Oe,He,fun _ _=>False⟩
def Gx(nc:List Str)(ρ:List (Option T))(cap:List (Str×Nat)):List (Option T):=iA nc.length none++cap.map fun q=> (ρ[q.2]?).join
def bg(Z:Zx)(ρ:List (Option T))(O:AG)(ifs:List Expr)(Φ:KB):Prop:=Wo Z.X ifs (Yr Z ρ O Φ)
theorem BG{O:AG}{p:Addr}{ts:List T}(h:O p=none):DZ (Aj O p ts) p=O:=by
 funext b
 by_cases hb:b=p
 ·rw[hb,CZ,h]
 ·rw[Dy hb,AZ hb]
theorem DC{O:AG}{p a:Addr}{ts us:List T}(h:a≠p):Aj (Aj O p ts) a us=Aj (Aj O a us) p ts:=by
 funext b
 unfold Aj
 by_cases h1:b=a
 ·subst h1;rw[if_pos rfl,if_neg h,if_pos rfl]
 ·rw[if_neg h1,if_neg h1]
section
variable{Z:Zx}{ρ:List (Option T)}{O:AG}{elt tg iter:Expr}{ifs:List Expr}{csc:Scope}{nc:List Str}{cap:List (Str×Nat)}{Φ:BJ}{pos:Pos}
theorem Ia{Φ:KB}(h:Φ true O):bg Z ρ O [] Φ:=fun pins s σ H Q I q=>So pins s σ H Q I (q.2 true H O h q.1.refl)
theorem NA{Φ:KB}{c:Expr}(h:WT Z ρ O c Φ):bg Z ρ O [c] Φ:=Sq h
theorem aB{K:a8}{H:Hp}{σ:St}(r:Rl K O H σ ρ):Rl K O H (Gv nc σ cap) (Gx nc ρ cap):=by
 refine⟨by simp[Bj,Gx],fun i t e=>?_⟩
 unfold Gx at e
 have hi:nc.length≤i:=by
  by_cases hi:i<nc.length
  ·rw[gz (by simpa using hi),jg] at e
   split at e<;>cases e
  ·omega
 rw[fR (by simpa using hi),fc] at e
 simp only[jt] at e
 cases hc:cap[i-nc.length]? with
 |none=>rw[hc] at e;cases e
 |some q=>
  rw[hc] at e
  have e:(ρ[q.2]?).join=some t:=gh.inj e
  have e':ρ[q.2]?=some (some t):=by
   cases h:ρ[q.2]? with
   |none=>rw[h] at e;cases e
   |some w=>rw[h] at e;exact congrArg some e
  obtain⟨v,h1,h2⟩:=r.2 q.2 t e'
  refine⟨v,?_,h2⟩
  show(iA nc.length (none:Option V)++Bj σ cap)[i]?=some (some v)
  rw[fR (by simpa using hi)]
  simp only[jt]
  unfold Bj
  rw[fc,hc]
  show some (σ[q.2]?).join=_
  rw[h1]
  rfl
theorem Ib{X X':Cx}{Oe:AG}{He:Hp}{Xi Xi':Value→AG→Prop}{σ:St}{H:Hp}(hK:X'.K=X.K)(a:Asr ⟨X,Oe,He,Xi⟩ ρ O σ H):Asr ⟨X',Oe,He,Xi'⟩ ρ O σ H:=by
 obtain⟨r,f⟩:=a
 refine⟨?_,?_⟩
 ·show Rl X'.K O H σ ρ
  rw[hK];exact r
 ·show Frm X'.K Oe He O H
  rw[hK];exact f
def gA(Z:Zx)(csc:Scope)(nc:List Str)(cap:List (Str×Nat))(tg:Expr):TG:=fun v σ H Q=>∃Oe He ρ O t ρ',(∀X',LcCx Z.X csc (Ae nc cap) X'→WG (zc X' Oe He) nc.length ρ O tg t ρ')∧tG (zc Z.X Oe He) nc.length ρ O t ρ' v σ H Q
def cg(Z:Zx)(csc:Scope)(nc:List Str)(cap:List (Str×Nat))(ifs:List Expr):TT:=fun σ H Q=>∃Oe He ρ O Φ,(∀X',LcCx Z.X csc (Ae nc cap) X'→bg (zc X' Oe He) ρ O ifs Φ)∧Yr (zc Z.X Oe He) ρ O Φ σ H Q
def eA(Z:Zx)(csc:Scope)(nc:List Str)(cap:List (Str×Nat))(e:Expr):TE:=fun σ H Q=>∃Oe He ρ O Φ,(∀X',LcCx Z.X csc (Ae nc cap) X'→WE (zc X' Oe He) ρ O e Φ)∧tW (zc Z.X Oe He) ρ O Φ σ H Q
theorem XQ{X X':Cx}{N':List Str}(h:LcCx X csc N' X'):X'.K=X.K:=by
 obtain⟨_,_,_,_,rfl⟩:=h
 rfl
theorem XR:∀X',LcCx Z.X csc (Ae nc cap) X'→PG X' tg (gA Z csc nc cap tg):=by
 rintro X' is pins s σ H v u Q I r ⟨Oe,He,ρ,O,t,ρ',w,a,rp,k⟩
 refine w X' is pins s σ H v u Q I r ⟨Ib (XQ is) a,?_,fun σ' a' h=>k σ' (Ib (XQ is).symm a') h⟩
 show Rep X'.K O H v t
 rw[XQ is];exact rp
theorem QP:∀X',LcCx Z.X csc (Ae nc cap) X'→Wo X' ifs (cg Z csc nc cap ifs):=by
 rintro X' is pins s σ H Q I ⟨Oe,He,ρ,O,Φ,w,a,k⟩
 refine w X' is pins s σ H Q I ⟨Ib (XQ is) a,?_⟩
 intro b H' O' p f
 refine k b H' O' p ?_
 have f:Frm X'.K O H O' H':=f
 rw[XQ is] at f;exact f
theorem XS:∀X',LcCx Z.X csc (Ae nc cap) X'→PE X' elt (eA Z csc nc cap elt):=by
 rintro X' is pins s σ H Q I ⟨Oe,He,ρ,O,Φ,w,a,k⟩
 refine w X' is pins s σ H Q I ⟨Ib (XQ is) a,?_⟩
 intro v H' t O' p f r
 have f:Frm X'.K O H O' H':=f
 have r:Rep X'.K O' H' v t:=r
 rw[XQ is] at f r
 exact k v H' t O' p f r
def TY(Z:Zx)(ρ:List (Option T))(elt tg:Expr)(ifs:List Expr)(csc:Scope)(nc:List Str)(cap:List (Str×Nat))(F:List T→AG→Prop)(ts:List T)(O1:AG):Prop:=
 ∃I:Nat→List T→AG→Prop,I 0 [] O1∧(∀i t acc O' p,ts[i]?=some t→I i acc O'→O' p=none→∃ρ4,∀X' Oe He,LcCx Z.X csc (Ae nc cap) X'→WG (zc X' Oe He) nc.length (Gx nc ρ cap) (Aj O' p acc) tg t ρ4∧
   bg (zc X' Oe He) ρ4 (Aj O' p acc) ifs fun b O2=>if b=true then∀X' Oe He,LcCx Z.X csc (Ae nc cap) X'→WE (zc X' Oe He) ρ4 O2 elt fun y O3=>∃O4,O3=Aj O4 p acc∧O4 p=none∧acc.length<sizeLine∧I (i+1) (acc++[y]) O4
    else∃O4,O2=Aj O4 p acc∧O4 p=none∧I (i+1) acc O4)∧∀acc O',I ts.length acc O'→F acc O'
theorem QQ{F:List T→AG→Prop}{σ:St}{H:Hp}{Q:VK}(a:Asr Z ρ O σ H)(h:WI Z ρ O tg iter (TY Z ρ elt tg ifs csc nc cap F))
  (fin:∀acc O' p H',F acc O'→O' p=none→Frm Z.K O H (Aj O' p acc) H'→(∀b us,O b=some us→b≠p)→Q (.ref p) H'):
  bb (fun σ H R=>Asr Z ρ O σ H∧∀J H' ts O',TY Z ρ elt tg ifs csc nc cap F ts O'→Frm Z.K O H O' H'→Lq Z.K J O' H' ts→R J H') nc cap (gA Z csc nc cap tg) (cg Z csc nc cap ifs) (eA Z csc nc cap elt) σ H Q:=by
 refine⟨a,?_⟩
 rintro J H1 ts O1 ⟨I,i0,step,done⟩ f1 it p hp
 have np:O1 p=none:=f1.ok.none_of hp
 have nb:∀b us,O1 b=some us→b≠p:=fun b us e z=>by rw[z,np] at e;cases e
 have fn:=Frm.newO (ts:=[]) (xs:=[]) f1.ok hp .nil
 refine⟨fun i m H2=>m=ts.length-i∧i≤ts.length∧∃acc O',I i acc O'∧O' p=none∧Frm Z.K O1 H1 (Aj O' p acc) H2,⟨ts.length,by simp,gT _,[],O1,i0,np,fn⟩,?_⟩
 rintro i m H2 ⟨rfl,hi,acc,O2,i2,n2,f2⟩
 obtain⟨g1,g2,g3⟩:=it _ H2 f2.kp f2.ok
 by_cases hlt:i<ts.length
 ·refine .inr ⟨g1 i hlt,fun H'=>∃acc O',I (i+1) acc O'∧O' p=none∧Frm Z.K O1 H1 (Aj O' p acc) H',fun H' w=> ⟨_,by omega,rfl,by omega,w⟩,fun x H3 y=>?_⟩
  obtain⟨f3,r3⟩:=g2 i x H3 y ts[i] (by simp[hlt])
  obtain⟨ρ4,st⟩:=step i ts[i] acc O2 p (by simp[hlt]) i2 n2
  have a3:Asr (zc Z.X (Aj O2 p acc) H3) (Gx nc ρ cap) (Aj O2 p acc) (Gv nc σ cap) H3:=⟨aB ((a.rl.kp f1.kp a.ok).kp (f2.kp.trans f3.kp) f1.ok),.refl f3.ok⟩
  refine⟨Aj O2 p acc,H3,Gx nc ρ cap,Aj O2 p acc,ts[i],ρ4,fun X' is=> (st X' _ _ is).1,a3,r3,fun σ4 a4 hag=> ⟨?_,?_⟩⟩
  ·refine⟨σ4.take nc.length,?_,?_⟩
   ·rw[gD,hag.1]
    simp
   ·have e1:σ4.drop nc.length=Bj σ cap:=by
     apply i7
     intro m
     rw[jd,hag.2 _ (by omega)]
     show(iA nc.length (none:Option V)++Bj σ cap)[nc.length+m]?=_
     rw[fR (by simp)]
     simp
    rw[←e1,ja]
  ·refine⟨Aj O2 p acc,H3,ρ4,Aj O2 p acc,_,fun X' is=> (st X' _ _ is).2,a4,?_⟩
   intro b H5 O5 q5 f5
   cases b with
   |false=>
    rw[if_neg e6] at q5 ⊢
    obtain⟨O4,rfl,n4,i4⟩:=q5
    exact⟨acc,O4,i4,n4,f2.trans (f3.trans f5)⟩
   |true=>
    rw[if_pos rfl] at q5 ⊢
    refine⟨Aj O2 p acc,H3,ρ4,O5,_,fun X' is=>q5 X' _ _ is,a4.step f5,?_⟩
    rintro y H6 t6 O6 ⟨O4,rfl,n4,hlen,i4⟩ f6 r6
    obtain⟨ys,hys,rys⟩:=f6.ok p acc AI
    refine⟨ys,hys,by rw[rys.length];exact hlen,acc++[t6],O4,i4,n4,?_⟩
    have fp:=Frm.put (a:=p) f6.ok AI (rys.append (.one r6))
    rw[Bl] at fp
    exact f2.trans (f3.trans (f5.trans (f6.trans fp)))
 ·have:i=ts.length:=by omega
  subst this
  refine .inl ⟨g3 _ (fj _),fin acc O2 p H2 (done acc O2 i2) n2 (f1.trans f2) fun b us e=>?_⟩
  obtain⟨us',e'⟩:=f1.own b us e
  exact nb b us' e'
theorem VQ{σ:St}{H:Hp}{Q:VK}(h:WI Z ρ O tg iter (TY Z ρ elt tg ifs csc nc cap fun acc O'=>Φ (.lst acc) O'))(q:tW Z ρ O Φ σ H Q):
  bb (fun σ H R=>Asr Z ρ O σ H∧∀J H' ts O',TY Z ρ elt tg ifs csc nc cap (fun acc O'=>Φ (.lst acc) O') ts O'→Frm Z.K O H O' H'→Lq Z.K J O' H' ts→R J H') nc cap (gA Z csc nc cap tg) (cg Z csc nc cap ifs) (eA Z csc nc cap elt) σ H Q:=by
 refine QQ q.1 h fun acc O' p H' p1 n f nb=>q.2 _ H' _ O' p1 ?_ ?_
 ·have e:=BG (ts:=acc) n
  refine⟨fun b o e1 e2=>?_,fun b us e1=>?_,?_⟩
  ·have:=f.kp.trans (DJ (a:=p)) b o e1 e2
   rw[e] at this;exact this
  ·obtain⟨us',e2⟩:=f.own b us e1
   rw[AZ (nb b us e1)] at e2
   exact⟨us',e2⟩
  ·have:=f.ok.drop (a:=p)
   rw[e] at this;exact this
 ·have:=f.ok.rep (a:=p) AI
  rw[BG n] at this
  exact this
theorem QR(hc:Z.X.calm=true)(ok:LcOk Z.X csc nc cap)(h:WI Z ρ O tg iter (TY Z ρ elt tg ifs csc nc cap fun acc O'=>Φ (.lst acc) O'))
  (hs:∀x,iM iter Z.X.env x=pure x:=by intro _;rfl):WE Z ρ O (.ListComp elt [⟨tg,iter,ifs,0⟩] csc pos) Φ:=
 PE.weak (Zk hc ok h XR QP XS hs) fun σ H Q q=>VQ h q
theorem KH{i:Nat}{x:Str}{px spos:Pos}{Ψ:Es}(hsw:mE (.ListComp elt [⟨tg,iter,ifs,0⟩] csc pos) (some (.Name x px)) spos.line Z.X.env=pure true)(hN:Z.X.N.Nodup)(hc:Z.X.calm=true)(ok:LcOk Z.X csc nc cap)
  (h:WI Z ρ O tg iter (TY Z ρ elt tg ifs csc nc cap fun acc O'=>Ψ.nx (ρ.set i (some (.lst acc))) O')) (hx:Z.X.N[i]?=some x:=by rfl) (hk:Z.X.env.scope.names.lookup x=some .local:=by rfl)
  (hs:∀x,iM iter Z.X.env x=pure x:=by intro _;rfl):WS Z ρ O (.Assign [.Name x px] (.ListComp elt [⟨tg,iter,ifs,0⟩] csc pos) spos) Ψ:=
 PS.weak (Jg hN hx hk hsw hc ok h XR QP XS hs) fun D σ H q=>VQ (Φ:=fun t O'=>Ψ.nx (ρ.set i (some t)) O') h ⟨q.1,fun v H' t O' p f r=>q.2.nx _ O' _ H' p ⟨(q.1.step f).rl.set r,(q.1.step f).fr⟩ f.kp⟩
end
def cj:T→String
 | .non=> "NoneType" | .bl _=> "bool" | .int _=> "int" | .str _=> "str" | .tup _=> "tuple" | .lst _=> "list" | .frz _=> "list" | .dct=> "dict" | .raw _=> "object"
def BC:T→Bool
 | .raw _=>true
 |_=>false
def aC:T→Bool
 | .int _=>true
 | .bl _=>true
 |_=>false
def XT:T→Bool
 | .bl _=>true
 |_=>false
def VR:T→Bool
 | .tup _=>true
 |_=>false
def OX(K:a8)(c:String)(g:T→Bool):Prop:=∀t,BC t=false→fP K (.type (cj t)) (.type c)=some (g t)
section
variable{K:a8}{O:AG}{H:Hp}{v:V}{t:T}
theorem Rep.ty(r:Rep K O H v t)(hp:BC t=false):TyOf K H v (.type (cj t)):=by
 cases r with
 |non=>exact .non
 |bl b=>exact .bl b
 |int i=>exact .int i
 |str i=>exact .str i
 |tup h=>exact .tup h
 |lst h=>exact .lst h
 |frz h=>exact .frz h
 |dct h=>exact .dK h
 |raw v=>cases hp
theorem eF(K:a8):fP K (.type "NoneType") (.type "int")=some false:=by kernel_rfl
theorem eG(K:a8):fP K (.type "bool") (.type "int")=some true:=by kernel_rfl
theorem eH(K:a8):fP K (.type "int") (.type "int")=some true:=by rfl
theorem eJ(K:a8):fP K (.type "str") (.type "int")=some false:=by kernel_rfl
theorem eK(K:a8):fP K (.type "tuple") (.type "int")=some false:=by kernel_rfl
theorem dX(K:a8):fP K (.type "list") (.type "int")=some false:=by kernel_rfl
theorem eO(K:a8):fP K (.type "dict") (.type "int")=some false:=by kernel_rfl
theorem TZ:OX K "int" aC:=fun t h=>by
 cases t with
 |non=>exact eF K
 |bl b=>exact eG K
 |int i=>exact eH K
 |str i=>exact eJ K
 |tup i=>exact eK K
 |lst i=>exact dX K
 |frz i=>exact dX K
 |dct=>exact eO K
 |raw v=>cases h
theorem eP(K:a8):fP K (.type "NoneType") (.type "bool")=some false:=by kernel_rfl
theorem eQ(K:a8):fP K (.type "bool") (.type "bool")=some true:=by rfl
theorem eS(K:a8):fP K (.type "int") (.type "bool")=some false:=by kernel_rfl
theorem eT(K:a8):fP K (.type "str") (.type "bool")=some false:=by kernel_rfl
theorem eU(K:a8):fP K (.type "tuple") (.type "bool")=some false:=by kernel_rfl
theorem dY(K:a8):fP K (.type "list") (.type "bool")=some false:=by kernel_rfl
theorem eV(K:a8):fP K (.type "dict") (.type "bool")=some false:=by kernel_rfl
theorem QS:OX K "bool" XT:=fun t h=>by
 cases t with
 |non=>exact eP K
 |bl b=>exact eQ K
 |int i=>exact eS K
 |str i=>exact eT K
 |tup i=>exact eU K
 |lst i=>exact dY K
 |frz i=>exact dY K
 |dct=>exact eV K
 |raw v=>cases h
theorem eW(K:a8):fP K (.type "NoneType") (.type "tuple")=some false:=by kernel_rfl
theorem eX(K:a8):fP K (.type "bool") (.type "tuple")=some false:=by kernel_rfl
theorem eY(K:a8):fP K (.type "int") (.type "tuple")=some false:=by kernel_rfl
theorem eZ(K:a8):fP K (.type "str") (.type "tuple")=some false:=by kernel_rfl
theorem ef(K:a8):fP K (.type "tuple") (.type "tuple")=some true:=by rfl
theorem dZ(K:a8):fP K (.type "list") (.type "tuple")=some false:=by kernel_rfl
theorem fA(K:a8):fP K (.type "dict") (.type "tuple")=some false:=by kernel_rfl
theorem DP:OX K "tuple" VR:=fun t h=>by
 cases t with
 |non=>exact eW K
 |bl b=>exact eX K
 |int i=>exact eY K
 |str i=>exact eZ K
 |tup i=>exact ef K
 |lst i=>exact dZ K
 |frz i=>exact dZ K
 |dct=>exact fA K
 |raw v=>cases h
theorem XU{c:String}{g:T→Bool}(hk:OX K c g)(hp:BC t=false):CP K (Zl K) [t,.raw (.ty c)] O (.bl (g t)):=fun Φ p H vs Q ok r q=>by
 obtain⟨v,w,rfl,r1,r2⟩:=r.two_inv
 cases r2.raw_inv
 exact⟨v,.ty c,.type (cj t),.type c,g t,rfl,rfl,.inl (r1.ty hp),hk t hp,q _ H _ O p (.refl ok) (.bl _)⟩
theorem aD:gk "int" =some (.type "int"):=by decide+kernel
theorem aE:gk "bool" =some (.type "bool"):=by decide+kernel
theorem Dl:gk "tuple" =some (.type "tuple"):=by decide+kernel
theorem VS:gk "list" =some (.type "list"):=by decide+kernel
theorem ck:gk "set" =some (.type "set"):=by decide+kernel
theorem XW:gk "range" =some (.type "range"):=by decide+kernel
theorem cq:gk "isinstance" =some (.builtin "isinstance"):=by decide+kernel
theorem aF:gk "max" =some (.builtin "max"):=by decide+kernel
theorem XX:gk "min" =some (.builtin "min"):=by decide+kernel
theorem XY:gk "len" =some (.builtin "len"):=by decide+kernel
theorem cu:gk "all" =some (.builtin "all"):=by decide+kernel
theorem Ic:gk "sorted" =some (.builtin "sorted"):=by decide+kernel
theorem Reps.bls:∀{vs:List V} {ns:List Bool},Reps K O H vs (ns.map T.bl)→vs=ns.map V.bl
 |_,[],r=>r.nil_inv
 |_,n::ns,r=>by
  obtain⟨v,vs',rfl,h,r⟩:=Reps.cons_inv r
  rw[h.bl_inv,Reps.bls r]
  rfl
end
section
variable{Z:Zx}{ρ:List (Option T)}{O:AG}{e a b c:Expr}{es:List Expr}{Φ:BJ}{pos p:Pos}{t ta tb:T}{ts us:List T}{i j:Int}{x:Str}{lo hi:Expr}
theorem XZ{cn:String}{g:T→Bool}(mI:Z.X.mg "isinstance" =none)(mC:Z.X.mg x=none)(bC:gk x=some (.type cn))(hk:OX Z.K cn g)(h:ET Z ρ O e t)(hp:BC t=false){p1:Pos}(hgi:Gl Z.X "isinstance":=by rfl)(hgc:Gl Z.X x:=by rfl)
  (hn:x≠"__name__":=by decide) (hd:(x==("__debug__" :Str))=false:=by decide)
  (he:e9 [e,.Name x p1] Z.X.env=(false,eval e Z.X.env)::e9 [.Name x p1] Z.X.env:=by rfl):ET Z ρ O (.Call (.Name "isinstance" p) [e,.Name x p1] [] pos) (.bl (g t)):=
 BM Pd mI cq (AN h (AN (Zv mC bC hgc hn hd) AB) he) (XU hk hp) hgi (by decide) (by decide) he
theorem DD{cn:String}{g:T→Bool}(mI:Z.X.mg "isinstance" =none)(mC:Z.X.mg x=none)(bC:gk x=some (.type cn))(hk:OX Z.K cn g)(h:ET Z ρ O e t)(hp:BC t=false){p1:Pos}(hgi:Gl Z.X "isinstance":=by rfl)(hgc:Gl Z.X x:=by rfl)
  (hn:x≠"__name__":=by decide) (hd:(x==("__debug__" :Str))=false:=by decide)
  (he:e9 [e,.Name x p1] Z.X.env=(false,eval e Z.X.env)::e9 [.Name x p1] Z.X.env:=by rfl):EB Z ρ O (.Call (.Name "isinstance" p) [e,.Name x p1] [] pos) (g t):=
 Da (XZ mI mC bC hk h hp hgi hgc hn hd he)
theorem FL(m:Z.X.mg "len" =none)(h:ET Z ρ O e (.tup ts))(hg:Gl Z.X "len":=by rfl)(he:e9 [e] Z.X.env=(false,eval e Z.X.env)::e9 [] Z.X.env:=by rfl):ET Z ρ O (.Call (.Name "len" p) [e] [] pos) (.int ts.length):=
 BM CS m XY (AN h AB he) (fun Φ q H vs Q ok r k=>by
  obtain⟨v,rfl,r1⟩:=r.one_inv
  obtain⟨a,xs,rfl,h1,r1⟩:=r1.tup_inv
  refine⟨a,xs,rfl,.inr (.inl (.inl h1)),?_⟩
  rw[r1.length]
  exact k _ H _ O q (.refl ok) (.int _)) hg (by decide) (by decide) he
theorem NB(m:Z.X.mg "len" =none)(h:ET Z ρ O e (.lst ts))(hg:Gl Z.X "len":=by rfl)(he:e9 [e] Z.X.env=(false,eval e Z.X.env)::e9 [] Z.X.env:=by rfl):ET Z ρ O (.Call (.Name "len" p) [e] [] pos) (.int ts.length):=
 BM CS m XY (AN h AB he) (fun Φ q H vs Q ok r k=>by
  obtain⟨v,rfl,r1⟩:=r.one_inv
  obtain⟨a,xs,rfl,h1,_,r1⟩:=r1.lst_inv
  refine⟨a,xs,rfl,.inl (.inl (.inl h1)),?_⟩
  rw[r1.length]
  exact k _ H _ O q (.refl ok) (.int _)) hg (by decide) (by decide) he
theorem Dm{bs:List Bool}(m:Z.X.mg "all" =none)(hc:Z.X.calm=true)(h:ET Z ρ O e (.lst (bs.map T.bl)))(hg:Gl Z.X "all":=by rfl)(he:e9 [e] Z.X.env=(false,eval e Z.X.env)::e9 [] Z.X.env:=by rfl):ET Z ρ O (.Call (.Name "all" p) [e] [] pos) (.bl (bs.all id)):=
 BM (QB hc) m cu (AN h AB he) (fun Φ q H vs Q ok r k=>by
  obtain⟨v,rfl,r1⟩:=r.one_inv
  obtain⟨a,xs,rfl,h1,_,r1⟩:=r1.lst_inv
  cases r1.bls
  exact⟨a,bs,rfl,.inl (.inl (.inl h1)),k _ H _ O q (.refl ok) (.bl _)⟩) hg (by decide) (by decide) he
theorem Ta(m:Z.X.mg "min" =none)(hc:Z.X.calm=true)(h:ET Z ρ O a (.int i))(h2:ET Z ρ O b (.int j))(hg:Gl Z.X "min":=by rfl)(he:e9 [a,b] Z.X.env=(false,eval a Z.X.env)::e9 [b] Z.X.env:=by rfl)(he2:e9 [b] Z.X.env=(false,eval b Z.X.env)::e9 [] Z.X.env:=by rfl)(hpl:(jD pos (e9 [b] Z.X.env)).any (·.1)=false:=by rfl):ET Z ρ O (.Call (.Name "min" p) [a,b] [] pos) (.int (min i j)):=
 BM (Nt hc) m XX (AN h (AN h2 AB he2) he) (fun Φ q H vs Q ok r k=>by
  obtain⟨v,w,rfl,r1,r2⟩:=r.two_inv
  cases r1.int_inv;cases r2.int_inv
  refine⟨i,j,rfl,?_⟩
  have:(if j<i then j else i)=min i j:=by split<;>omega
  rw[this]
  exact k _ H _ O q (.refl ok) (.int _)) hg (by decide) (by decide) he hpl
theorem Ie(m:Z.X.mg "max" =none)(hc:Z.X.calm=true)(h:ET Z ρ O a (.int i))(h2:ET Z ρ O b (.int j))(hg:Gl Z.X "max":=by rfl)(he:e9 [a,b] Z.X.env=(false,eval a Z.X.env)::e9 [b] Z.X.env:=by rfl)(he2:e9 [b] Z.X.env=(false,eval b Z.X.env)::e9 [] Z.X.env:=by rfl)(hpl:(jD pos (e9 [b] Z.X.env)).any (·.1)=false:=by rfl):ET Z ρ O (.Call (.Name "max" p) [a,b] [] pos) (.int (max i j)):=
 BM (Nr hc) m aF (AN h (AN h2 AB he2) he) (fun Φ q H vs Q ok r k=>by
  obtain⟨v,w,rfl,r1,r2⟩:=r.two_inv
  cases r1.int_inv;cases r2.int_inv
  refine⟨i,j,rfl,?_⟩
  have:(if j>i then j else i)=max i j:=by split<;>omega
  rw[this]
  exact k _ H _ O q (.refl ok) (.int _)) hg (by decide) (by decide) he hpl
theorem Tc{k:Bool}(m:Z.X.mg "int" =none)(h:ET Z ρ O e (.bl k))(hg:Gl Z.X "int":=by rfl)(he:e9 [e] Z.X.env=(false,eval e Z.X.env)::e9 [] Z.X.env:=by rfl):ET Z ρ O (.Call (.Name "int" p) [e] [] pos) (.int (if k then 1 else 0)):=
 OS Nu m aD (AN h AB he) (fun Φ q H vs Q ok r k=>by
  obtain⟨v,rfl,r1⟩:=r.one_inv
  cases r1.bl_inv
  exact .inr ⟨_,rfl,k _ H _ O q (.refl ok) (.int _)⟩) hg (by decide) (by decide) he
theorem GG(m:Z.X.mg "tuple" =none)(h:WE Z ρ O e fun t O'=>∃ts,t=.lst ts∧Φ (.tup ts) O')(hg:Gl Z.X "tuple":=by rfl)(he:e9 [e] Z.X.env=(false,eval e Z.X.env)::e9 [] Z.X.env:=by rfl):WE Z ρ O (.Call (.Name "tuple" p) [e] [] pos) Φ:=
 Ed Jy m Dl (DM (DL h (by
  rintro t O' ⟨ts,rfl,q⟩
  refine BR fun H vs Q ok r k=>?_
  obtain⟨v,rfl,r1⟩:=r.one_inv
  obtain⟨a,xs,rfl,h1,_,r1⟩:=r1.lst_inv
  exact⟨a,xs,rfl,.inl (.inl h1),fun p hp=>k _ _ _ O' q (.new ok hp) (.tup AY (r1.kp (Bc ok hp) ok))⟩)) he) hg (by decide) (by decide) he
theorem KI(m:Z.X.mg "tuple" =none)(h:ET Z ρ O e (.lst ts))(hg:Gl Z.X "tuple":=by rfl)(he:e9 [e] Z.X.env=(false,eval e Z.X.env)::e9 [] Z.X.env:=by rfl):ET Z ρ O (.Call (.Name "tuple" p) [e] [] pos) (.tup ts):=fun Φ q=>GG m (h _ ⟨ts,rfl,q⟩) hg he
theorem Reps.rngs{K:a8}{H:Hp}:∀(ns:List Nat),Reps K O H (ns.map fun(i:Nat)=>V.int i) (ns.map fun(i:Nat)=>T.int i)
 | []=> .nil
 |n::ns=> .cons (.int _) (Reps.rngs ns)
end
def OY(ts:List T)(lo hi:Option Int):List T:=(ts.drop (HT.Az ts.length 0 lo)).take (HT.Az ts.length ts.length hi-HT.Az ts.length 0 lo)
section
variable{K:a8}{O:AG}{H:Hp}
theorem Reps.cut{vs:List V}{ts:List T}{lo hi:Option Int}(r:Reps K O H vs ts):Reps K O H (EN vs lo hi) (OY ts lo hi):=by
 unfold EN OY
 rw[r.length]
 exact(r.drop _).take _
end
section
variable{Z:Zx}{ρ:List (Option T)}{O:AG}{e a b c:Expr}{es:List Expr}{Φ:BJ}{pos p p2:Pos}{t ta tb:T}{ts us:List T}{i j:Int}{x:Str}{lo hi:Expr}
theorem Td{H1 H:Hp}{Q:VK}{o1 o2:Option Int}{v:V}(k:Acc Z.K O H (fun t O'=>Φ t O') Q)(f:Frm Z.K O H O H1)(r:Rep Z.K O H1 v (.tup ts))(p:Φ (.tup (OY ts o1 o2)) O):Zs Z.K v o1 o2 H1 Q:=by
 obtain⟨a,xs,rfl,h1,r1⟩:=r.tup_inv
 refine⟨a,xs,rfl,.inl (.inl h1),fun q H' hq=>?_⟩
 rcases hq with⟨rfl,rfl,e⟩| ⟨hq,rfl⟩
 ·have rc:=r1.cut (lo:=o1) (hi:=o2)
  rw[e] at rc
  exact k _ _ _ O p f (.tup h1 rc)
 ·exact k _ _ _ O p (f.trans (.new f.ok hq)) (.tup AY ((r1.cut).kp (Bc f.ok hq) f.ok))
theorem QT(h:ET Z ρ O e (.tup ts))(hl:ET Z ρ O lo (.int i)):ET Z ρ O (.Subscript e (.Slice (some lo) none none p2) pos) (.tup (OY ts (some i) none)):=fun Φ q=>by
 refine PE.weak (Jc TN (BL (ρ:=ρ)) (IC (BL (ρ:=ρ))) Se) fun σ H Q k=>?_
 refine⟨O,_,h (fun t O'=>t=.tup ts∧O'=O) ⟨rfl,rfl⟩,k.1,?_⟩
 rintro v H1 _ _ ⟨rfl,rfl⟩ f1 r1
 refine⟨_,_,hl (fun t O'=>t=.int i∧O'=_) ⟨rfl,rfl⟩,k.1.step f1,?_⟩
 rintro w H2 _ _ ⟨rfl,rfl⟩ f2 r2
 exact⟨i,r2.int_inv,Td k.2 (f1.trans f2) (r1.kp f2.kp f1.ok) q⟩
theorem Te(ha:ET Z ρ O a (.tup ts))(hb:ET Z ρ O b (.tup us))(hl:ts.length+us.length≤sizeLine):ET Z ρ O (.BinOp a .Add b pos) (.tup (ts++us)):=Ep TQ (fun Φ p H v w Q ok r1 r2 q=>by
 obtain⟨a,xs,rfl,h1,g1⟩:=r1.tup_inv
 obtain⟨b,ys,rfl,h2,g2⟩:=r2.tup_inv
 clear r1 r2
 refine⟨a,b,xs,ys,rfl,rfl,.inl (.inl h1),.inl (.inl h2),by rw[g1.length,g2.length];exact hl,fun l H' hq=>?_⟩
 rcases hq with⟨rfl,rfl,rfl⟩| ⟨rfl,rfl,rfl⟩| ⟨hq,rfl⟩
 ·have:us=[]:=lK.mp g2.length.symm
  subst this
  rw[jo] at p
  exact q _ _ _ O p (.refl ok) (.tup h1 g1)
 ·have:ts=[]:=lK.mp g1.length.symm
  subst this
  exact q _ _ _ O p (.refl ok) (.tup h2 g2)
 ·exact q _ _ _ O p (.new ok hq) (.tup AY ((g1.append g2).kp (Bc ok hq) ok))) ha hb
theorem NC(hl:ts.length+us.length≤sizeLine){K:a8}:RP K Zc (.lst ts) (.lst us) O (.lst (ts++us)):=fun Φ p H v w Q ok r1 r2 q=>by
 obtain⟨a,xs,rfl,h1,_,r1⟩:=r1.lst_inv
 obtain⟨b,ys,rfl,h2,_,r2⟩:=r2.lst_inv
 exact⟨a,b,xs,ys,rfl,rfl,h1,h2,by rw[r1.length,r2.length];exact hl,fun l hq=>q _ _ _ O p (.new ok hq) (.lst AY (ok.none_of hq) ((r1.append r2).kp (Bc ok hq) ok))⟩
theorem Tf(ha:ET Z ρ O a (.lst ts))(hb:ET Z ρ O b (.lst us))(hl:ts.length+us.length≤sizeLine):ET Z ρ O (.BinOp a .Add b pos) (.lst (ts++us)):=Ep PV (NC hl) ha hb
theorem Xa{K:a8}{ns ms:List Int}:RP K (ZW K) (.tup (ns.map T.int)) (.tup (ms.map T.int)) O (.bl (HT.Am ns ms)):=fun Φ p H v w Q ok r1 r2 q=>by
 obtain⟨a,xs,rfl,h1,r1⟩:=r1.tup_inv
 obtain⟨b,ys,rfl,h2,r2⟩:=r2.tup_inv
 cases r1.ints
 cases r2.ints
 exact⟨a,b,ns,ms,rfl,rfl,.inl (.inl h1),.inl (.inl h2),q _ H _ O p (.refl ok) (.bl _)⟩
theorem Xb{ns ms:List Int}(hu:Z.X.A.units<cLine)(ha:ET Z ρ O a (.tup (ns.map T.int)))(hb:ET Z ρ O b (.tup (ms.map T.int))):ET Z ρ O (.Compare a [.Lt] [b] pos) (.bl (HT.Am ns ms)):=Ea (Wf hu) (Af _) Xa ha hb
def Ig(ts us:List T):List T:=List.zipWith (fun a b=> .tup [a,b]) ts us
theorem QU{K:a8}{H:Hp}{l m:Addr}{xs ys:List V}(ok:OwnOk K O H)(h1:H l=some (.tup xs))(h2:H m=some (.tup ys))(r1:Reps K O H xs ts)(r2:Reps K O H ys us):Lq K (cZ K l m) O H (Ig ts us):=fun O' H' k ok'=>by
 have g1:Cm K H' l xs:=.inl (.inl (k.oth ok h1 fun _ z=>by cases z))
 have g2:Cm K H' m ys:=.inl (.inl (k.oth ok h2 fun _ z=>by cases z))
 have q1:=r1.kp k ok
 have q2:=r2.kp k ok
 have hl:(Ig ts us).length=min ts.length us.length:=by simp[Ig]
 refine⟨fun i hi=>?_,fun i x H'' y t e=>?_,fun i hi=> ⟨xs,ys,g1,g2,?_⟩⟩
 ·rw[hl] at hi
  obtain⟨v,e1,_⟩:=q1.get (i:=i) (t:=ts[i]'(by omega)) (by simp)
  obtain⟨w,e2,_⟩:=q2.get (i:=i) (t:=us[i]'(by omega)) (by simp)
  exact⟨xs,ys,v,w,g1,g2,e1,e2⟩
 ·obtain⟨p,v,w,hp,rfl,rfl,a1,a2⟩:=y
  unfold Ig at e
  rw[List.getElem?_zipWith] at e
  cases et:ts[i]? with
  |none=>rw[et] at e;cases e
  |some t1=>
   cases eu:us[i]? with
   |none=>rw[et,eu] at e;cases e
   |some t2=>
    rw[et,eu] at e
    have e:T.tup [t1,t2]=t:=gh.inj e
    subst e
    obtain⟨v',e1,rv⟩:=q1.get et
    obtain⟨w',e2,rw'⟩:=q2.get eu
    have z1:=a1 xs g1
    have z2:=a2 ys g2
    rw[e1] at z1;cases z1
    rw[e2] at z2;cases z2
    exact⟨.new ok' hp,.tup AY ((Reps.cons rv (.one rw')).kp (Bc ok' hp) ok')⟩
 ·rw[hl] at hi
  rw[r1.length,r2.length]
  omega
theorem QV{tes:List Expr}{tk:Nat}{tpos:Pos}(hm:Z.X.mg "zip" =none)(h1:ET Z ρ O a (.tup ts))(h2:ET Z ρ O b (.tup us))(hg:Gl Z.X "zip":=by rfl)(hs:e9 [a,b] Z.X.env=[(false,eval a Z.X.env),(false,eval b Z.X.env)]:=by rfl)(hs2:e9 [b] Z.X.env=[(false,eval b Z.X.env)]:=by rfl):EI Z ρ O (.Tuple tes tk tpos) (.Call (.Name "zip" p) [a,b] [] pos) (Ig ts us):=fun Φ q=>
 PI.weak (XA hg hm (AN h1 (AN h2 AB hs2) (by rw[hs,hs2]) (fun vs O'=>vs=[.tup ts,.tup us]∧O'=O) ⟨rfl,rfl⟩) hs hs2) fun σ H R k=> ⟨k.1,by
  rintro vs H' _ _ ⟨rfl,rfl⟩ f r
  obtain⟨v,w,rfl,r1,r2⟩:=r.two_inv
  obtain⟨l,xs,rfl,g1,r1⟩:=r1.tup_inv
  obtain⟨m,ys,rfl,g2,r2⟩:=r2.tup_inv
  exact⟨l,m,rfl,⟨xs,.inl (.inl g1)⟩,⟨ys,.inl (.inl g2)⟩,k.2 _ H' _ _ q f (QU f.ok g1 g2 r1 r2)⟩⟩
end
def AL(p:Int×Int):T:=.tup [.int p.1,.int p.2]
def Ez(p q:Int×Int):Prop:=p.1<q.1∨(p.1=q.1∧p.2<q.2)
section
variable{K:a8}{O:AG}{H:Hp}
theorem GH:∀{ps:List (Int×Int)} {xs:List V},Reps K O H xs (ps.map AL)→∃qs:List (List Int×Addr),xs=qs.map (fun p=>V.ref p.2)∧qs.map (·.1)=ps.map (fun p=> [p.1,p.2])∧∀k x,(k,x)∈qs→H x=some (.tup (k.map V.int))
 | [],xs,r=> ⟨[],r.nil_inv,rfl,fun _ _ h=>by cases h⟩
 |p::ps,xs,r=>by
  obtain⟨v,vs',rfl,h,r'⟩:=Reps.cons_inv r
  obtain⟨a,ys,rfl,ha,r2⟩:=h.tup_inv
  cases Reps.ints (ns:=[p.1,p.2]) r2
  obtain⟨qs,rfl,e,hk⟩:=GH r'
  refine⟨([p.1,p.2],a)::qs,rfl,by rw[fL,fL,e],fun k x h=>?_⟩
  rcases fh.mp h with h|h
  ·cases h;exact ha
  ·exact hk k x h
theorem GI:∀{qs:List (List Int×Addr)} {ps:List (Int×Int)},qs.map (·.1)=ps.map (fun p=> [p.1,p.2])→(∀k x,(k,x)∈qs→H x=some (.tup (k.map V.int)))→Reps K O H (qs.map fun p=>V.ref p.2) (ps.map AL)
 | [],[],_,_=> .nil
 | [],p::ps,e,_=>by cases e
 |q::qs,[],e,_=>by cases e
 | (k,x)::qs,p::ps,e,h=>by
  rw[fL,fL] at e
  injection e with e1 e2
  have e1:k=[p.1,p.2]:=e1
  have hx:=h k x (fQ ..)
  rw[e1] at hx
  exact .cons (.tup hx (.cons (.int _) (.cons (.int _) .nil))) (GI e2 fun k x hk=>h k x (fv _ hk))
end
theorem ND:∀{ys:List (List Int×Addr)},(∀k x,(k,x)∈ys→∃i j:Int,k=[i,j])→∃ps:List (Int×Int),ys.map (·.1)=ps.map (fun p=> [p.1,p.2])
 | [],_=> ⟨[],rfl⟩
 | (k,x)::ys,h=>by
  obtain⟨i,j,e⟩:=h k x (fQ ..)
  obtain⟨ps,e2⟩:=ND fun k x hk=>h k x (fv _ hk)
  exact⟨(i,j)::ps,by rw[fL,fL,e,e2]⟩
section
variable{Z:Zx}{ρ:List (Option T)}{O:AG}{e:Expr}{Φ:BJ}{pos p p1 pos1:Pos}
theorem Ih{ps:List (Int×Int)}(m:Z.X.mg "sorted" =none)(m2:Z.X.mg "set" =none)(hc:Z.X.calm=true)(hu:Z.X.A.units+8<cLine)(h:ET Z ρ O e (.lst (ps.map AL)))(hl:ps.length≤300)(hb:∀q∈ps,0≤q.2∧q.2<65536)
  (k:∀qs:List (Int×Int),qs.Pairwise Ez→(∀q,q∈qs↔q∈ps)→qs.length≤ps.length→Φ (.lst (qs.map AL)) O) (hg:Gl Z.X "sorted":=by rfl) (hg2:Gl Z.X "set":=by rfl) (he:e9 [e] Z.X.env=(false,eval e Z.X.env)::e9 [] Z.X.env:=by rfl)
  (he2:e9 [Expr.Call (.Name "set" p1) [e] [] pos1] Z.X.env=(false,eval (.Call (.Name "set" p1) [e] [] pos1) Z.X.env)::e9 [] Z.X.env:=by rfl):WE Z ρ O (.Call (.Name "sorted" p) [.Call (.Name "set" p1) [e] [] pos1] [] pos) Φ:=by
 refine PE.weak (FY (IT hc) hg m Ic (FE (DH (OP hc hu) hg2 m2 ck (KC (ρ:=ρ)) (by decide) (by decide) he) IB he2) (by decide) (by decide) he2) fun σ H Q q=>?_
 refine⟨O,_,AN h AB he (fun ts O'=>ts=[.lst (ps.map AL)]∧O'=O) ⟨rfl,rfl⟩,q.1,?_⟩
 rintro vs H1 _ _ ⟨rfl,rfl⟩ f r
 obtain⟨v,rfl,r1⟩:=r.one_inv
 obtain⟨a,xs,rfl,h1,_,r1⟩:=r1.lst_inv
 obtain⟨qs,rfl,eq,hk⟩:=GH r1
 have lq:qs.length=ps.length:=by
  have:=congrArg List.length eq
  simpa using this
 refine⟨a,qs,rfl,.inl (.inl h1),fun k x hx=> .inl (.inl (hk k x hx)),by omega,fun l xs hl1 so nd=>?_⟩
 obtain⟨s1,s2,s3⟩:=so
 have f1:=Frm.new (o:=SetO Z.X.prog Z.X.w l xs) f.ok hl1
 have hk2:∀k x,(k,x)∈xs→upd H1 l (SetO Z.X.prog Z.X.w l xs) x=some (.tup (k.map V.int)):=fun k x hx=>by
  have:=hk k x (s1 _ hx)
  rw[AO (AM this hl1)];exact this
 have mem1:∀k x,(k,x)∈qs→∃q∈ps,k=[q.1,q.2]:=fun k x hx=>by
  have:k∈qs.map (·.1):=fo.mpr ⟨(k,x),hx,rfl⟩
  rw[eq] at this
  obtain⟨q,h1,h2⟩:=fo.mp this
  exact⟨q,h1,h2.symm⟩
 have two:∀k x,(k,x)∈xs→∃i j,k=[i,j]∧0≤j∧j<65536:=fun k x hx=>by
  obtain⟨q,h1,h2⟩:=mem1 k x (s1 _ hx)
  exact⟨q.1,q.2,h2,hb q h1⟩
 refine⟨l,xs,rfl,AY,fun k x hx=> .inl (.inl (hk2 k x hx)),by omega,two,fun d ys hd pm pw=>?_⟩
 obtain⟨rs,er⟩:=ND (ys:=ys) fun k x hx=>by
  obtain⟨i,j,e,_⟩:=two k x (pm.mem_iff.mp hx)
  exact⟨i,j,e⟩
 have f2:=Frm.new (o:=.lst (ys.map fun p=>V.ref p.2)) f1.ok hd
 have hk3:∀k x,(k,x)∈ys→upd (upd H1 l (SetO Z.X.prog Z.X.w l xs)) d (.lst (ys.map fun p=>V.ref p.2)) x=some (.tup (k.map V.int)):=fun k x hx=>by
  have:=hk2 k x (pm.mem_iff.mp hx)
  rw[AO (AM this hd)];exact this
 have memr:∀z,z∈rs↔∃x,([z.1,z.2],x)∈ys:=fun z=>by
  constructor
  ·intro hz
   have:[z.1,z.2]∈ys.map (·.1):=by rw[er];exact fo.mpr ⟨z,hz,rfl⟩
   obtain⟨⟨k,x⟩,h1,h2⟩:=fo.mp this
   have h2:k=_:=h2
   subst h2
   exact⟨x,h1⟩
  ·rintro⟨x,hx⟩
   have:[z.1,z.2]∈ys.map (·.1):=fo.mpr ⟨_,hx,rfl⟩
   rw[er] at this
   obtain⟨w,h1,h2⟩:=fo.mp this
   injection h2 with e1 e2
   injection e2 with e2 _
   have:w=z:=iu e1 e2
   rw[←this];exact h1
 have ndy:(ys.map (·.1)).Nodup:=(pm.map _).nodup_iff.mpr nd
 refine q.2 _ _ _ _ (k rs ?_ (fun z=>?_) ?_) (f.trans (f1.trans f2)) (.lst AY (f1.ok.none_of hd) (GI er hk3))
 ·--strictly rising
  have pw':rs.Pairwise fun x y=>65536*x.1+x.2≤65536*y.1+y.2:=by
   have h3:(ys.map (·.1)).Pairwise fun x y=>65536*x.getD 0 0+x.getD 1 0≤65536*y.getD 0 0+y.getD 1 0:=gP.mpr pw
   rw[er] at h3
   exact(gP (f:=fun(p:Int×Int)=> [p.1,p.2]) (R:=fun x y=>65536*x.getD 0 0+x.getD 1 0≤65536*y.getD 0 0+y.getD 1 0)).mp h3
  have nd':rs.Pairwise fun x y=>x≠y:=by
   have h3:(ys.map (·.1)).Pairwise (·≠·):=ndy
   rw[er] at h3
   exact(gP.mp h3).imp fun hxy z=>hxy (by rw[z])
  refine(pw'.and nd').imp_of_mem fun{x y} hx hy ⟨h1,h2⟩=>?_
  have bnd:∀z,z∈rs→0≤z.2∧z.2<65536:=fun z hz=>by
   obtain⟨v,hv⟩:=(memr z).mp hz
   obtain⟨i,j,e,hj⟩:=two _ v (pm.mem_iff.mp hv)
   injection e with e1 e2
   injection e2 with e2 _
   omega
  have b1:=bnd x hx
  have b2:=bnd y hy
  unfold Ez
  have:¬(x.1=y.1∧x.2=y.2):=fun z=>h2 (iu z.1 z.2)
  omega
 ·rw[memr]
  constructor
  ·rintro⟨x,hx⟩
   obtain⟨w,h1,h2⟩:=mem1 _ x (s1 _ (pm.mem_iff.mp hx))
   injection h2 with e1 e2
   injection e2 with e2 _
   have:z=w:=iu e1 e2
   rw[this];exact h1
  ·intro hz
   have:[z.1,z.2]∈qs.map (·.1):=by rw[eq];exact fo.mpr ⟨z,hz,rfl⟩
   obtain⟨⟨k,x⟩,h1,h2⟩:=fo.mp this
   have h2:k=_:=h2
   subst h2
   obtain⟨x',hx'⟩:=s2 _ _ h1
   exact⟨x',pm.mem_iff.mpr hx'⟩
 ·have e1:rs.length=ys.length:=by
   have:=congrArg List.length er
   simpa using this.symm
  have e2:=pm.length_eq
  omega
end
theorem XFly.mono{X:Cx}{W W':St→XK}(x:XFly X W)(h:∀σ cls H',W' σ cls none H'→W σ cls none H'):XFly X W':=⟨fun pins σ H s e s' I c=>x.fly pins σ H s e s' I (by
 obtain⟨y,cls,H',e1,f,q⟩:=c
 exact⟨y,cls,H',e1,f,h σ cls H' q⟩)⟩
theorem BW{X:Cx}{Oe:AG}{He:Hp}:XFly X (zc X Oe He).W:=⟨fun pins σ H s e s' I c=>by
 obtain⟨y,cls,H',e1,f,_,O',z,_⟩:=c
 exact z.elim⟩
abbrev zB(P:Program)(w:World)(K:a8)(mg:Str→Option Value)(base:Heap)(N:List Str)(qual:Str)(sc:Scope)(f:Addr)(cdv:Value)(A:fG)(outer:List Env)(s:a9)(H:Hp)(E:XK)(O:AG)(Ξ:Value→AG→Prop):Zx:=
 ⟨Bo (CXe P w) P w K mg base N qual sc f cdv A outer s H E,O,H,Ξ⟩
def Dn(N:List Str)(ts:List T):List (Option T):=ts.map some++iA (N.length-ts.length) none
theorem GJ{K:a8}{O:AG}{H:Hp}{N:List Str}{vs:List V}{ts:List T}(r:Reps K O H vs ts):Rl K O H (start N vs) (Dn N ts):=by
 refine⟨by simp[start,Dn,r.length],fun i t e=>?_⟩
 unfold Dn at e
 by_cases hi:i<ts.length
 ·rw[gz (by simpa using hi),fc] at e
  cases ht:ts[i]? with
  |none=>rw[ht] at e;cases e
  |some u=>
   rw[ht] at e
   cases e
   obtain⟨v,h1,h2⟩:=r.get ht
   refine⟨v,?_,h2⟩
   unfold start
   rw[gz (by simpa[r.length] using hi),fc,h1]
   rfl
 ·rw[fR (by simpa using hi),jg] at e
  split at e<;>cases e
theorem AK{P:Program}{w:World}{K:a8}{mg:Str→Option Value}{base:Heap}{x qual:Str}{st:Stmt}{f:Addr}{fd:fF}{N ps:List Str}{k:Nat}{sp:BX}(F:Fun K x qual st f fd)(S:FnScope N ps (AA st))(len:∀ts O Φ Ξ,sp ts O Φ Ξ→ts.length=ps.length)
  (h:∀(cdv:Value) (A:fG) (outer:List Env) (s:a9) (H:Hp) (E:XK) (O:AG) (Ξ:Value→AG→Prop),Room k (A.deeper (kQ qual (AA st) s.heap.objs.size f cdv))→XFly (zB P w K mg base N qual (AA st) f cdv A outer s H E O Ξ).X (zB P w K mg base N qual (AA st) f cdv A outer s H E O Ξ).W→
   ∀ts Φ,sp ts O Φ Ξ→GD (zB P w K mg base N qual (AA st) f cdv A outer s H E O Ξ) (Dn N ts) O (Aw st) {nx:=fun _ O'=>Φ .non O',rt:=Φ}):FnOk P w K mg base (CXe P w) (k+1) f fd ps (BY K sp):=by
 refine F.okX S (fun vs H Q E h=>?_) (fun cdv A outer s H vs Q E hr h1=>?_)
 ·obtain⟨ts,O,Φ,Ξ,r,_,q,_⟩:=h
  rw[r.length];exact len ts O Φ Ξ q
 ·obtain⟨ts,O,Φ,Ξ,r,ok,q,acc,ex⟩:=h1
  refine⟨_,h cdv A outer s H E O Ξ hr (XFly.mono As.f ?_) ts Φ q,⟨GJ r,.refl ok⟩,?_⟩
  ·rintro σ cls H' ⟨_,O',x,f⟩
   exact ex cls O' H' x f
  ·exact⟨fun ρ' O' σ' H' p a _=>acc _ _ _ O' p a.fr .non,fun v H' t O' p f r=>acc v H' t O' p f r,fun _ _ _ _ z=>z.elim,fun _ _ _ _ z=>z.elim⟩
theorem FnT.mono{P:Program}{w:World}{K:a8}{mg:Str→Option Value}{base:Heap}{x:Str}{j k:Nat}{ps:List Str}{s:BX}(G:FnT P w K mg base x j ps s)(h:j≤k):FnT P w K mg base x k ps s:=by
 obtain⟨f,fd,F,r⟩:=G.ex
 exact⟨f,fd,F.mono h,r⟩
def VT(S:Scope)(N:List Str)(csc:Scope)(cap:List (Str×Nat)):Bool:=
 decide (csc.kind=.function)&&csc.names.all (fun y=>decide (y.2=.cell→csc.names.lookup y.1=some .cell))&&csc.names.all (fun y=>decide (y.2=.local→csc.names.lookup y.1=some .local))&&csc.names.all (fun y=>decide (y.2=.free→S.names.lookup y.1=some .cell∨S.names.lookup y.1=some .free))&&cap.all (fun p=>decide (N[p.2]?=some p.1∧csc.names.lookup p.1=some .free))
theorem Be{X:Cx}{csc:Scope}{nc:List Str}{cap:List (Str×Nat)}(S:Scope)(N:List Str)(chk:VT S N csc cap=true)(h1:X.env.scope=S:=by rfl)(h2:X.N=N:=by rfl):LcOk X csc nc cap:=by
 unfold VT at chk
 simp only[iV,iK,decide_eq_true_eq] at chk
 obtain⟨⟨⟨⟨c1,c2⟩,c3⟩,c4⟩,c5⟩:=chk
 exact⟨c1,c2,c3,by rw[h1];exact c4,by rw[h2];exact c5⟩
section
variable{Z:Zx}{ρ:List (Option T)}{O:AG}{elt tg iter:Expr}{ifs:List Expr}{csc:Scope}{nc:List Str}{cap:List (Str×Nat)}{Φ:BJ}{pos:Pos}{α:Type}
theorem KJ{F:List T→AG→Prop}(xs:List α)(f g:α→T)(hl:xs.length≤sizeLine)(h:∀x,x∈xs→∃ρ4,∀X' Oe He,LcCx Z.X csc (Ae nc cap) X'→∀O',(WG (zc X' Oe He) nc.length (Gx nc ρ cap) O' tg (f x) ρ4∧ET (zc X' Oe He) ρ4 O' elt (g x)))(fin:F (xs.map g) O):TY Z ρ elt tg [] csc nc cap F (xs.map f) O:=by
 refine⟨fun i acc O'=>O'=O∧acc=(xs.take i).map g,⟨rfl,by simp⟩,?_,?_⟩
 ·rintro i t acc O' p e ⟨rfl,rfl⟩ np
  rw[fc] at e
  cases ex:xs[i]? with
  |none=>rw[ex] at e;cases e
  |some x=>
   rw[ex] at e
   cases e
   obtain⟨ρ4,w⟩:=h x (fk ex)
   have hi:=(fD.mp ex).1
   refine⟨ρ4,fun X' Oe He is=> ⟨(w X' Oe He is _).1,Ia (LM fun X' Oe He is=> (w X' Oe He is _).2 _ ⟨_,rfl,np,?_,rfl,?_⟩)⟩⟩
   ·simp;omega
   ·rw[i6,ex];simp
 ·rintro acc O' ⟨rfl,rfl⟩
  rw[e8,iS]
  exact fin
theorem Et{F:List T→AG→Prop}{c:Expr}(xs:List α)(f g:α→T)(q:α→Bool)(hl:xs.length≤sizeLine)(h:∀x,x∈xs→∃ρ4,∀X' Oe He,LcCx Z.X csc (Ae nc cap) X'→∀O',(WG (zc X' Oe He) nc.length (Gx nc ρ cap) O' tg (f x) ρ4∧EB (zc X' Oe He) ρ4 O' c (q x)∧(q x=true→ET (zc X' Oe He) ρ4 O' elt (g x))))(fin:F ((xs.filter q).map g) O):TY Z ρ elt tg [c] csc nc cap F (xs.map f) O:=by
 refine⟨fun i acc O'=>O'=O∧acc=((xs.take i).filter q).map g,⟨rfl,by simp⟩,?_,?_⟩
 ·rintro i t acc O' p e ⟨rfl,rfl⟩ np
  rw[fc] at e
  cases ex:xs[i]? with
  |none=>rw[ex] at e;cases e
  |some x=>
   rw[ex] at e
   cases e
   obtain⟨ρ4,w⟩:=h x (fk ex)
   have hi:=(fD.mp ex).1
   refine⟨ρ4,fun X' Oe He is=> ⟨(w X' Oe He is _).1,NA ((w X' Oe He is _).2.1 _ ?_)⟩⟩
   cases hq:q x with
   |true=>
    refine LM fun X' Oe He is=> (w X' Oe He is _).2.2 hq _ ⟨_,rfl,np,?_,rfl,?_⟩
    ·have:=kO q (xs.take i)
     simp at this ⊢;omega
    ·rw[i6,ex];simp[hq]
   |false=>
    refine Sj ⟨_,rfl,np,rfl,?_⟩
    rw[i6,ex];simp[hq]
 ·rintro acc O' ⟨rfl,rfl⟩
  rw[e8,iS]
  exact fin
theorem BH(nc:List Str)(cap:List (Str×Nat))(xs:List α)(f g:α→T)(hc:Z.X.calm=true)(ok:LcOk Z.X csc nc cap)(hi:EI Z ρ O tg iter (xs.map f))(hl:xs.length≤sizeLine)(h:∀x,x∈xs→∃ρ4,∀X' Oe He,LcCx Z.X csc (Ae nc cap) X'→∀O',(WG (zc X' Oe He) nc.length (Gx nc ρ cap) O' tg (f x) ρ4∧ET (zc X' Oe He) ρ4 O' elt (g x)))
  (hs:∀x,iM iter Z.X.env x=pure x:=by intro _;rfl):ET Z ρ O (.ListComp elt [⟨tg,iter,[],0⟩] csc pos) (.lst (xs.map g)):=fun Φ p=>QR hc ok (hi _ (KJ xs f g hl h p)) hs
theorem GK(nc:List Str)(cap:List (Str×Nat)){c:Expr}(xs:List α)(f g:α→T)(q:α→Bool)(hc:Z.X.calm=true)(ok:LcOk Z.X csc nc cap)(hi:EI Z ρ O tg iter (xs.map f))(hl:xs.length≤sizeLine)(h:∀x,x∈xs→∃ρ4,∀X' Oe He,LcCx Z.X csc (Ae nc cap) X'→∀O',(WG (zc X' Oe He) nc.length (Gx nc ρ cap) O' tg (f x) ρ4∧EB (zc X' Oe He) ρ4 O' c (q x)∧(q x=true→ET (zc X' Oe He) ρ4 O' elt (g x))))
  (hs:∀x,iM iter Z.X.env x=pure x:=by intro _;rfl):ET Z ρ O (.ListComp elt [⟨tg,iter,[c],0⟩] csc pos) (.lst ((xs.filter q).map g)):=fun Φ p=>QR hc ok (hi _ (Et xs f g q hl h p)) hs
end
mutual
def SK:T→Bool
 | .tup ts=>plBs ts
 | .lst ts=>plBs ts
 | .frz ts=>plBs ts
 | .raw _=>false
 | .non=>true
 | .bl _=>true
 | .int _=>true
 | .str _=>true
 | .dct=>true
def plBs:List T→Bool
 | []=>true
 |t::ts=>SK t&&plBs ts
end
theorem NF{t:T}(h:SK t=true):BC t=false:=by
 cases t<;>first|rfl| (unfold SK at h;cases h)
theorem KL:∀{ts:List T},plBs ts=true↔∀t∈ts,SK t=true
 | []=>by unfold plBs;simp
 |t::ts=>by unfold plBs;simp[KL (ts:=ts)]
theorem NG{ts:List T}:SK (.tup ts)=true↔∀t∈ts,SK t=true:=by
 have e:SK (.tup ts)=plBs ts:=by rw[SK]
 rw[e];exact KL
section
variable{Z:Zx}{ρ:List (Option T)}{O:AG}{e:Expr}{es:List Expr}{Φ:BJ}{Ψ:Es}{pos p:Pos}{ts:List T}{x:Str}
theorem EA.wa{Φ:Ll}(h:EA Z ρ O es ts)(p:Φ ts O):WA Z ρ O es Φ:=h Φ p
theorem EI.wi{tg iter:Expr}{Φ:Ll}(h:EI Z ρ O tg iter ts)(p:Φ ts O):WI Z ρ O tg iter Φ:=h Φ p
theorem QW{k:Nat}{f:Addr}{fd:fF}{ps:List Str}{sp:Sp}(F:FnOk Z.X.prog Z.X.w Z.X.K Z.X.mg Z.X.base (CXe Z.X.prog Z.X.w) k f fd ps sp)(hm:Z.X.mg x=some (.ref f))(hk:jP Z.X.K (.ref f)=true)(hb:Binds Z.X.K fd ps [])(hr:Room k Z.X.A)(xf:XFly Z.X Z.W)(h:EA Z ρ O (e::es) ts)
  (w:∀σ H vs Q,Asr Z ρ O σ H→Reps Z.K O H vs ts→Acc Z.K O H Φ Q→sp vs H Q (Z.W σ)) (hg:Gl Z.X x:=by rfl)
  (hdb:(x==("__debug__" :Str))=false:=by decide) (he:e9 (e::es) Z.X.env=(false,eval e Z.X.env)::e9 es Z.X.env:=by rfl) (hpl:(jD pos (e9 es Z.X.env)).any (·.1)=false:=by rfl):WE Z ρ O (.Call (.Name x p) (e::es) [] pos) Φ:=by
 refine PE.weak (Jj xf F hr hg hm hk hb (KC (ρ:=ρ)) hdb he hpl) fun σ H Q q=>?_
 refine⟨O,_,h (fun us O'=>us=ts∧O'=O) ⟨rfl,rfl⟩,q.1,?_⟩
 rintro vs H1 _ _ ⟨rfl,rfl⟩ f r
 exact w σ H1 vs Q (q.1.step f) r (q.2.step f)
end
def Aq:Expr→Bool
 | .Starred .. =>false
 |_=>true
theorem Ap{e:Expr}{es:List Expr}{env:Env}(h:Aq e=true):e9 (e::es) env=(false,eval e env)::e9 es env:=by
 cases e<;>first|rfl|cases h
section
variable{Z:Zx}{ρ:List (Option T)}{O:AG}{e:Expr}{es:List Expr}{t:T}{ts:List T}
theorem AD(h:ET Z ρ O e t)(hr:EA Z ρ O es ts)(hn:Aq e=true:=by rfl):EA Z ρ O (e::es) (t::ts):=AN h hr (Ap hn)
theorem Lr{Φ:Ll}(h:WE Z ρ O e fun t O1=>WA Z ρ O1 es fun ts O2=>Φ (t::ts) O2)(hn:Aq e=true:=by rfl):WA Z ρ O (e::es) Φ:=DM h (Ap hn)
theorem Tg{a b:Expr}{i j:Int}{k:Nat}{pos:Pos}(ha:ET Z ρ O a (.int i))(hb:ET Z ρ O b (.int j))(h1:Aq a=true:=by rfl)(h2:Aq b=true:=by rfl):ET Z ρ O (.Tuple [a,b] k pos) (AL (i,j)):=Dj (AD ha (AD hb AB h2) h1) (by show 2≤sizeLine;decide)
end
theorem QX{O:AG}{p:Addr}{xs:List T}(h:O p=some xs):Aj O p xs=O:=by
 funext b
 by_cases hb:b=p
 ·rw[hb,AI,h]
 ·rw[AZ hb]
theorem Xc{O:AG}{p l:Addr}{xs:List T}(h:O p=some xs)(hl:O l=none):p≠l:=fun z=>by rw[z,hl] at h;cases h
section
variable{Z:Zx}{ρ:List (Option T)}{O:AG}{e:Expr}{es:List Expr}{t:T}{ts:List T}{Φ:BJ}{Ψ:Es}{pos p2:Pos}{x:Str}
structure HS(Z:Zx)(ρ:List (Option T))(O:AG)(ss:List Stmt)(Ψ:Es):Prop where
 out:GD Z ρ O ss Ψ
theorem An{s:Stmt}{ss:List Stmt}(h:WS Z ρ O s {Ψ with nx:=fun ρ' O'=>HS Z ρ' O' ss Ψ}):HS Z ρ O (s::ss) Ψ:=
 ⟨AE (TX h (fun _ _ z=>z.out) (fun _ _ z=>z) (fun _ _ z=>z) (fun _ _ z=>z))⟩
theorem Ls{s:Stmt}(h:WS Z ρ O s Ψ):HS Z ρ O [s] Ψ:=⟨AF h⟩
end
section
variable{X:Cx}{a b c d:Expr}{ta tb tc td:TE}{pos:Pos}
end
section
variable{Z:Zx}{ρ:List (Option T)}{O:AG}{a b c d:Expr}{pos:Pos}{i j k l:Int}
end
end L2.TL
namespace L2
open PySem PySem.Spec PySem.Calls PyProof.Rows
section
variable{prog:Program}{w:World}{A:fG}{E:Value→a9→Prop}{s:a9}
theorem Lu{l:Addr}{o:Obj}{vs:List Value}{n:Nat}{ns:List Int}{Q:Value→a9→Prop}(ho:s.heap.get? l=some o)(hc:o.cls=.type "tuple")(hd:o.data=.seq vs.toArray n)(hI:jT vs ns)(h64:vs.length<64)
  (h:∀(h':Heap) (a:Addr) (out:List Value) (ms:List Int) (c:Nat),s.heap.get? a=none→h'.get? a=some (fV "list" out.toArray c)→(∀b o,s.heap.get? b=some o→h'.get? b=some o)→jT out ms→ms.Perm ns→ms.Pairwise (·≤·)→Q (.ref a) {s with heap:=h'}):
  wpAny (model prog w) A (call (.builtin "sorted") [.ref l]) Q E s:=by
 refine Calls.call_function_entry pI oY o6 (pe _) ?_
 unfold Builtin.«sorted»
 refine a7 (m:=checkCount "sorted" 1 1 _) (b6 ?_)
 refine a7 (wpAny_collect_seq l (.inr rfl) ho hc hd (fun h1 hk1=>?_) (by rw[fm,gM];omega))
 show wpAny _ _ (newList vs>>=_) _ _ _
 refine a7 (lj ?_ (by rw[gM];omega))
 have hoL:(h1.push (fV "list" vs.toArray 0)).get? h1.objs.size=some (fV "list" vs.toArray 0):=fK _ rfl
 show wpAny _ _ _ _ _ {s with heap:=h1.push (fV "list" vs.toArray 0)}
 refine a7 (gx (hV n8 ⟨_,hoL,rfl⟩ nV (list_sort_tree hoL hI h64 fun out ms a1 a2 a3=> ⟨_,rfl,?_⟩) (oh _)))
 refine b6 ⟨_,rfl,?_⟩
 obtain⟨c,hcat⟩:=sortedHeap_at (out:=out) hoL
 refine h _ h1.objs.size out.toList ms c ?_ hcat (fun b o e=>?_) a1 a2 a3
 ·cases e:s.heap.get? h1.objs.size with
  |none=>rfl
  |some o'=>exact absurd (fq (hk1 _ _ e)) (gU _)
 ·have hlt:=fq (hk1 b o e)
  rw[sortedHeap_old (fS hlt) (by rw[size_push'];exact jl hlt)]
  exact c9 _ (hk1 b o e)
end
section
variable{X:Cx}
def Xd(K:a8):List V→Hp→VK→Prop:=fun xs H Q=>∃(a:Addr) (ns:List Int),xs=[.ref a]∧Cm K H a (ns.map V.int)∧ns.length<64∧∀(p:Addr) (ms:List Int),H p=none→ms.Perm ns→ms.Pairwise (·≤·)→Q (.ref p) (upd H p (.lst (ms.map V.int)))
theorem Ii:Au X (.builtin "sorted") (Xd X.K):=by
 intro pins s σ H xs us Q I r h
 obtain⟨a,ns,rfl,hS,hl,q⟩:=h
 obtain⟨u,rfl,ru⟩:=Vals.one r
 cases ru
 obtain⟨its,rv,⟨o,e1,e2,n,e3⟩,_⟩:=I.tuple hS
 have hi:=CQ rv
 have hlen:its.length<64:=by have:=rv.length;simp at this;omega
 refine Lu e1 e2 e3 hi hlen fun h' b out ms c hb hg hk hI pm pw=>?_
 have hf:H b=none:=I.hok.none_of hb
 refine⟨.ref b,upd H b (.lst (ms.map V.int)),I.laidF (t':=s.toks) hk hb ⟨?_,out,c,EO hI,hg⟩,rfl,q b ms hf pm pw⟩
 rw[e8,pm.length_eq,gM]
 omega
theorem HY:∀{ns ms:List Int},LS (ns.map V.int) (ms.map V.int)=decide (ns=ms)
 | [],[]=>rfl
 | [],_::_=>rfl
 |_::_,[]=>rfl
 |n::ns,m::ms=>by
  show(SI (V.int n) (V.int m)&&LS (ns.map V.int) (ms.map V.int))=_
  rw[HY (ns:=ns) (ms:=ms)]
  have:SI (V.int n) (V.int m)=(n==m):=rfl
  rw[this]
  by_cases h1:n=m
  ·subst h1
   by_cases h2:ns=ms
   ·subst h2;simp
   ·simp[h2]
  ·simp[h1]
theorem HZ{ns:List Int}:(ns.map V.int).all Fb=true:=by
 rw[iK]
 intro x hx
 obtain⟨n,_,rfl⟩:=fo.mp hx
 rfl
def da(K:a8)(g:Bool→Bool):R2:=fun x y H Q=>∃(a b:Addr) (ns ms:List Int),x=.ref a∧y=.ref b∧De K H a (ns.map V.int)∧De K H b (ms.map V.int)∧Q (.bl (g (decide (ns=ms)))) H
theorem Xe(hu:X.A.units<cLine):CO X (hZ .NotEq) (da X.K (!·)):=by
 intro pins s σ H x y v u Q I rx ry h
 obtain⟨a,b,ns,ms,rfl,rfl,ha,hb,q⟩:=h
 by_cases hl:ns.length=ms.length
 ·refine Wu hu pins s σ H _ _ v u Q I rx ry ⟨a,b,_,_,rfl,rfl,ha,hb,HZ,HZ,by simpa using hl,?_⟩
  rw[HY];exact q
 ·cases rx;cases ry
  obtain⟨its,r1,p1,z1⟩:=I.list ha
  obtain⟨its2,r2,p2,z2⟩:=I.list hb
  have l1:=r1.length
  have l2:=r2.length
  refine SeqAt.RcNeAt.lists_lengths p1.isList p2.isList ?_ hu _ _ _ _ ⟨.bl _,H,I,rfl,?_⟩
  ·simp only[fm,bne_iff_ne,ne_eq]
   simp at l1 l2
   omega
  ·have:decide (ns=ms)=false:=decide_eq_false fun z=>hl (by rw[z])
   rw[this] at q
   exact q
end
end L2
namespace L2.TL
open PySem PySem.Spec PySem.Calls PyProof.Rows
mutual
def dT:T→iD
 | .non=> .none
 | .bl b=> .bool b
 | .int i=> .int i
 | .str x=> .str x
 | .tup ts=> .tuple (dTs ts)
 | .lst ts=> .list (dTs ts)
 | .frz _=> .none
 | .dct=> .none
 | .raw _=> .none
def dTs:List T→List iD
 | []=> []
 |t::ts=>dT t::dTs ts
end
section
variable{K:a8}{O:AG}{H:Hp}{P:Program}{w:World}{h:Heap}
end
section
variable{X:Cx}
end
theorem XOk.mono{X:Cx}{W W':St→XK}(x:XOk X W)(h:∀σ cls H',W' σ cls none H'→W σ cls none H'):XOk X W':=
 ⟨fun pins σ H s h' y C I m q=>x.made pins σ H s h' y C I m (h σ _ H q),(XFly.mono x.f h).fly,x.own,fun pins σ H s y C t dx fs I a b c d q=>x.madeF pins σ H s y C t dx fs I a b c d (h σ _ H q)⟩
theorem NH{P:Program}{w:World}{K:a8}{mg:Str→Option Value}{base:Heap}{x qual:Str}{st:Stmt}{f:Addr}{fd:fF}{N ps:List Str}{k:Nat}{sp:BX}(F:Fun K x qual st f fd)(S:FnScope N ps (AA st))(len:∀ts O Φ Ξ,sp ts O Φ Ξ→ts.length=ps.length)
  (h:∀(cdv:Value) (A:fG) (outer:List Env) (s:a9) (H:Hp) (E:XK) (O:AG) (Ξ:Value→AG→Prop),Room k (A.deeper (kQ qual (AA st) s.heap.objs.size f cdv))→XOk (zB P w K mg base N qual (AA st) f cdv A outer s H E O Ξ).X (zB P w K mg base N qual (AA st) f cdv A outer s H E O Ξ).W→
   ∀ts Φ,sp ts O Φ Ξ→GD (zB P w K mg base N qual (AA st) f cdv A outer s H E O Ξ) (Dn N ts) O (Aw st) {nx:=fun _ O'=>Φ .non O',rt:=Φ}):FnOk P w K mg base (CXe P w) (k+1) f fd ps (BY K sp):=by
 refine F.okX S (fun vs H Q E h=>?_) (fun cdv A outer s H vs Q E hr h1=>?_)
 ·obtain⟨ts,O,Φ,Ξ,r,_,q,_⟩:=h
  rw[r.length];exact len ts O Φ Ξ q
 ·obtain⟨ts,O,Φ,Ξ,r,ok,q,acc,ex⟩:=h1
  refine⟨_,h cdv A outer s H E O Ξ hr (XOk.mono As ?_) ts Φ q,⟨GJ r,.refl ok⟩,?_⟩
  ·rintro σ cls H' ⟨_,O',x,f⟩
   exact ex cls O' H' x f
  ·exact⟨fun ρ' O' σ' H' p a _=>acc _ _ _ O' p a.fr .non,fun v H' t O' p f r=>acc v H' t O' p f r,fun _ _ _ _ z=>z.elim,fun _ _ _ _ z=>z.elim⟩
theorem DQ{K:a8}{O:AG}{H:Hp}:∀(ns:List Int),Reps K O H (ns.map V.int) (ns.map T.int)
 | []=> .nil
 |n::ns=> .cons (.int n) (DQ ns)
section
variable{Z:Zx}{ρ:List (Option T)}{O:AG}{e a b:Expr}{es:List Expr}{Ψ:Es}{Φ:BJ}{pos p:Pos}{t:T}{ts:List T}
theorem DR{x:Str}{C:Addr}{np cpos:Pos}(xo:XOk Z.X Z.W)(hc:Z.X.calm=true)(hm:Z.X.mg x=some (.ref C))(q:j7 Z.X.K C OD "ValueError.__new__" =true)(h:Z.Xi (.ref C) O)(hg:Gl Z.X x:=by rfl)
  (hd:(x==("__debug__" :Str))=false:=by decide):WS Z ρ O (.Raise (some (.Call (.Name x np) [] [] cpos)) none pos) Ψ:=
 PS.weak (OE xo hc hg hm q hd) fun D σ H k=> ⟨rfl,O,h,k.1.fr⟩
theorem Lv{ns:List Int}(m:Z.X.mg "sorted" =none)(h:ET Z ρ O e (.tup (ns.map T.int)))(hl:ns.length<64)(k:∀ms:List Int,ms.Perm ns→ms.Pairwise (·≤·)→Φ (.lst (ms.map T.int)) O)(hg:Gl Z.X "sorted":=by rfl)
  (he:e9 [e] Z.X.env=(false,eval e Z.X.env)::e9 [] Z.X.env:=by rfl):WE Z ρ O (.Call (.Name "sorted" p) [e] [] pos) Φ:=
 GC Ii m Ic (AN h AB he _ (fun H vs Q ok r q=>by
  obtain⟨v,rfl,r1⟩:=r.one_inv
  obtain⟨a,xs,rfl,h1,r1⟩:=r1.tup_inv
  cases r1.ints
  exact⟨a,ns,rfl,.inl (.inl h1),hl,fun p ms hp pm pw=>q _ _ _ O (k ms pm pw) (.new ok hp) (.lst AY (ok.none_of hp) (DQ ms))⟩)) hg (by decide) (by decide) he
end
section
variable{Z:Zx}{ρ:List (Option T)}{O:AG}{e:Expr}{es:List Expr}{t:T}{ts us:List T}{Φ:BJ}{Ψ:Es}{pos p2 p3 p4:Pos}{x:Str}
end
section
variable{Z:Zx}{ρ:List (Option T)}{O:AG}{es:List Expr}{ts:List T}{Ψ:Es}{pos p:Pos}{tg iter:Expr}{body:List Stmt}
structure HWE(Z:Zx)(ρ:List (Option T))(O:AG)(e:Expr)(Φ:BJ):Prop where
 out:WE Z ρ O e Φ
theorem Th(hp:mG (model Z.X.prog Z.X.w) Z.X.A Z.X.env Z.X.xe)(hc:Z.X.calm=true)(h:HWE Z ρ O iter fun t O'=>∃ts,t=.lst ts∧∃I:Nat→OT,I 0 ρ O'∧
  (∀i t ρ' O',ts[i]?=some t→I i ρ' O'→∃ρ2,WG Z Z.X.N.length ρ' O' tg t ρ2∧HS Z ρ2 O' body {nx:=I (i+1),rt:=Ψ.rt,bk:=Ψ.nx,ct:=I (i+1)})∧∀ρ' O',I ts.length ρ' O'→Ψ.nx ρ' O')
  (hs:∀x,iM iter Z.X.env x=pure x):WS Z ρ O (.For tg iter body [] pos) Ψ:=
 Cd hp hc (IZ (DL h.out (by
  rintro t O' ⟨ts,e,I,i0,st,fin⟩
  refine⟨ts,e,I,i0,fun i t ρ' O' e x=>?_,fin⟩
  obtain⟨ρ2,a,b⟩:=st i t ρ' O' e x
  exact⟨ρ2,a,b.out⟩))) hs
theorem aG{P:Program}{w:World}{K:a8}{mg:Str→Option Value}{base:Heap}{x qual:Str}{st:Stmt}{f:Addr}{fd:fF}{N ps:List Str}{k:Nat}{sp:Sp}(F:Fun K x qual st f fd)(S:FnScope N ps (AA st))(len:∀vs H Q E,sp vs H Q E→vs.length=ps.length)
  (h:∀(cdv:Value) (A:fG) (outer:List Env) (s:a9) (H:Hp) (vs:List V) (Q:VK) (E:XK),Room k (A.deeper (kQ qual (AA st) s.heap.objs.size f cdv))→sp vs H Q E→
   ∃ts O Φ Ξ,Reps K O H vs ts∧OwnOk K O H∧(XFly (zB P w K mg base N qual (AA st) f cdv A outer s H E O Ξ).X (zB P w K mg base N qual (AA st) f cdv A outer s H E O Ξ).W→HS (zB P w K mg base N qual (AA st) f cdv A outer s H E O Ξ) (Dn N ts) O (Aw st) {nx:=fun _ O'=>Φ .non O',rt:=Φ})∧Acc K O H Φ Q∧∀cls O' H',Ξ cls O'→Frm K O H O' H'→E cls none H'):FnOk P w K mg base (CXe P w) (k+1) f fd ps sp:=by
 refine F.okX S len (fun cdv A outer s H vs Q E hr h1=>?_)
 obtain⟨ts,O,Φ,Ξ,r,ok,q,acc,ex⟩:=h cdv A outer s H vs Q E hr h1
 refine⟨_,(q (XFly.mono As.f ?_)).out,⟨GJ r,.refl ok⟩,?_⟩
 ·rintro σ cls H' ⟨_,O',x,f⟩
  exact ex cls O' H' x f
 ·exact⟨fun ρ' O' σ' H' p a _=>acc _ _ _ O' p a.fr .non,fun v H' t O' p f r=>acc v H' t O' p f r,fun _ _ _ _ z=>z.elim,fun _ _ _ _ z=>z.elim⟩
end
def VU:AG:=fun _=>none
theorem QY{K:a8}{H:Hp}:OwnOk K VU H:=fun a ts e=>by cases e
theorem VV{K:a8}{H H':Hp}{O':AG}{a:Addr}{xs:List V}(k:Kp VU H O' H')(h:De K H a xs):De K H' a xs:=by
 rcases h with h|h
 ·refine .inl ?_
  rcases h with h| ⟨o,h⟩
  ·exact .inl (k a _ h rfl).1
  ·exact .inr ⟨o,(k a _ h rfl).1⟩
 ·exact .inr h
section
variable{Z:Zx}{ρ:List (Option T)}{O:AG}{e lo hi:Expr}{p p2 pos:Pos}{Φ:BJ}
theorem Xf{a:Addr}{ns:List Int}{i j:Int}(ho:Z.Oe=VU)(hS:De Z.K Z.He a (ns.map V.int))(h:ET Z ρ O e (.raw (.ref a)))(h1:ET Z ρ O lo (.int i))(h2:ET Z ρ O hi (.int j))
  (k:∀ms:List Int,ms.length≤ns.length→Φ (.lst (ms.map T.int)) O):WE Z ρ O (.Subscript e (.Slice (some lo) (some hi) none p2) pos) Φ:=by
 refine PE.weak (Jc Sg (BL (ρ:=ρ)) (IC (BL (ρ:=ρ))) (IC (BL (ρ:=ρ)))) fun σ H0 Q q=>?_
 refine⟨O,_,h (fun t O'=>t=.raw (.ref a)∧O'=O) ⟨rfl,rfl⟩,q.1,?_⟩
 rintro v H1 _ _ ⟨rfl,rfl⟩ f1 r1
 refine⟨_,_,h1 (fun t O'=>t=.int i∧O'=_) ⟨rfl,rfl⟩,q.1.step f1,?_⟩
 rintro v2 H2 _ _ ⟨rfl,rfl⟩ f2 r2
 refine⟨i,r2.int_inv,_,_,h2 (fun t O'=>t=.int j∧O'=_) ⟨rfl,rfl⟩,q.1.step (f1.trans f2),?_⟩
 rintro v3 H3 _ _ ⟨rfl,rfl⟩ f3 r3
 refine⟨j,r3.int_inv,a,ns.map V.int,r1.raw_inv,VV (ho▸(q.1.step (f1.trans (f2.trans f3))).fr.kp) hS,fun l hl=>?_⟩
 have ff:=f1.trans (f2.trans f3)
 have e:EN (ns.map V.int) (some i) (some j)=((ns.drop (HT.Az (ns.map V.int).length 0 (some i))).take (HT.Az (ns.map V.int).length (ns.map V.int).length (some j)-HT.Az (ns.map V.int).length 0 (some i))).map V.int:=by
  unfold EN
  rw[←oR,←List.map_take]
 rw[e]
 refine q.2 _ _ _ _ (k _ ?_) (ff.trans (.new ff.ok hl)) (.lst AY (ff.ok.none_of hl) ((DQ _).kp (Bc ff.ok hl) ff.ok))
 rw[gD,kr]
 omega
theorem QZ{i:Int}{pos1:Pos}(m:Z.X.mg "list" =none)(m2:Z.X.mg "range" =none)(hc:Z.X.calm=true)(h:ET Z ρ O e (.int i))(h0:0≤i)(h1:i≤1000)
  (hg:Gl Z.X "list":=by rfl) (hg2:Gl Z.X "range":=by rfl) (he:e9 [e] Z.X.env=(false,eval e Z.X.env)::e9 [] Z.X.env:=by rfl) (he2:e9 [Expr.Call (.Name "range" p2) [e] [] pos1] Z.X.env=(false,eval (.Call (.Name "range" p2) [e] [] pos1) Z.X.env)::e9 [] Z.X.env:=by rfl):ET Z ρ O (.Call (.Name "list" p) [.Call (.Name "range" p2) [e] [] pos1] [] pos) (.lst (((fY i.toNat).map fun(i:Nat)=> (i:Int)).map T.int)):=fun Φ q=>by
 refine PE.weak (DH (Lj hc) hg m VS (FE (DH Jz hg2 m2 XW (KC (ρ:=ρ)) (by decide) (by decide) he) IB he2) (by decide) (by decide) he2) fun σ H Q k=>?_
 refine⟨O,_,AN h AB he (fun ts O'=>ts=[.int i]∧O'=O) ⟨rfl,rfl⟩,k.1,?_⟩
 rintro vs H1 _ _ ⟨rfl,rfl⟩ f r
 obtain⟨v,rfl,r1⟩:=r.one_inv
 cases r1.int_inv
 refine⟨i,rfl,fun p hp=> ⟨p,i,rfl,AY,h0,h1,fun l hl=>?_⟩⟩
 have f1:=Frm.new (o:=.rng 0 i) f.ok hp
 refine k.2 _ _ _ _ q (f.trans (f1.trans (.new f1.ok hl))) (.lst AY (f1.ok.none_of hl) ?_)
 rw[gZ]
 exact Reps.rngs _
theorem aH{K:a8}{g:Bool→Bool}{ns ms:List Int}:RP K (da K g) (.lst (ns.map T.int)) (.lst (ms.map T.int)) O (.bl (g (decide (ns=ms)))):=fun Φ p H v w Q ok r1 r2 q=>by
 obtain⟨a,xs,rfl,h1,_,r1⟩:=r1.lst_inv
 obtain⟨b,ys,rfl,h2,_,r2⟩:=r2.lst_inv
 cases r1.ints
 cases r2.ints
 exact⟨a,b,ns,ms,rfl,rfl,.inl (.inl h1),.inl (.inl h2),q _ H _ O p (.refl ok) (.bl _)⟩
end
mutual
def Co:T→Bool
 | .non=>true
 | .bl _=>true
 | .int _=>true
 | .str x=>iD.strOk x
 | .tup ts=>rdBs ts
 | .lst ts=>rdBs ts
 | .frz _=>false
 | .dct=>false
 | .raw _=>false
def rdBs:List T→Bool
 | []=>true
 |t::ts=>Co t&&rdBs ts
end
mutual
theorem Do:∀(t:T),Co t=true→(dT t).canLay0=true
 | .non,_=>rfl
 | .bl _,_=>rfl
 | .int _,_=>rfl
 | .str x,h=>by unfold Co at h;exact h
 | .tup ts,h=>rds_lay ts (by unfold Co at h;exact h)
 | .lst ts,h=>rds_lay ts (by unfold Co at h;exact h)
 | .frz _,h=>by unfold Co at h;cases h
 | .dct,h=>by unfold Co at h;cases h
 | .raw _,h=>by unfold Co at h;cases h
theorem rds_lay:∀(ts:List T),rdBs ts=true→iD.canLayAll0 (dTs ts)=true
 | [],_=>rfl
 |t::ts,h=>by
  unfold rdBs at h
  rw[iV] at h
  show(iD.canLay0 (dT t)&&iD.canLayAll0 (dTs ts))=true
  rw[Do t h.1,rds_lay ts h.2];rfl
end
section
variable{K:a8}{O:AG}{H:Hp}{P:Program}{w:World}{h:Heap}
mutual
theorem Rep.rd (hok:HOk P w H h):∀{v:V} {t:T} {u:Value},Rep K O H v t→Co t=true→RelV v u→∃as,Reads h u (dT t) as
 |_,_,_,.non,_,r=>by cases r;exact⟨_,.none⟩
 |_,_,_,.bl b,_,r=>by cases r;exact⟨_,.bool b⟩
 |_,_,_,.int i,_,r=>by obtain⟨t,rfl⟩:=r;exact⟨_,.int i t⟩
 |_,_,_,.str x,_,r=>by obtain⟨t,rfl⟩:=r;exact⟨_,.str x t⟩
 |_,_,_,.tup (ts:=ts) e q,g,r=>by
  cases r
  obtain⟨_,its,rv,⟨o,e1,e2,n,e3⟩⟩:=(show ObjOk P w H h _ (.tup _) from hok _ _ e)
  obtain⟨as,ra⟩:=Reps.rd hok q (by unfold Co at g;exact g) rv
  exact⟨_,.tuple (vs:=its.toArray) e1 e2 e3 (by simpa using ra)⟩
 |_,_,_,.lst (ts:=ts) e _ q,g,r=>by
  cases r
  obtain⟨_,its,n,rv,e1⟩:=(show ObjOk P w H h _ (.lst _) from hok _ _ e)
  obtain⟨as,ra⟩:=Reps.rd hok q (by unfold Co at g;exact g) rv
  exact⟨_,.list (vs:=its.toArray) e1 rfl rfl (by simpa using ra)⟩
 |_,_,_,.frz _ _,g,_=>by unfold Co at g;cases g
 |_,_,_,.dct _,g,_=>by unfold Co at g;cases g
 |_,_,_,.raw v,g,_=>by unfold Co at g;cases g
theorem Reps.rd (hok:HOk P w H h):∀{vs:List V} {ts:List T} {us:List Value},Reps K O H vs ts→rdBs ts=true→Vals vs us→∃as,ReadsAll h us (dTs ts) as
 |_,_,_,.nil,_,r=>by cases r;exact⟨_,.nil⟩
 |_,_,_,.cons a b,g,.cons r1 r2=>by
  unfold rdBs at g
  rw[iV] at g
  obtain⟨as,x⟩:=Rep.rd hok a g.1 r1
  obtain⟨bs,y⟩:=Reps.rd hok b g.2 r2
  exact⟨_,.cons x y⟩
end
end
section
variable{X:Cx}
def rD(K:a8)(g:iD→iD→Bool):R2:=fun x y H Q=>∃O t u,Rep K O H x t∧Rep K O H y u∧Co t=true∧Co u=true∧(dT t).depth≤100∧Q (.bl (g (dT t) (dT u))) H
theorem Lw(hu:X.A.units+101<cLine):CO X (hZ .Eq) (rD X.K fun a b=>ju a b):=by
 intro pins s σ H x y v u Q I rx ry h
 obtain⟨O,t,t',r1,r2,g1,g2,hd,q⟩:=h
 obtain⟨as,ra⟩:=Rep.rd I.hok r1 g1 rx
 obtain⟨bs,rb⟩:=Rep.rd I.hok r2 g2 ry
 exact SeqAt.compareEq_reads ra rb (Do t g1) (Do t' g2) (by omega) ⟨.bl _,H,I,rfl,q⟩
theorem Qa(hu:X.A.units+101<cLine):CO X (hZ .NotEq) (rD X.K fun a b=>!ju a b):=by
 intro pins s σ H x y v u Q I rx ry h
 obtain⟨O,t,t',r1,r2,g1,g2,hd,q⟩:=h
 obtain⟨as,ra⟩:=Rep.rd I.hok r1 g1 rx
 obtain⟨bs,rb⟩:=Rep.rd I.hok r2 g2 ry
 exact SeqAt.compareNe_reads ra rb (Do t g1) (Do t' g2) (by omega) ⟨.bl _,H,I,rfl,q⟩
def dc(K:a8)(g:Bool→Bool):R2:=fun x y H Q=>∃O t us,Rep K O H x t∧(Rep K O H y (.tup us)∨Rep K O H y (.lst us))∧Co t=true∧rdBs us=true∧(dT t).depth≤100∧Q (.bl (g ((dTs us).any fun y=>ju y (dT t)))) H
theorem VW(hu:X.A.units+102<cLine):CO X (hZ .In) (dc X.K id):=by
 intro pins s σ H x y v u Q I rx ry h
 obtain⟨O,t,us,r1,r2,g1,g2,hd,q⟩:=h
 obtain⟨as,ra⟩:=Rep.rd I.hok r1 g1 rx
 rcases r2 with r2|r2
 ·obtain⟨bs,rb⟩:=Rep.rd I.hok r2 (by unfold Co;exact g2) ry
  exact SeqAt.in_tuple_reads rb ra (rds_lay us g2) (Do t g1) (by omega) ⟨.bl _,H,I,rfl,q⟩
 ·obtain⟨bs,rb⟩:=Rep.rd I.hok r2 (by unfold Co;exact g2) ry
  exact SeqAt.in_list_reads rb ra (rds_lay us g2) (Do t g1) (by omega) ⟨.bl _,H,I,rfl,q⟩
end
section
variable{K:a8}{O:AG}{t u:T}{us:List T}
theorem Qb{g:iD→iD→Bool}(h1:Co t=true)(h2:Co u=true)(hd:(dT t).depth≤100):RP K (rD K g) t u O (.bl (g (dT t) (dT u))):=fun Φ p H v w Q ok r1 r2 q=>
 ⟨O,t,u,r1,r2,h1,h2,hd,q _ H _ O p (.refl ok) (.bl _)⟩
theorem Qc{g:Bool→Bool}(h1:Co t=true)(h2:rdBs us=true)(hd:(dT t).depth≤100):RP K (dc K g) t (.lst us) O (.bl (g ((dTs us).any fun y=>ju y (dT t)))):=fun Φ p H v w Q ok r1 r2 q=>
 ⟨O,t,us,r1,.inr r2,h1,h2,hd,q _ H _ O p (.refl ok) (.bl _)⟩
end
theorem Ti(p:Int×Int):Co (AL p)=true:=by simp[AL,Co,rdBs]
theorem KM:∀{ps:List (Int×Int)},rdBs (ps.map AL)=true
 | []=>rfl
 |p::ps=>by
  show(Co (AL p)&&rdBs (ps.map AL))=true
  rw[Ti,KM];rfl
theorem Qd(p q:Int×Int):ju (dT (AL p)) (dT (AL q))=decide (p=q):=by
 show((p.1==q.1)&&((p.2==q.2)&&true))=decide (p=q)
 rw[iR]
 simp only[Bool.and_true,iV,beq_iff_eq,decide_eq_true_eq]
 exact⟨fun h=>iu h.1 h.2,fun h=>by rw[h];exact⟨rfl,rfl⟩⟩
theorem Ha:∀{ps qs:List (Int×Int)},l8 (dTs (ps.map AL)) (dTs (qs.map AL))=decide (ps=qs)
 | [],[]=>rfl
 | [],_::_=>rfl
 |_::_,[]=>rfl
 |p::ps,q::qs=>by
  show(ju (dT (AL p)) (dT (AL q))&&l8 (dTs (ps.map AL)) (dTs (qs.map AL)))=_
  rw[Qd,Ha,iR,iV,decide_eq_true_eq,decide_eq_true_eq,decide_eq_true_eq]
  exact⟨fun h=>by rw[h.1,h.2],fun h=>by injection h with a b;exact⟨a,b⟩⟩
abbrev Bh(n:Int)(ps:List (Int×Int)):T:=.tup [.int n,.tup (ps.map AL)]
theorem Lx{n:Int}{ps:List (Int×Int)}:Co (Bh n ps)=true:=by
 show rdBs [.int n,.tup (ps.map AL)]=true
 show(true&&(rdBs (ps.map AL)&&true))=true
 rw[KM];rfl
theorem NI{n m:Int}{ps qs:List (Int×Int)}:ju (dT (Bh n ps)) (dT (Bh m qs))=(decide (n=m)&&decide (ps=qs)):=by
 show((n==m)&&(l8 (dTs (ps.map AL)) (dTs (qs.map AL))&&true))=_
 rw[Ha,Bool.and_true]
 rfl
end L2.TL
namespace L2
open PySem PySem.Spec PySem.Calls PyProof.Rows
section
variable{X:Cx}
variable{e:Expr}{te:TE}{p2 p3 p4 pos:Pos}
end
end L2
namespace L2.TL
open PySem PySem.Spec PySem.Calls PyProof.Rows
section
variable{Z:Zx}{ρ:List (Option T)}{O:AG}{e a b:Expr}{es:List Expr}{Ψ:Es}{Φ:BJ}{pos p p1 pos1 p2 p3 p4:Pos}{t ta tb:T}{ts us:List T}{x:Str}
theorem OZ{o:Expr}{apos cpos:Pos}(h:WE Z ρ O o fun t O1=>∃a,t=.raw (.ref a)∧(∃ts,O1 a=some ts)∧WE Z ρ O1 e fun u O2=>∃ts us,u=.lst us∧O2 a=some ts∧ts.length+us.length≤sizeLine∧Φ .non (Aj O2 a (ts++us)))
  (hbase:nu o "extend" Z.X.env (eval o Z.X.env)=eval o Z.X.env:=by rfl)
  (hfew:((jD cpos (e9 [e] Z.X.env)).all (fun x=>!x.1)&&(pQ cpos (oa [] Z.X.env)).all (fun x=>x.1.isSome)
   &&decide ([e].length+([]:List ng).length+(if([]:List ng).isEmpty then 0 else 1)<30))=true:=by rfl)
  (hline:(apos.endLine==cpos.line)=true:=by rfl) (hs:e9 [e] Z.X.env=(false,eval e Z.X.env)::e9 [] Z.X.env:=by rfl) (hplain:(jD cpos (e9 [] Z.X.env)).any (·.1)=false:=by rfl):WE Z ρ O (.Call (.Attribute o "extend" apos) [e] [] cpos) Φ:=by
 refine VO PySem.F.plainAttrs_list PySem.F.slot_list_extend PySem.F.type_list_extend Nz (DL h ?_) hbase hfew hline hs hplain
 rintro t O1 ⟨a,rfl,⟨ts,hts⟩,w⟩
 refine⟨Mz hts,DM (DL w ?_) hs⟩
 rintro u O2 ⟨us,vs,rfl,h1,h2,p⟩
 refine BR fun H v ws Q ok r1 r2 q=>?_
 cases r1.raw_inv
 obtain⟨w,rfl,r3⟩:=r2.one_inv
 obtain⟨c,ys,rfl,hc,_,r3⟩:=r3.lst_inv
 obtain⟨xs,hx,r⟩:=ok a us h1
 exact⟨a,c,xs,ys,rfl,rfl,hx,hc,by rw[r.length,r3.length];exact h2,q _ _ _ _ p (.put ok h1 (r.append r3)) .non⟩
def GL:T→Bool
 | .non=>true
 |_=>false
theorem Ij{j:Nat}(hr:BC t=false)(ha:ET Z ρ O a t):EB Z ρ O (.Compare a [.Is] [.Constant .none j p1] pos) (GL t):=BF WY (Af _) (fun Φ p H v w Q ok r1 r2 q=>by
 refine⟨r2.non_inv,?_⟩
 have e:decide (v=V.non)=GL t:=by
  cases r1<;>first|rfl|cases hr
 rw[e]
 exact q _ H _ O p (.refl ok) (.bl _)) ha Ca
end
section
variable{Z:Zx}{ρ:List (Option T)}{O O1 O2:AG}{c:Expr}{body ss:List Stmt}{Ψ:Es}{pos:Pos}
def cw(Z:Zx)(e:Expr):TT:=fun σ H Q=>∃ρ O Φ,WT Z ρ O e Φ∧Yr Z ρ O Φ σ H Q
theorem aI{e:Expr}:PT Z.X e (cw Z e):=fun pins s σ H Q I ⟨_,_,_,w,q⟩=>w pins s σ H Q I q
theorem Qe(hp:mG (model Z.X.prog Z.X.w) Z.X.A Z.X.env Z.X.xe)(I:Nat→OT)(i0:∃m,I m ρ O)
  (step:∀m ρ' O',I m ρ' O'→WT Z ρ' O' c fun b O1=>if b=true then GD Z ρ' O1 body {nx:=fun ρ2 O2=>∃m',m'<m∧I m' ρ2 O2,rt:=Ψ.rt,bk:=Ψ.nx,ct:=fun ρ2 O2=>∃m',m'<m∧I m' ρ2 O2} else Ψ.nx ρ' O1):WS Z ρ O (.While c body [] pos) Ψ:=by
 refine PS.weak (Oz hp aI KE) fun D σ H q=>?_
 obtain⟨m0,i0⟩:=i0
 refine⟨fun m σ' H'=>∃ρ' O',I m ρ' O'∧Asr Z ρ' O' σ' H'∧Kp O H O' H',⟨m0,ρ,O,i0,q.1,.refl⟩,?_⟩
 rintro m σ1 H1 ⟨ρ1,O1,i1,a1,k1⟩
 refine⟨ρ1,O1,_,step m ρ1 O1 i1,a1,fun b H2 O2 p f=>?_⟩
 have kk:=k1.trans f.kp
 cases b with
 |true=>
  rw[if_pos rfl] at p
  show if true=true then _ else _
  rw[if_pos rfl]
  refine⟨fun σ2 H3=>∃ρ2 O3,(∃m',m'<m∧I m' ρ2 O3)∧Asr Z ρ2 O3 σ2 H3∧Kp O H O3 H3,?_,ρ1,O2,_,p,a1.step f,?_⟩
  ·rintro σ2 H3 ⟨ρ2,O3,⟨m',hm,i2⟩,a2,k2⟩
   exact⟨m',hm,ρ2,O3,i2,a2,k2⟩
  ·exact⟨fun ρ' O' σ' H' w a k=> ⟨ρ',O',w,a,kk.trans k⟩,q.2.rt,fun ρ' O' σ' H' w a k=>q.2.nx ρ' O' σ' H' w a (kk.trans k),fun ρ' O' σ' H' w a k=> ⟨ρ',O',w,a,kk.trans k⟩⟩
 |false=>
  rw[if_neg e6] at p
  show if false=true then _ else _
  rw[if_neg e6]
  exact q.2.nx ρ1 O2 σ1 H2 p (a1.step f) kk
theorem Tj(hk:∀H,OwnOk Z.K O1 H→Kp O1 H O2 H∧OwnOk Z.K O2 H)(hf:∀b us vs,Z.Oe b=some us→O1 b=some vs→∃us',O2 b=some us')(h:GD Z ρ O2 ss Ψ):GD Z ρ O1 ss Ψ:=PSs.weak h fun D σ H q=>by
 obtain⟨k,ok⟩:=hk H q.1.ok
 exact⟨⟨q.1.rl.kp k q.1.ok,⟨q.1.fr.kp.trans k,fun b us e=>by
  obtain⟨vs,e'⟩:=q.1.fr.own b us e
  exact hf b us vs e e',ok⟩⟩,q.2.step k⟩
end
section
variable{O:AG}{rs:List (Addr×List T)}{r:Addr×List T}{p q l:Addr}{us vs:List T}
def JU(O:AG)(rs:List (Addr×List T)):AG:=rs.foldl (fun O r=>Aj O r.1 r.2) O
theorem BO:JU O (r::rs)=JU (Aj O r.1 r.2) rs:=rfl
theorem Qf:JU O (rs++[r])=Aj (JU O rs) r.1 r.2:=by unfold JU;rw[List.foldl_append];rfl
theorem DS(h:∀r∈rs,r.1≠p):JU O rs p=O p:=by
 induction rs generalizing O with
 |nil=>rfl
 |cons r rs ih=>
  rw[BO,ih fun s hs=>h s (fv _ hs),AZ (fun z=>h r (fQ ..) z.symm)]
theorem Qg(h:∀r∈rs,r.1≠p):Aj (JU O rs) p vs=JU (Aj O p vs) rs:=by
 induction rs generalizing O with
 |nil=>rfl
 |cons r rs ih=>
  rw[BO,ih fun s hs=>h s (fv _ hs),BO,DC (h r (fQ ..))]
theorem Dp(hn:(rs.map jb).Nodup)(h:r∈rs):JU O rs r.1=some r.2:=by
 induction rs generalizing O with
 |nil=>cases h
 |cons s rs ih=>
  rw[fL,fH] at hn
  rw[BO]
  rcases fh.mp h with rfl|h
  ·rw[DS fun s hs z=>hn.1 (fo.mpr ⟨s,hs,z⟩),AI]
  ·exact ih hn.2 h
theorem Tn{i:Nat}(hn:(rs.map jb).Nodup)(h:rs[i]?=some (p,us)):Aj (JU O rs) p vs=JU O (rs.set i (p,vs)):=by
 induction rs generalizing O i with
 |nil=>simp at h
 |cons s rs ih=>
  rw[fL,fH] at hn
  cases i with
  |zero=>
   simp at h
   subst h
   rw[List.set_cons_zero,BO,BO,Qg fun s hs z=>hn.1 (fo.mpr ⟨s,hs,z⟩),Bl]
  |succ i=>
   rw[List.set_cons_succ,BO,BO]
   exact ih hn.2 (by simpa using h)
theorem To{i:Nat}(h:rs[i]?=some (p,us)):(rs.set i (p,vs)).map jb=rs.map jb:=by
 rw[nR]
 apply i7
 intro m
 by_cases hm:i=m
 ·subst hm
  have hl:=(fD.mp h).1
  rw[gm (by simpa using hl),fc,h];rfl
 ·rw[fZ hm]
def Gy(r:Addr×List T):T:=.raw (.ref r.1)
theorem KN{K:a8}{H:Hp}{O:AG}:∀{rs:List (Addr×List T)} {xs:List V},Reps K O H xs (rs.map Gy)→xs=rs.map fun r=>V.ref r.1
 | [],_,h=>h.nil_inv
 |r::rs,_,h=>by
  obtain⟨v,vs',rfl,h1,h2⟩:=h.cons_inv
  cases h1.raw_inv
  rw[KN h2];rfl
theorem KO{K:a8}{H:Hp}{O:AG}:∀{rs:List (Addr×List T)},(∀r∈rs,Rep K O H (.ref r.1) (.lst r.2))→Reps K O H (rs.map fun r=>V.ref r.1) (rs.map fun r=>T.lst r.2)
 | [],_=> .nil
 |r::rs,h=> .cons (h r (fQ ..)) (KO fun s hs=>h s (fv _ hs))
theorem Qh{Z:Zx}{ρ:List (Option T)}{ss:List Stmt}{Ψ:Es}(hn:(rs.map jb).Nodup)(hl:∀r∈rs,r.1≠l)(ho:∀r∈rs,O r.1=none)(he:∀r∈rs,Z.Oe r.1=none)
  (h:GD Z ρ (Aj O l (rs.map fun r=>T.lst r.2)) ss Ψ):GD Z ρ (Aj (JU O rs) l (rs.map Gy)) ss Ψ:=by
 refine Tj (fun H ok=>?_) (fun b us vs e1 e2=>?_) h
 ·have k:Kp (Aj (JU O rs) l (rs.map Gy)) H (Aj O l (rs.map fun r=>T.lst r.2)) H:=fun b o hb n=> ⟨hb,by
   by_cases h1:b=l
   ·rw[h1,AI] at n;cases n
   ·rw[AZ h1] at n ⊢
    by_cases h2:∃r∈rs,r.1=b
    ·obtain⟨r,hr,rfl⟩:=h2
     exact ho r hr
    ·rw[DS fun r hr z=>h2 ⟨r,hr,z⟩] at n
     exact n⟩
  refine⟨k,fun a ts e=>?_⟩
  by_cases h1:a=l
  ·subst h1
   rw[AI] at e
   cases e
   obtain⟨xs,hx,rx⟩:=ok a _ AI
   have:=KN rx
   subst this
   refine⟨_,hx,KO fun r hr=>?_⟩
   obtain⟨ys,hy,ry⟩:=ok r.1 r.2 (by rw[AZ (hl r hr)];exact Dp hn hr)
   exact .lst hy (by rw[AZ (hl r hr)];exact ho r hr) (ry.kp k ok)
  ·rw[AZ h1] at e
   have hz:∀r∈rs,r.1≠a:=fun r hr z=>by rw[←z,ho r hr] at e;cases e
   obtain⟨xs,hx,rx⟩:=ok a ts (by rw[AZ h1,DS hz];exact e)
   exact⟨xs,hx,rx.kp k ok⟩
 ·by_cases h1:b=l
  ·rw[h1];exact⟨_,AI⟩
  ·rw[AZ h1] at e2 ⊢
   by_cases h2:∃r∈rs,r.1=b
   ·obtain⟨r,hr,rfl⟩:=h2
    rw[he r hr] at e1;cases e1
   ·rw[DS fun r hr z=>h2 ⟨r,hr,z⟩] at e2
    exact⟨_,e2⟩
end
theorem Hb{Z:Zx}{ρ:List (Option T)}{O:AG}{elt tg iter:Expr}{ifs:List Expr}{csc:Scope}{nc:List Str}{cap:List (Str×Nat)}{pos:Pos}{i:Nat}{x:Str}{px spos:Pos}{Ψ:Es}(hsw:mE (.ListComp elt [⟨tg,iter,ifs,0⟩] csc pos) (some (.Name x px)) spos.line Z.X.env=pure true)(hN:Z.X.N.Nodup)(hc:Z.X.calm=true)(ok:LcOk Z.X csc nc cap)
  (h:WI Z ρ O tg iter (TY Z ρ elt tg ifs csc nc cap fun acc O'=>∀a,O' a=none→Ψ.nx (ρ.set i (some (.raw (.ref a)))) (Aj O' a acc))) (hx:Z.X.N[i]?=some x:=by rfl) (hk:Z.X.env.scope.names.lookup x=some .local:=by rfl)
  (hs:∀x,iM iter Z.X.env x=pure x:=by intro _;rfl):WS Z ρ O (.Assign [.Name x px] (.ListComp elt [⟨tg,iter,ifs,0⟩] csc pos) spos) Ψ:=
 PS.weak (Jg hN hx hk hsw hc ok h XR QP XS hs) fun D σ H q=>QQ q.1 h fun acc O' p H' p1 n f nb=>q.2.nx _ _ _ H' (p1 p n) ⟨(q.1.step f).rl.set (.raw _),(q.1.step f).fr⟩ f.kp
end L2.TL
namespace Gr
open L2.TL
variable{ps:List (Int×Int)}{n:Int}{S:List Int}{v u:Int}{d e s k:Nat}{fs gs:List (Option Nat)}{Av ds:List Int}
def Adj(ps:List (Int×Int))(u v:Int):Prop:=(u,v)∈ps∨(v,u)∈ps
theorem Adj.symm(h:Adj ps u v):Adj ps v u:=Or.symm h
inductive W(ps:List (Int×Int))(S:List Int):Nat→Int→Prop
 |at{v:Int}:v∈S→W ps S 0 v
 |go {k:Nat} {u v:Int}:W ps S k u→Adj ps u v→W ps S (k+1) v
def IsD(ps:List (Int×Int))(S:List Int)(v:Int)(d:Nat):Prop:=W ps S d v∧∀j,j<d→¬W ps S j v
def Gz(n:Int)(ps:List (Int×Int)):Prop:=∀p∈ps,0≤p.1∧p.1<p.2∧p.2<n
theorem Adj.inb(hw:Gz n ps)(h:Adj ps u v):0≤v∧v<n∧u≠v:=by
 rcases h with h|h
 ·have:=hw _ h
  simp only at this
  omega
 ·have:=hw _ h
  simp only at this
  omega
theorem GM{L:List Int}(h:L.Nodup)(hb:∀z∈L,0≤z∧z<n):L.length≤n.toNat:=by
 have key:∀L:List Int,L.Nodup→(∀z∈L,0≤z∧z<n)→(L.map Int.toNat).Nodup:=by
  intro L
  induction L with
  |nil=>intro _ _;simp
  |cons a L ih=>
   intro h hb
   rw[fH] at h
   rw[fL,fH]
   refine⟨fun hm=>?_,ih h.2 fun z hz=>hb z (fv _ hz)⟩
   obtain⟨z,hz,e⟩:=fo.mp hm
   have h1:=hb z (fv _ hz)
   have h2:=hb a (fQ ..)
   have:z=a:=by omega
   subst this
   exact h.1 hz
 have:=StT.By n.toNat (L.map Int.toNat) (key L h hb) (fun x hx=>by
  obtain⟨z,hz,rfl⟩:=fo.mp hx
  have:=hb z hz
  omega)
 rw[e8] at this
 exact this
end Gr
namespace L2.TL
open PySem PySem.Spec PyProof.Rows
section
variable{X:Cx}
end
section
variable{Z:Zx}{ρ:List (Option T)}{O:AG}{a b:Expr}{t:T}{Φ:BJ}{pos:Pos}{i:Int}
end
section
variable{Z:Zx}{ρ:List (Option T)}{O:AG}{body:List Stmt}{Ψ:Es}{pos:Pos}
end
end L2.TL
namespace L2
open PySem PySem.Spec PyProof.Rows
section
variable{X:Cx}
end
end L2
namespace L2.TL
open PySem PySem.Spec PyProof.Rows
section
variable{Z:Zx}{ρ:List (Option T)}{O:AG}{a:Expr}{ts:List T}{p pos:Pos}
end
section
variable{Z:Zx}{ρ:List (Option T)}{O:AG}{elt tg iter:Expr}{csc:Scope}{nc:List Str}{cap:List (Str×Nat)}{pos:Pos}
end
open PySem.Calls
section
variable{X:Cx}
end
section
variable{Z:Zx}{ρ:List (Option T)}{O:AG}{e a b hi:Expr}{p p2 pos:Pos}{t:T}{ts:List T}{i:Int}{Φ:BJ}
end
end L2.TL
namespace L2
open PySem PySem.Spec PySem.Calls PyProof.Rows
section
variable{prog:Program}{w:World}{A:fG}{E:Value→a9→Prop}{s:a9}
end
section
variable{X:Cx}
end
end L2
namespace L2.TL
open PySem PySem.Spec PyProof.Rows
section
variable{Z:Zx}{ρ:List (Option T)}{O:AG}{e o:Expr}{Φ:BJ}{p pos apos cpos:Pos}{ns:List Int}{i:Int}{j:Nat}
end
end L2.TL
namespace SrtG
open PySem PySem.Calls PySem.W PyProof.Rows
variable{prog:Program}{w:World}{A:fG}{E:Value→a9→Prop}{s:a9}
end SrtG
namespace L2
open PySem PySem.Spec PySem.Calls PyProof.Rows SrtG
theorem BV{α β:Type}{f:α→β}{o b:List β}(h:o.Perm b):∀{l:List α},b=l.map f→∃m:List α,m.Perm l∧o=m.map f:=by
 induction h with
 |nil=>
  intro l e
  cases l with
  |nil=>exact⟨[],.refl _,rfl⟩
  |cons x l=>cases e
 |cons x p ih=>
  intro l e
  cases l with
  |nil=>cases e
  |cons y l=>
   injection e with e1 e2
   obtain⟨m,h1,h2⟩:=ih e2
   exact⟨y::m,h1.cons y,by rw[fL,←h2,e1]⟩
 |swap x y t=>
  intro l e
  cases l with
  |nil=>cases e
  |cons u l=>
   cases l with
   |nil=>injection e with e1 e2;cases e2
   |cons v l=>
    injection e with e1 e2
    injection e2 with e3 e4
    exact⟨v::u::l,.swap ..,by rw[fL,fL,e1,e3,e4]⟩
 |trans p q ih1 ih2=>
  intro l e
  obtain⟨m,h1,h2⟩:=ih2 e
  obtain⟨m',h3,h4⟩:=ih1 h2
  exact⟨m',h3.trans h1,h4⟩
section
variable{prog:Program}{w:World}{A:fG}{E:Value→a9→Prop}{s:a9}{U:Heap→Value→Prop}{rk:Heap→Value→Int}{T:Value}
end
section
variable{X:Cx}{pins:List (Addr×Obj)}{σ:St}{H:Hp}{s:a9}
end
end L2
namespace L2.TL
open PySem PySem.Spec PyProof.Rows SrtG
section
variable{K:a8}{O:AG}{H:Hp}
end
section
variable{Z:Zx}{ρ:List (Option T)}{O:AG}{e:Expr}{Φ:BJ}{p pos:Pos}{ks:List Kd}
end
end L2.TL
namespace L2
open PySem PySem.Spec PySem.Calls PyProof.Rows
section
variable{X:Cx}
end
end L2
namespace L2.TL
open PySem PySem.Spec PySem.Calls PyProof.Rows
section
variable{K:a8}{O:AG}{H H':Hp}
end
section
variable{Z:Zx}{ρ:List (Option T)}{O:AG}{e a b:Expr}{Φ:BJ}{p pos:Pos}{d:Addr}{qs:List (Str×T)}{x:Str}{t:T}
end
section
variable{Z:Zx}{ρ:List (Option T)}{O:AG}{a b tg:Expr}{i j:Int}{pos:Pos}{n:Str}{ad:Addr}{xs:List V}
end
section
variable{Z:Zx}{ρ:List (Option T)}{O:AG}{x y z:Str}{p1 p2 p3 pos:Pos}{k:Nat}{ad:Addr}{w:Str}{l m':Int}
end
end L2.TL
namespace GrR
open L2.TL
variable{R:Int→Int→Prop}{n:Int}{S:List Int}{v u:Int}{d e s k:Nat}{fs gs:List (Option Nat)}{Av ds:List Int}
inductive W(R:Int→Int→Prop)(S:List Int):Nat→Int→Prop
 |at{v:Int}:v∈S→W R S 0 v
 |go {k:Nat} {u v:Int}:W R S k u→R u v→W R S (k+1) v
def IsD(R:Int→Int→Prop)(S:List Int)(v:Int)(d:Nat):Prop:=W R S d v∧∀j,j<d→¬W R S j v
theorem IsD.uniq(a:IsD R S v d)(b:IsD R S v e):d=e:=by
 rcases j3 d e with h|h|h
 ·exact absurd a.1 (b.2 d h)
 ·exact h
 ·exact absurd b.1 (a.2 e h)
theorem W.least(h:W R S k v):∃d,d≤k∧IsD R S v d:=by
 induction k using Nat.strongRecOn with
 |_ k ih=>
  by_cases hx:∃j,j<k∧W R S j v
  ·obtain⟨j,hj,w⟩:=hx
   obtain⟨d,hd,i⟩:=ih j hj w
   exact⟨d,by omega,i⟩
  ·exact⟨k,fj _,h,fun j hj w=>hx ⟨j,hj,w⟩⟩
theorem IsD.prev(h:IsD R S v (s+1)):∃u,IsD R S u s∧R u v:=by
 obtain⟨w,m⟩:=h
 cases w with
 |go w a=>exact⟨_,⟨w,fun j hj w'=>m (j+1) (by omega) (.go w' a)⟩,a⟩
theorem IsD.down(h:IsD R S v (s+k)):∃u,IsD R S u s:=by
 induction k generalizing v with
 |zero=>exact⟨v,h⟩
 |succ k ih=>
  obtain⟨u,hu,_⟩:=IsD.prev (s:=s+k) h
  exact ih hu
def aJ(n:Int)(R:Int→Int→Prop):Prop:=∀u v,R u v→0≤v∧v<n
theorem W.inb(hw:aJ n R)(hS:∀z∈S,0≤z∧z<n)(h:W R S k v):0≤v∧v<n:=by
 cases h with
 |«at» h=>exact hS _ h
 |go _ a=>exact hw _ _ a
theorem IsD.lt(hw:aJ n R)(hS:∀z∈S,0≤z∧z<n)(h:IsD R S v s):(s:Int)<n:=by
 have key:∃L:List Nat,L.length=s+1∧L.Nodup∧∀u∈L,∃i,i≤s∧IsD R S (u:Int) i:=by
  induction s generalizing v with
  |zero=>
   have:=h.1.inb hw hS
   refine⟨[v.toNat],rfl,by simp,fun u hu=> ⟨0,fj _,?_⟩⟩
   rw[b9.mp hu,lg this.1]
   exact h
  |succ s ih=>
   obtain⟨u,hu,_⟩:=h.prev
   obtain⟨L,l1,l2,l3⟩:=ih hu
   have hb:=h.1.inb hw hS
   refine⟨v.toNat::L,by simp[l1],fH.mpr ⟨fun hm=>?_,l2⟩,fun z hz=>?_⟩
   ·obtain⟨i,hi,q⟩:=l3 _ hm
    rw[lg hb.1] at q
    have:=q.uniq h
    omega
   ·rcases fh.mp hz with rfl|hz
    ·exact⟨s+1,fj _,by rw[lg hb.1];exact h⟩
    ·obtain⟨i,hi,q⟩:=l3 z hz
     exact⟨i,by omega,q⟩
 obtain⟨L,l1,l2,l3⟩:=key
 have:=StT.By n.toNat L l2 (fun x hx=>by
  obtain⟨i,_,q⟩:=l3 x hx
  have:=q.1.inb hw hS
  omega)
 omega
structure Fr(n:Int)(R:Int→Int→Prop)(S:List Int)(s:Nat)(fs:List (Option Nat)):Prop where
 len:(fs.length:Int)=n
 eq:∀v:Int,0≤v→v<n→∀d,fs[v.toNat]?=some (some d)↔(d≤s∧IsD R S v d)
structure All(n:Int)(R:Int→Int→Prop)(S:List Int)(fs:List (Option Nat)):Prop where
 len:(fs.length:Int)=n
 eq:∀v:Int,0≤v→v<n→∀d,fs[v.toNat]?=some (some d)↔IsD R S v d
theorem Fr.all_end(h:Fr n R S s fs)(e:∀v,¬IsD R S v s):All n R S fs:=⟨h.len,fun v v0 v1 d=>by
 rw[h.eq v v0 v1 d]
 refine⟨fun z=>z.2,fun z=> ⟨?_,z⟩⟩
 by_cases hd:d≤s
 ·exact hd
 ·obtain⟨k,rfl⟩:∃k,d=s+k:=⟨d-s,by omega⟩
  obtain⟨u,hu⟩:=z.down
  exact absurd hu (e u)⟩
theorem Tp(hl:(fs.length:Int)=n)(h:∀v:Int,0≤v→v<n→∀d,fs[v.toNat]?=some (some d)↔(d=0∧v∈S)):Fr n R S 0 fs:=⟨hl,fun v v0 v1 d=>by
 rw[h v v0 v1 d]
 constructor
 ·rintro⟨rfl,hv⟩
  exact⟨fj _,.at hv,fun j hj=>by omega⟩
 ·rintro⟨hd,w,_⟩
  have:d=0:=by omega
  subst this
  cases w with
  |«at» h=>exact⟨rfl,h⟩⟩
structure Mid(n:Int)(R:Int→Int→Prop)(S:List Int)(s:Nat)(fs:List (Option Nat))(Av ds:List Int):Prop where
 len:(fs.length:Int)=n
 eq:∀v:Int,0≤v→v<n→∀d,fs[v.toNat]?=some (some d)↔((d≤s∧IsD R S v d)∨(d=s+1∧v∈Av))
 sub:∀v∈Av,IsD R S v (s+1)
 dn:∀v∈ds,0≤v∧v<n∧∃d,fs[v.toNat]?=some (some d)
theorem Fr.mid(h:Fr n R S s fs):Mid n R S s fs [] []:=⟨h.len,fun v v0 v1 d=>by
 rw[h.eq v v0 v1 d]
 simp,(fun _ h=>by cases h),(fun _ h=>by cases h)⟩
theorem Mid.miss(m:Mid n R S s fs Av ds)(v0:0≤v)(v1:v<n)(h:fs[v.toNat]?=some (some d)):Mid n R S s fs Av (ds++[v]):=⟨m.len,m.eq,m.sub,fun z hz=>by
 rcases fI.mp hz with hz|hz
 ·exact m.dn z hz
 ·rw[b9.mp hz];exact⟨v0,v1,d,h⟩⟩
theorem Mid.hit(m:Mid n R S s fs Av ds)(v0:0≤v)(v1:v<n)(hn:fs[v.toNat]?=some none)(hu:IsD R S u s)(a:R u v):Mid n R S s (fs.set v.toNat (some (s+1))) (Av++[v]) (ds++[v]):=by
 have hl:=m.len
 have hlt:v.toNat<fs.length:=by omega
 have iv:IsD R S v (s+1):=by
  refine⟨.go hu.1 a,fun j hj w=>?_⟩
  obtain⟨d,hd,i⟩:=w.least
  have:=(m.eq v v0 v1 d).mpr (.inl ⟨by omega,i⟩)
  rw[hn] at this
  cases this
 have key:∀w:Int,0≤w→w<n→w≠v→(fs.set v.toNat (some (s+1)))[w.toNat]?=fs[w.toNat]?:=fun w w0 w1 h=>fZ (by omega)
 refine⟨by rw[jZ];exact hl,fun w w0 w1 d=>?_,fun w hw=>?_,fun w hw=>?_⟩
 ·by_cases h:w=v
  ·subst h
   rw[gm hlt]
   constructor
   ·intro z
    have:d=s+1:=by cases z;rfl
    exact .inr ⟨this,by simp⟩
   ·rintro(z|z)
    ·have:=z.2.uniq iv
     omega
    ·rw[z.1]
  ·rw[key w w0 w1 h,m.eq w w0 w1 d]
   have:w∈Av++[v]↔w∈Av:=by simp[h]
   rw[this]
 ·rcases fI.mp hw with hw|hw
  ·exact m.sub w hw
  ·rw[b9.mp hw];exact iv
 ·rcases fI.mp hw with hw|hw
  ·obtain⟨w0,w1,d,hd⟩:=m.dn w hw
   refine⟨w0,w1,?_⟩
   by_cases h:w=v
   ·subst h;exact⟨_,gm hlt⟩
   ·exact⟨d,by rw[key w w0 w1 h];exact hd⟩
  ·rw[b9.mp hw];exact⟨v0,v1,_,gm hlt⟩
theorem Mid.done(m:Mid n R S s fs Av ds)(h:∀u v,IsD R S u s→R u v→v∈ds):Fr n R S (s+1) fs∧∀v,v∈Av↔IsD R S v (s+1):=by
 have key:∀v,IsD R S v (s+1)→v∈Av:=fun v i=>by
  obtain⟨u,hu,a⟩:=i.prev
  obtain⟨v0,v1,d,hd⟩:=m.dn v (h u v hu a)
  rcases(m.eq v v0 v1 d).mp hd with z|z
  ·have:=z.2.uniq i
   omega
  ·exact z.2
 refine⟨⟨m.len,fun v v0 v1 d=>?_⟩,fun v=> ⟨m.sub v,key v⟩⟩
 rw[m.eq v v0 v1 d]
 constructor
 ·rintro(z|z)
  ·exact⟨by omega,z.2⟩
  ·rw[z.1];exact⟨fj _,m.sub v z.2⟩
 ·rintro⟨h1,h2⟩
  by_cases hd:d≤s
  ·exact .inl ⟨hd,h2⟩
  ·have:d=s+1:=by omega
   subst this
   exact .inr ⟨rfl,key v h2⟩
theorem Mid.fresh(m:Mid n R S s fs Av ds)(v0:0≤v)(v1:v<n)(hn:fs[v.toNat]?=some none):v∉Av:=fun h=>by
 have:=(m.eq v v0 v1 (s+1)).mpr (.inr ⟨rfl,h⟩)
 rw[hn] at this
 cases this
variable{R D L:Int→Int→Prop}{n:Int}{S:List Int}{u v a b:Int}{d k:Nat}{fs:List (Option Nat)}
open Classical in
def JV (R:Int→Int→Prop) (S:List Int) (v:Int):Option Nat:=if h:∃d,IsD R S v d then some (choose h) else none
theorem DE(h:IsD R S v d):JV R S v=some d:=by
 unfold JV
 have hx:∃d,IsD R S v d:=⟨d,h⟩
 rw[dif_pos hx]
 exact congrArg some ((Classical.choose_spec hx).uniq h)
theorem FM:JV R S v=some d↔IsD R S v d:=by
 refine⟨fun e=>?_,DE⟩
 unfold JV at e
 split at e
 ·rename_i h
  cases e
  exact Classical.choose_spec h
 ·cases e
theorem Hc{S':List Int}{v':Int}{R':Int→Int→Prop}(h:∀d,IsD R S v d↔IsD R' S' v' d):JV R S v=JV R' S' v':=by
 cases e:JV R S v with
 |some d=>exact(DE ((h d).mp (FM.mp e))).symm
 |none=>
  cases e':JV R' S' v' with
  |none=>rfl
  |some d=>rw[DE ((h d).mpr (FM.mp e'))] at e;cases e
theorem All.get(al:All n R S fs)(v0:0≤v)(v1:v<n):fs[v.toNat]?=some (JV R S v):=by
 have hl:=al.len
 have hlt:v.toNat<fs.length:=by omega
 cases e:JV R S v with
 |some d=>exact(al.eq v v0 v1 d).mpr (FM.mp e)
 |none=>
  rw[fz hlt]
  cases z:fs[v.toNat] with
  |none=>rfl
  |some d=>
   have:=(al.eq v v0 v1 d).mp (by rw[fz hlt,z])
   rw[DE this] at e
   cases e
theorem W.mono(h:∀u v,L u v→D u v)(w:W L S k v):W D S k v:=by
 induction w with
 |«at» h=>exact .at h
 |go _ a ih=>exact .go ih (h _ _ a)
theorem W.cut(h:∀u v,D u v→L u v∨u=b)(w:W D S k v):W L S k v∨∃j,j<k∧W L S j b:=by
 induction w with
 |«at» h=>exact .inl (.at h)
 | @go k u v w a ih=>
  rcases ih with w'| ⟨j,hj,w'⟩
  ·rcases h _ _ a with l|rfl
   ·exact .inl (.go w' l)
   ·exact .inr ⟨k,by omega,w'⟩
  ·exact .inr ⟨j,by omega,w'⟩
theorem Tq(h1:∀u v,L u v→D u v)(h2:∀u v,D u v→L u v∨u=b):IsD D S b d↔IsD L S b d:=by
 constructor
 ·rintro⟨w,m⟩
  refine⟨?_,fun j hj w'=>m j hj (w'.mono h1)⟩
  rcases w.cut h2 with w'| ⟨j,hj,w'⟩
  ·exact w'
  ·exact absurd (w'.mono h1) (m j hj)
 ·rintro⟨w,m⟩
  refine⟨w.mono h1,fun j hj w'=>?_⟩
  rcases w'.cut h2 with w'| ⟨i,hi,w'⟩
  ·exact m j hj w'
  ·exact m i (by omega) w'
theorem W.consR{p q:Int}(a:R p q)(h:W R [q] k v):W R [p] (k+1) v:=by
 induction h with
 |«at» h=>rw[b9.mp h];exact .go (.at (by simp)) a
 |go _ b ih=>exact .go ih b
theorem W.rev(sy:∀u v,R u v→R v u)(h:W R [a] k v):W R [v] k a:=by
 induction h with
 |«at» h=>rw[b9.mp h];exact .at (by simp)
 |go _ b ih=>exact .consR (sy _ _ b) ih
theorem Tr(sy:∀u v,R u v→R v u):IsD R [a] b d↔IsD R [b] a d:=
 ⟨fun h=> ⟨h.1.rev sy,fun j hj w=>h.2 j hj (w.rev sy)⟩,fun h=> ⟨h.1.rev sy,fun j hj w=>h.2 j hj (w.rev sy)⟩⟩
theorem Ts{ps:List (Int×Int)}:Gr.W ps S k v↔W (Gr.Adj ps) S k v:=by
 constructor
 ·intro h
  induction h with
  |«at» h=>exact .at h
  |go _ a ih=>exact .go ih a
 ·intro h
  induction h with
  |«at» h=>exact .at h
  |go _ a ih=>exact .go ih a
theorem Qi{ps:List (Int×Int)}:Gr.IsD ps S v d↔IsD (Gr.Adj ps) S v d:=
 ⟨fun h=> ⟨Ts.mp h.1,fun j hj w=>h.2 j hj (Ts.mpr w)⟩,fun h=> ⟨Ts.mpr h.1,fun j hj w=>h.2 j hj (Ts.mp w)⟩⟩
variable{R:Int→Int→Prop}{a b p q:Int}{L M:List Int}{k d s:Nat}
def Ch(R:Int→Int→Prop):List Int→Prop
 |a::b::L=>R a b∧Ch R (b::L)
 |_=>True
theorem Ch.tail(h:Ch R (a::L)):Ch R L:=by
 cases L with
 |nil=>trivial
 |cons b L=>exact h.2
theorem Dq:Ch R (L++a::M)↔Ch R (L++[a])∧Ch R (a::M):=by
 induction L with
 |nil=>exact⟨fun h=> ⟨trivial,h⟩,fun h=>h.2⟩
 |cons x L ih=>
  cases L with
  |nil=>exact⟨fun h=> ⟨⟨h.1,trivial⟩,h.2⟩,fun h=> ⟨h.1.1,h.2⟩⟩
  |cons y L=>
   constructor
   ·intro h
    have:=ih.mp h.2
    exact⟨⟨h.1,this.1⟩,this.2⟩
   ·intro h
    exact⟨h.1.1,ih.mpr ⟨h.1.2,h.2⟩⟩
theorem Ce:Ch R (L++[a]++[b])↔Ch R (L++[a])∧R a b:=by
 rw[i8]
 exact Dq.trans ⟨fun h=> ⟨h.1,h.2.1⟩,fun h=> ⟨h.1,h.2,trivial⟩⟩
theorem Qj(sy:∀u v,R u v→R v u):∀{L:List Int},Ch R L→Ch R L.reverse
 | [],_=>trivial
 | [a],_=>trivial
 |a::b::L,h=>by
  have:=Qj sy h.2
  rw[lR,lR] at*
  exact Ce.mpr ⟨this,sy _ _ h.1⟩
structure Ring(R:Int→Int→Prop)(L:List Int):Prop where
 len:3≤L.length
 nd:L.Nodup
 ch:Ch R L
 cl:∀a z,L.head?=some a→L.getLast?=some z→R z a
theorem EC(sy:∀u v,R u v→R v u):∀{p q:List Int} {a z:Int},Ch R (a::p)→Ch R (a::q)→(a::p).Nodup→(a::q).Nodup→(a::p).getLast?=some z→(a::q).getLast?=some z→p≠q→∃L,Ring R L∧L.length≤p.length+q.length
 | [],[],a,z,_,_,_,_,_,_,ne=>absurd rfl ne
 | [],c::q,a,z,_,_,_,nq,lp,lq,_=>by
  have e:z=a:=by simpa using lp.symm
  subst e
  rw[gG] at lq
  exact absurd (je lq) (fH.mp nq).1
 |b::p,[],a,z,_,_,np,_,lp,lq,_=>by
  have e:z=a:=by simpa using lq.symm
  subst e
  rw[gG] at lp
  exact absurd (je lp) (fH.mp np).1
 |b::p,c::q,a,z,hp,hq,np,nq,lp,lq,ne=>by
  rw[gG] at lp lq
  by_cases e:b=c
  ·subst e
   obtain⟨L,r,l⟩:=EC sy hp.2 hq.2 (fH.mp np).2 (fH.mp nq).2 lp lq (fun z=>ne (by rw[z]))
   exact⟨L,r,by simp only[fu];omega⟩
  ·--the first of the second way that lies on the first
   have key:∀Q:List Int,(∃m∈Q,m∈b::p)→∃x m y,Q=x++m::y∧m∈b::p∧∀t∈x,t∉b::p:=by
    intro Q
    induction Q with
    |nil=>rintro⟨m,hm,_⟩;cases hm
    |cons t Q ih=>
     intro h
     by_cases ht:t∈b::p
     ·exact⟨[],t,Q,rfl,ht,fun _ h=>by cases h⟩
     ·obtain⟨m,hm,hm2⟩:=h
      rcases fh.mp hm with rfl|hm
      ·exact absurd hm2 ht
      ·obtain⟨x,m,y,e,h1,h2⟩:=ih ⟨m,hm,hm2⟩
       refine⟨t::x,m,y,by rw[e];rfl,h1,fun u hu=>?_⟩
       rcases fh.mp hu with rfl|hu
       ·exact ht
       ·exact h2 u hu
   obtain⟨x,m,y,eq,hm,hx⟩:=key (c::q) ⟨z,je lq,je lp⟩
   obtain⟨u,v,ep⟩:=List.append_of_mem hm
   have ha1:=(fH.mp np).1
   have ha2:=(fH.mp nq).1
   have n1:=(fH.mp np).2
   have n2:=(fH.mp nq).2
   rw[eq] at ha2 n2 hq
   have hum:∀t,t∈u++[m]→t∈b::p:=fun t ht=>by
    rw[ep];simp only[fI,fh,gC,or_false] at ht ⊢;rcases ht with h|h
    ·exact .inl h
    ·exact .inr (.inl h)
   have l1:(b::p).length=u.length+(v.length+1):=by rw[ep];simp
   have l2:(c::q).length=x.length+(y.length+1):=by rw[eq];simp
   simp only[fu] at l1 l2
   refine⟨a::(u++[m]++x.reverse),⟨?_,?_,?_,?_⟩,?_⟩
   ·simp only[fu,fE,List.length_reverse,iQ]
    cases u with
    |cons _ _=>simp only[fu];omega
    |nil=>
     cases x with
     |cons _ _=>simp only[fu];omega
     |nil=>
      have e1:b=m:=by simpa using(pU.inj ep).1
      have e2:c=m:=by simpa using(pU.inj eq).1
      exact absurd (e1.trans e2.symm) e
   ·rw[fH]
    refine⟨fun h=>?_,?_⟩
    ·rcases fI.mp h with h|h
     ·exact ha1 (hum _ h)
     ·exact ha2 (jf _ (List.mem_reverse.mp h))
    ·rw[gu]
     rw[ep] at n1
     refine⟨?_,List.pairwise_reverse.mpr ((gu.mp n2).1.imp Ne.symm),fun t ht w hw e=>hx w (List.mem_reverse.mp hw) (e▸hum t ht)⟩
     have:=gu.mp (show(u++m::v).Nodup from n1)
     rw[gu]
     exact⟨this.1,by simp,fun t ht w hw=>this.2.2 t ht w (by rw[b9.mp hw];simp)⟩
   ·have h1:Ch R ((a::u)++[m]):=(Dq (M:=v)).mp (by rw[gj,←ep];exact hp)|>.1
    have h2:Ch R (m::x.reverse):=by
     have:Ch R (x++[m]):=((Dq (L:=a::x) (M:=y)).mp hq).1.tail
     have:=Qj sy this
     rwa[mw] at this
    have:=(Dq (L:=a::u) (a:=m) (M:=x.reverse)).mpr ⟨h1,h2⟩
    rwa[show a::(u++[m]++x.reverse)=(a::u)++m::x.reverse by simp]
   ·intro a' z' h1 h2
    have:a'=a:=by simpa using h1.symm
    subst this
    cases x with
    |nil=>
     have e2:c=m:=by simpa using(pU.inj eq).1
     have:z'=m:=by
      rw[List.reverse_nil,jo,←gj,iP] at h2
      simpa using h2.symm
     rw[this]
     exact sy _ _ hq.1
    |cons t x=>
     have:z'=t:=by
      rw[lR,←i8,←gj,iP] at h2
      simpa using h2.symm
     rw[this]
     exact sy _ _ hq.1
   ·simp only[fu,fE,List.length_reverse,iQ]
    omega
theorem Tt(h:IsD R [p] q d):∃L,L.length=d+1∧L.head?=some p∧L.getLast?=some q∧L.Nodup∧Ch R L∧∀x∈L,∃i,i≤d∧IsD R [p] x i:=by
 induction d generalizing q with
 |zero=>
  have:q=p:=by
   cases h.1 with
   |«at» h=>exact b9.mp h
  subst this
  exact⟨[q],rfl,rfl,rfl,by simp,trivial,fun x hx=>by rw[b9.mp hx];exact⟨0,fj _,h⟩⟩
 |succ d ih=>
  obtain⟨u,hu,r⟩:=h.prev
  obtain⟨L,l1,l2,l3,l4,l5,l6⟩:=ih hu
  obtain⟨M,rfl⟩:∃M,L=M++[u]:=iX.mp l3
  refine⟨M++[u]++[q],by simp only[fE,fu,iQ] at l1 ⊢;omega,?_,by simp,?_,Ce.mpr ⟨l5,r⟩,fun x hx=>?_⟩
  ·rw[List.head?_append,l2];rfl
  ·rw[gu]
   refine⟨l4,by simp,fun x hx y hy e=>?_⟩
   rw[b9.mp hy] at e
   subst e
   obtain⟨i,hi,hd⟩:=l6 x hx
   have:=hd.uniq h
   omega
  ·rcases fI.mp hx with hx|hx
   ·obtain⟨i,hi,hd⟩:=l6 x hx
    exact⟨i,by omega,hd⟩
   ·rw[b9.mp hx];exact⟨d+1,fj _,h⟩
theorem aK:∀{L:List Int} {p q:Int},Ch R (p::L)→(p::L).getLast?=some q→W R [p] L.length q
 | [],p,q,_,h=>by
  have:q=p:=by simpa using h.symm
  rw[this];exact .at (by simp)
 |b::L,p,q,hc,h=>by
  rw[gG] at h
  exact .consR hc.1 (aK hc.2 h)
theorem Tu{i:Nat}(h:Ch R L):Ch R (L.take i):=by
 by_cases hi:i<L.length
 ·have e:L=L.take i++L[i]::L.drop (i+1):=by rw[List.getElem_cons_drop,ja]
  rw[e] at h
  have h1:=(Dq.mp h).1
  generalize L.take i=A at*
  clear e h
  induction A with
  |nil=>trivial
  |cons x A ih=>
   cases A with
   |nil=>trivial
   |cons y A=>exact⟨h1.1,ih h1.2⟩
 ·rw[List.take_of_length_le (by omega)];exact h
variable{R:Int→Int→Prop}{nb:Int→List Int}{c:Nat→Int→Bool}{a b p q v:Int}{L M r:List Int}{rs:List (List Int)}{k d s:Nat}{n:Int}
def lst(r:List Int):Int:=r.getLastD 0
theorem Xg(h:r.getLast?=some a):lst r=a:=by
 unfold lst
 rw[List.getLastD_eq_getLast?,h];rfl
theorem GN(h:r≠[]):r.getLast?=some (lst r):=by
 cases e:r.getLast? with
 |none=>exact absurd (List.getLast?_eq_none_iff.mp e) h
 |some a=>rw[Xg e]
variable{R R':Int→Int→Prop}{nb:Int→List Int}{a b p q v:Int}{L M r:List Int}{k d s:Nat}{n:Int}
def VX(R:Int→Int→Prop)(a b u v:Int):Prop:=R u v∧¬(u=a∧v=b)∧¬(u=b∧v=a)
theorem Ik:∀{L:List Int},Ch R L→(∀u∈L,∀v∈L,R u v→R' u v)→Ch R' L
 | [],_,_=>trivial
 | [_],_,_=>trivial
 |a::b::L,h,m=> ⟨m a (by simp) b (by simp) h.1,Ik h.2 fun u hu v hv=>m u (fv _ hu) v (fv _ hv)⟩
theorem Xh(h:Ring R r):∃a b,R a b∧W (VX R a b) [b] (r.length-1) a:=by
 match r,h with
 | [],h=>exact absurd h.len (by decide)
 | [_],h=>exact absurd h.len (by show¬3≤1;decide)
 | [_,_],h=>exact absurd h.len (by show¬3≤2;decide)
 |x::y::t::L,h=>
  have hne:(t::L)≠[]:=by simp
  have hz:(x::y::t::L).getLast?=some (lst (t::L)):=by
   rw[gG,gG];exact GN hne
  have hmz:lst (t::L)∈t::L:=je (GN hne)
  generalize lst (t::L)=z at hz hmz
  have nd:=h.nd
  rw[fH,fH] at nd
  refine⟨z,x,h.cl x z rfl hz,?_⟩
  refine aK (L:=y::t::L) ⟨⟨h.ch.1,fun e=>?_,fun e=>?_⟩,Ik h.ch.2 fun u hu v hv r=> ⟨r,fun e=>?_,fun e=>?_⟩⟩ hz
  ·exact nd.1 (e.2▸fQ ..)
  ·exact nd.2.1 (e.2▸hmz)
  ·exact nd.1 (e.2▸hv)
  ·exact nd.1 (e.1▸hu)
theorem Tv(sy:∀u v,R u v→R v u)(ir:∀u,¬R u u)(h:R a b)(hd:IsD (VX R a b) [a] b d):∃r,Ring R r∧r.length=d+1:=by
 obtain⟨L,l1,l2,l3,l4,l5,_⟩:=Tt hd
 refine⟨L,⟨?_,l4,Ik l5 fun u _ v _ c=>c.1,fun x z h1 h2=>?_⟩,l1⟩
 ·match d,hd with
  |0,hd=>
   cases hd.1 with
   |«at» hm=>rw[b9.mp hm] at h;exact absurd h (ir _)
  |1,hd=>
   cases hd.1 with
   |go w c=>
    cases w with
    |«at» hm=>rw[b9.mp hm] at c;exact absurd ⟨rfl,rfl⟩ c.2.1
  |d+2,_=>omega
 ·rw[l2] at h1
  rw[l3] at h2
  cases h1
  cases h2
  exact sy _ _ h
theorem Il(hb:∀u v,R u v→0≤v∧v<n)(h:Ring R r):∀z∈r,0≤z∧z<n:=by
 have key:∀{L:List Int} {x:Int},0≤x∧x<n→Ch R (x::L)→∀z∈x::L,0≤z∧z<n:=by
  intro L
  induction L with
  |nil=>intro x hx _ z hz;rw[b9.mp hz];exact hx
  |cons y L ih=>
   intro x hx hc z hz
   rcases fh.mp hz with rfl|hz
   ·exact hx
   ·exact ih (hb _ _ hc.1) hc.2 z hz
 cases r with
 |nil=>intro z hz;cases hz
 |cons x L=>exact key (hb _ _ (h.cl x _ rfl (GN (by simp)))) h.ch
variable{R:Int→Int→Prop}{nb:Int→List Int}{c:Nat→Int→Bool}{p:Int}{r q:List Int}{k s:Nat}{n:Int}
end GrR
namespace L2.TL
open PySem PySem.Spec PySem.Calls PyProof.Rows PySem.Builtin PySem.Builtin.Str
section
variable{X:Cx}
end
section
variable{Z:Zx}{ρ:List (Option T)}{O:AG}{a b o e:Expr}{t:T}{Φ:BJ}{pos p apos cpos:Pos}{i j:Str}{xs:List Str}
end
section
variable{X:Cx}
end
section
variable{Z:Zx}{ρ:List (Option T)}{O:AG}{a b o e:Expr}{t:T}{Φ:BJ}{pos p apos cpos:Pos}{i j:Str}{xs:List Str}
end
section
variable{Z:Zx}{ρ:List (Option T)}{O:AG}{e elt tg iter:Expr}{ifs:List Expr}{csc:Scope}{nc:List Str}{cap:List (Str×Nat)}{Φ:BJ}{pos:Pos}
end
end L2.TL
namespace L2
open PySem PySem.Spec PySem.Calls PyProof.Rows
section
variable{prog:Program}{w:World}{A:fG}{R:pF→a9→Prop}{I:Addr}{fp wr:List Addr}{n:Nat}{P:Nat→Value→Prop}{St:Nat→Heap→Prop}
theorem ED:(toString "min" ++toString ".loop" :String)= "min.loop":=by decide
theorem Oa{kw:List (Str×Value)}(W:Walks prog w A.in1 I fp wr n P St)(bt:Nat→Nat→Bool)(hcmp:CmpOf prog w A.in1 .Lt P bt)(S:Addr)(hSf:S∉fp):
  ∀(k j:Nat) (s:a9) (vb:Value) (c:Nat),n- (j+1)=k→j+1≤n→St (j+1) s.heap→P (nM bt j) vb→
  s.heap.get? S=some {cls:=.type "list",dict:=none,data:=.seq #[vb,vb] c,slots:=#[]}→
  (∀v h' tk,P (nM bt (n-1)) v→(∀b o,b∉wr→b≠S→s.heap.get? b=some o→h'.get? b=some o)→R (.ok (.ret v)) {s with heap:=h',toks:=tk})→
  kW (model prog w) A (.builtin "min.loop" ⟨[.ref I,.none,.ref S],kw⟩) R s:=by
 have hSw:S∉wr:=fun h=>hSf (W.sub _ h)
 intro k
 induction k with
 |zero=>
  intro j s vb c hk hj hst hPb hS hR
  have hin:j+1=n:=by omega
  refine jC nI ?_
  rw[jA jL _]
  show wpAny _ A.in1 (oC (.ref S)>>=_) _ _ s
  refine a7 (iH hS rfl ?_)
  show wpAny _ A.in1 (tryCatch (lF (.ref I)) _>>=_) _ _ s
  refine a7 (lL (W.done s _ _ (hin▸hst) fun h' tk hk'=>?_))
  have hS':=hk' S _ hSw hS
  show wpAny _ A.in1 (updateSeq S (fun _=> #[])>>=_) _ _ _
  refine a7 (nT hS' rfl (a7 (lH (b6 ?_))))
  exact hR vb _ tk (by rw[←hin];exact hPb) fun b o hbw hbS e=> (iU _ _ (Ne.symm hbS)).trans (hk' b o hbw e)
 |succ k ih=>
  intro j s vb c hk hj hst hPb hS hR
  have hlt:j+1<n:=by omega
  refine jC nI ?_
  rw[jA jL _]
  show wpAny _ A.in1 (oC (.ref S)>>=_) _ _ s
  refine a7 (iH hS rfl ?_)
  show wpAny _ A.in1 (tryCatch (lF (.ref I)) _>>=_) _ _ s
  refine a7 (lL (W.item (j+1) s _ _ hlt hst fun v h' tk hP hst' hk'=>?_))
  have hS':=hk' S _ hSw hS
  show wpAny _ A.in1 (tryCatch (holding [v,v] (richCompare .Lt v vb>>=_)) _>>=_) _ _ _
  refine a7 (lL (gx (a7 (hcmp (j+1) (nM bt j) v vb _ _ _ hP hPb ?_))))
  refine a7 (gx (jh (a7 (lH (b6 ?_)))))
  cases hb:bt (j+1) (nM bt j) with
  |true=>
   simp only[if_true]
   refine a7 (nT hS' rfl (a7 (lH ?_)))
   rw[ED]
   refine b6 ⟨kJ jL _,ih (j+1) _ v _ (by omega) hlt (W.frame _ _ _ hst' fun b hbf o e=>?_) (by simp only[nM,hb,if_true];exact hP) (jU _ hS' rfl) fun v' h'' tk'' hP' hk''=>?_⟩
   ·exact(iU _ _ (fun h:S=b=>hSf (by rw[h];exact hbf))).trans e
   ·exact hR v' h'' tk'' hP' fun b o hbw hbS e=>hk'' b o hbw hbS ((iU _ _ (Ne.symm hbS)).trans (hk' b o hbw e))
  |false=>
   simp only[fJ,if_false]
   refine a7 (lH ?_)
   rw[ED]
   refine b6 ⟨kJ jL _,ih (j+1) _ vb c (by omega) hlt hst' (by simp only[nM,hb,fJ,if_false];exact hPb) hS' fun v' h'' tk'' hP' hk''=>?_⟩
   exact hR v' h'' tk'' hP' fun b o hbw hbS e=>hk'' b o hbw hbS (hk' b o hbw e)
theorem Ly{nm:Str}{d:Value}(W:Walks prog w A.in1 I fp wr n P St)(bt:Nat→Nat→Bool)(hcmp:CmpOf prog w A.in1 .Lt P bt)(S:Addr)(hSf:S∉fp){s:a9}{c:Nat}(hst:St 0 s.heap)
  (hS:s.heap.get? S=some {cls:=.type "list",dict:=none,data:=.seq #[] c,slots:=#[]})
  (h0:n=0→∀h' tk,(∀b o,b∉wr→b≠S→s.heap.get? b=some o→h'.get? b=some o)→R (.ok (.ret d)) {s with heap:=h',toks:=tk})
  (hR:0<n→∀v h' tk,P (nM bt (n-1)) v→(∀b o,b∉wr→b≠S→s.heap.get? b=some o→h'.get? b=some o)→R (.ok (.ret v)) {s with heap:=h',toks:=tk}):
  kW (model prog w) A (.builtin "min.loop" ⟨[.ref I,.none,.ref S],[(nm,d)]⟩) R s:=by
 have hSw:S∉wr:=fun h=>hSf (W.sub _ h)
 refine jC nI ?_
 rw[jA jL _]
 show wpAny _ A.in1 (oC (.ref S)>>=_) _ _ s
 refine a7 (iH hS rfl ?_)
 show wpAny _ A.in1 (tryCatch (lF (.ref I)) _>>=_) _ _ s
 by_cases hn:0<n
 ·refine a7 (lL (W.item 0 s _ _ hn hst fun v h' tk hP hst' hk'=>?_))
  have hS':=hk' S _ hSw hS
  show wpAny _ A.in1 (updateSeq S (fun _=> #[v,v])>>=_) _ _ _
  refine a7 (nT hS' rfl ?_)
  rw[ED]
  refine b6 ⟨kJ jL _,Oa W bt hcmp S hSf _ 0 _ v _ rfl hn (W.frame _ _ _ hst' fun b hbf o e=>?_) hP (jU _ hS' rfl) fun v' h'' tk'' hP' hk''=>?_⟩
  ·exact(iU _ _ (fun h:S=b=>hSf (by rw[h];exact hbf))).trans e
  ·exact hR hn v' h'' tk'' hP' fun b o hbw hbS e=>hk'' b o hbw hbS ((iU _ _ (Ne.symm hbS)).trans (hk' b o hbw e))
 ·have e0:n=0:=by omega
  refine a7 (lL (W.done s _ _ (by rw[e0];exact hst) fun h' tk hk'=>?_))
  show wpAny _ A.in1 (rule _>>=fun _=>ret d) _ _ _
  exact a7 (jB (b6 (h0 e0 h' tk fun b o hbw _ e=>hk' b o hbw e)))
end
section
variable{prog:Program}{w:World}{A:fG}{E:Value→a9→Prop}{s:a9}
theorem Ob{x d:Value}{Q:Value→a9→Prop}
  (h:wpAny (model prog w) A.in1 (oV x) (fun it s₂=>∃I fp wr n P St bt,it=.ref I∧Walks prog w A.in1 I fp wr n P St∧St 0 s₂.heap∧(∀b∈fp,b<s₂.heap.objs.size)∧CmpOf prog w A.in1 .Lt P bt∧
   (n=0→∀h' tk,(∀b o,b∉wr→s₂.heap.get? b=some o→h'.get? b=some o)→Q d {s₂ with heap:=h',toks:=tk})∧
   (0<n→∀v h' tk,P (nM bt (n-1)) v→(∀b o,b∉wr→s₂.heap.get? b=some o→h'.get? b=some o)→Q v {s₂ with heap:=h',toks:=tk})) E s):
  wpAny (model prog w) A (call (.builtin "min") [x] [("default",d)]) Q E s:=by
 refine nK (kR F.plain_min F.entry_min ?_)
 refine md (show nF "min" ⟨[x],[("default",d)]⟩=pure () by kernel_rfl) ?_
 show wpAny _ A.in1 (Builtin.Builtins.bindParams "min" ["key","default"] 0 ⟨[],[("default",d)]⟩>>=_) _ _ s
 refine a7 (md (show Builtin.Builtins.bindParams "min" ["key","default"] 0 ⟨[],[("default",d)]⟩=pure [none,some d] from rfl) ?_)
 refine a7 (b6 ?_)
 refine a7 (jM h (fun it s₂ h₂=>?_) fun _ _ e=>e)
 obtain⟨I,fp,wr,n,P,St,bt,rfl,W,hst,hfp,hcmp,q0,q1⟩:=h₂
 refine a7 (ic ?_)
 have hSf:s₂.heap.objs.size∉fp:=fun hm=>gU _ (hfp _ hm)
 rw[ED]
 refine b6 ⟨kJ jL _,Ly W bt hcmp s₂.heap.objs.size hSf (W.frame _ _ _ hst fun b _ o e=>c9 _ e) (fK _ rfl) (fun e0 h' tk hk=>?_) fun hn v h' tk hP hk=>?_⟩
 ·exact q0 e0 h' tk fun b o hbw e=>hk b o hbw (fS (fq e)) (c9 _ e)
 ·exact q1 hn v h' tk hP fun b o hbw e=>hk b o hbw (fS (fq e)) (c9 _ e)
end
section
variable{M:Model}{A:fG}{E:Value→a9→Prop}{s:a9}
theorem Im{pos:Pos}{id:String}{k:Str}{x y:Sem Value}{Q:Value→a9→Prop}
  (h:wpAny M A x (fun v s₁=>wpAny M A y (fun d s₂=>wpAny M A (call (.builtin id) [v] [(k,d)]) Q E s₂) E s₁) E s):
  wpAny M A (callWith pos (.builtin id) [] [(false,x)] [(some k,y)]) Q E s:=by
 unfold callWith
 refine a7 (gx (evalArgs_kw rfl (Calls.spliced_cons (jM h (fun v s₁ h₁=>?_) fun _ _ e=>e))))
 refine Calls.spliced_nil (wpAny_evalAll_cons (jM h₁ (fun d s₂ h₂=>wpAny_evalAll_nil ?_) fun _ _ e=>e))
 refine a7 (lh ?_)
 refine a7 (b6 ?_)
 exact a7 (jM h₂ (fun r s₃ hr=>a7 (gx (wpAny_point (b6 hr)))) fun _ _ e=>e)
end
section
variable{X:Cx}
def Eg(ns:List Int):Option Int→Prop
 |none=>ns=[]
 |some m=>Fu ns m
def dA:Option Int→V
 |none=> .non
 |some m=> .int m
theorem Tw{e:Expr}{te:TE}{p pos kp np:Pos}{j:Nat}(hc:X.calm=true)(hg:Gl X "min")(hm:X.mg "min" =none)(he:PE X e te)(hn:TL.Aq e=true):
  PE X (.Call (.Name "min" p) [e] [⟨some "default",.Constant .none j np,kp⟩] pos) (fun σ H Q=>te σ H fun v H1=>∃(a:Addr) (ns:List Int),v=.ref a∧Yq X.K H1 a (ns.map V.int)∧∀m,Eg ns m→Q (dA m) H1):=by
 intro pins s σ H Q I h
 refine lE (Dd I hg hm TL.XX ?_ (by decide) (by decide))
 rw[TL.Ap hn]
 refine Im (Ao (he pins s σ H _ I h) fun u s1 ⟨v,H1,I1,r1,q1⟩=>?_)
 obtain⟨a,ns,rfl,hq,q⟩:=q1
 cases r1
 refine a7 ?_
 show wpAny _ _ (eval (.Constant .none j np) X.env) _ _ _
 refine b6 (a7 (lh (b6 ?_)))
 obtain⟨its,rv,lt,wk⟩:=I1.walk hq
 have hl:its.length=ns.length:=by have:=rv.length;rw[e8] at this;exact this.symm
 refine Ob (wk X.A.in1 _ _ (I1.ok.hd hc) fun o St W st=> ⟨_,_,_,_,_,_,_,rfl,W,st,fun b hb=>?_,CmpOf.ints_lt (fun i=>ns.getD i 0) (fun i v hv=>CB rv i v hv),fun e0 h' tk hk=>?_,fun hn v h' tk hP hk=>?_⟩)
 ·show b< (s1.heap.push o).objs.size
  rw[iJ]
  simp only[fh,gC,or_false] at hb
  rcases hb with rfl|rfl
  ·exact km _
  ·exact jl lt
 ·exact⟨.non,H1,I1.kept (t':=tk) (Ft hk),rfl,q none (List.eq_nil_of_length_eq_zero (by omega))⟩
 ·obtain⟨t,rfl⟩:=CB rv _ v hP
  obtain⟨b1,b2⟩:=argBest_lt (fun i=>ns.getD i 0) (its.length-1)
  exact⟨.int _,H1,I1.kept (t':=tk) (Ft hk),⟨t,rfl⟩,q (some _) ⟨Fv (by omega),fun n hn=>by
   obtain⟨j,hj,rfl⟩:=k9 hn
   have:=b2 j (by omega)
   simpa[kZ,hj] using this⟩⟩
end
end L2
namespace L2.TL
open PySem PySem.Spec PySem.Calls PyProof.Rows
section
variable{Z:Zx}{ρ:List (Option T)}{O:AG}{e:Expr}{p pos kp np:Pos}{ns:List Int}{j:Nat}
def CC:Option Int→T
 |none=> .non
 |some m=> .int m
theorem KP{a b:Option Int}(ha:Eg ns a)(hb:Eg ns b):a=b:=by
 cases a with
 |none=>
  cases b with
  |none=>rfl
  |some m=>rw[show ns=[] from ha] at hb;exact absurd hb.1 (by simp)
 |some m=>
  cases b with
  |none=>rw[show ns=[] from hb] at ha;exact absurd ha.1 (by simp)
  |some k=>rw[nZ (ha.2 k hb.1) (hb.2 m ha.1)]
theorem Tz{m:Option Int}(hm:Eg ns m)(mm:Z.X.mg "min" =none)(hc:Z.X.calm=true)(h:ET Z ρ O e (.lst (ns.map T.int)))(hg:Gl Z.X "min":=by rfl)(hn:Aq e=true:=by rfl):
  ET Z ρ O (.Call (.Name "min" p) [e] [⟨some "default",.Constant .none j np,kp⟩] pos) (CC m):=fun Φ q=>
 PE.weak (Tw hc hg mm (h (fun t O'=>t=.lst (ns.map T.int)∧O'=O) ⟨rfl,rfl⟩) hn) fun σ H Q k=> ⟨k.1,by
  rintro v H' _ _ ⟨rfl,rfl⟩ f r
  obtain⟨a,xs,rfl,h1,o1,r1⟩:=r.lst_inv
  cases Reps.ints r1
  refine⟨a,ns,rfl,.inl (.inl (.inl h1)),fun m' hm'=>?_⟩
  cases KP hm' hm
  refine k.2 _ H' _ _ q f ?_
  cases m with
  |none=>exact .non
  |some m=>exact .int m⟩
end
end L2.TL
namespace L2
open PySem PySem.Spec PySem.Calls PyProof.Rows
section
variable{prog:Program}{w:World}{A:fG}{R:pF→a9→Prop}{I:Addr}{fp wr:List Addr}{n:Nat}{P:Nat→Value→Prop}{St:Nat→Heap→Prop}
end
section
variable{prog:Program}{w:World}{A:fG}{E:Value→a9→Prop}{s:a9}
end
section
variable{X:Cx}
end
end L2
namespace L2.TL
open PySem PySem.Spec PySem.Calls PyProof.Rows
section
variable{Z:Zx}{ρ:List (Option T)}{O:AG}{e:Expr}{p pos kp np:Pos}{ns:List Int}{j:Nat}
end
end L2.TL
namespace L2
open PySem PySem.Spec PyProof.Rows
open Sem (wp)
section
variable{prog:Program}{w:World}{A:fG}{E:Value→a9→Prop}{s:a9}
end
section
variable{prog:Program}{w:World}{A:fG}{E:Value→a9→Prop}{s:a9}
end
section
variable{prog:Program}{w:World}{A:fG}{E:Value→a9→Prop}{s:a9}
end
section
variable{M:Model}{A:fG}{E:Value→a9→Prop}{s:a9}
end
section
variable{X:Cx}
end
section
variable{X:Cx}{tg:Expr}
end
end L2
namespace L2.TL
open PySem PySem.Spec PyProof.Rows
section
variable{Z:Zx}{ρ:List (Option T)}{O:AG}{a tg:Expr}{ts:List T}{p pos:Pos}
end
open PySem.Builtin PySem.Builtin.Str
section
variable{Z:Zx}{ρ:List (Option T)}{O:AG}{a b e:Expr}{p pos:Pos}{x y:Str}{i:Int}{K:a8}
end
structure Fi(K:a8)(x:Str)(st:Stmt)(f:Addr)(fd:fF):Prop where
 F:Fun K x x st f fd
 a:jj K gS x=some (some (.ref f))
def Fx(K:a8)(x:Str)(st:Stmt):Prop:=∃f fd,Fi K x st f fd
def Zn(K:a8)(x:Str):Prop:=jj K gS x=some none
def Cn(K:a8)(x:Str)(C:Addr):Prop:=jj K gS x=some (some (.ref C))
structure Mg(P:Program)(w:World)(K:a8)(mg:Str→Option Value)(base:Heap):Prop where
 mm:∀{x:Str} {v:Value},jj K gS x=some (some v)→mg x=some v
section
variable{P:Program}{w:World}{K:a8}{mg:Str→Option Value}{base:Heap}{x:Str}{st:Stmt}{f:Addr}{fd:fF}{ps:List Str}{k:Nat}
theorem fi{oc:Value}{od:Option Addr}{kV doc pm:Value}{an:Option Addr}{cdv ct:Value}{osl:Array (Option Value)}(a:jj K gS x=some (some (.ref f)))(l:K.lookup f=some ⟨oc,od,.func (kX x x (Ds st) (Aw st) (AA st) .none kV doc pm an cdv ct),osl⟩)(q:oj K cdv x=true)(h:jP K (.ref f)=true):
  Fx K x st:=⟨f,_,⟨⟨⟨oc,od,kV,doc,pm,an,cdv,ct,osl,rfl,l,q⟩,h⟩,a⟩⟩
abbrev Bi(x:Str)(st:Stmt)(ps:List Str)(us:List Value):Prop:=∀(kV doc pm:Value) (an:Option Addr) (cdv ct:Value),bindArgs (kX x x (Ds st) (Aw st) (AA st) .none kV doc pm an cdv ct) ⟨us,[]⟩=pure (ps.zip us)
theorem Fi.b1(h:Fi K x st f fd)(hl:ps.length=1)(q:∀a,Bi x st ps [a]):Binds K fd ps []:=h.F.binds fun _ _ _ _ _ _ us e=>match us,e.trans hl with| [a],_=>q a ..
theorem Fi.b2(h:Fi K x st f fd)(hl:ps.length=2)(q:∀a b,Bi x st ps [a,b]):Binds K fd ps []:=h.F.binds fun _ _ _ _ _ _ us e=>match us,e.trans hl with| [a,b],_=>q a b ..
theorem Fi.b3(h:Fi K x st f fd)(hl:ps.length=3)(q:∀a b c,Bi x st ps [a,b,c]):Binds K fd ps []:=h.F.binds fun _ _ _ _ _ _ us e=>match us,e.trans hl with| [a,b,c],_=>q a b c ..
theorem Fi.t{s:BX}(h:Fi K x st f fd)(M:Mg P w K mg base)(ok:FnOk P w K mg base (CXe P w) k f fd ps (BY K s))(b:Binds K fd ps []):FnT P w K mg base x k ps s:=⟨f,fd,ok,M.mm h.a,h.F.kp,b⟩
end
end L2.TL
namespace L2
open PySem PySem.Spec PySem.Calls PyProof.Rows Builtin.ObjectAttr
section
variable{prog:Program}{w:World}{A:fG}{E:Value→a9→Prop}{s:a9}{K:a8}{x dx C f:Addr}{name:Str}{v:Value}
end
section
variable{prog:Program}{w:World}{A:fG}{E:Value→a9→Prop}{s:a9}{K:a8}{x dx C f:Addr}{name:Str}{v:Value}
end
section
variable{prog:Program}{w:World}{A:fG}{E:Value→a9→Prop}{s:a9}{K:a8}{C f:Addr}
end
section
variable{X:Cx}{pins:List (Addr×Obj)}{σ:St}{H:Hp}{s:a9}
end
section
variable{X:Cx}{o value:Expr}{n:Str}{pos pos':Pos}{ta tv:TE}
end
end L2
namespace L2.TL
open PySem PySem.Spec PySem.Calls PyProof.Rows
section
variable{Z:Zx}{ρ:List (Option T)}{O:AG}{e a b:Expr}{es:List Expr}{Ψ:Es}{Φ:BJ}{pos p:Pos}{t:T}{ts:List T}{x:Str}
end
end L2.TL
namespace L2
open PySem PySem.Spec PySem.Calls PyProof.Rows
end L2
namespace L2.TL
open PySem PySem.Spec PySem.Calls PyProof.Rows
section
variable{Z:Zx}{ρ:List (Option T)}{O O':AG}{e a b:Expr}{es:List Expr}{Ψ:Es}{Φ:BJ}{pos p:Pos}{t:T}{ts:List T}{x y C D:Addr}{H':Hp}{o:HO}{cls:Value}{fs:Str}
end
section
variable{P:Program}{w:World}{K:a8}{mg:Str→Option Value}{base:Heap}
end
section
variable{P:Program}{w:World}{K:a8}{mg:Str→Option Value}{base:Heap}{C R f:Addr}{q x:Str}{st:Stmt}{fd:fF}
end
section
variable{K:a8}{O O':AG}{H:Hp}
end
section
variable{Z:Zx}{ρ:List (Option T)}{O:AG}{e a b:Expr}{es:List Expr}{Ψ:Es}{Φ:BJ}{pos p:Pos}{t:T}{ts ts' us:List T}{x:Str}{l:Addr}
end
end L2.TL
namespace L2
open PySem PySem.Spec PyProof.Rows
section
variable{X:Cx}{W:St→XK}
end
end L2
namespace L2.TL
open PySem PySem.Spec PyProof.Rows
section
variable{Z:Zx}{ρ:List (Option T)}{O:AG}{Φ:BJ}{p pos:Pos}{x:Str}{t:T}
end
section
variable{Z:Zx}{ρ:List (Option T)}{O:AG}{Ψ:Es}{a b o e:Expr}{apos cpos pos:Pos}{bs:List Bool}{i:Int}{ns:List Int}
theorem Qk(i j:Nat){x y:Str}{a b:Expr}{px py pt pos:Pos}{kt k2 pt2}(hc:Z.X.calm=true)(hN:Z.X.N.Nodup)(h:WA Z ρ O [a,b] fun ts O'=>∃t u,ts=[t,u]∧Ψ.nx ((ρ.set i (some t)).set j (some u)) O')
  (hi:Z.X.N[i]?=some x:=by rfl) (hj:Z.X.N[j]?=some y:=by rfl) (hij:i≠j:=by decide) (hx:Z.X.env.scope.names.lookup x=some .local:=by rfl) (hy:Z.X.env.scope.names.lookup y=some .local:=by rfl)
  (hw:nr [.Tuple [.Name x px,.Name y py] kt pt] (.Tuple [a,b] k2 pt2) Z.X.env=pure (some [x,y]):=by rfl)
  (hs:nj [.Tuple [.Name x px,.Name y py] kt pt] (.Tuple [a,b] k2 pt2) pos.line Z.X.env=pure false:=by rfl):
  WS Z ρ O (.Assign [.Tuple [.Name x px,.Name y py] kt pt] (.Tuple [a,b] k2 pt2) pos) Ψ:=
 PS.weak (WK hc hN hi hj hij hx hy h hw hs) fun D σ H q=> ⟨q.1,fun vs H' ts O' ⟨t,u,e,p⟩ f r=>by
  subst e
  obtain⟨v,w,rfl,r1,r2⟩:=r.two_inv
  exact⟨v,w,rfl,q.2.nx _ O' _ H' p ⟨((q.1.step f).rl.set r1).set r2,(q.1.step f).fr⟩ f.kp⟩⟩
end
end L2.TL
namespace L2
open PySem PySem.Spec PyProof.Rows
section
variable{X:Cx}{pos:Pos}
end
end L2
namespace L2.TL
open PySem PySem.Spec PyProof.Rows
section
variable{Z:Zx}{ρ:List (Option T)}{O:AG}{x y z:Str}{p1 p2 p3 pos:Pos}{k:Nat}{ta tb tc:T}{fe e:Expr}{es:List Expr}{Φ:BJ}
end
end L2.TL
namespace GrR
variable{R:Int→Int→Prop}{S L M:List Int}{a b p q u v x y:Int}{i j k d s e:Nat}{nb:Int→List Int}{n:Int}
theorem UA(h:IsD R S v j):∃x∈S,∃L,Ch R (x::L)∧(x::L).Nodup∧(x::L).getLast?=some v∧L.length=j∧(∀y∈x::L,y=v∨∃i,i<j∧IsD R S y i)∧∀y∈L,y∉S:=by
 induction j generalizing v with
 |zero=>
  cases h.1 with
  |«at» hv=>exact⟨v,hv,[],trivial,by simp,rfl,rfl,fun y hy=> .inl (b9.mp hy),fun y hy=>by cases hy⟩
 |succ j ih=>
  obtain⟨u,hu,r⟩:=h.prev
  obtain⟨x,hx,L,l1,l2,l3,l4,l5,l6⟩:=ih hu
  obtain⟨M,eM⟩:∃M,x::L=M++[u]:=iX.mp l3
  have lev:∀y∈x::L,∃i,i<j+1∧IsD R S y i:=fun y hy=>by
   rcases l5 y hy with rfl| ⟨i,hi,q⟩
   ·exact⟨j,by omega,hu⟩
   ·exact⟨i,by omega,q⟩
  refine⟨x,hx,L++[v],?_,?_,?_,by simp[l4],fun y hy=>?_,fun y hy hs=>?_⟩
  ·rw[←gj,eM]
   exact Ce.mpr ⟨eM▸l1,r⟩
  ·rw[←gj,gu]
   refine⟨l2,by simp,fun y hy z hz e=>?_⟩
   rw[b9.mp hz] at e
   subst e
   obtain⟨i,hi,q⟩:=lev y hy
   have:=q.uniq h
   omega
  ·rw[←gj,iP]
   rfl
  ·rw[←gj] at hy
   rcases fI.mp hy with hy|hy
   ·exact .inr (lev y hy)
   ·exact .inl (b9.mp hy)
  ·rcases fI.mp hy with hy|hy
   ·exact l6 y hy hs
   ·rw[b9.mp hy] at hs
    exact h.2 0 (by omega) (.at hs)
theorem join(sy:∀u v,R u v→R v u)(hS:∀x∈S,∀y∈S,x=y∨(R x y∧1≤e))(hx:x∈S)(hy:y∈S)(h1:Ch R (x::L))(h2:Ch R (y::M))(n1:(x::L).Nodup)(n2:(y::M).Nodup)(o1:∀z∈L,z∉S)(o2:∀z∈M,z∉S)(t1:(x::L).getLast?=some v)(t2:(y::M).getLast?=some v)(ne:x=y→L≠M):∃Q,Ring R Q∧Q.length≤L.length+M.length+e:=by
 rcases hS x hx y hy with rfl| ⟨r,he⟩
 ·obtain⟨Q,r,l⟩:=EC sy h1 h2 n1 n2 t1 t2 (ne rfl)
  exact⟨Q,r,by omega⟩
 ·by_cases exy:x=y
  ·subst exy
   obtain⟨Q,r,l⟩:=EC sy h1 h2 n1 n2 t1 t2 (ne rfl)
   exact⟨Q,r,by omega⟩
  ·obtain⟨Q,r,l⟩:=EC (p:=L) (q:=y::M) sy h1 ⟨r,h2⟩ n1 (fH.mpr ⟨fun h=>by
    rcases fh.mp h with h|h
    ·exact exy h
    ·exact o2 x h hx,n2⟩) t1 (by rw[gG];exact t2) (fun z=>o1 y (by rw[z];simp) hy)
   exact⟨Q,r,by simp only[fu] at l;omega⟩
theorem Lz(sy:∀u v,R u v→R v u)(hS:∀x∈S,∀y∈S,x=y∨(R x y∧1≤e))(least:∀M,Ring R M→s≤M.length)(hs:2*(j+1)+e<s)(hv:IsD R S v (j+1))(h1:IsD R S a j)(h2:IsD R S b j)(r1:R a v)(r2:R b v):a=b:=by
 obtain⟨x,hx,L,l1,l2,l3,l4,l5,l6⟩:=UA h1
 obtain⟨y,hy,M,m1,m2,m3,m4,m5,m6⟩:=UA h2
 have nv:v∉S:=fun h=>hv.2 0 (by omega) (.at h)
 have app:∀{x:Int} {L:List Int} {a:Int},Ch R (x::L)→(x::L).getLast?=some a→R a v→Ch R (x::(L++[v])):=fun{x L a} h1 h2 h3=>by
  obtain⟨M,eM⟩:∃M,x::L=M++[a]:=iX.mp h2
  rw[←gj,eM]
  exact Ce.mpr ⟨eM▸h1,h3⟩
 have nd:∀{x:Int} {L:List Int} {a:Int},IsD R S a j→(x::L).Nodup→(∀y∈x::L,y=a∨∃i,i<j∧IsD R S y i)→(x::(L++[v])).Nodup:=fun{x L a} ha h1 h2=>by
  rw[←gj,gu]
  refine⟨h1,by simp,fun y hy z hz e=>?_⟩
  rw[b9.mp hz] at e
  subst e
  rcases h2 y hy with rfl| ⟨i,hi,q⟩
  ·have:=ha.uniq hv
   omega
  ·have:=q.uniq hv
   omega
 have out:∀{L:List Int},(∀y∈L,y∉S)→∀y∈L++[v],y∉S:=fun{L} h y hy=>by
  rcases fI.mp hy with hy|hy
  ·exact h y hy
  ·rw[b9.mp hy]
   exact nv
 by_cases ab:a=b
 ·exact ab
 ·obtain⟨Q,r,l⟩:=join (v:=v) sy hS hx hy (app l1 l3 r1) (app m1 m3 r2) (nd h1 l2 l5) (nd h2 m2 m5) (out l6) (out m6) (by rw[←gj,iP];rfl) (by rw[←gj,iP];rfl) (fun exy z=>by
   subst exy
   have:L=M:=List.append_cancel_right z
   subst this
   rw[l3] at m3
   cases m3
   exact ab rfl)
  have:=least Q r
  simp only[fE,fu,iQ] at l
  omega
theorem Ql(sy:∀u v,R u v→R v u)(ir:∀u,¬R u u)(hS:∀x∈S,∀y∈S,x=y∨(R x y∧1≤e))(least:∀M,Ring R M→s≤M.length)(hj:1≤j)(hs:2*j+1+e<s)(h1:IsD R S a j)(h2:IsD R S b j):¬R a b:=fun r=>by
 obtain⟨x,hx,L,l1,l2,l3,l4,l5,l6⟩:=UA h1
 obtain⟨y,hy,M,m1,m2,m3,m4,m5,m6⟩:=UA h2
 have nv:b∉S:=fun h=>h2.2 0 (by omega) (.at h)
 obtain⟨Q,q,l⟩:=join (v:=b) (L:=L++[b]) sy hS hx hy (by
  obtain⟨N,eN⟩:∃N,x::L=N++[a]:=iX.mp l3
  rw[←gj,eN]
  exact Ce.mpr ⟨eN▸l1,r⟩) m1 (by
  rw[←gj,gu]
  refine⟨l2,by simp,fun y hy z hz e=>?_⟩
  rw[b9.mp hz] at e
  subst e
  rcases l5 y hy with rfl| ⟨i,hi,q⟩
  ·exact ir _ r
  ·have:=q.uniq h2
   omega) m2 (fun z hz=>by
  rcases fI.mp hz with hz|hz
  ·exact l6 z hz
  ·rw[b9.mp hz];exact nv) m6 (by rw[←gj,iP];rfl) m3 (fun _ z=>by
   have:=congrArg List.length z
   simp only[fE,fu,iQ] at this
   omega)
 have:=least Q q
 simp only[fE,fu,iQ] at l
 omega
def LV(R:Int→Int→Prop)(S:List Int)(j:Nat)(l:List Int):Prop:=l.Nodup∧∀v,v∈l↔IsD R S v j
theorem CD{l l':List Int}(h:l.Nodup)(h':l'.Nodup)(e:∀v,v∈l↔v∈l'):l.length=l'.length:=((List.perm_ext_iff_of_nodup h h').mpr e).length_eq
theorem UB{l:List Int}(h:l.Nodup)(hm:x∈l):(l.filter fun v=>decide (v≠x)).length+1=l.length:=by
 have:((x::l.filter fun v=>decide (v≠x))).length=l.length:=CD (fH.mpr ⟨fun h=>by simp at h,h.filter _⟩) h fun v=>by
  simp only[fh,fO,decide_eq_true_eq]
  by_cases c:v=x
  ·subst c;simp[hm]
  ·simp[c]
 simpa using this
theorem NJ{f:Int→List Int}:∀{l:List Int},l.Nodup→(∀u∈l,(f u).Nodup)→(∀u∈l,∀w∈l,∀v,v∈f u→v∈f w→u=w)→(l.flatMap f).Nodup
 | [],_,_,_=>by simp
 |u::l,h,h1,h2=>by
  rw[fH] at h
  rw[m8,gu]
  refine⟨h1 u (by simp),NJ h.2 (fun w hw=>h1 w (by simp[hw])) (fun w hw z hz=>h2 w (by simp[hw]) z (by simp[hz])),fun v hv w hw e=>?_⟩
  subst e
  obtain⟨z,hz,hv2⟩:=jv.mp hw
  have:=h2 u (by simp) z (by simp[hz]) v hv hv2
  subst this
  exact h.1 hz
theorem KQ{f:Int→List Int}{c:Nat}:∀{l:List Int},(∀u∈l,(f u).length=c)→(l.flatMap f).length=c*l.length
 | [],_=>by simp
 |u::l,h=>by
  rw[m8,fE,h u (by simp),KQ (l:=l) (fun w hw=>h w (by simp[hw])),fu,Nat.mul_succ,Nat.add_comm]
theorem aL{l l':List Int}(hR:∀u v,v∈nb u↔R u v)(hn:∀u,(nb u).Nodup)(hd:∀u∈l,(nb u).length=d+1)(h:LV R S j l)(h':LV R S (j+1) l')(hw:∀u∈l,∃w,R u w∧∀v,R u v→(v≠w↔IsD R S v (j+1)))(up:∀u∈l,∀w∈l,∀v,IsD R S v (j+1)→R u v→R w v→u=w):l'.length=d*l.length:=by
 classical
 have e:∀u∈l,((nb u).filter fun v=>decide (IsD R S v (j+1))).length=d:=fun u hu=>by
  obtain⟨w,rw',hv⟩:=hw u hu
  have:=UB (hn u) ((hR u w).mpr rw')
  rw[hd u hu] at this
  rw[show((nb u).filter fun v=>decide (IsD R S v (j+1)))=(nb u).filter fun v=>decide (v≠w) from List.filter_congr fun v hm=>by
   have:=hv v ((hR u v).mp hm)
   simp only[decide_eq_decide]
   exact this.symm]
  omega
 rw[←KQ e]
 refine CD h'.1 (NJ h.1 (fun u _=> (hn u).filter _) (fun u hu w hw v h1 h2=>?_)) fun v=>?_
 ·rw[fO,decide_eq_true_eq] at h1 h2
  exact up u hu w hw v h1.2 ((hR ..).mp h1.1) ((hR ..).mp h2.1)
 ·rw[h'.2 v,jv]
  constructor
  ·intro hv
   obtain⟨u,hu,r⟩:=hv.prev
   exact⟨u,(h.2 u).mpr hu,fO.mpr ⟨(hR ..).mpr r,decide_eq_true hv⟩⟩
  ·rintro⟨u,_,hm⟩
   rw[fO,decide_eq_true_eq] at hm
   exact hm.2
theorem Qm(sy:∀u v,R u v→R v u)(hu:IsD R S u (j+1))(r:R u v):∃i,j≤i∧i≤j+2∧IsD R S v i:=by
 obtain⟨i,hi,q⟩:=(W.go hu.1 r).least
 refine⟨i,?_,hi,q⟩
 by_cases c:j≤i
 ·exact c
 ·exact absurd (W.go q.1 (sy _ _ r)) (hu.2 _ (by omega))
theorem NK{l l':List Int}(sy:∀u v,R u v→R v u)(ir:∀u,¬R u u)(hS:∀x∈S,∀y∈S,x=y∨(R x y∧1≤e))(least:∀M,Ring R M→s≤M.length)(hs:2*(j+2)+e<s)(hR:∀u v,v∈nb u↔R u v)(hn:∀u,(nb u).Nodup)(hd:∀u∈l,(nb u).length=d+1)(h:LV R S (j+1) l)(h':LV R S (j+2) l'):l'.length=d*l.length:=by
 refine aL hR hn hd h h' (fun u hu=>?_) (fun u hu w hw v hv r1 r2=>Lz sy hS least hs hv ((h.2 u).mp hu) ((h.2 w).mp hw) r1 r2)
 have hu:=(h.2 u).mp hu
 obtain⟨w,hw,r⟩:=hu.prev
 refine⟨w,sy _ _ r,fun v rv=> ⟨fun ne=>?_,fun hv z=>?_⟩⟩
 ·obtain⟨i,h1,h2,q⟩:=Qm sy hu rv
  have:i=j∨i=j+1∨i=j+2:=by omega
  rcases this with rfl|rfl|rfl
  ·exact absurd (Lz sy hS least (by omega) hu q hw (sy _ _ rv) r) ne
  ·exact absurd rv (Ql sy ir hS least (by omega) (by omega) hu q)
  ·exact q
 ·subst z
  have:=hv.uniq hw
  omega
theorem MA(sy:∀u v,R u v→R v u)(ir:∀u,¬R u u)(least:∀M,Ring R M→s≤M.length)(hR:∀u v,v∈nb u↔R u v)(hn:∀u,(nb u).Nodup)(hb:∀u v,R u v→0≤v∧v<n)(hd:∀u,0≤u→u<n→(nb u).length=d+1)(hp:0≤p∧p<n){F:Nat→List Int}(hF:∀i,LV R [p] i (F i)):∀i,2*(i+1)<s→(F (i+1)).length=(d+1)*d^i
 |0,_=>by
  rw[Nat.pow_zero,Nat.mul_one,←hd p hp.1 hp.2]
  refine CD (hF 1).1 (hn p) fun v=>?_
  rw[(hF 1).2,hR]
  constructor
  ·intro h
   obtain⟨u,hu,r⟩:=IsD.prev (s:=0) h
   cases hu.1 with
   |«at» h=>rw[b9.mp h] at r;exact r
  ·intro r
   refine⟨.go (.at (by simp)) r,fun j hj w=>?_⟩
   have:j=0:=by omega
   subst this
   cases w with
   |«at» h=>rw[b9.mp h] at r;exact ir _ r
 |i+1,hs=>by
  have ih:=MA sy ir least hR hn hb hd hp hF i (by omega)
  rw[NK (e:=0) sy ir (fun x hx y hy=> .inl (by rw[b9.mp hx,b9.mp hy])) least hs hR hn (fun u hu=>by
   have:=(((hF (i+1)).2 u).mp hu).1.inb (n:=n) hb (fun z hz=>by rw[b9.mp hz];exact hp)
   exact hd u this.1 this.2) (hF (i+1)) (hF (i+2)),ih,nQ]
  rw[pz,Nat.mul_assoc]
theorem Qn(sy:∀u v,R u v→R v u)(ir:∀u,¬R u u)(least:∀M,Ring R M→s≤M.length)(hR:∀u v,v∈nb u↔R u v)(hn:∀u,(nb u).Nodup)(hb:∀u v,R u v→0≤v∧v<n)(hd:∀u,0≤u→u<n→(nb u).length=d+1)(r:R a b){F:Nat→List Int}(hF:∀i,LV R [a,b] i (F i)):∀i,2*i+1<s→(F i).length=2*d^i
 |0,_=>by
  have ne:a≠b:=fun z=>ir b (z▸r)
  rw[Nat.pow_zero]
  refine CD (l':=[a,b]) (hF 0).1 (by simp[ne]) fun v=>?_
  rw[(hF 0).2]
  exact⟨fun h=>by cases h.1 with|«at» h=>exact h,fun h=> ⟨.at h,fun j hj=>by omega⟩⟩
 |i+1,hs=>by
  have ih:=Qn sy ir least hR hn hb hd r hF i (by omega)
  have hab:=hb _ _ r
  have hba:=hb _ _ (sy _ _ r)
  have hS:∀x∈[a,b],∀y∈[a,b],x=y∨(R x y∧1≤1):=fun x hx y hy=>by
   simp only[fh,gC,or_false] at hx hy
   rcases hx with rfl|rfl<;>rcases hy with rfl|rfl
   ·exact .inl rfl
   ·exact .inr ⟨r,fj _⟩
   ·exact .inr ⟨sy _ _ r,fj _⟩
   ·exact .inl rfl
  have hl:∀i,∀u∈F i,(nb u).length=d+1:=fun i u hu=>by
   have:=(((hF i).2 u).mp hu).1.inb (n:=n) hb (fun z hz=>by
    simp only[fh,gC,or_false] at hz
    rcases hz with rfl|rfl
    ·exact hba
    ·exact hab)
   exact hd u this.1 this.2
  rw[nQ,←Nat.mul_assoc,←ih,pz]
  cases i with
  |succ i=>exact NK (e:=1) sy ir hS least (by omega) hR hn (hl _) (hF (i+1)) (hF (i+2))
  |zero=>
   refine aL hR hn (hl 0) (hF 0) (hF 1) (fun u hu=>?_) (fun u hu w hw v hv r1 r2=>Lz (e:=1) sy hS least (by omega) hv (((hF 0).2 u).mp hu) (((hF 0).2 w).mp hw) r1 r2)
   have h0:=(((hF 0).2 u).mp hu).1
   have key:∀u w,u∈[a,b]→w∈[a,b]→R u w→(∀z∈[a,b],z=u∨z=w)→∀v,R u v→(v≠w↔IsD R [a,b] v 1):=fun u w hu hw ruw al v rv=>by
    constructor
    ·intro ne
     refine⟨.go (.at hu) rv,fun j hj w'=>?_⟩
     have:j=0:=by omega
     subst this
     cases w' with
     |«at» h=>
      rcases al v h with rfl|rfl
      ·exact ir _ rv
      ·exact ne rfl
    ·intro hv z
     subst z
     exact hv.2 0 (by omega) (.at hw)
   cases h0 with
   |«at» h=>
    simp only[fh,gC,or_false] at h
    rcases h with rfl|rfl
    ·exact⟨b,r,key u b (by simp) (by simp) r (fun z hz=>by simpa using hz)⟩
    ·exact⟨a,sy _ _ r,key u a (by simp) (by simp) (sy _ _ r) (fun z hz=>by
      simp only[fh,gC,or_false] at hz
      exact hz.symm)⟩
def CF(f:Nat→Nat):Nat→Nat
 |0=>0
 |k+1=>CF f k+f k
theorem NL(hb:∀u v,R u v→0≤v∧v<n)(hS:∀z∈S,0≤z∧z<n){F:Nat→List Int}(hF:∀i,LV R S i (F i))(k:Nat):∃l:List Int,l.Nodup∧(∀v,v∈l↔∃i,i<k∧IsD R S v i)∧l.length=CF (fun i=> (F i).length) k:=by
 induction k with
 |zero=>exact⟨[],by simp,fun v=>by simp,rfl⟩
 |succ k ih=>
  obtain⟨l,h1,h2,h3⟩:=ih
  refine⟨l++F k,?_,fun v=>?_,by rw[fE,h3];rfl⟩
  ·rw[gu]
   refine⟨h1,(hF k).1,fun u hu w hw e=>?_⟩
   subst e
   obtain⟨i,hi,q⟩:=(h2 u).mp hu
   have:=q.uniq (((hF k).2 u).mp hw)
   omega
  ·rw[fI,h2,(hF k).2]
   constructor
   ·rintro(⟨i,hi,q⟩|q)
    ·exact⟨i,by omega,q⟩
    ·exact⟨k,by omega,q⟩
   ·rintro⟨i,hi,q⟩
    by_cases c:i<k
    ·exact .inl ⟨i,c,q⟩
    ·have:i=k:=by omega
     subst this
     exact .inr q
theorem Qo(hb:∀u v,R u v→0≤v∧v<n)(hS:∀z∈S,0≤z∧z<n){F:Nat→List Int}(hF:∀i,LV R S i (F i))(k:Nat):CF (fun i=> (F i).length) k≤n.toNat:=by
 obtain⟨l,h1,h2,h3⟩:=NL hb hS hF k
 rw[←h3]
 refine Gr.GM h1 fun z hz=>?_
 obtain⟨i,_,q⟩:=(h2 z).mp hz
 exact q.1.inb hb hS
theorem NM(hb:∀u v,R u v→0≤v∧v<n)(hS:∀z∈S,0≤z∧z<n){F:Nat→List Int}(hF:∀i,LV R S i (F i))(k:Nat)(he:n.toNat≤CF (fun i=> (F i).length) k)(v0:0≤v)(v1:v<n):∃i,i<k∧IsD R S v i:=by
 obtain⟨l,h1,h2,h3⟩:=NL hb hS hF k
 by_cases c:v∈l
 ·exact(h2 v).mp c
 ·have:=Gr.GM (n:=n) (L:=v::l) (fH.mpr ⟨c,h1⟩) fun z hz=>by
   rcases fh.mp hz with rfl|hz
   ·exact⟨v0,v1⟩
   ·obtain⟨i,_,q⟩:=(h2 z).mp hz
    exact q.1.inb hb hS
  rw[fu] at this
  omega
theorem Qp(sy:∀u v,R u v→R v u)(ir:∀u,¬R u u)(hR:∀u v,v∈nb u↔R u v)(hn:∀u,(nb u).Nodup)(hb:∀u v,R u v→0≤v∧v<n)(hd:∀u,0≤u→u<n→(nb u).length=d+1)(d1:1≤d)(hp:0≤p∧p<n){F:Nat→List Int}(hF:∀i,LV R [p] i (F i)):∃M,Ring R M:=by
 by_cases h:∃M,Ring R M
 ·exact h
 ·have:=MA (s:=2*(n.toNat+1)+1) sy ir (fun M r=>absurd ⟨M,r⟩ h) hR hn hb hd hp hF n.toNat (by omega)
  have pos:0< (d+1)*d^n.toNat:=Nat.mul_pos (by omega) (Nat.pow_pos (by omega))
  rw[←this] at pos
  obtain⟨v,hv⟩:=List.exists_mem_of_length_pos pos
  have:=(((hF _).2 v).mp hv).lt hb (fun z hz=>by rw[b9.mp hz];exact hp)
  omega
open Classical in
def aM (R:Int→Int→Prop) (S:List Int) (n:Int) (i:Nat):List Int:=((fY n.toNat).map fun(j:Nat)=> (j:Int)).filter fun v=>decide (IsD R S v i)
theorem MB(hb:∀u v,R u v→0≤v∧v<n)(hS:∀z∈S,0≤z∧z<n)(i:Nat):LV R S i (aM R S n i):=by
 refine⟨kS _ ?_,fun v=>?_⟩
 ·rw[gP]
  exact List.nodup_range.imp fun{a b} h z=>h (by omega)
 ·classical
  unfold aM
  rw[fO,fo]
  refine⟨fun h=>of_decide_eq_true h.2,fun h=> ⟨?_,decide_eq_true h⟩⟩
  have:=h.1.inb hb hS
  exact⟨v.toNat,fW.mpr (by omega),by omega⟩
theorem Io{f g:Nat→Nat}:∀k,(∀i,i<k→f i=g i)→CF f k=CF g k
 |0,_=>rfl
 |k+1,h=>by show CF f k+f k=CF g k+g k;rw[Io k fun i hi=>h i (by omega),h k (by omega)]
theorem Hf{f:Nat→Nat}:∀k,CF f (k+1)=f 0+CF (fun i=>f (i+1)) k
 |0=>by show 0+f 0=f 0+0;omega
 |k+1=>by show CF f (k+1)+f (k+1)=f 0+(CF (fun i=>f (i+1)) k+f (k+1));rw[Hf k];omega
theorem Qq{l:List Int}(h:LV R [p] 0 l):l.length=1:=CD (l':=[p]) h.1 (by simp) fun v=>by
 rw[h.2]
 exact⟨fun h=>by cases h.1 with|«at» h=>exact h,fun h=> ⟨.at h,fun j hj=>by omega⟩⟩
theorem UC(sy:∀u v,R u v→R v u)(ir:∀u,¬R u u)(least:∀M,Ring R M→s≤M.length)(hR:∀u v,v∈nb u↔R u v)(hn:∀u,(nb u).Nodup)(hb:∀u v,R u v→0≤v∧v<n)(hd:∀u,0≤u→u<n→(nb u).length=d+1)(hp:0≤p∧p<n){F:Nat→List Int}(hF:∀i,LV R [p] i (F i))(k:Nat)(hk:2*k<s):CF (fun i=> (F i).length) (k+1)=1+CF (fun i=> (d+1)*d^i) k:=by
 rw[Hf,Qq (hF 0),Io k fun i hi=>MA sy ir least hR hn hb hd hp hF i (by omega)]
theorem UD(sy:∀u v,R u v→R v u)(ir:∀u,¬R u u)(least:∀M,Ring R M→s≤M.length)(hR:∀u v,v∈nb u↔R u v)(hn:∀u,(nb u).Nodup)(hb:∀u v,R u v→0≤v∧v<n)(hd:∀u,0≤u→u<n→(nb u).length=d+1)(r:R a b){F:Nat→List Int}(hF:∀i,LV R [a,b] i (F i))(k:Nat)(hk:2*k≤s):CF (fun i=> (F i).length) k=CF (fun i=>2*d^i) k:=Io k fun i hi=>Qn sy ir least hR hn hb hd r hF i (by omega)
variable{R R':Int→Int→Prop}{S L:List Int}{a b u v:Int}{i j k d s:Nat}{nb:Int→List Int}{n:Int}{σ:Int→Int}
theorem UE{l:List Int}(h1:a∈l)(h2:b∈l)(ne:a≠b):2≤l.length:=by
 match l,h1,h2 with
 | [x],h1,h2=>exact absurd ((b9.mp h1).trans (b9.mp h2).symm) ne
 |_::_::_,_,_=>simp
theorem Qr(hR:∀u v,v∈nb u↔R u v)(sy:∀u v,R u v→R v u)(r:Ring R L):∃x∈L,2≤(nb x).length:=by
 match L,r with
 |x::y::z::L,r=>
  obtain⟨t,ht⟩:∃t,(x::y::z::L).getLast?=some t:=⟨_,mR⟩
  have hm:t∈z::L:=by
   rw[gG,gG] at ht
   exact je ht
  have nd:=r.nd
  refine⟨x,by simp,UE ((hR x y).mpr r.ch.1) ((hR x t).mpr (sy _ _ (r.cl x t rfl ht))) fun e=>?_⟩
  rw[e] at nd
  have:=(fH.mp (fH.mp nd).2).1
  exact this hm
 | [],r=>exact absurd r.len (by decide)
 | [_],r=>exact absurd r.len (by simp)
 | [_,_],r=>exact absurd r.len (by simp)
theorem aN(h:R a b)(w:W R [a,b] k v):∃j,j≤k+1∧W R [a] j v:=by
 induction w with
 |«at» hm=>
  simp only[fh,gC,or_false] at hm
  rcases hm with rfl|rfl
  ·exact⟨0,by omega,.at (by simp)⟩
  ·exact⟨1,by omega,.go (.at (by simp)) h⟩
 |go _ r ih=>
  obtain⟨j,hj,w⟩:=ih
  exact⟨j+1,by omega,.go w r⟩
end GrR
namespace SrtG
open PySem PySem.Calls PySem.W PyProof.Rows
def RowAt(h:Heap)(v:Value)(r:List Int):Prop:=∃x o xs n,v=.ref x∧h.get? x=some o∧o.cls=.type "tuple"∧o.data=.seq (lQ xs) n∧jT xs r
def Xj:Value→Option Int
 | .int a _=>some a
 |_=>none
theorem NN:∀{vs:List Value} {ns:List Int},jT vs ns→vs.filterMap Xj=ns
 |_,_,.nil=>rfl
 |_,_,.cons n t r=>by rw[iw];show n::_=_;rw[NN r]
variable{prog:Program}{w:World}{A:fG}{E:Value→a9→Prop}{s:a9}
end SrtG
namespace L2
open PySem PySem.Spec PySem.Calls PyProof.Rows SrtG
section
variable{X:Cx}{pins:List (Addr×Obj)}{σ:St}{H:Hp}{s:a9}
theorem Inv.rowAt{x:Addr}{r:List Int}(I:Inv X pins σ H s)(h:Cm X.K H x (r.map V.int)):RowAt s.heap (.ref x) r:=by
 obtain⟨its,rr,⟨o,ho,hc,n,hd⟩,hz⟩:=I.tuple h
 exact⟨x,o,its,n,rfl,ho,hc,hd,CQ rr⟩
theorem GO:∀{ps:List (List Int×Addr)} {us:List Value},Vals (ps.map fun p=>V.ref p.2) us→us=ps.map fun p=>Value.ref p.2
 | [],us,r=>by rw[lS] at r;cases r;rfl
 |p::ps,us,r=>by
  rw[fL] at r
  cases r with
  |cons r1 r2=>
   rw[GO r2]
   have r1:_=Value.ref p.2:=r1
   rw[r1]
   rfl
theorem GP:∀(ps:List (List Int×Addr)),Vals (ps.map fun p=>V.ref p.2) (ps.map fun p=>Value.ref p.2)
 | []=> .nil
 |p::ps=> .cons rfl (GP ps)
end
end L2
namespace L2.TL
open PySem PySem.Spec PyProof.Rows SrtG
section
variable{K:a8}{O:AG}{H:Hp}
theorem Hg:∀{ks:List (List Int)} {xs:List V},Reps K O H xs (ks.map fun r=>T.tup (r.map T.int))→∃qs:List (List Int×Addr),xs=qs.map (fun p=>V.ref p.2)∧qs.map (·.1)=ks∧∀k x,(k,x)∈qs→H x=some (.tup (k.map V.int))
 | [],xs,r=> ⟨[],r.nil_inv,rfl,fun _ _ h=>by cases h⟩
 |p::ks,xs,r=>by
  obtain⟨v,vs',rfl,h,r'⟩:=Reps.cons_inv r
  obtain⟨a,ys,rfl,ha,r2⟩:=h.tup_inv
  cases Reps.ints (ns:=p) r2
  obtain⟨qs,rfl,e,hk⟩:=Hg r'
  refine⟨(p,a)::qs,rfl,by rw[fL,e],fun k x h=>?_⟩
  rcases fh.mp h with h|h
  ·cases h;exact ha
  ·exact hk k x h
theorem Hi:∀{qs:List (List Int×Addr)},(∀k x,(k,x)∈qs→H x=some (.tup (k.map V.int)))→Reps K O H (qs.map fun p=>V.ref p.2) ((qs.map (·.1)).map fun r=>T.tup (r.map T.int))
 | [],_=> .nil
 | (k,x)::qs,h=> .cons (.tup (h k x (fQ ..)) (DQ _)) (Hi fun k x hk=>h k x (fv _ hk))
end
section
variable{Z:Zx}{ρ:List (Option T)}{O:AG}{e:Expr}{Φ:BJ}{p pos:Pos}{ks:List (List Int)}
end
end L2.TL
namespace SrtG
open PySem PySem.Calls PySem.W PyProof.Rows
def JW:Nat→List Int→Int
 |0,_=>0
 |_+1,[]=>0
 |k+1,a::r=>a*16^k+JW k r
def Ip(k:Nat)(r:List Int):Prop:=r.length≤k∧∀z∈r,1≤z∧z<16
theorem GQ:∀{k:Nat} {r:List Int},Ip k r→0≤JW k r∧JW k r<16^k
 |0,[],_=>by show(0:Int)≤0∧(0:Int)<1;omega
 |0,_::_,h=>by have:=h.1;simp at this
 |k+1,[],_=> ⟨jz _,oy (by decide)⟩
 |k+1,a::r,h=>by
  have ih:=GQ (k:=k) (r:=r) ⟨by have:=h.1;simp at this;omega,fun z hz=>h.2 z (by simp[hz])⟩
  have ha:=h.2 a (by simp)
  have hp:(0:Int)<16^k:=oy (by decide)
  have e1:(0:Int)≤a*16^k:=Int.mul_nonneg (by omega) (iT hp)
  have e2:a*16^k≤15*16^k:=jx (by omega) (iT hp)
  show 0≤a*16^k+JW k r∧a*16^k+JW k r<16^(k+1)
  rw[Int.pow_succ]
  omega
theorem Qs:∀{k:Nat} {r q:List Int},Ip k r→Ip k q→HT.Am r q=decide (JW k r<JW k q)
 |0,[],[],_,_=>by rw[HT.Bp];rfl
 |0,_::_,_,h,_=>by have:=h.1;simp at this
 |0,_,_::_,_,h=>by have:=h.1;simp at this
 |k+1,[],[],_,_=>by rw[HT.Bp];exact(decide_eq_false (by omega)).symm
 |k+1,[],b::q,_,h=>by
  have ha:=h.2 b (by simp)
  have ih:=GQ (k:=k) (r:=q) ⟨by have:=h.1;simp at this;omega,fun z hz=>h.2 z (by simp[hz])⟩
  have hp:(0:Int)<16^k:=oy (by decide)
  have e1:1*16^k≤b*16^k:=jx (by omega) (iT hp)
  rw[HT.Cq]
  refine(decide_eq_true ?_).symm
  show(0:Int)<b*16^k+JW k q
  omega
 |k+1,a::r,[],h,_=>by
  have ih:=GQ h
  rw[HT.Cr]
  refine(decide_eq_false ?_).symm
  show¬JW (k+1) (a::r)<0
  omega
 |k+1,a::r,b::q,h,h'=>by
  have hr:Ip k r:=⟨by have:=h.1;simp at this;omega,fun z hz=>h.2 z (by simp[hz])⟩
  have hq:Ip k q:=⟨by have:=h'.1;simp at this;omega,fun z hz=>h'.2 z (by simp[hz])⟩
  have i1:=GQ hr
  have i2:=GQ hq
  have hp:(0:Int)<16^k:=oy (by decide)
  show _=decide (a*16^k+JW k r<b*16^k+JW k q)
  by_cases c:a=b
  ·subst c
   have:=Qs hr hq
   rw[show HT.Am (a::r) (a::q)=HT.Am r q by simp[HT.Am],this]
   congr 1
   apply propext
   constructor<;>intro<;>omega
  ·by_cases c2:a<b
   ·have e1:(a+1)*16^k≤b*16^k:=jx (by omega) (iT hp)
    rw[Int.add_mul,Int.one_mul] at e1
    rw[show HT.Am (a::r) (b::q)=true by simp[HT.Am,c2,c]]
    exact(decide_eq_true (by omega)).symm
   ·have e1:(b+1)*16^k≤a*16^k:=jx (by omega) (iT hp)
    rw[Int.add_mul,Int.one_mul] at e1
    rw[show HT.Am (a::r) (b::q)=false by simp[HT.Am,c2,c]]
    exact(decide_eq_false (by omega)).symm
section
variable{prog:Program}{w:World}{A:fG}{E:Value→a9→Prop}{s:a9}
theorem RowAt.tup{h:Heap}{v:Value}{r:List Int}(p:RowAt h v r):∃l its,v=.ref l∧IsTup h l its∧jT its.toList r:=by
 obtain⟨x,o,xs,n,e1,e2,e3,e4,e5⟩:=p
 exact⟨x,xs.toArray,e1,⟨o,e2,e3,n,e4⟩,by simpa using e5⟩
theorem Oc{x y:Value}{r q:List Int}{Q:Bool→a9→Prop}(hx:RowAt s.heap x r)(hy:RowAt s.heap y q)(hu:A.units<cLine)(h:Q (HT.Am r q) s):wpAny (model prog w) A (oneLt' true x y) Q E s:=by
 obtain⟨l,its,rfl,hl,i1⟩:=hx.tup
 obtain⟨b,its2,rfl,hb,i2⟩:=hy.tup
 obtain⟨⟨cls,dd,data,sl⟩,ho,hc,n,hd⟩:=id hl
 obtain⟨⟨cls2,dd2,data2,sl2⟩,ho2,hc2,n2,hd2⟩:=id hb
 simp only at hc hd hc2 hd2
 subst hc hd hc2 hd2
 rw[oneLt'_eq]
 dsimp only
 rw[if_pos rfl]
 refine a7 (wpAny_cRoomFor hu ?_)
 refine a7 (wpAny_callSpecialIfBound?_slot ⟨_,ho,rfl⟩ lT (call_meets lT ⟨_,ho,rfl⟩ PySem.F.entry_tuple_lt (PySem.F.args_tuple_lt_2 _ _) (HT.DX l b its its2 n n2 dd dd2 sl sl2 r q i1 i2) ⟨ho,ho2,?_⟩))
 exact jh h
theorem Qt(v:Value):oK v=(do
  let t←typeOf v
  if(t !=ji "tuple")=true then pure none else do
   let xs←Builtin.List.listItems v
   pure xs[0]?):=rfl
theorem Od{M:Model}{x:Value}{r:List Int}{Q:Option Value→a9→Prop}(hx:RowAt s.heap x r)(h:∀o,(r=[]→o=none)→Q o s):wpAny M A (oK x) Q E s:=by
 obtain⟨p,o,xs,n,rfl,e2,e3,e4,e5⟩:=hx
 rw[Qt]
 refine a7 (kU ⟨o,e2,e3⟩ ?_)
 rw[if_neg (by decide)]
 refine a7 (nL e2 e4 (b6 (h _ fun e=>?_)))
 subst e
 cases e5
 rfl
theorem Eu{M:Model}{Q:List (Option Value)→a9→Prop}:∀{vs:List Value},(∀v∈vs,∃r,RowAt s.heap v r)→(∀os:List (Option Value),os.length=vs.length→(∀v,vs.head?=some v→RowAt s.heap v []→os.head?=some none)→Q os s)→wpAny M A (List.mapM oK vs) Q E s
 | [],_,h=>by
  rw[List.mapM_nil]
  exact b6 (h [] rfl fun v e=>by cases e)
 |v::vs,hv,h=>by
  rw[List.mapM_cons]
  obtain⟨r,hr⟩:=hv v (by simp)
  refine a7 (Od hr fun o ho=>?_)
  refine a7 (Eu (fun u hu=>hv u (by simp[hu])) fun os hl _=>b6 (h (o::os) (by simp[hl]) fun u e hu=>?_))
  cases e
  have:r=[]:=by
   obtain⟨x,o1,xs,n,rfl,a2,a3,a4,a5⟩:=hr
   obtain⟨x',o2,xs',n',e1,b2,b3,b4,b5⟩:=hu
   cases e1
   rw[a2] at b2
   cases b2
   rw[a4] at b4
   injection b4 with b4 _
   have:xs=xs':=by simpa using b4
   subst this
   cases b5
   cases a5
   rfl
  rw[ho this]
  rfl
theorem GR{M:Model}{Q:List Value→a9→Prop}:∀{vs:List Value},(∀v∈vs,∃r,RowAt s.heap v r)→Q (vs.map fun _=>ji "tuple") s→wpAny M A (List.mapM typeOf vs) Q E s
 | [],_,h=>by
  rw[List.mapM_nil]
  exact b6 h
 |v::vs,hv,h=>by
  rw[List.mapM_cons]
  obtain⟨r,x,o,xs,n,rfl,e2,e3,_⟩:=hv v (by simp)
  exact a7 (kU ⟨o,e2,e3⟩ (a7 (GR (fun u hu=>hv u (by simp[hu])) (b6 h))))
theorem Of{M:Model}{v:Value}{vs:List Value}{Q:jG→a9→Prop}(h0:RowAt s.heap v [])(hv:∀u∈v::vs,∃r,RowAt s.heap u r)(h:Q oneType' s):wpAny M A (keyKind' (v::vs).toArray) Q E s:=by
 rw[keyKind'_eq,Array.mapM_eq_mapM_toList]
 refine a7 ?_
 rw[map_eq_pure_bind]
 refine a7 (Eu hv fun os hl ho=>b6 ?_)
 have h1:=ho v rfl h0
 cases os with
 |nil=>cases h1
 |cons o os=>
  have h1:o=none:=by simpa using h1
  subst h1
  have c1:((none::os).toArray.all fun x:Option Value=>x.isSome)=false:=by simp
  have c2:(((none::os).toArray:Array (Option Value))[0]?.bind id).isSome=false:=by simp
  rw[c1,if_neg e6,c2,if_neg e6,oneTypeOnly'_eq,Array.mapM_eq_mapM_toList]
  refine a7 (a7 ?_)
  rw[map_eq_pure_bind]
  refine a7 (GR hv (b6 ?_))
  show wpAny M A (pure (if((((v::vs).map fun _=>ji "tuple").toArray).all fun x=>x==ji "tuple")=true then some (ji "tuple") else none)) _ E s
  refine b6 ?_
  rw[if_pos (by simp)]
  exact b6 h
end
structure Rq(prog:Program)(w:World)(A:fG)(kd:jG)(U:Heap→Value→Prop)(rk:Heap→Value→Int):Prop where
 cmp:∀{E:Value→a9→Prop} {s:a9},OL prog w A E s kd (fun k=>U s.heap k.1) (fun k=>rk s.heap k.1)
 kept:∀{h h':Heap} {v:Value},U h v→(∀b o,o.cls=.type "tuple"→h.get? b=some o→h'.get? b=some o)→U h' v∧rk h' v=rk h v
 kind:∀{E:Value→a9→Prop} {s:a9} {vs:List Value} {Q:jG→a9→Prop},(∀v∈vs,U s.heap v)→(∃v,vs.head?=some v∧RowAt s.heap v [])→Q kd s→wpAny (model prog w) A (keyKind' vs.toArray) Q E s
section
variable{prog:Program}{w:World}{A:fG}{E:Value→a9→Prop}{s:a9}{kd:jG}{U:Heap→Value→Prop}{rk:Heap→Value→Int}
theorem Xk{vs:List Value}{Q:gq→a9→Prop}(R:Rq prog w A kd U rk)(ok:∀v∈vs,U s.heap v)
  (h:∀st',jN st'=none→((arrOf st').map (·.2)).toList.Perm vs→((arrOf st').map (·.2)).toList.Pairwise (fun x y=>rk s.heap x≤rk s.heap y)→Q st' s):
  wpAny (model prog w) A ((oA).run (lX (kd) (vs.toArray.zip vs.toArray) #[] 7 none)) (fun r s'=>Q r.2 s') E s:=by
 have hz:(vs.toArray.zip vs.toArray)=(vs.map fun v=> (v,v)).toArray:=by
  apply kT
  rw[nJ]
  show vs.zip vs=vs.map fun v=> (v,v)
  exact Dx vs
 have hU:AllU (fun k=>U s.heap k.1) (vs.toArray.zip vs.toArray):=fun i p e=>by
  rw[hz] at e
  have e':(vs.map fun v=> ((v,v):Keyed))[i]?=some p:=by rw[←fT] at e;exact e
  obtain⟨v,hv,rfl⟩:=fo.mp (fk e')
  exact ok v hv
 have hwp:wpS (model prog w) A E s oA (fun _ st'=>Q st' s) (lX (kd) (vs.toArray.zip vs.toArray) #[] 7 none):=by
  refine Jv (a₀:=vs.toArray.zip vs.toArray) (rk:=fun k=>rk s.heap k.1) R.cmp hU ⟨rfl,rfl,kz.refl _⟩ rfl fun st' b srt=>?_
  have hpm:=b.perm
  rw[hz] at hpm
  have hsame:∀k,k∈(arrOf st').toList→k=(k.2,k.2):=fun k hk=>by
   obtain⟨v,_,rfl⟩:=fo.mp (hpm.mem_iff.mp hk)
   rfl
  refine h st' b.fl ?_ ?_
  ·rw[k6]
   have:=hpm.map (fun k:Keyed=>k.2)
   rw[show((vs.map fun v=> ((v,v):Keyed)).toArray.toList.map fun k:Keyed=>k.2)=vs from by
    show(vs.map fun v=> ((v,v):Keyed)).map (fun k:Keyed=>k.2)=vs
    rw[gZ]
    exact ou vs] at this
   exact this
  ·rw[k6,gP]
   refine gR.mpr fun i j hi hj hij=>?_
   have hi':i< (arrOf st').size:=by rw[←fg];exact hi
   have hj':j< (arrOf st').size:=by rw[←fg];exact hj
   have q:=srt i j (lP hij) hj'
   rw[Ai hi',Ai hj'] at q
   have e1:=hsame (arrOf st').toList[i] (iB hi)
   have e2:=hsame (arrOf st').toList[j] (iB hj)
   rw[←(show(arrOf st').toList[i].1=(arrOf st').toList[i].2 from congrArg jb e1),←(show(arrOf st').toList[j].1=(arrOf st').toList[j].2 from congrArg jb e2)]
   exact q
 exact jM hwp (fun r s' q=>by rw[q.1];exact q.2) fun _ _ e=>e
theorem UF{a:Addr}{vs:List Value}{n:Nat}{P:oI→a9→Prop}(ho:s.heap.get? a=some (fV "list" vs.toArray n))(R:Rq prog w A kd U rk)(ok:∀v∈vs,U s.heap v)(hfd:∃v,vs.head?=some v∧RowAt s.heap v [])(h2:2≤vs.length)(hn:vs.length≤9000000)
  (h:∀out c h',out.Perm vs→out.Pairwise (fun x y=>rk s.heap x≤rk s.heap y)→h'.get? a=some (fV "list" (lQ out) c)→(∀b o,b≠a→s.heap.get? b=some o→h'.get? b=some o)→P (.done (.ret .none)) {s with heap:=h'}):
  wpAny (model prog w) A (Builtin.«list.sort» ⟨[.ref a],[]⟩) P E s:=by
 obtain⟨e1,ho1⟩:∃e1,(s.heap.update a (gQ fun _=> (#[]:Array Value))).get? a=some (fV "list" #[] e1):=⟨_,kH ho fun _=> #[]⟩
 have keep:∀b o,b≠a→s.heap.get? b=some o→(((s.heap.update a (gQ fun _=> (#[]:Array Value))).push (fV "tuple" vs.toArray 0)).push (fV "list" #[] 0)).get? b=some o:=fun b o hb e=>
  c9 _ (c9 _ (by rw[jH _ _ _ _ hb];exact e))
 have keepT:∀b o,o.cls=.type "tuple"→s.heap.get? b=some o→(((s.heap.update a (gQ fun _=> (#[]:Array Value))).push (fV "tuple" vs.toArray 0)).push (fV "list" #[] 0)).get? b=some o:=fun b o ht e=>by
  refine keep b o (fun q=>?_) e
  rw[q,ho] at e
  cases e
  exact absurd (show ji "list" =ji "tuple" from ht) (by decide)
 have ho3:(((s.heap.update a (gQ fun _=> (#[]:Array Value))).push (fV "tuple" vs.toArray 0)).push (fV "list" #[] 0)).get? a=some (fV "list" #[] e1):=c9 _ (c9 _ ho1)
 have ok3:∀v∈vs,U _ v:=fun v hv=> (R.kept (ok v hv) keepT).1
 have fd3:(∃v,vs.head?=some v∧RowAt s.heap v [])→∃v,vs.head?=some v∧RowAt (((s.heap.update a (gQ fun _=> (#[]:Array Value))).push (fV "tuple" vs.toArray 0)).push (fV "list" #[] 0)) v []:=fun⟨v,hv,x,o,xs,n,e1,e2,e3,e4,e5⟩=> ⟨v,hv,x,o,xs,n,e1,keepT _ _ e3 e2,e3,e4,e5⟩
 have rk3:∀v∈vs,rk _ v=rk s.heap v:=fun v hv=> (R.kept (ok v hv) keepT).2
 rw[nU]
 refine a7 (nL ho rfl ?_)
 refine a7 (lr ho rfl ?_ (by rw[fm,gM];omega) (gT _))
 refine a7 (me ho1 rfl ?_)
 refine a7 (mH ?_ (by show vs.length≤_;rw[gM];omega))
 refine a7 (lj ?_ (gT _))
 refine gx ?_
 show wpAny (model prog w) A _ P E {s with heap:=((s.heap.update a (gQ fun _=> (#[]:Array Value))).push (fV "tuple" vs.toArray 0)).push (fV "list" #[] 0)}
 generalize hG:((s.heap.update a (gQ fun _=> (#[]:Array Value))).push (fV "tuple" vs.toArray 0)).push (fV "list" #[] 0)=G at keep ho3 ok3 fd3 rk3 ⊢
 dsimp only
 have hn2:¬vs.toArray.size<2:=by rw[fm];omega
 rw[if_neg hn2,if_neg hn2]
 refine a7 (R.kind (s:={s with heap:=G}) ok3 (fd3 hfd) ?_)
 refine a7 (jM (Xk (s:={s with heap:=G}) (Q:=fun st' s'=>s'={s with heap:=G}∧jN st'=none∧((arrOf st').map (·.2)).toList.Perm vs∧((arrOf st').map (·.2)).toList.Pairwise (fun x y=>rk G x≤rk G y)) R ok3 (fun st' a1 a2 a3=> ⟨rfl,a1,a2,a3⟩)) ?_ fun _ _ e=>e)
 rintro⟨⟨⟩,st'⟩ s' ⟨rfl,hfl,hpm,hpw⟩
 dsimp only
 have hsz:((arrOf st').map (·.2)).size=vs.length:=by rw[←fg];exact hpm.length_eq
 obtain⟨c2,hc2⟩:∃c2,(G.update a (gQ fun _=> (arrOf st').map (·.2))).get? a=some (fV "list" ((arrOf st').map (·.2)) c2):=⟨_,kH ho3 fun _=> (arrOf st').map (·.2)⟩
 refine a7 (me ho3 rfl ?_)
 refine a7 (lr ho3 rfl ?_ (gT _) (gL (pB hsz) (by rw[gM];omega)))
 rw[hfl]
 simp only[bne_self_eq_false,fJ,if_false]
 refine b6 (h ((arrOf st').map (·.2)).toList c2 _ hpm ?_ hc2 fun b o hb e=>by rw[jH _ _ _ _ hb];exact keep b o hb e)
 refine ip (fun{x y} hx hy q=>?_) hpw
 rw[rk3 _ (hpm.mem_iff.mp hx),rk3 _ (hpm.mem_iff.mp hy)] at q
 exact q
end
def aO(h:Heap)(v:Value):Int:=match v with
  | .ref x=>match h.get? x with
    |some o=>match o.data with
     | .seq xs _=>JW 8 (xs.toList.filterMap Xj)
     |_=>0
    |_=>0
  |_=>0
theorem Eh{h:Heap}{v:Value}{r:List Int}(p:RowAt h v r):aO h v=JW 8 r:=by
 obtain⟨x,o,xs,n,e1,e2,_,e3,e4⟩:=p
 unfold aO
 rw[e1]
 dsimp only
 rw[e2]
 dsimp only
 rw[e3]
 show JW 8 (xs.filterMap Xj)=_
 rw[NN e4]
theorem UG{prog:Program}{w:World}{A:fG}(hu:A.units<cLine):Rq prog w A oneType' (fun h v=>∃r,RowAt h v r∧Ip 8 r) aO where
 cmp:=by
  intro E s st x y Q hk hx hy h
  obtain⟨r,px,kx⟩:=hx
  obtain⟨q,py,ky⟩:=hy
  have h:Q (some (decide (aO s.heap x.1<aO s.heap y.1))) st:=h
  rw[Eh px,Eh py,←Qs kx ky] at h
  rw[lt'_eq]
  refine e7 (lz ?_)
  rw[hk]
  refine e7 (l9 (j6 ?_))
  rw[keyLt'_oneType]
  exact Oc px py hu ⟨rfl,fb h⟩
 kept:=fun{h h' v} ⟨r,p,q⟩ k=>by
  have p':RowAt h' v r:=by
   obtain⟨x,o,xs,n,e1,e2,e3,e4,e5⟩:=p
   exact⟨x,o,xs,n,e1,k _ _ e3 e2,e3,e4,e5⟩
  exact⟨⟨r,p',q⟩,by rw[Eh p,Eh p']⟩
 kind:=fun{E s vs Q} ok ⟨v,hv,h0⟩ q=>by
  cases vs with
  |nil=>cases hv
  |cons u vs=>
   cases hv
   exact Of h0 (fun x hx=>by obtain⟨r,p,_⟩:=ok x hx;exact⟨r,p⟩) q
end SrtG
namespace L2
open PySem PySem.Spec PySem.Calls PyProof.Rows SrtG
section
variable{prog:Program}{w:World}{A:fG}{E:Value→a9→Prop}{s:a9}{kd:jG}{U:Heap→Value→Prop}{rk:Heap→Value→Int}
theorem Xl{α:Type}{R:α→α→Prop}{vs:List α}(h:vs.length<2):vs.Pairwise R:=by
 cases vs with
 |nil=>exact .nil
 |cons x l=>
  cases l with
  |nil=>exact ko _ _
  |cons y l=>simp only[fu] at h;omega
set_option maxHeartbeats 400000 in
theorem Og {l:Addr} {o:Obj} {vs:List Value} {n:Nat} {Q:Value→a9→Prop} (ho:s.heap.get? l=some o) (hc:o.cls=.type "list") (hd:o.data=.seq vs.toArray n) (R:Rq prog w A.in1.in1 kd U rk) (hfd:∃v,vs.head?=some v∧RowAt s.heap v []) (ok:∀v∈vs,U s.heap v) (hn:vs.length≤9000000)
  (h:∀(h':Heap) (a:Addr) (out:List Value) (c:Nat),s.heap.get? a=none→h'.get? a=some (fV "list" out.toArray c)→(∀b o,s.heap.get? b=some o→h'.get? b=some o)→out.Perm vs→out.Pairwise (fun x y=>rk s.heap x≤rk s.heap y)→Q (.ref a) {s with heap:=h'}):
  wpAny (model prog w) A (call (.builtin "sorted") [.ref l]) Q E s:=by
 refine Calls.call_function_entry pI oY o6 (pe _) ?_
 unfold Builtin.«sorted»
 refine a7 (m:=checkCount "sorted" 1 1 _) (b6 ?_)
 refine a7 (wpAny_collect_seq l (.inl rfl) ho hc hd (fun h1 hk1=>?_) (by rw[fm,gM];omega))
 show wpAny _ _ (newList vs>>=_) _ _ _
 refine a7 (lj ?_ (by rw[gM];omega))
 have hoL:(h1.push (fV "list" vs.toArray 0)).get? h1.objs.size=some (fV "list" vs.toArray 0):=fK _ rfl
 have keep:∀b o,s.heap.get? b=some o→(h1.push (fV "list" vs.toArray 0)).get? b=some o:=fun b o e=>c9 _ (hk1 b o e)
 have ok1:∀v∈vs,U (h1.push (fV "list" vs.toArray 0)) v:=fun v hv=> (R.kept (ok v hv) fun b o _ e=>keep b o e).1
 have fd1:∃v,vs.head?=some v∧RowAt (h1.push (fV "list" vs.toArray 0)) v []:=by
  obtain⟨v,hv,x,o,xs,n,e1,e2,e3,e4,e5⟩:=hfd
  exact⟨v,hv,x,o,xs,n,e1,keep _ _ e2,e3,e4,e5⟩
 have fin:∀(out:List Value) (c:Nat) (h':Heap),out.Perm vs→out.Pairwise (fun x y=>rk (h1.push (fV "list" vs.toArray 0)) x≤rk (h1.push (fV "list" vs.toArray 0)) y)→h'.get? h1.objs.size=some (fV "list" (lQ out) c)→(∀b o,b≠h1.objs.size→(h1.push (fV "list" vs.toArray 0)).get? b=some o→h'.get? b=some o)→Q (.ref h1.objs.size) {s with heap:=h'}:=fun out c h' pm pw hg hk=>by
  refine h _ h1.objs.size out c ?_ hg (fun b o e=>?_) pm ?_
  ·cases e:s.heap.get? h1.objs.size with
   |none=>rfl
   |some o'=>exact absurd (fq (hk1 _ _ e)) (gU _)
  ·exact hk b o (fS (fq (hk1 b o e))) (keep b o e)
  ·refine ip (fun{x y} hx hy q=>?_) pw
   rw[(R.kept (ok _ (pm.mem_iff.mp hx)) fun b o _ e=>keep b o e).2,(R.kept (ok _ (pm.mem_iff.mp hy)) fun b o _ e=>keep b o e).2] at q
   exact q
 show wpAny _ _ _ _ _ {s with heap:=h1.push (fV "list" vs.toArray 0)}
 refine a7 (gx (hV n8 ⟨_,hoL,rfl⟩ nV ?body (oh _)))
 by_cases hlen:vs.length<2
 ·refine StT.Jw (s:={s with heap:=h1.push (fV "list" vs.toArray 0)}) hoL hlen fun c h2 hg hk=> ⟨_,rfl,b6 ⟨_,rfl,fin vs c h2 (.refl _) ?_ hg hk⟩⟩
  exact Xl hlen
 ·exact UF (A:=A.in1.in1) (s:={s with heap:=h1.push (fV "list" vs.toArray 0)}) hoL R ok1 fd1 (by omega) hn fun out c h' pm pw hg hk=> ⟨_,rfl,b6 ⟨_,rfl,fin out c h' pm pw hg hk⟩⟩
end
section
variable{X:Cx}
set_option maxHeartbeats 400000 in
theorem Iq (hu:X.A.units+2<cLine):Au X (.builtin "sorted") (fun xs H Q=>∃(a:Addr) (ks:List (List Int×Addr)),xs=[.ref a]∧De X.K H a (ks.map fun p=>V.ref p.2)∧(∀k x,(k,x)∈ks→Cm X.K H x (k.map V.int)∧Ip 8 k)∧(∃x,ks.head?=some ([],x))∧ks.length≤9000000∧
  ∀(p:Addr) (ms:List (List Int×Addr)),H p=none→ms.Perm ks→ms.Pairwise (fun x y=>JW 8 x.1≤JW 8 y.1)→Q (.ref p) (upd H p (.lst (ms.map fun p=>V.ref p.2)))):=by
 intro pins s σ H xs us Q I r h
 obtain⟨a,ks,rfl,hS,hk,⟨x0,hh⟩,hn,q⟩:=h
 obtain⟨u,rfl,ru⟩:=Vals.one r
 cases ru
 obtain⟨its,rv,⟨o,n,e1,e2,_,e3⟩,_⟩:=I.list hS
 have ei:=GO rv
 subst ei
 have at_:∀k x,(k,x)∈ks→RowAt s.heap (.ref x) k:=fun k x h=>I.rowAt (hk k x h).1
 refine Og e1 e2 e3 (UG hu) ⟨.ref x0,by rw[List.head?_map,hh];rfl,at_ [] x0 (List.mem_of_mem_head? hh)⟩ (fun v hv=>?_) (by rw[e8];omega) fun h' b out c hb hg kp pm pw=>?_
 ·obtain⟨⟨k,x⟩,hx,rfl⟩:=fo.mp hv
  exact⟨k,at_ k x hx,(hk k x hx).2⟩
 ·obtain⟨ms,pm',rfl⟩:=BV pm rfl
  have hf:H b=none:=I.hok.none_of hb
  refine⟨.ref b,upd H b (.lst (ms.map fun p=>V.ref p.2)),I.laidF (t':=s.toks) kp hb ⟨?_,_,c,GP ms,hg⟩,rfl,q b ms hf pm' ?_⟩
  ·rw[e8,pm'.length_eq,gM]
   omega
  ·rw[gP] at pw
   refine ip (fun{x y} hx hy z=>?_) pw
   rw[Eh (at_ x.1 x.2 (pm'.mem_iff.mp hx)),Eh (at_ y.1 y.2 (pm'.mem_iff.mp hy))] at z
   exact z
end
end L2
namespace L2.TL
open PySem PySem.Spec PyProof.Rows SrtG
section
variable{Z:Zx}{ρ:List (Option T)}{O:AG}{e:Expr}{Φ:BJ}{p pos:Pos}{ks:List (List Int)}
set_option maxHeartbeats 400000 in
theorem MC (hu:Z.X.A.units+2<cLine) (mm:Z.X.mg "sorted" =none) (h:ET Z ρ O e (.lst (ks.map fun r=>T.tup (r.map T.int)))) (h0:ks.head?=some []) (hk:∀k∈ks,Ip 8 k) (hn:ks.length≤9000000) (k:∀ms:List (List Int),ms.Perm ks→ms.Pairwise (fun x y=>JW 8 x≤JW 8 y)→Φ (.lst (ms.map fun r=>T.tup (r.map T.int))) O) (hg:Gl Z.X "sorted":=by rfl)
  (he:e9 [e] Z.X.env=(false,eval e Z.X.env)::e9 [] Z.X.env:=by rfl):WE Z ρ O (.Call (.Name "sorted" p) [e] [] pos) Φ:=
 GC (Iq hu) mm Ic (AN h AB he _ (fun H vs Q ok r q'=>by
  obtain⟨v,rfl,r1⟩:=r.one_inv
  obtain⟨a,xs,rfl,h1,_,r1⟩:=r1.lst_inv
  obtain⟨qs,rfl,rfl,hq⟩:=Hg r1
  refine⟨a,qs,rfl,.inl (.inl h1),fun k x hx=> ⟨.inl (.inl (hq k x hx)),hk k (fo.mpr ⟨(k,x),hx,rfl⟩)⟩,?_,by simpa using hn,fun p ms hp pm pw2=>?_⟩
  ·cases qs with
   |nil=>cases h0
   |cons z qs=>
    have h0:z.1=[]:=by simpa using h0
    exact⟨z.2,by show some z=_;rw[←h0]⟩
  have r2:Reps Z.K O H (ms.map fun p=>V.ref p.2) ((ms.map (·.1)).map fun r=>T.tup (r.map T.int)):=Hi fun k x hx=>hq k x (pm.mem_iff.mp hx)
  exact q' _ _ _ O (k (ms.map (·.1)) (pm.map _) (gP.mpr pw2)) (.new ok hp) (.lst AY (ok.none_of hp) (r2.kp (Bc ok hp) ok)))) hg (by decide) (by decide) he
end
end L2.TL
namespace K35
open PySem L2 L2.TL PySem.Spec PyProof.Rows
def top(i:Nat):Stmt:=fU.main.body.getD i (.Pass ⟨0,0,0,0⟩)
abbrev MD:Stmt:=top 6
abbrev Ir:Stmt:=top 7
abbrev ME:Stmt:=top 17
abbrev Iu:Stmt:=top 18
abbrev Hj:Stmt:=top 19
abbrev NO:Stmt:=top 20
abbrev EE:Stmt:=top 16
abbrev CH:Stmt:=top 23
abbrev Iv:Stmt:=top 9
abbrev UH:Stmt:=top 21
abbrev Iw:Stmt:=top 22
abbrev Qu:Stmt:=top 28
abbrev Qv:Stmt:=top 29
abbrev dB:Stmt:=top 30
abbrev Xm:Stmt:=top 31
abbrev MF:Stmt:=top 32
abbrev Xn:Stmt:=top 33
abbrev Qw:Stmt:=top 34
abbrev Xo:Stmt:=top 35
abbrev NP:Stmt:=top 36
abbrev Qx:Stmt:=top 37
abbrev Cf:Stmt:=top 8
abbrev NQ:Stmt:=top 15
abbrev GS:Stmt:=top 14
abbrev Xp:Stmt:=top 13
abbrev Qy:Stmt:=top 40
abbrev UI:Stmt:=top 41
abbrev MG:Stmt:=top 42
abbrev MH:Stmt:=top 43
abbrev bh:Stmt:=top 44
abbrev bj:Stmt:=top 45
abbrev MI:Stmt:=top 46
abbrev MJ:Stmt:=top 47
abbrev MK:Stmt:=top 48
abbrev DF:Stmt:=top 49
abbrev KR:Stmt:=top 50
abbrev Qz:Stmt:=top 51
abbrev Xq:Stmt:=top 52
abbrev Iy:Stmt:=top 53
abbrev bo:Stmt:=top 59
abbrev ML:Stmt:=top 60
structure Txt(mg:Str→Option Value):Prop where
 nInt:mg "int" =none
 nBool:mg "bool" =none
 nTuple:mg "tuple" =none
 nList:mg "list" =none
 nSet:mg "set" =none
 nRange:mg "range" =none
 nIsi:mg "isinstance" =none
 nMax:mg "max" =none
 nMin:mg "min" =none
 nLen:mg "len" =none
 nAll:mg "all" =none
 nSorted:mg "sorted" =none
 nRepr:mg "repr" =none
 nVE:mg "ValueError" =none
 nAny:mg "any" =none
 nEnum:mg "enumerate" =none
 nZip:mg "zip" =none
 iMost:∃t:Tok,mg "MOST_PLACES" =some (.int 16 t)
 iLP:∃t:Tok,mg "LEAST_PLACES" =some (.int 3 t)
 iLT:∃t:Tok,mg "LEAST_TIES" =some (.int 2 t)
 iMT:∃t:Tok,mg "MOST_TIES" =some (.int 15 t)
 iLR:∃t:Tok,mg "LEAST_RING" =some (.int 3 t)
 iMR:∃t:Tok,mg "MOST_RING" =some (.int 16 t)
def EF(t:T)(a b:Int):Bool:=match t with
 | .int i=>decide (a≤i)&&decide (i≤b)
 |_=>false
def BD(n:Int)(p:Int×Int):Prop:=0≤p.1∧p.1<p.2∧p.2<n
theorem EW.cast{Z:Zx}{ρ:List (Option T)}{O:AG}{e:Expr}{k l:Bool}(h:EW Z ρ O e k)(z:k=l):EW Z ρ O e l:=z▸h
theorem EB.cast{Z:Zx}{ρ:List (Option T)}{O:AG}{e:Expr}{k l:Bool}(h:EB Z ρ O e k)(z:k=l):EB Z ρ O e l:=z▸h
theorem ET.cast{Z:Zx}{ρ:List (Option T)}{O:AG}{e:Expr}{k l:T}(h:ET Z ρ O e k)(z:k=l):ET Z ρ O e l:=z▸h
section
variable{P:Program}{w:World}{K:a8}{mg:Str→Option Value}{base:Heap}
def DT:BX:=Er fun ts r=>∃t a b,ts=[t,.int a,.int b]∧BC t=false∧r=.bl (EF t a b)
theorem UJ:FnScope ["thing","least","most"] ["thing","least","most"] (AA MD):=⟨rfl,rfl,rfl,by decide+kernel,rfl,by decide+kernel,by decide+kernel⟩
theorem RA{f:Addr}{fd:fF}(F:Fun K "is_whole" "is_whole" MD f fd)(T:Txt mg):FnOk P w K mg base (CXe P w) 1 f fd ["thing","least","most"] (BY K DT):=by
 refine AK F UJ ?_ ?_
 ·rintro ts O Φ Ξ ⟨r,⟨t,a,b,rfl,_⟩,_⟩
  rfl
 ·rintro cdv A outer s H E O Ξ hr xf _ Φ ⟨_,⟨t,a,b,rfl,ht,rfl⟩,q⟩
  refine AE (Ab (EW.eb (Bm (Ay (DD T.nIsi T.nInt aD TZ (ev 0) ht)) fun _=>Bd (DD T.nIsi T.nBool aE QS (ev 0) ht))) (fun h=>AF (AJ (VM _ ?_))) (fun h=>Ac ?_))
  ·have:EF t a b=false:=by
    cases t<;>first|rfl|cases h
   rw[this] at q;exact q
  ·cases t with
   |int i=>exact AF (AJ (TU (ev 1) (ev 0) (ev 2) (by with_unfolding_all rfl) _ q))
   |bl i=>cases h
   |raw i=>cases ht
   |_=>cases h
theorem UK{t:T}{a b:Int}(h:EF t a b=true):∃i,t=.int i:=by
 cases t<;>first|exact⟨_,rfl⟩|cases h
end
abbrev RB:Stmt:=top 55
abbrev RC:Stmt:=top 56
abbrev Xr:Stmt:=top 57
abbrev RD:Stmt:=top 58
def KS(xs:List T):Prop:=∃a b c:Int,xs=[.int a,.int b,.int c]∧0≤a∧0≤c∧c<2147483648
section
variable{P:Program}{w:World}{K:a8}{mg:Str→Option Value}{base:Heap}
def GT(K:a8):Sp:=fun vs H Q _=>∃(a:Addr) (ns:List Int),vs=[.ref a,.int 0]∧De K H a (ns.map V.int)∧∀i,Q (.int i) H
theorem Xs:FnScope ["_law_script","_law_k"] ["_law_script","_law_k"] (AA RB):=⟨rfl,rfl,rfl,by decide+kernel,rfl,by decide+kernel,by decide+kernel⟩
theorem UL{f:Addr}{fd:fF}(F:Fun K "_law_cell_at" "_law_cell_at" RB f fd)(T:Txt mg):FnOk P w K mg base (CXe P w) 1 f fd ["_law_script","_law_k"] (GT K):=by
 refine F.okX Xs (fun vs H Q E h=>?_) (fun cdv A outer s H vs Q E hr h=>?_)
 ·obtain⟨a,ns,rfl,_⟩:=h
  rfl
 ·obtain⟨a,ns,rfl,hS,k⟩:=h
  refine⟨_,JY (VC (Mi PD (pv 1) (FY CS (by rfl) T.nLen XY (FE (pv 0) IB)) (Af _)) (Hy (LA (VF FF (pv 0) (pv 1) (fun _ _=>rfl)))) Md) (Hy (LA Ow)),?_⟩
  refine⟨_,rfl,_,rfl,a,_,rfl,.inl hS,_,_,rfl,rfl,_,rfl,?_⟩
  refine Zd (fun h1=>?_) (fun h1=>?_)
  ·have h1:(0:Int)< ((ns.map V.int).length:Int):=by simpa using h1
   cases ns with
   |nil=>simp at h1
   |cons n ns=>exact⟨_,rfl,_,rfl,a,_,0,.int n,rfl,rfl,hS,BI (j:=0) rfl,k n⟩
  ·exact k 0
def RE:BX:=fun ts O Φ _=>∃n:Int,ts=[.int n]∧∀m:Int,0≤m→m<2147483629→Φ (.int m) O
theorem RF:FnScope ["_law_seed"] ["_law_seed"] (AA RC):=⟨rfl,rfl,rfl,by decide+kernel,rfl,by decide+kernel,by decide+kernel⟩
theorem UM{f:Addr}{fd:fF}(F:Fun K "_law_next" "_law_next" RC f fd):FnOk P w K mg base (CXe P w) 1 f fd ["_law_seed"] (BY K RE):=by
 refine AK F RF ?_ ?_
 ·rintro ts O Φ Ξ ⟨n,rfl,_⟩
  rfl
 ·rintro cdv A outer s H E O Ξ hr xf _ Φ ⟨n,rfl,q⟩
  have b1:=kI (n+7919) (show(2147483647:Int)≠0 by decide)
  have b2:=jR (n+7919) (show(0:Int)<2147483647 by decide)
  refine AE (Aa 0 (ET.we (Cb (BE (ev 0) AC) AC (by decide)) ?_) RF.nd)
  exact AF (AJ (ET.we (Cb (BE (BE (Cy (ev 0) (ev 0) (.inl ⟨by omega,by omega⟩)) (Cy AC (ev 0) (.inl ⟨by decide,by decide⟩))) AC) AC (by decide)) (q _ (kI _ (by decide)) (jR _ (by decide)))))
def VY:BX:=fun ts O Φ _=>∃c:Int,ts=[.int c]∧∀(p:Addr) (xs:List T),O p=none→KS xs→Φ (.raw (.ref p)) (Aj O p xs)
theorem VZ:FnScope ["_law_cell","_law_left"] ["_law_cell"] (AA Xr):=⟨rfl,rfl,rfl,by decide+kernel,rfl,by decide+kernel,by decide+kernel⟩
theorem Xu{f:Addr}{fd:fF}(F:Fun K "_law_pen_of" "_law_pen_of" Xr f fd)(T:Txt mg):FnOk P w K mg base (CXe P w) 1 f fd ["_law_cell"] (BY K VY):=by
 refine AK F VZ ?_ ?_
 ·rintro ts O Φ Ξ ⟨n,rfl,_⟩
  rfl
 ·rintro cdv A outer s H E O Ξ hr xf _ Φ ⟨n,rfl,q⟩
  refine AE (Aa 1 (ET.we (Ie T.nMax rfl (ev 0) (Fy AC (ev 0))) ?_) VZ.nd)
  refine AF (AJ (FI (EA.wa (AN (ev 1) (AN (Tc T.nInt (Zw (ev 1) (XC AC AC ⟨by decide,by decide,by decide⟩))) (AN (Cb (ev 1) AC (by decide)) AB))) ⟨by show 3≤sizeLine;decide,fun a ha=>q a _ ha ?_⟩)))
  have b1:=kI (max n (0-n)) (show(1000003:Int)≠0 by decide)
  have b2:=jR (max n (0-n)) (show(0:Int)<1000003 by decide)
  exact⟨_,_,_,rfl,by omega,b1,by omega⟩
def GU:BX:=fun ts O Φ _=>∃(p:Addr) (xs:List T) (m:Int),ts=[.raw (.ref p),.int m]∧O p=some xs∧KS xs∧0<m∧m<1000∧∀(r:Int) (xs':List T),0≤r→r<m→KS xs'→Φ (.int r) (Aj O p xs')
theorem RG:FnScope ["_law_pen","_law_many","_law_found"] ["_law_pen","_law_many"] (AA RD):=⟨rfl,rfl,rfl,by decide+kernel,rfl,by decide+kernel,by decide+kernel⟩
theorem UN{f:Addr}{fd:fF}(F:Fun K "_law_draw" "_law_draw" RD f fd)(G:FnT P w K mg base "_law_next" 1 ["_law_seed"] RE):FnOk P w K mg base (CXe P w) 2 f fd ["_law_pen","_law_many"] (BY K GU):=by
 refine AK F RG ?_ ?_
 ·rintro ts O Φ Ξ ⟨p,xs,m,rfl,_⟩
  rfl
 ·rintro cdv A outer s H E O Ξ hr xf _ Φ ⟨p,_,m,rfl,hp,⟨a,b,c,rfl,a0,c0,c1⟩,m0,m1,q⟩
  refine AE (Ab (Eb (Cz hp (ev 0) AC) AC) (fun h=>?_) (fun h=>Ac ?_))
  ·refine AE (Aa 2 (ET.we (Cb (Cz hp (ev 0) AC) (ev 1) m0) ?_) RG.nd)
   refine AE (GE (ET.we (DN (Cz hp (ev 0) AC) (ev 1) ⟨m0,by omega⟩) (ET.we (ev 0) ⟨p,rfl,ET.we AC ⟨_,0,0,rfl,hp,rfl,?_⟩⟩)))
   exact AF (AJ (ET.we (ev 2) (q _ _ (kI _ (by omega)) (jR _ m0) ⟨a/m,b,c,rfl,Int.ediv_nonneg a0 (by omega),c0,c1⟩)))
  ·refine AE (GE (AW G hr xf (DM (HV FV (AW G hr xf (EA.wa (AN (Cz hp (ev 0) AC) AB) ⟨c,rfl,fun u u0 u1=>?_⟩))))))
   refine ET.we AC (HW _ (BR ⟨u+7,rfl,fun r r0 r1=>ET.we (ev 0) ⟨p,rfl,ET.we AC ⟨_,2,2,rfl,hp,rfl,?_⟩⟩⟩))
   exact AF (AJ (ET.we (Cb (DN (Cz AI (ev 0) AC) AC ⟨by decide,by decide⟩) (ev 1) m0) (q _ _ (kI _ (by omega)) (jR _ m0) ⟨a,b,r,rfl,a0,r0,by omega⟩)))
end
def KU(ns:List Int)(i:Int):Int:=ns.getD i.toNat 0
def nm(ns:List Int)(p:Int×Int):Int×Int:=(min (KU ns p.1) (KU ns p.2),max (KU ns p.1) (KU ns p.2))
theorem KW{ns:List Int}{i:Int}(h0:0≤i)(h1:i<ns.length):atI (ns.map T.int) i=some (.int (KU ns i)):=by
 obtain⟨j,rfl⟩:=fX h0
 have hj:j<ns.length:=by omega
 have:=BI (xs:=ns.map T.int) (j:=j) (v:=.int (ns.getD j 0)) (by
  rw[fc,fz hj]
  simp[kZ,hj])
 exact this
section
variable{P:Program}{w:World}{K:a8}{mg:Str→Option Value}{base:Heap}
theorem NR{ns:List Int}{i:Int}(h0:0≤i)(h1:i<ns.length):KU ns i∈ns:=by
 unfold KU
 have:i.toNat<ns.length:=by omega
 simp[kZ,this]
end
section
variable{P:Program}{w:World}{K:a8}{mg:Str→Option Value}{base:Heap}
theorem AR:(1000:Nat)<sizeLine:=by decide
end
def PO(O0:AG)(p:Addr)(O:AG):Prop:=∃xs,O=Aj O0 p xs∧KS xs
theorem PO.at{O0 O:AG}{p:Addr}(h:PO O0 p O):∃xs,O p=some xs∧KS xs:=by
 obtain⟨xs,rfl,px⟩:=h
 exact⟨xs,AI,px⟩
theorem PO.step{O0 O:AG}{p:Addr}{xs:List T}(h:PO O0 p O)(px:KS xs):PO O0 p (Aj O p xs):=by
 obtain⟨ys,rfl,_⟩:=h
 exact⟨xs,Bl,px⟩
theorem PO.start{O:AG}{p:Addr}{xs:List T}(h:O p=some xs)(px:KS xs):PO O p O:=⟨xs,(QX h).symm,px⟩
section
variable{P:Program}{w:World}{K:a8}{mg:Str→Option Value}{base:Heap}
section
variable{Z:Zx}{ρ:List (Option T)}{O O0 O1:AG}{a b:Expr}{Φ:BJ}{pos q:Pos}{p c:Addr}{m:Int}{acc:List T}
theorem Iz(G:FnT Z.X.prog Z.X.w Z.X.K Z.X.mg Z.X.base "_law_draw" 2 ["_law_pen","_law_many"] GU)(hr:Room 2 Z.X.A)(xf:XFly Z.X Z.W)(po:PO O0 p O)(ha:ET Z ρ O a (.raw (.ref p)))(hb:ET Z ρ O b (.int m))(m0:0<m)(m1:m<1000)(k:∀r O',0≤r→r<m→PO O0 p O'→Φ (.int r) O')(hg:Gl Z.X "_law_draw":=by rfl)
  (he:e9 [a,b] Z.X.env=(false,eval a Z.X.env)::e9 [b] Z.X.env:=by rfl) (he2:e9 [b] Z.X.env=(false,eval b Z.X.env)::e9 [] Z.X.env:=by rfl) (hpl:(jD pos (e9 [b] Z.X.env)).any (·.1)=false:=by rfl):WE Z ρ O (.Call (.Name "_law_draw" q) [a,b] [] pos) Φ:=by
 obtain⟨xs,hp,px⟩:=po.at
 exact AW G hr xf (EA.wa (AN ha (AN hb AB he2) he) ⟨p,xs,m,rfl,hp,px,m0,m1,fun r xs' r0 r1 px'=>k r _ r0 r1 (po.step px')⟩) hg (by decide) he hpl
theorem RH(G:FnT Z.X.prog Z.X.w Z.X.K Z.X.mg Z.X.base "_law_draw" 2 ["_law_pen","_law_many"] GU)(hr:Room 2 Z.X.A)(xf:XFly Z.X Z.W)(po:PO O0 p O)(hc:O c=none)(ha:ET Z ρ (Aj O c acc) a (.raw (.ref p)))(hb:ET Z ρ (Aj O c acc) b (.int m))(m0:0<m)(m1:m<1000)(k:∀r O',0≤r→r<m→PO O0 p O'→O' c=none→Φ (.int r) (Aj O' c acc))(hg:Gl Z.X "_law_draw":=by rfl)
  (he:e9 [a,b] Z.X.env=(false,eval a Z.X.env)::e9 [b] Z.X.env:=by rfl) (he2:e9 [b] Z.X.env=(false,eval b Z.X.env)::e9 [] Z.X.env:=by rfl) (hpl:(jD pos (e9 [b] Z.X.env)).any (·.1)=false:=by rfl):WE Z ρ (Aj O c acc) (.Call (.Name "_law_draw" q) [a,b] [] pos) Φ:=by
 obtain⟨xs,hp,px⟩:=po.at
 have hpc:p≠c:=Xc hp hc
 refine AW G hr xf (EA.wa (AN ha (AN hb AB he2) he) ⟨p,xs,m,rfl,by rw[AZ hpc];exact hp,px,m0,m1,fun r xs' r0 r1 px'=>?_⟩) hg (by decide) he hpl
 rw[DC hpc]
 exact k r _ r0 r1 (po.step px') (by rw[AZ (Ne.symm hpc)];exact hc)
end
end
section
variable{P:Program}{w:World}{K:a8}{mg:Str→Option Value}{base:Heap}
end
open Gr
section
variable{P:Program}{w:World}{K:a8}{mg:Str→Option Value}{base:Heap}{CP:Addr}
def NS:BX:=Er fun ts r=>∃n u t,ts=[.tup [.int n,u],t]∧BC t=false∧r=.bl (EF t 0 (n-1))
theorem UO:FnScope ["web","thing"] ["web","thing"] (AA ME):=⟨rfl,rfl,rfl,by decide+kernel,rfl,by decide+kernel,by decide+kernel⟩
theorem RI{f:Addr}{fd:fF}(F:Fun K "is_place" "is_place" ME f fd)(G:FnT P w K mg base "is_whole" 1 ["thing","least","most"] DT):FnOk P w K mg base (CXe P w) 2 f fd ["web","thing"] (BY K NS):=by
 refine AK F UO ?_ ?_
 ·rintro ts O Φ Ξ ⟨r,⟨n,u,t,rfl,_⟩,_⟩
  rfl
 ·rintro cdv A outer s H E O Ξ hr xf _ Φ ⟨_,⟨n,u,t,rfl,ht,rfl⟩,q⟩
  exact AF (AJ (ET.we (AQ G hr xf (AD (ev 1) (AD AC (AD (Fy (Al (ev 0) AC) AC) AB))) ⟨t,0,n-1,rfl,ht,rfl⟩) q))
def AU(qs:List (Int×Int))(i:Nat):List Int:=qs.filterMap fun p=>if p.1=(i:Int) then some p.2 else if p.2=(i:Int) then some p.1 else none
theorem KY{qs:List (Int×Int)}{p:Int×Int}{i:Nat}:AU (qs++[p]) i=AU qs i++(if p.1=(i:Int) then[p.2] else if p.2=(i:Int) then[p.1] else[]):=by
 unfold AU
 rw[List.filterMap_append]
 congr 1
 by_cases h:p.1=(i:Int)
 ·simp[h]
 ·by_cases h2:p.2=(i:Int)
  ·simp[h,h2]
  ·simp[h,h2]
theorem Bf{qs:List (Int×Int)}{i:Nat}:(AU qs i).length≤qs.length:=List.length_filterMap_le ..
def GV(n:Int)(ps:List (Int×Int)):T:=.lst ((fY n.toNat).map fun i=> .lst ((AU ps i).map T.int))
structure Nst(n:Int)(O:AG)(l:Addr)(qs:List (Int×Int))(rs:List (Addr×List T)):Prop where
 len:(rs.length:Int)=n
 nd:(rs.map jb).Nodup
 ne:∀r∈rs,r.1≠l
 fr:∀r∈rs,O r.1=none
 val:∀(i:Nat) r,rs[i]?=some r→r.2=(AU qs i).map T.int
theorem EG{rs:List (Addr×List T)}{i:Nat}{r:Addr×List T}{vs:List T}(h:rs[i]?=some r):(rs.set i (r.1,vs)).map jb=rs.map jb:=To (us:=r.2) h
theorem aP{O:AG}{rs:List (Addr×List T)}{l:Addr}{i:Nat}{r:Addr×List T}{us:List T}(e:rs[i]?=some r)(hn:(rs.map jb).Nodup)(hl:∀r∈rs,r.1≠l):
  Aj (Aj (JU O rs) l (rs.map Gy)) r.1 us=Aj (JU O (rs.set i (r.1,us))) l ((rs.set i (r.1,us)).map Gy):=by
 rw[DC (hl r (fk e)),Tn (us:=r.2) hn e]
 congr 1
 have:=EG (vs:=us) e
 have e1:∀rs:List (Addr×List T),rs.map Gy=(rs.map jb).map fun a=>T.raw (.ref a):=fun rs=>by rw[gZ];rfl
 rw[e1,e1,this]
theorem Nst.set2{n:Int}{O:AG}{l:Addr}{qs:List (Int×Int)}{rs:List (Addr×List T)}(h:Nst n O l qs rs){a b:Nat}(hab:a≠b){ra rb:Addr×List T}(ea:rs[a]?=some ra)(eb:rs[b]?=some rb):
  Nst n O l (qs++[((a:Int),(b:Int))]) ((rs.set a (ra.1,ra.2++[T.int b])).set b (rb.1,rb.2++[T.int a])):=by
 have eb':(rs.set a (ra.1,ra.2++[T.int b]))[b]?=some rb:=by rw[fZ hab];exact eb
 have m1:=EG (vs:=ra.2++[T.int b]) ea
 have m2:=EG (vs:=rb.2++[T.int a]) eb'
 have hm:∀r∈((rs.set a (ra.1,ra.2++[T.int b])).set b (rb.1,rb.2++[T.int a])),∃r'∈rs,r'.1=r.1:=fun r hr=>by
  have:r.1∈(((rs.set a (ra.1,ra.2++[T.int b])).set b (rb.1,rb.2++[T.int a])).map jb):=mx hr
  rw[m2,m1] at this
  obtain⟨r',h1,h2⟩:=fo.mp this
  exact⟨r',h1,h2⟩
 refine⟨by rw[jZ,jZ];exact h.len,by rw[m2,m1];exact h.nd,fun r hr=>?_,fun r hr=>?_,fun i r e=>?_⟩
 ·obtain⟨r',h1,h2⟩:=hm r hr
  rw[←h2];exact h.ne r' h1
 ·obtain⟨r',h1,h2⟩:=hm r hr
  rw[←h2];exact h.fr r' h1
 ·have la:=(fD.mp ea).1
  have lb:=(fD.mp eb).1
  rw[KY,iy]
  by_cases h1:i=b
  ·subst h1
   rw[gm (by rw[jZ];exact lb)] at e
   cases e
   have:¬((a:Int)=(i:Int)):=by omega
   show rb.2++[T.int a]=_
   rw[h.val i rb eb]
   simp[this]
  ·rw[fZ (fun z=>h1 z.symm)] at e
   by_cases h2:i=a
   ·subst h2
    rw[gm la] at e
    cases e
    show ra.2++[T.int b]=_
    rw[h.val i ra ea]
    simp
   ·rw[fZ (fun z=>h2 z.symm)] at e
    have n1:¬((a:Int)=(i:Int)):=by omega
    have n2:¬((b:Int)=(i:Int)):=by omega
    rw[h.val i r e]
    simp[n1,n2]
theorem Nst.tree{n:Int}{O:AG}{l:Addr}{ps:List (Int×Int)}{rs:List (Addr×List T)}(h:Nst n O l ps rs):T.lst (rs.map fun r=>T.lst r.2)=GV n ps:=by
 have hl:=h.len
 unfold GV
 congr 1
 apply i7
 intro i
 rw[fc,fc]
 by_cases hi:i<rs.length
 ·rw[fz hi,ki (by omega)]
  show some (T.lst rs[i].2)=_
  rw[h.val i rs[i] (fz hi)]
  rfl
 ·rw[jS (by omega),jS (by rw[ig];omega)]
  rfl
def FN:BX:=Er fun ts r=>∃n ps,ts=[Bh n ps]∧0≤n∧n≤200∧Gz n ps∧ps.length≤200∧r=GV n ps
theorem JA:FnScope ["web","nears","a","b"] ["web"] (AA Iu):=⟨rfl,rfl,rfl,by decide+kernel,rfl,by decide+kernel,by decide+kernel⟩
theorem aQ:(Ae ["place"] []).Nodup:=by decide+kernel
theorem RJ{f:Addr}{fd:fF}(F:Fun K "nears_of" "nears_of" Iu f fd)(Tx:Txt mg):FnOk P w K mg base (CXe P w) 1 f fd ["web"] (BY K FN):=by
 refine AK F JA ?_ ?_
 ·rintro ts O Φ Ξ ⟨r,⟨n,ps,rfl,_⟩,_⟩
  rfl
 ·rintro cdv A outer s H E O Ξ hr xf _ Φ ⟨_,⟨n,ps,rfl,n0,n1,hw,hl,rfl⟩,q⟩
  have sb:=AR
  refine AE (Hb (i:=1) (nc:=["place"]) (cap:=[]) (by rfl) JA.nd rfl (Be (AA Iu) ["web","nears","a","b"] (by decide+kernel)) (EI.wi (DO Tx.nRange (Al (ev 0) AC) ⟨by omega,by omega⟩) ?_))
  refine⟨fun i acc O'=>i≤200∧∃as:List Addr,acc=(as.map fun a=> (a,([]:List T))).map Gy∧as.length=i∧as.Nodup∧(∀a∈as,O a=none)∧O'=JU O (as.map fun a=> (a,[])),⟨by omega,[],rfl,rfl,by simp,(fun _ h=>by cases h),rfl⟩,?_,?_⟩
  ·rintro i t acc O' c e ⟨_,as,rfl,hal,hnd,hfr,rfl⟩ hc
   obtain⟨hi,rfl⟩:=DB e
   refine⟨[some (.int (0+(i:Int)))],fun X' Oe He is=> ⟨?_,Ia (LM fun X' Oe He is=>?_)⟩⟩
   ·obtain⟨cl,s',H',fp,rfl⟩:=is
    exact AX 0 aQ (by decide)
   ·obtain⟨cl,s',H',fp,rfl⟩:=is
    refine FI (BR ⟨gT _,fun p hp=>?_⟩)
    have hpc:p≠c:=fun z=>by rw[z,AI] at hp;cases hp
    rw[AZ hpc] at hp
    have hpa:p∉as:=fun z=>by
     rw[Dp (rs:=as.map fun a=> (a,[])) (r:=(p,[])) (by rw[gZ];simpa[Function.comp_def] using hnd) (mx z)] at hp
     cases hp
    have hpO:O p=none:=by
     rw[DS fun r hr=>by
      obtain⟨a,ha,rfl⟩:=fo.mp hr
      exact fun z=>hpa (z▸ha)] at hp
     exact hp
    refine⟨Aj (JU O (as.map fun a=> (a,[]))) p [],DC hpc,by rw[AZ hpc.symm];exact hc,by rw[e8,e8];omega,by omega,as++[p],by rw[iy,iy];rfl,by simp;omega,?_,fun a ha=>?_,?_⟩
    ·rw[gu]
     refine⟨hnd,by simp,fun a ha b hb z=>?_⟩
     rw[b9.mp hb] at z
     exact hpa (z▸ha)
    ·rcases fI.mp ha with ha|ha
     ·exact hfr a ha
     ·rw[b9.mp ha];exact hpO
    ·rw[iy];exact(Qf (r:=(p,[]))).symm
  ·rintro acc O' ⟨_,as,rfl,hal,hnd,hfr,rfl⟩ l hlO
   rw[BN] at hal
   have hkeys:((as.map fun a=> (a,([]:List T))).map jb)=as:=by rw[gZ];simp[Function.comp_def]
   have nst0:Nst n O l [] (as.map fun a=> (a,([]:List T))):=by
    refine⟨by rw[e8];omega,by rw[hkeys];exact hnd,fun r hr z=>?_,fun r hr=>?_,fun i r e=>?_⟩
    ·rw[←z,Dp (by rw[hkeys];exact hnd) hr] at hlO
     cases hlO
    ·obtain⟨a,ha,rfl⟩:=fo.mp hr
     exact hfr a ha
    ·have:=fk e
     obtain⟨a,ha,rfl⟩:=fo.mp this
     rfl
   have hlO':O l=none:=by
    rw[DS nst0.ne] at hlO
    exact hlO
   refine AE (Cd As.own rfl (EI.wi (Bv (Al (ev 0) AC)) ⟨fun j ρ' O'=>∃rs v2 v3,ρ'=[some (Bh n ps),some (.raw (.ref l)),v2,v3]∧O'=Aj (JU O rs) l (rs.map Gy)∧Nst n O l (ps.take j) rs,⟨_,none,none,rfl,rfl,by rw[ot];exact nst0⟩,?_,?_⟩))
   ·rintro j t _ _ e ⟨rs,v2,v3,rfl,rfl,nst⟩
    rw[fc] at e
    cases ec:ps[j]? with
    |none=>rw[ec] at e;cases e
    |some z=>
     rw[ec] at e
     cases e
     have hb:=hw z (fk ec)
     have hlen:=nst.len
     have htl:(ps.take j).length≤200:=by rw[gD];omega
     obtain⟨a,ea⟩:=fX hb.1
     obtain⟨b,eb⟩:=fX (show 0≤z.2 by omega)
     have ha:a<rs.length:=by omega
     have hb':b<rs.length:=by omega
     have hab:a≠b:=by omega
     have ga:=fz ha
     have gb:(rs.set a (rs[a].1,rs[a].2++[T.int b]))[b]?=some rs[b]:=by rw[fZ hab];exact fz hb'
     have m1:=EG (vs:=rs[a].2++[T.int b]) ga
     have nd1:((rs.set a (rs[a].1,rs[a].2++[T.int b])).map jb).Nodup:=by rw[m1];exact nst.nd
     have ne1:∀r∈rs.set a (rs[a].1,rs[a].2++[T.int b]),r.1≠l:=fun r hr=>by
      have:r.1∈(rs.set a (rs[a].1,rs[a].2++[T.int b])).map jb:=mx hr
      rw[m1] at this
      obtain⟨r',h1,h2⟩:=fo.mp this
      rw[←h2];exact nst.ne r' h1
     have la:rs[a].2.length≤200:=by rw[nst.val a rs[a] ga,e8];exact gL Bf htl
     have lb:rs[b].2.length≤200:=by rw[nst.val b rs[b] (fz hb'),e8];exact gL Bf htl
     have ez:z=((a:Int),(b:Int)):=by rw[←ea,←eb]
     subst ez
     refine⟨[some (Bh n ps),some (.raw (.ref l)),some (.int a),some (.int b)],Cc 2 3 rfl JA.nd (by show 2<4;decide) (by show 3<4;decide),?_⟩
     refine AE (Ad (Ee (ET.we (Cz (ts:=rs.map Gy) AI (ev 1) (ev 2) (BI (by rw[fc,ga];rfl))) ⟨rs[a].1,rfl,⟨rs[a].2,?_⟩,ET.we (ev 3) ⟨rs[a].2,?_,by omega,?_⟩⟩)))
     ·rw[AZ (nst.ne _ (iB ha))];exact Dp nst.nd (iB ha)
     ·rw[AZ (nst.ne _ (iB ha))];exact Dp nst.nd (iB ha)
     ·rw[aP ga nst.nd nst.ne]
      refine AF (Ad (Ee (ET.we (Cz (ts:=(rs.set a (rs[a].1,rs[a].2++[T.int b])).map Gy) AI (ev 1) (ev 3) (BI (by rw[fc,gb];rfl))) ⟨rs[b].1,rfl,⟨rs[b].2,?_⟩,ET.we (ev 2) ⟨rs[b].2,?_,by omega,?_⟩⟩)))
      ·rw[AZ (ne1 _ (fk gb))];exact Dp nd1 (fk gb)
      ·rw[AZ (ne1 _ (fk gb))];exact Dp nd1 (fk gb)
      ·rw[aP gb nd1 ne1]
       refine⟨_,_,_,rfl,rfl,?_⟩
       have:ps.take (j+1)=ps.take j++[((a:Int),(b:Int))]:=by
        rw[i6,ec];rfl
       rw[this]
       exact nst.set2 hab ga (fz hb')
   ·rintro _ _ ⟨rs,v2,v3,rfl,rfl,nst⟩
    rw[e8,iS] at nst
    refine Qh nst.nd nst.ne nst.fr nst.fr ?_
    refine DA (p:=l) (n:=1) (ts:=rs.map fun r=>T.lst r.2) AI hlO' rfl ?_
    rw[BG hlO']
    refine AF (AJ (ET.we (ev 1) ?_))
    show Φ (T.lst (rs.map fun r=>T.lst r.2)) O
    rw[nst.tree]
    exact q
end
section
variable{P:Program}{w:World}{K:a8}{mg:Str→Option Value}{base:Heap}{CP:Addr}
theorem Hk{n:Int}{ps:List (Int×Int)}(hw:Gz n ps){i:Nat}{v:Int}:v∈AU ps i↔Adj ps (i:Int) v:=by
 unfold AU Adj
 rw[jw]
 constructor
 ·rintro⟨p,hp,e⟩
  by_cases h:p.1=(i:Int)
  ·rw[if_pos h] at e
   cases e
   exact .inl (by rw[←h];exact hp)
  ·rw[if_neg h] at e
   by_cases h2:p.2=(i:Int)
   ·rw[if_pos h2] at e
    cases e
    exact .inr (by rw[←h2];exact hp)
   ·rw[if_neg h2] at e;cases e
 ·rintro(h|h)
  ·exact⟨_,h,by simp⟩
  ·have:=hw _ h
   simp only at this
   exact⟨_,h,by rw[if_neg (by omega)];simp⟩
theorem RL{n:Int}{ps:List (Int×Int)}{i:Nat}(h:(i:Int)<n):atI ((fY n.toNat).map fun i=>T.lst ((AU ps i).map T.int)) (i:Int)=some (.lst ((AU ps i).map T.int)):=
 BI (by rw[fc,ki (by omega)];rfl)
theorem JB{m:Nat}{i:Nat}(h:i<m):PQ m (i:Int)=some i:=by
 unfold PQ
 rw[if_pos (by omega),if_pos (by omega)]
 rfl
structure WebN(n:Int)(ps:List (Int×Int)):Prop where
 n0:0≤n
 n1:n≤200
 hw:Gz n ps
 hl:ps.length≤200
def BP:Option Nat→T
 |none=> .non
 |some d=> .int d
theorem KZ{x:Option Nat}:BC (BP x)=false:=by cases x<;>rfl
theorem Ka{x:Option Nat}:GL (BP x)=x.isNone:=by cases x<;>rfl
def RM:List Str:=["nears","starts","fars","start","border","steps","beyond","place","near"]
theorem Bw:FnScope RM ["nears","starts"] (AA Hj):=⟨rfl,rfl,rfl,by decide+kernel,rfl,by decide+kernel,by decide+kernel⟩
theorem aR:(Ae ["near"] []).Nodup:=by decide+kernel
def de(i:Nat):Stmt:=(Aw Hj).getD i (.Pass ⟨0,0,0,0⟩)
def Kb:Stmt→List Stmt
 | .While _ b _ _=>b
 | .For _ _ b _ _=>b
 |_=> []
def df(i:Nat):Stmt:=(Kb (de 4)).getD i (.Pass ⟨0,0,0,0⟩)
variable{f:Addr}{cdv:Value}{A:fG}{outer:List Env}{s:a9}{H:Hp}{E:XK}{O:AG}{Ξ:Value→AG→Prop}{n:Int}{ps:List (Int×Int)}{S bs:List Int}{l lb:Addr}
abbrev zF(P:Program)(w:World)(K:a8)(mg:Str→Option Value)(base:Heap)(f:Addr)(cdv:Value)(A:fG)(outer:List Env)(s:a9)(H:Hp)(E:XK)(O:AG)(Ξ:Value→AG→Prop):Zx:=zB P w K mg base RM "fars_from" (AA Hj) f cdv A outer s H E O Ξ
abbrev FA(O:AG)(l lb:Addr)(fs:List (Option Nat))(Av:List Int):AG:=Aj (Aj O l (fs.map BP)) lb (Av.map T.int)
end
section
variable{P:Program}{w:World}{K:a8}{mg:Str→Option Value}{base:Heap}{CP:Addr}{f:Addr}{cdv:Value}{A:fG}{outer:List Env}{s:a9}{H:Hp}{E:XK}{O:AG}{Ξ:Value→AG→Prop}{n:Int}{ps:List (Int×Int)}{S bs:List Int}{l lb:Addr}
end
open GrR
abbrev GW(rows:List (List Int)):T:=.lst (rows.map fun r=> .lst (r.map T.int))
def Rw(rows:List (List Int))(u v:Int):Prop:=0≤u∧v∈rows.getD u.toNat []
structure RowsN(n:Int)(rows:List (List Int)):Prop where
 len:(rows.length:Int)=n
 n1:n≤200
 hw:aJ n (Rw rows)
theorem Kc{rows:List (List Int)}{i:Nat}{v:Int}:v∈rows.getD i []↔Rw rows (i:Int) v:=by
 unfold Rw
 rw[gJ]
 exact⟨fun h=> ⟨by omega,h⟩,fun h=>h.2⟩
theorem NT{rows:List (List Int)}{i:Nat}(h:i<rows.length):atI (rows.map fun r=>T.lst (r.map T.int)) (i:Int)=some (.lst ((rows.getD i []).map T.int)):=
 BI (by rw[fc,fz h];simp[kZ,h])
theorem RN{R:Int→Int→Prop}{S:List Int}{v:Int}:IsD R S v 0↔v∈S:=by
 constructor
 ·rintro⟨w,_⟩
  cases w with
  |«at» h=>exact h
 ·intro h
  exact⟨.at h,fun j hj=>by omega⟩
section
variable{P:Program}{w:World}{K:a8}{mg:Str→Option Value}{base:Heap}{f:Addr}{cdv:Value}{A:fG}{outer:List Env}{s:a9}{H:Hp}{E:XK}{O:AG}{Ξ:Value→AG→Prop}{n:Int}{rows:List (List Int)}{S bs:List Int}{l lb:Addr}
def NU:BX:=fun ts O Φ _=>∃n rows S,ts=[GW rows,.lst (S.map T.int)]∧RowsN n rows∧(∀z∈S,0≤z∧z<n)∧∀fs,All n (Rw rows) S fs→Φ (.lst (fs.map BP)) O
abbrev FB(n:Int)(rows:List (List Int))(S:List Int)(l:Addr)(v3:Option T)(bs:List Int)(k:Nat)(v6 v7 v8:Option T):List (Option T):=[some (GW rows),some (.lst (S.map T.int)),some (.raw (.ref l)),v3,some (.lst (bs.map T.int)),some (.int (k:Int)),v6,v7,v8]
theorem Oh{v3 v7:Option T}{k:Nat}{fs:List (Option Nat)}{Av ds:List Int}{u:Int}{v:Nat}{Φ:BJ}{N Bk Ct:OT}(hll:lb≠l)(n1:n≤200)(hv:(v:Int)<n)(m:Mid n (Rw rows) S k fs Av ds)(nd:Av.Nodup)(hw:aJ n (Rw rows))(hS:∀z∈S,0≤z∧z<n)(hu:IsD (Rw rows) S u k)(a:Rw rows u v)
  (q:∀fs Av,Mid n (Rw rows) S k fs Av (ds++[(v:Int)])→Av.Nodup→N (FB n rows S l v3 bs (k+1) (some (.raw (.ref lb))) v7 (some (.int v))) (FA O l lb fs Av)):
  GD (zF P w K mg base f cdv A outer s H E O Ξ) (FB n rows S l v3 bs (k+1) (some (.raw (.ref lb))) v7 (some (.int v))) (FA O l lb fs Av) (Kb ((Kb (df 2)).getD 0 (.Pass ⟨0,0,0,0⟩))) {nx:=N,rt:=Φ,bk:=Bk,ct:=Ct}:=by
 have sb:=AR
 have hl:=m.len
 have hlt:v<fs.length:=by omega
 have gl:FA O l lb fs Av l=some (fs.map BP):=by
  show Aj (Aj O l _) lb _ l=_
  rw[AZ hll.symm,AI]
 have gv:atI (fs.map BP) (v:Int)=some (BP fs[v]):=BI (by rw[fc,fz hlt];rfl)
 refine AF (Ab (Ij KZ (Cz gl (ev 2) (ev 8) gv)) (fun h=>?_) (fun h=>Ac ?_))
 ·rw[Ka] at h
  have hn:fs[(v:Int).toNat]?=some none:=by
   rw[gJ,fz hlt]
   cases z:fs[v] with
   |none=>rfl
   |some d=>rw[z] at h;cases h
  have hb:Av.length≤n.toNat:=Gr.GM nd fun z hz=> (m.sub z hz).1.inb hw hS
  refine AE (GE (ET.we (ev 5) (ET.we (ev 2) ⟨l,rfl,ET.we (ev 8) ⟨_,_,v,rfl,gl,by rw[e8];exact JB hlt,?_⟩⟩)))
  have eo:Aj (FA O l lb fs Av) l ((fs.map BP).set v (.int ((k+1:Nat):Int)))=FA O l lb (fs.set v (some (k+1))) Av:=by
   show Aj (Aj (Aj O l _) lb _) l _=_
   rw[DC hll.symm,Bl]
   show _=Aj (Aj O l ((fs.set v (some (k+1))).map BP)) lb _
   rw[nR]
   rfl
  rw[eo]
  refine AF (Ad (Ee (ET.we (ev 6) ⟨lb,rfl,⟨_,AI⟩,ET.we (ev 8) ⟨Av.map T.int,AI,by rw[e8];omega,?_⟩⟩)))
  have m2:=m.hit (v:=(v:Int)) (by omega) hv hn hu a
  rw[gJ] at m2
  have:=q _ _ m2 (by
   rw[gu]
   refine⟨nd,by simp,fun x hx y hy z=>?_⟩
   rw[b9.mp hy] at z
   exact m.fresh (by omega) hv hn (z▸hx))
  have e2:Aj (FA O l lb (fs.set v (some (k+1))) Av) lb (Av.map T.int++[T.int v])=FA O l lb (fs.set v (some (k+1))) (Av++[(v:Int)]):=by
   show Aj (Aj (Aj O l _) lb _) lb _=Aj (Aj O l _) lb _
   rw[Bl,iy]
   rfl
  rw[e2]
  exact this
 ·rw[Ka] at h
  cases z:fs[v] with
  |none=>rw[z] at h;cases h
  |some d=>exact q fs Av (m.miss (by omega) hv (d:=d) (by rw[gJ,fz hlt,z])) nd
theorem MM{v3 v8:Option T}{k:Nat}{fs:List (Option Nat)}{Av ds:List Int}{u:Nat}{Φ:BJ}{N Bk Ct:OT}(hll:lb≠l)(hrl:(rows.length:Int)=n)(n1:n≤200)(hu0:(u:Int)<n)(m:Mid n (Rw rows) S k fs Av ds)(nd:Av.Nodup)(hw:aJ n (Rw rows))(hS:∀z∈S,0≤z∧z<n)(hu:IsD (Rw rows) S u k)
  (q:∀v8 fs Av ds',Mid n (Rw rows) S k fs Av ds'→Av.Nodup→(∀v∈ds,v∈ds')→(∀v,Rw rows u v→v∈ds')→N (FB n rows S l v3 bs (k+1) (some (.raw (.ref lb))) (some (.int u)) v8) (FA O l lb fs Av)):
  GD (zF P w K mg base f cdv A outer s H E O Ξ) (FB n rows S l v3 bs (k+1) (some (.raw (.ref lb))) (some (.int u)) v8) (FA O l lb fs Av) (Kb (df 2)) {nx:=N,rt:=Φ,bk:=Bk,ct:=Ct}:=by
 refine AF (Cd As.own rfl (EI.wi (BB (GB (ev 0) (ev 7) (NT (by omega)))) ⟨fun j ρ' O'=>∃v8 fs Av ds',ρ'=FB n rows S l v3 bs (k+1) (some (.raw (.ref lb))) (some (.int u)) v8∧O'=FA O l lb fs Av∧Mid n (Rw rows) S k fs Av ds'∧Av.Nodup∧(∀v∈ds,v∈ds')∧∀v∈(rows.getD u []).take j,v∈ds',⟨v8,fs,Av,ds,rfl,rfl,m,nd,fun _ h=>h,fun v h=>by simp at h⟩,?_,?_⟩))
 ·rintro j t _ _ e ⟨v8,fs,Av,ds',rfl,rfl,m,nd,h1,h2⟩
  rw[fc] at e
  cases ec:(rows.getD u [])[j]? with
  |none=>rw[ec] at e;cases e
  |some z=>
   rw[ec] at e
   cases e
   have a:=Kc.mp (fk ec)
   have hb:=hw _ _ a
   obtain⟨v,rfl⟩:=fX hb.1
   refine⟨FB n rows S l v3 bs (k+1) (some (.raw (.ref lb))) (some (.int u)) (some (.int v)),AX 8 Bw.nd (by show 8<9;decide),Oh hll n1 hb.2 m nd hw hS hu a fun fs' bey' m' nd'=> ⟨_,_,_,_,rfl,rfl,m',nd',fun x hx=>jf _ (h1 x hx),fun x hx=>?_⟩⟩
   rw[i6,ec] at hx
   rcases fI.mp hx with hx|hx
   ·exact jf _ (h2 x hx)
   ·exact gI _ hx
 ·rintro _ _ ⟨v8,fs,Av,ds',rfl,rfl,m,nd,h1,h2⟩
  rw[e8,iS] at h2
  exact q v8 fs Av ds' m nd h1 fun v a=>h2 v (Kc.mpr a)
theorem MN{v3 v6 v7 v8:Option T}{k:Nat}{fs:List (Option Nat)}{Φ:BJ}{N Bk Ct:OT}(hlO:O l=none)(wn:RowsN n rows)(hS:∀z∈S,0≤z∧z<n)(h:Fr n (Rw rows) S k fs)(hb:∀v,v∈bs↔IsD (Rw rows) S v k)
  (q:∀v6 v7 v8 fs Av,Fr n (Rw rows) S (k+1) fs→(∀v,v∈Av↔IsD (Rw rows) S v (k+1))→N (FB n rows S l v3 Av (k+1) v6 v7 v8) (Aj O l (fs.map BP))):
  GD (zF P w K mg base f cdv A outer s H E O Ξ) (FB n rows S l v3 bs k v6 v7 v8) (Aj O l (fs.map BP)) (Kb (de 4)) {nx:=N,rt:=Φ,bk:=Bk,ct:=Ct}:=by
 have sb:=AR
 refine AE (Lp 5 Oy rfl (ET.we AC (fun H v w Q ok r1 r2 acc=> ⟨_,_,r1.int_inv,r2.int_inv,acc _ H (.int (((k+1:Nat):Int))) _ ?_ (.refl ok) (.int _)⟩)) Bw.nd)
 refine AE (Aa 6 (FI (BR ⟨gT _,fun lb hlb=>?_⟩)) Bw.nd)
 have hll:lb≠l:=fun z=>by rw[z,AI] at hlb;cases hlb
 have hlb':O lb=none:=by rw[AZ hll] at hlb;exact hlb
 refine AE (Cd As.own rfl (EI.wi (BB (ev 4)) ⟨fun i ρ' O'=>∃v7 v8 fs Av ds,ρ'=FB n rows S l v3 bs (k+1) (some (.raw (.ref lb))) v7 v8∧O'=FA O l lb fs Av∧Mid n (Rw rows) S k fs Av ds∧Av.Nodup∧∀u∈bs.take i,∀v,Rw rows u v→v∈ds,⟨v7,v8,fs,[],[],rfl,rfl,h.mid,by simp,fun u hu=>by simp at hu⟩,?_,?_⟩))
 ·rintro i t _ _ e ⟨v7,v8,fs,Av,ds,rfl,rfl,m,nd,h1⟩
  rw[fc] at e
  cases ec:bs[i]? with
  |none=>rw[ec] at e;cases e
  |some z=>
   rw[ec] at e
   cases e
   have hz:=(hb z).mp (fk ec)
   have hi:=hz.1.inb wn.hw hS
   obtain⟨u,rfl⟩:=fX hi.1
   refine⟨FB n rows S l v3 bs (k+1) (some (.raw (.ref lb))) (some (.int u)) v8,AX 7 Bw.nd (by show 7<9;decide),MM hll wn.len wn.n1 hi.2 m nd wn.hw hS hz fun v8 fs' bey' ds' m' nd' g1 g2=> ⟨_,_,_,_,ds',rfl,rfl,m',nd',fun x hx v a=>?_⟩⟩
   rw[i6,ec] at hx
   rcases fI.mp hx with hx|hx
   ·exact g1 v (h1 x hx v a)
   ·have:x=(u:Int):=by simpa using hx
    rw[this] at a
    exact g2 v a
 ·rintro _ _ ⟨v7,v8,fs,Av,ds,rfl,rfl,m,nd,h1⟩
  rw[e8,iS] at h1
  obtain⟨h2,h3⟩:=m.done fun u v hu a=>h1 u ((hb u).mpr hu) v a
  refine DA (p:=lb) (n:=6) (ts:=Av.map T.int) AI hlb' rfl ?_
  rw[show DZ (FA O l lb fs Av) lb=Aj O l (fs.map BP) from BG (by rw[AZ hll];exact hlb')]
  exact AF (Aa 4 (ET.we (ev 6) (q _ _ _ fs Av h2 h3)) Bw.nd)
theorem RO{fd:fF}(F:Fun K "fars_from" "fars_from" Hj f fd):FnOk P w K mg base (CXe P w) 1 f fd ["nears","starts"] (BY K NU):=by
 refine AK F Bw ?_ ?_
 ·rintro ts O Φ Ξ ⟨n,rows,S,rfl,_⟩
  rfl
 ·rintro cdv A outer s H E O Ξ hr xf _ Φ ⟨n,rows,S,rfl,wn,hS,q⟩
  have sb:=AR
  have n0:=wn.len
  have n1:=wn.n1
  refine AE (Hb (i:=2) (nc:=["near"]) (cap:=[]) (by rfl) Bw.nd rfl (Be (AA Hj) RM (by decide+kernel)) (EI.wi (BB (ev 0)) ?_))
  refine⟨fun i acc O'=>i≤200∧acc=(iA i (none:Option Nat)).map BP∧O=O',⟨by omega,rfl,rfl⟩,?_,?_⟩
  ·rintro i t acc _ c e ⟨_,rfl,rfl⟩ hc
   have hi:i<rows.length:=by
    have:=(fD.mp e).1
    simpa using this
   refine⟨[some t],fun X' Oe He is=> ⟨?_,Ia (LM fun X' Oe He is=>?_)⟩⟩
   ·obtain⟨cl,s',H',fp,rfl⟩:=is
    exact AX 0 aR (by decide)
   ·obtain⟨cl,s',H',fp,rfl⟩:=is
    exact ET.we Ca ⟨O,rfl,hc,by rw[e8,jt];omega,by omega,by rw[List.replicate_succ',iy];rfl,rfl⟩
  ·rintro acc _ ⟨_,rfl,rfl⟩ l hlO
   rw[e8]
   refine AE (Cd As.own rfl (EI.wi (BB (ev 1)) ⟨fun j ρ' O'=>∃(fs:List (Option Nat)) (v3:Option T),ρ'=[some (GW rows),some (.lst (S.map T.int)),some (.raw (.ref l)),v3,none,none,none,none,none]∧O'=Aj O l (fs.map BP)∧(fs.length:Int)=n∧∀v:Int,0≤v→v<n→∀d,fs[v.toNat]?=some (some d)↔(d=0∧v∈S.take j),⟨_,none,rfl,rfl,by rw[jt];omega,fun v v0 v1 d=>?_⟩,?_,?_⟩))
   ·rw[jg]
    simp
   ·rintro j t _ _ e ⟨fs,v3,rfl,rfl,hl,hf⟩
    rw[fc] at e
    cases ec:S[j]? with
    |none=>rw[ec] at e;cases e
    |some z=>
     rw[ec] at e
     cases e
     have hz:=hS z (fk ec)
     obtain⟨v,rfl⟩:=fX hz.1
     have hlt:v<fs.length:=by omega
     refine⟨[some (GW rows),some (.lst (S.map T.int)),some (.raw (.ref l)),some (.int v),none,none,none,none,none],AX 3 Bw.nd (by show 3<9;decide),?_⟩
     refine AF (GE (ET.we AC (ET.we (ev 2) ⟨l,rfl,ET.we (ev 3) ⟨_,_,v,rfl,AI,by rw[e8];exact JB hlt,?_⟩⟩)))
     refine⟨fs.set v (some 0),_,rfl,by rw[Bl,nR];rfl,by rw[jZ];exact hl,fun y y0 y1 d=>?_⟩
     rw[i6,ec]
     by_cases hy:y=(v:Int)
     ·subst hy
      rw[gJ,gm hlt]
      simp[eq_comm]
     ·rw[fZ (by omega),hf y y0 y1 d]
      simp[hy]
   ·rintro _ _ ⟨fs,v3,rfl,rfl,hl,hf⟩
    rw[e8,iS] at hf
    have fr:Fr n (Rw rows) S 0 fs:=Tp hl hf
    refine AE (Aa 4 (ET.we (ev 1) ?_) Bw.nd)
    refine AE (Aa 5 (ET.we AC ?_) Bw.nd)
    refine AE (Qe As.own (fun m ρ' O'=>∃(k:Nat) (bs:List Int) (fs:List (Option Nat)) (v3 v6 v7 v8:Option T),ρ'=FB n rows S l v3 bs k v6 v7 v8∧O'=Aj O l (fs.map BP)∧Fr n (Rw rows) S k fs∧(∀v,v∈bs↔IsD (Rw rows) S v k)∧m=n.toNat+1-k) ⟨_,0,S,fs,v3,none,none,none,rfl,rfl,fr,fun v=>RN.symm,rfl⟩ ?_)
    rintro m _ _ ⟨k,bs,fs,v3,v6,v7,v8,rfl,rfl,fr,hb,rfl⟩
    refine(show EB (zF P w K mg base f cdv A outer s H E O Ξ) (FB n rows S l v3 bs k v6 v7 v8) (Aj O l (fs.map BP)) _ (!(bs.map T.int).isEmpty) from Dz (t:=T.lst (bs.map T.int)) (ev 4) rfl) _ ?_
    cases bs with
    |nil=>
     refine Sj ?_
     have al:=fr.all_end fun v hv=>by
      have:=(hb v).mpr hv
      cases this
     refine DA (p:=l) (n:=2) (ts:=fs.map BP) AI hlO rfl ?_
     rw[BG hlO]
     exact AF (AJ (ET.we (ev 2) (q fs al)))
    |cons b bs'=>
     refine LM (MN hlO wn hS fr hb fun v6 v7 v8 fs' Av fr' hb'=> ⟨_,?_,k+1,Av,fs',_,v6,v7,v8,rfl,rfl,fr',hb',rfl⟩)
     have:=((hb b).mp (by simp)).lt wn.hw hS
     omega
end
end K35
namespace L2.TL
open PySem PySem.Spec PyProof.Rows
section
variable{Z:Zx}{ρ:List (Option T)}{O:AG}{e:Expr}{p pos:Pos}{ns:List Int}{i:Int}
theorem UP(hi:Fu ns i)(m:Z.X.mg "min" =none)(hc:Z.X.calm=true)(h:ET Z ρ O e (.lst (ns.map T.int)))(hg:Gl Z.X "min":=by rfl)(he:e9 [e] Z.X.env=(false,eval e Z.X.env)::e9 [] Z.X.env:=by rfl):ET Z ρ O (.Call (.Name "min" p) [e] [] pos) (.int i):=
 BM (OQ hc) m XX (AN h AB he) (fun Φ q H vs Q ok r k=>by
  obtain⟨v,rfl,r1⟩:=r.one_inv
  obtain⟨a,xs,rfl,h1,o1,r1⟩:=r1.lst_inv
  cases Reps.ints r1
  refine⟨a,ns,rfl,.inl (.inl (.inl h1)),kG hi.1,fun n hn=>?_⟩
  have:n=i:=nZ (hn.2 i hi.1) (hi.2 n hn.1)
  rw[this]
  exact k _ H _ O q (.refl ok) (.int _)) hg (by decide) (by decide) he
theorem UQ(hi:My ns i)(m:Z.X.mg "max" =none)(hc:Z.X.calm=true)(h:ET Z ρ O e (.lst (ns.map T.int)))(hg:Gl Z.X "max":=by rfl)(he:e9 [e] Z.X.env=(false,eval e Z.X.env)::e9 [] Z.X.env:=by rfl):ET Z ρ O (.Call (.Name "max" p) [e] [] pos) (.int i):=
 BM (OR hc) m aF (AN h AB he) (fun Φ q H vs Q ok r k=>by
  obtain⟨v,rfl,r1⟩:=r.one_inv
  obtain⟨a,xs,rfl,h1,o1,r1⟩:=r1.lst_inv
  cases Reps.ints r1
  refine⟨a,ns,rfl,.inl (.inl (.inl h1)),kG hi.1,fun n hn=>?_⟩
  have:n=i:=nZ (hi.2 n hn.1) (hn.2 i hi.1)
  rw[this]
  exact k _ H _ O q (.refl ok) (.int _)) hg (by decide) (by decide) he
theorem Ke:∀{ns:List Int},ns≠[]→∃i,Fu ns i
 | [],h=>absurd rfl h
 | [a],_=> ⟨a,by simp,fun n hn=>by rw[b9.mp hn];exact jz _⟩
 |a::b::ns,_=>by
  obtain⟨i,h1,h2⟩:=Ke (ns:=b::ns) (by simp)
  refine⟨min a i,?_,fun n hn=>?_⟩
  ·rcases mB a i with h|h
   ·rw[lC h];simp
   ·rw[k4 h];exact fv _ h1
  ·rcases fh.mp hn with rfl|hn
   ·exact Int.min_le_left ..
   ·exact jK (Int.min_le_right ..) (h2 n hn)
theorem NV:∀{ns:List Int},ns≠[]→∃i,My ns i
 | [],h=>absurd rfl h
 | [a],_=> ⟨a,by simp,fun n hn=>by rw[b9.mp hn];exact jz _⟩
 |a::b::ns,_=>by
  obtain⟨i,h1,h2⟩:=NV (ns:=b::ns) (by simp)
  refine⟨max a i,?_,fun n hn=>?_⟩
  ·rcases mB a i with h|h
   ·rw[l7 h];exact fv _ h1
   ·rw[mq h];simp
  ·rcases fh.mp hn with rfl|hn
   ·exact Int.le_max_left ..
   ·exact jK (h2 n hn) (Int.le_max_right ..)
end
end L2.TL
namespace K35
open PySem L2 L2.TL PySem.Spec PyProof.Rows Gr
section
variable{P:Program}{w:World}{K:a8}{mg:Str→Option Value}{base:Heap}{CN:Addr}
def NW(CN:Addr):BX:=fun ts O Φ Ξ=>∃t a b,ts=[t,.int a,.int b]∧BC t=false∧(EF t a b=true→Φ .non O)∧(EF t a b=false→Ξ (.ref CN) O)
theorem aS:FnScope ["thing","least","most"] ["thing","least","most"] (AA Ir):=⟨rfl,rfl,rfl,by decide+kernel,rfl,by decide+kernel,by decide+kernel⟩
theorem Xv{f:Addr}{fd:fF}(F:Fun K "need_number" "need_number" Ir f fd)(mN:mg "NoNumber" =some (.ref CN))(xN:j7 K CN OD "ValueError.__new__" =true)(G:FnT P w K mg base "is_whole" 1 ["thing","least","most"] DT):FnOk P w K mg base (CXe P w) 2 f fd ["thing","least","most"] (BY K (NW CN)):=by
 refine NH F aS ?_ ?_
 ·rintro ts O Φ Ξ ⟨t,a,b,rfl,_⟩
  rfl
 ·rintro cdv A outer s H E O Ξ hr xo _ Φ ⟨t,a,b,rfl,ht,q1,q2⟩
  refine AF (Ab (Ay (Da (AQ G hr xo.f (AD (ev 0) (AD (ev 1) (AD (ev 2) AB))) ⟨t,a,b,rfl,ht,rfl⟩))) (fun h=>AF (DR xo rfl mN xN (q2 ?_))) (fun h=>Ac (q1 ?_)))
  ·cases z:EF t a b with
   |true=>rw[z] at h;cases h
   |false=>rfl
  ·cases z:EF t a b with
   |true=>rfl
   |false=>rw[z] at h;cases h
def BS(n:Int)(ps:List (Int×Int)):List Int:=(fY n.toNat).map fun i=> ((AU ps i).length:Int)
def aT(cs:List Int):T:=if cs.all (fun c=>decide (c=cs.headD 0))=true then .int (cs.headD 0) else .non
def JC:BX:=Er fun ts r=>∃n ps,ts=[Bh n ps]∧WebN n ps∧1≤n∧r=aT (BS n ps)
theorem RQ:FnScope ["web","counts"] ["web"] (AA NO):=⟨rfl,rfl,rfl,by decide+kernel,rfl,by decide+kernel,by decide+kernel⟩
theorem aU:(Ae ["near"] []).Nodup:=by decide+kernel
theorem Xw{cs:List Int}{a b:Int}(ha:Fu cs a)(hb:My cs b):cs.all (fun c=>decide (c=cs.headD 0))=decide (a=b):=by
 have hne:cs≠[]:=fun z=>by rw[z] at ha;cases ha.1
 have hh:cs.headD 0∈cs:=by
  cases cs with
  |nil=>exact absurd rfl hne
  |cons x xs=>simp
 by_cases h:a=b
 ·subst h
  rw[decide_eq_true rfl,iK]
  intro c hc
  have h1:=ha.2 c hc
  have h2:=hb.2 c hc
  have h3:=ha.2 _ hh
  have h4:=hb.2 _ hh
  exact decide_eq_true (by omega)
 ·rw[decide_eq_false h]
  cases z:cs.all (fun c=>decide (c=cs.headD 0)) with
  |false=>rfl
  |true=>
   rw[iK] at z
   have h1:=of_decide_eq_true (z a ha.1)
   have h2:=of_decide_eq_true (z b hb.1)
   omega
theorem UR{f:Addr}{fd:fF}(F:Fun K "even_by" "even_by" NO f fd)(Tx:Txt mg)(G:FnT P w K mg base "nears_of" 1 ["web"] FN):FnOk P w K mg base (CXe P w) 2 f fd ["web"] (BY K JC):=by
 refine AK F RQ ?_ ?_
 ·rintro ts O Φ Ξ ⟨r,⟨n,ps,rfl,_⟩,_⟩
  rfl
 ·rintro cdv A outer s H E O Ξ hr xf _ Φ ⟨_,⟨n,ps,rfl,wn,n0,rfl⟩,q⟩
  have sb:=AR
  have n1:=wn.n1
  have hlen:(BS n ps).length=n.toNat:=by simp[BS]
  have hne:BS n ps≠[]:=fun z=>by rw[z] at hlen;simp at hlen;omega
  obtain⟨a,ha⟩:=Ke hne
  obtain⟨b,hb⟩:=NV hne
  have e0:atI ((BS n ps).map T.int) 0=some (.int ((BS n ps).headD 0)):=by
   cases z:BS n ps with
   |nil=>exact absurd z hne
   |cons x xs=>
    show atI _ ((0:Nat):Int)=_
    exact BI rfl
  refine AE (KH (i:=1) (nc:=["near"]) (cap:=[]) (by rfl) RQ.nd rfl (Be (AA NO) ["web","counts"] (by decide+kernel)) (EI.wi (BB (AQ G hr xf (AD (ev 0) AB) ⟨n,ps,rfl,wn.n0,wn.n1,wn.hw,wn.hl,rfl⟩)) (KJ (fY n.toNat) (fun i=>T.lst ((AU ps i).map T.int)) (fun i=>T.int (((AU ps i).map T.int).length:Int)) (by simp;omega) (fun x hx=> ⟨[some (.lst ((AU ps x).map T.int))],fun X' Oe He is O'=>?_⟩) ?_)))
  ·obtain⟨cl,s',H',fp,rfl⟩:=is
   exact⟨AX 0 aU (by decide),NB Tx.nLen (ev 0)⟩
  ·have e1:(fY n.toNat).map (fun i=>T.int (((AU ps i).map T.int).length:Int))=(BS n ps).map T.int:=by simp[BS]
   rw[e1]
   refine AF (AJ (ET.we (HX (Eb (UP ha Tx.nMin rfl (ev 1)) (UQ hb Tx.nMax rfl (ev 1))) (fun _=>GB (ev 1) AC e0) (fun _=>Ca)) ?_))
   have:(if decide (a=b)=true then T.int ((BS n ps).headD 0) else T.non)=aT (BS n ps):=by
    unfold aT
    rw[Xw ha hb]
   rw[this]
   exact q
end
theorem JD{n:Int}{ps:List (Int×Int)}{i:Nat}(hw:Gz n ps)(hp:ps.Pairwise Ez):(AU ps i).Pairwise (· < ·):=by
 unfold AU
 rw[List.pairwise_filterMap]
 refine ip ?_ hp
 intro p q hp hq h x hx y hy
 have a:=hw p hp
 have b:=hw q hq
 unfold Ez at h
 have f:∀(r:Int×Int) (z:Int),(if r.1=(i:Int) then some r.2 else if r.2=(i:Int) then some r.1 else none)=some z→(r.1=(i:Int)∧r.2=z)∨(r.1≠(i:Int)∧r.2=(i:Int)∧r.1=z):=fun r z e=>by
  by_cases h:r.1=(i:Int)
  ·rw[if_pos h] at e
   cases e
   exact .inl ⟨h,rfl⟩
  ·rw[if_neg h] at e
   by_cases h2:r.2=(i:Int)
   ·rw[if_pos h2] at e
    cases e
    exact .inr ⟨h,h2,rfl⟩
   ·rw[if_neg h2] at e;cases e
 rcases f p x hx with c|c<;>rcases f q y hy with d|d<;>omega
def mm(p:Int×Int):Int×Int:=(min p.1 p.2,max p.1 p.2)
section
variable{P:Program}{w:World}{K:a8}{mg:Str→Option Value}{base:Heap}{CP CL:Addr}
theorem Xx:(Ae ["a","b"] []).Nodup:=by decide+kernel
def GX:BX:=fun ts O Φ _=>∃ps:List (Int×Int),ts=[.lst (ps.map AL)]∧ps.length≤300∧(∀p∈ps,(0≤p.1∧p.1<65536)∧0≤p.2∧p.2<65536)∧
 ∀qs:List (Int×Int),qs.Pairwise Ez→(∀q,q∈qs↔q∈ps.map mm)→qs.length≤ps.length→Φ (.tup (qs.map AL)) O
theorem RS:FnScope ["pairs"] ["pairs"] (AA EE):=⟨rfl,rfl,rfl,by decide+kernel,rfl,by decide+kernel,by decide+kernel⟩
theorem MO{f:Addr}{fd:fF}(F:Fun K "ties_of" "ties_of" EE f fd)(Tx:Txt mg):FnOk P w K mg base (CXe P w) 1 f fd ["pairs"] (BY K GX):=by
 refine AK F RS ?_ ?_
 ·rintro ts O Φ Ξ ⟨ps,rfl,_⟩
  rfl
 ·rintro cdv A outer s H E O Ξ hr xf _ Φ ⟨ps,rfl,hl,hp,q⟩
  have hu:(A.deeper (kQ "ties_of" (AA EE) s.heap.objs.size f cdv)).units+8<cLine:=by have:=hr.un;omega
  have hz:ps.length≤sizeLine:=gL hl (by decide)
  refine AF (AJ (GG Tx.nTuple (Ih (ps:=ps.map mm) Tx.nSorted Tx.nSet rfl hu ?_ (by simpa using hl) ?_ fun qs h1 h2 h3=> ⟨_,rfl,q qs h1 h2 (by simpa using h3)⟩)))
  ·rw[gZ]
   refine BH ["a","b"] [] ps AL _ rfl (Be (AA EE) ["pairs"] (by decide+kernel)) (BB (ev 0)) hz fun x hx=> ⟨[some (.int x.1),some (.int x.2)],fun X' Oe He is O'=>?_⟩
   obtain⟨cl,s',H',fp,rfl⟩:=is
   exact⟨Cc 0 1 rfl Xx (by decide) (by decide),Dj (AD (Ta Tx.nMin rfl (ev 0) (ev 1)) (AD (Ie Tx.nMax rfl (ev 0) (ev 1)) AB))⟩
  ·intro z hz
   obtain⟨p,h1,rfl⟩:=fo.mp hz
   have:=hp p h1
   show 0≤max _ _∧max _ _<65536
   omega
end
section
variable{P:Program}{w:World}{K:a8}{mg:Str→Option Value}{base:Heap}{CP CL:Addr}
end
end K35
namespace L2.TL
open PySem PySem.Spec PyProof.Rows
section
variable{Z:Zx}{ρ:List (Option T)}{O:AG}{a:Expr}{t:T}{us:List T}{K:a8}{p1 pos:Pos}
theorem NX{j:Nat}(hr:BC t=false)(ha:ET Z ρ O a t):EB Z ρ O (.Compare a [.IsNot] [.Constant .none j p1] pos) (!GL t):=BF IA (Af _) (fun Φ p H v w Q ok r1 r2 q=>by
 refine⟨r2.non_inv,?_⟩
 have e:decide (v=V.non)=GL t:=by
  cases r1<;>first|rfl|cases hr
 rw[e]
 exact q _ H _ O p (.refl ok) (.bl _)) ha Ca
end
def AS(ns:List Int):T:=.tup (ns.map T.int)
theorem EH:∀{ns ms:List Int},l8 (dTs (ns.map T.int)) (dTs (ms.map T.int))=decide (ns=ms)
 | [],[]=>rfl
 | [],_::_=>rfl
 |_::_,[]=>rfl
 |n::ns,m::ms=>by
  show((n==m)&&l8 (dTs (ns.map T.int)) (dTs (ms.map T.int)))=_
  rw[EH,iR]
  simp
theorem NY:∀{ns:List Int},rdBs (ns.map T.int)=true
 | []=>rfl
 |n::ns=>by
  show(Co (.int n)&&rdBs (ns.map T.int))=true
  rw[NY,Co];rfl
theorem CI{ns:List Int}:Co (AS ns)=true:=by unfold AS;rw[Co];exact NY
theorem Ei:∀{L:List (List Int)},rdBs (L.map AS)=true
 | []=>rfl
 |x::L=>by
  show(Co (AS x)&&rdBs (L.map AS))=true
  rw[CI,Ei];rfl
theorem Ej{x:List Int}:∀{L:List (List Int)},((dTs (L.map AS)).any fun y=>ju y (dT (AS x)))=decide (x∈L)
 | []=>rfl
 |y::L=>by
  show(ju (dT (AS y)) (dT (AS x))|| (dTs (L.map AS)).any fun y=>ju y (dT (AS x)))=_
  rw[Ej]
  have:ju (dT (AS y)) (dT (AS x))=decide (y=x):=EH
  rw[this,iR]
  simp only[Bool.or_eq_true,decide_eq_true_eq,fh]
  constructor
  ·rintro(h|h)
   ·exact .inl h.symm
   ·exact .inr h
  ·rintro(h|h)
   ·exact .inl h.symm
   ·exact .inr h
theorem EI.cast{Z:Zx}{ρ:List (Option T)}{O:AG}{tg iter:Expr}{ts us:List T}(h:EI Z ρ O tg iter ts)(e:ts=us):EI Z ρ O tg iter us:=e▸h
theorem GY:∀{ns:List Int},jY (dTs (ns.map T.int))≤1
 | []=>by simp[dTs,jY]
 |n::ns=>by
  have:=GY (ns:=ns)
  simp only[fL,dTs,jY,dT,iD.depth]
  omega
theorem Bn{ns:List Int}:(dT (AS ns)).depth≤100:=by
 have:=GY (ns:=ns)
 simp only[AS,dT,iD.depth]
 omega
end L2.TL
namespace K35
open PySem L2 L2.TL PySem.Spec PyProof.Rows Gr
def EJ(fs:List (Option Nat)):List Int:=(fs.filter nB).map fun x=> ((x.getD 0:Nat):Int)
theorem GZ:∀{fs:List (Option Nat)},(fs.filter nB).map BP=(EJ fs).map T.int
 | []=>rfl
 |none::fs=>GZ (fs:=fs)
 |some d::fs=>by
  show T.int (d:Int)::(fs.filter nB).map BP=T.int (d:Int)::(EJ fs).map T.int
  rw[GZ]
theorem US{fs:List (Option Nat)}{z:Int}:z∈EJ fs↔∃(i d:Nat),fs[i]?=some (some d)∧z=d:=by
 unfold EJ
 rw[fo]
 constructor
 ·rintro⟨x,hx,rfl⟩
  obtain⟨h1,h2⟩:=fO.mp hx
  cases x with
  |none=>cases h2
  |some d=>
   obtain⟨i,hi⟩:=gF h1
   exact⟨i,d,hi,rfl⟩
 ·rintro⟨i,d,h,rfl⟩
  exact⟨some d,fO.mpr ⟨fk h,rfl⟩,rfl⟩
section
variable{P:Program}{w:World}{K:a8}{mg:Str→Option Value}{base:Heap}{CP CL:Addr}
end
end K35
namespace StT
open PySem PySem.SetTable PyProof.Rows
section
variable{prog:Program}{w:World}{A:fG}{E:Value→a9→Prop}{s:a9}
variable{a:Addr}{xs:List (Int×Tok)}{o:Obj}{es:Array (Int×Value)}{ep:Nat}{t:ie}
end
section
variable{prog:Program}{w:World}{A:fG}{E:Value→a9→Prop}{s:a9}
variable{a:Addr}{xs:List (Int×Tok)}{o:Obj}{es:Array (Int×Value)}{ep:Nat}{t:ie}
end
section
variable{prog:Program}{w:World}{A:fG}{E:Value→a9→Prop}{s:a9}
end
open PySem.Calls PySem.W
section
variable{prog:Program}{w:World}{A:fG}{E:Value→a9→Prop}{s:a9}
end
end StT
namespace L2
open PySem PySem.Spec PySem.Calls PyProof.Rows
section
variable{X:Cx}
end
end L2
namespace L2.TL
open PySem PySem.Spec PySem.Calls PyProof.Rows
section
variable{Z:Zx}{ρ:List (Option T)}{O:AG}{e:Expr}{Φ:BJ}{pos p p1 pos1:Pos}
end
end L2.TL
namespace K35
open PySem L2 L2.TL PySem.Spec PyProof.Rows Gr
def BU(ps:List (Int×Int))(x:Int):List Int:=(ps.filter fun p=>decide (x∈[p.1,p.2])).map fun p=>p.1+p.2-x
theorem Hl{ps:List (Int×Int)}{x v:Int}:v∈BU ps x↔Adj ps x v:=by
 unfold BU
 rw[fo]
 constructor
 ·rintro⟨p,hp,rfl⟩
  obtain⟨h1,h2⟩:=fO.mp hp
  have h2:x=p.1∨x=p.2:=by simpa using h2
  rcases h2 with h|h
  ·refine .inl ?_
   have e:(x,p.1+p.2-x)=p:=iu h (by show p.1+p.2-x=p.2;omega)
   rw[e];exact h1
  ·refine .inr ?_
   have e:(p.1+p.2-x,x)=p:=iu (by show p.1+p.2-x=p.1;omega) h
   rw[e];exact h1
 ·rintro(h|h)
  ·exact⟨_,fO.mpr ⟨h,by simp⟩,by show x+v-x=v;omega⟩
  ·exact⟨_,fO.mpr ⟨h,by simp⟩,by show v+x-x=v;omega⟩
section
variable{P:Program}{w:World}{K:a8}{mg:Str→Option Value}{base:Heap}
variable{f:Addr}{cdv:Value}{A:fG}{outer:List Env}{s:a9}{H:Hp}{E:XK}{O:AG}{Ξ:Value→AG→Prop}{n:Int}{ps:List (Int×Int)}{S bs:List Int}{l:Addr}
end
end K35
namespace L2.TL
open PySem PySem.Spec PyProof.Rows
section
variable{Z:Zx}{ρ:List (Option T)}{O:AG}{e:Expr}{Φ:BJ}{pos p:Pos}{ts:List T}
theorem Oi(m:Z.X.mg "list" =none)(h:ET Z ρ O e (.lst ts))(q:∀a,O a=none→Φ (.raw (.ref a)) (Aj O a ts))(hg:Gl Z.X "list":=by rfl)(he:e9 [e] Z.X.env=(false,eval e Z.X.env)::e9 [] Z.X.env:=by rfl):WE Z ρ O (.Call (.Name "list" p) [e] [] pos) Φ:=
 Ed Li m VS (AN h AB he _ (fun H vs Q ok r k=>by
  obtain⟨v,rfl,r1⟩:=r.one_inv
  obtain⟨a,xs,rfl,h1,_,r1⟩:=r1.lst_inv
  exact⟨a,xs,rfl,.inl (.inl (.inl h1)),fun p hp=>k _ _ _ _ (q p (ok.none_of hp)) (.newO ok hp r1) (.raw _)⟩)) hg (by decide) (by decide) he
end
end L2.TL
namespace K35
open PySem L2 L2.TL PySem.Spec PyProof.Rows GrR
def Kf:List Int→Option Int
 | []=>none
 |x::xs=>some (match Kf xs with|none=>x|some m=>min x m)
theorem FO:∀(ns:List Int),Eg ns (Kf ns)
 | []=>rfl
 |x::xs=>by
  have h:=FO xs
  show Eg (x::xs) (some (match Kf xs with|none=>x|some m=>min x m))
  cases e:Kf xs with
  |none=>
   rw[e] at h
   rw[show xs=[] from h]
   exact⟨by simp,fun n hn=>by rw[b9.mp hn];exact jz _⟩
  |some m=>
   rw[e] at h
   refine⟨?_,fun n hn=>?_⟩
   ·rcases mB x m with hx|hx
    ·show min x m∈_
     rw[lC hx];simp
    ·show min x m∈_
     rw[k4 hx];exact fv _ h.1
   ·rcases fh.mp hn with rfl|hn
    ·exact Int.min_le_left ..
    ·exact jK (Int.min_le_right ..) (h.2 n hn)
def Gb(rows:List (List Int))(a b:Int):List (List Int):=rows.set a.toNat ((rows.getD a.toNat []).filter fun v=>decide (v≠b))
def Gc(rows:List (List Int))(a b:Int):Option Nat:=(JV (Rw (Gb rows a b)) [a] b).map (· +1)
theorem MP{rows:List (List Int)}{a b u v:Int}(a0:0≤a)(a1:a<rows.length):Rw (Gb rows a b) u v↔Rw rows u v∧¬(u=a∧v=b):=by
 unfold Rw Gb
 have hlt:a.toNat<rows.length:=by omega
 by_cases hu:u=a
 ·subst hu
  rw[gN,gm hlt]
  simp only[Option.getD_some,fO,decide_eq_true_eq]
  constructor
  ·rintro⟨h0,h1,h2⟩
   exact⟨⟨h0,h1⟩,fun z=>h2 z.2⟩
  ·rintro⟨⟨h0,h1⟩,h2⟩
   exact⟨h0,h1,fun z=>h2 ⟨trivial,z⟩⟩
 ·constructor
  ·rintro⟨h0,h1⟩
   rw[gN,fZ (by omega),←gN] at h1
   exact⟨⟨h0,h1⟩,fun z=>hu z.1⟩
  ·rintro⟨⟨h0,h1⟩,_⟩
   refine⟨h0,?_⟩
   rw[gN,fZ (by omega),←gN]
   exact h1
theorem Xy{n:Int}{rows:List (List Int)}{a b:Int}(rn:RowsN n rows)(a0:0≤a)(a1:a<n):RowsN n (Gb rows a b):=
 ⟨by unfold Gb;rw[jZ];exact rn.len,rn.n1,fun u v h=>rn.hw u v ((MP a0 (by have:=rn.len;omega)).mp h).1⟩
def BQ(n:Int)(ps:List (Int×Int)):List (List Int):=(fY n.toNat).map fun i=>AU ps i
theorem Oj{n:Int}{ps:List (Int×Int)}:GV n ps=GW (BQ n ps):=by
 unfold GV BQ
 show _=T.lst (((fY n.toNat).map fun i=>AU ps i).map fun r=>T.lst (r.map T.int))
 rw[gZ]
 rfl
theorem Kg{n:Int}{ps:List (Int×Int)}{i:Nat}(h:(i:Int)<n):(BQ n ps).getD i []=AU ps i:=by
 unfold BQ
 rw[gN,fc,ki (by omega)]
 rfl
theorem JE{n:Int}{ps:List (Int×Int)}(hw:Gr.Gz n ps){u v:Int}:Rw (BQ n ps) u v↔Gr.Adj ps u v:=by
 constructor
 ·rintro⟨h0,h⟩
  obtain⟨i,rfl⟩:=fX h0
  rw[gJ] at h
  by_cases hi:(i:Int)<n
  ·rw[Kg hi] at h
   exact(Hk hw).mp h
  ·unfold BQ at h
   rw[gN,fc,jS (by rw[ig];omega)] at h
   cases h
 ·intro a
  have hb:=a.symm.inb hw
  obtain⟨i,rfl⟩:=fX hb.1
  refine⟨by omega,?_⟩
  rw[gJ,Kg hb.2.1]
  exact(Hk hw).mpr a
theorem NZ{n:Int}{ps:List (Int×Int)}(wn:WebN n ps):RowsN n (BQ n ps):=
 ⟨by have:=wn.n0;unfold BQ;simp;omega,wn.n1,fun u v h=>by have:=((JE wn.hw).mp h).inb wn.hw;exact⟨this.1,this.2.1⟩⟩
section
variable{P:Program}{w:World}{K:a8}{mg:Str→Option Value}{base:Heap}{CP CL:Addr}
def Va:BX:=Er fun ts r=>∃xs:List (Option Nat),ts=[.lst (xs.map BP)]∧xs.length≤300∧r=CC (Kf (EJ xs))
theorem aV:FnScope ["numbers"] ["numbers"] (AA Iv):=⟨rfl,rfl,rfl,by decide+kernel,rfl,by decide+kernel,by decide+kernel⟩
theorem aW:(Ae ["number"] []).Nodup:=by decide+kernel
theorem RU{f:Addr}{fd:fF}(F:Fun K "least_told" "least_told" Iv f fd)(Tx:Txt mg):FnOk P w K mg base (CXe P w) 1 f fd ["numbers"] (BY K Va):=by
 refine AK F aV ?_ ?_
 ·rintro ts O Φ Ξ ⟨r,⟨xs,rfl,_⟩,_⟩
  rfl
 ·rintro cdv A outer s H E O Ξ hr xf _ Φ ⟨_,⟨xs,rfl,hl,rfl⟩,q⟩
  have sb:=AR
  refine AF (AJ (ET.we (Tz (FO _) Tx.nMin rfl (ET.cast (GK ["number"] [] xs BP BP nB rfl (Be (AA Iv) ["numbers"] (by decide+kernel)) (BB (ev 0)) (by omega) fun x hx=> ⟨[some (BP x)],fun X' Oe He is O'=>?_⟩) (by rw[GZ]))) q))
  obtain⟨cl,s',H',fp,rfl⟩:=is
  refine⟨AX 0 aW (by decide),EB.cast (NX KZ (ev 0)) ?_,fun _=>ev 0⟩
  cases x<;>rfl
def Vb:BX:=Er fun ts r=>∃(n:Int) (rows:List (List Int)) (a b:Int),ts=[GW rows,.int a,.int b]∧RowsN n rows∧(∀r∈rows,r.length≤300)∧(0≤a∧a<n)∧(0≤b∧b<n)∧r=BP (Gc rows a b)
def aX:List Str:=["nears","a","b","cut","far"]
theorem RV:FnScope aX ["nears","a","b"] (AA UH):=⟨rfl,rfl,rfl,by decide+kernel,rfl,by decide+kernel,by decide+kernel⟩
theorem aY:(Ae ["near"] [(("b" :Str),2)]).Nodup:=by decide+kernel
theorem Xz{f:Addr}{fd:fF}(F:Fun K "ring_by_tie" "ring_by_tie" UH f fd)(Tx:Txt mg)(G:FnT P w K mg base "fars_from" 1 ["nears","starts"] NU):FnOk P w K mg base (CXe P w) 2 f fd ["nears","a","b"] (BY K Vb):=by
 refine AK F RV ?_ ?_
 ·rintro ts O Φ Ξ ⟨r,⟨n,rows,a,b,rfl,_⟩,_⟩
  rfl
 ·rintro cdv A outer s H E O Ξ hr xf _ Φ ⟨_,⟨n,rows,a,b,rfl,rn,hlr,ha,hb,rfl⟩,q⟩
  have sb:=AR
  have hl:=rn.len
  have n1:=rn.n1
  obtain⟨i,rfl⟩:=fX ha.1
  obtain⟨j,rfl⟩:=fX hb.1
  have hi:i<rows.length:=by omega
  have hri:(rows.getD i []).length≤300:=hlr _ (by rw[gN,fz hi];exact iB hi)
  refine AE (Aa 3 (Oi Tx.nList (ev 0) fun l hlO=>?_) RV.nd)
  refine AE (GE (ET.we (t:=.lst (((rows.getD i []).filter fun v=>decide (v≠(j:Int))).map T.int)) (GK ["near"] [("b",2)] (rows.getD i []) T.int T.int (fun v=>decide (v≠(j:Int))) rfl (Be (AA UH) aX (by decide+kernel)) (BB (GB (ev 0) (ev 1) (NT hi))) (by omega) fun x hx=> ⟨[some (.int x),some (.int (j:Int))],fun X' Oe He is O'=>?_⟩) (ET.we (ev 3) ⟨l,rfl,ET.we (ev 1) ⟨_,_,i,rfl,AI,by rw[e8];exact JB hi,?_⟩⟩)))
  ·obtain⟨cl,s',H',fp,rfl⟩:=is
   refine⟨AX 0 aY (by decide),EB.cast (IY (ev 0) (ev 1)) ?_,fun _=>ev 0⟩
   by_cases h:x=(j:Int)<;>simp[h]
  ·rw[Bl]
   have eset:(rows.map fun r=>T.lst (r.map T.int)).set i (.lst (((rows.getD i []).filter fun v=>decide (v≠(j:Int))).map T.int))=(Gb rows (i:Int) (j:Int)).map fun r=>T.lst (r.map T.int):=by
    unfold Gb
    rw[nR,gJ]
   rw[eset]
   refine DA (p:=l) (n:=3) AI hlO rfl ?_
   rw[BG hlO]
   refine AE (Aa 4 (VN FF (fun _ _=>rfl) (AW G hr xf (EA.wa (AD (ev 3) (AD (Ln (ts:=[(i:Int)].map T.int) (AD (ev 1) AB) (by show 1≤sizeLine;decide)) AB)) ⟨n,Gb rows i j,[(i:Int)],rfl,Xy rn ha.1 ha.2,fun z hz=>?_,fun fs al=>?_⟩))) RV.nd)
   ·rw[b9.mp hz];exact ha
   ·have hlf:=al.len
    have hg:=al.get hb.1 hb.2
    rw[gJ] at hg
    refine ET.we (ev 2) (QN (t:=BP (JV (Rw (Gb rows i j)) [(i:Int)] j)) (BI (by rw[fc,hg];rfl)) _ ?_)
    unfold Gc at q
    generalize JV (Rw (Gb rows i j)) [(i:Int)] j=x at q
    cases x with
    |none=>exact AF (AJ (ET.we (HX (x:=true) (ta:=.non) (tb:=.non) (Ij (t:=.non) rfl (ev 4)) (fun _=>Ca) (fun h=>by cases h)) q))
    |some d=>exact AF (AJ (ET.we (HX (x:=false) (ta:=.non) (tb:=.int ((d:Int)+1)) (Ij (t:=.int (d:Int)) rfl (ev 4)) (fun h=>by cases h) (fun _=>BE (ev 4) AC)) q))
theorem RW{n:Int}{ps:List (Int×Int)}(wn:WebN n ps):∀r∈BQ n ps,r.length≤300:=fun r hr=>by
 unfold BQ at hr
 obtain⟨i,_,rfl⟩:=fo.mp hr
 have:=Bf (qs:=ps) (i:=i)
 have:=wn.hl
 omega
end
end K35
namespace L2.TL
open PySem PySem.Spec PyProof.Rows
section
variable{Z:Zx}{ρ:List (Option T)}{O:AG}{a:Expr}{t:T}{p1 pos:Pos}
end
end L2.TL
namespace K35
open PySem L2 L2.TL PySem.Spec PyProof.Rows GrR
def Ew(ps:List (Int×Int))(t:Int×Int):List (Int×Int):=ps.filter fun q=>decide (q≠t)
def EK(ps:List (Int×Int))(t:Int×Int):Option Nat:=(JV (Gr.Adj (Ew ps t)) [t.1] t.2).map (· +1)
theorem EL{n:Int}{ps:List (Int×Int)}(hw:Gr.Gz n ps){a b u v:Int}:Gr.Adj (Ew ps (mm (a,b))) u v↔Gr.Adj ps u v∧¬(u=a∧v=b)∧¬(u=b∧v=a):=by
 have key:∀x y:Int,(x,y)∈Ew ps (mm (a,b))↔(x,y)∈ps∧¬(x=a∧y=b)∧¬(x=b∧y=a):=fun x y=>by
  unfold Ew
  rw[fO,decide_eq_true_eq]
  constructor
  ·rintro⟨h,hne⟩
   have hxy:=(hw _ h).2.1
   simp only at hxy
   refine⟨h,fun⟨e1,e2⟩=>hne ?_,fun⟨e1,e2⟩=>hne ?_⟩
   ·subst e1 e2;exact iu (by show x=min x y;omega) (by show y=max x y;omega)
   ·subst e1 e2;exact iu (by show x=min y x;omega) (by show y=max y x;omega)
  ·rintro⟨h,h1,h2⟩
   refine⟨h,fun e=>?_⟩
   have e1:x=min a b:=congrArg jb e
   have e2:y=max a b:=congrArg Prod.snd e
   rcases mB a b with hab|hab
   ·exact h1 ⟨by omega,by omega⟩
   ·exact h2 ⟨by omega,by omega⟩
 unfold Gr.Adj
 rw[key,key]
 constructor
 ·rintro(⟨h,h1,h2⟩| ⟨h,h1,h2⟩)
  ·exact⟨.inl h,h1,h2⟩
  ·exact⟨.inr h,fun z=>h2 ⟨z.2,z.1⟩,fun z=>h1 ⟨z.2,z.1⟩⟩
 ·rintro⟨h|h,h1,h2⟩
  ·exact .inl ⟨h,h1,h2⟩
  ·exact .inr ⟨h,fun z=>h2 ⟨z.2,z.1⟩,fun z=>h1 ⟨z.2,z.1⟩⟩
theorem RX{n:Int}{ps:List (Int×Int)}(wn:WebN n ps){a b:Int}(ad:Gr.Adj ps a b):Gc (BQ n ps) a b=EK ps (mm (a,b)):=by
 have ha:=ad.symm.inb wn.hw
 have hl:=(NZ wn).len
 have e1:JV (Rw (Gb (BQ n ps) a b)) [a] b=JV (Gr.Adj (Ew ps (mm (a,b)))) [a] b:=Hc fun d=>Tq
  (fun u v h=> (MP ha.1 (by omega)).mpr ⟨(JE wn.hw).mpr ((EL wn.hw).mp h).1,((EL wn.hw).mp h).2.1⟩)
  (fun u v h=>by
   obtain⟨h1,h2⟩:=(MP ha.1 (by omega)).mp h
   by_cases hu:u=b∧v=a
   ·exact .inr hu.1
   ·exact .inl ((EL wn.hw).mpr ⟨(JE wn.hw).mp h1,h2,hu⟩))
 unfold Gc EK
 rw[e1]
 congr 1
 rcases mB a b with hab|hab
 ·have:mm (a,b)=(a,b):=iu (by show min a b=a;omega) (by show max a b=b;omega)
  rw[this]
 ·have:mm (a,b)=(b,a):=iu (by show min a b=b;omega) (by show max a b=a;omega)
  rw[this]
  exact Hc fun d=>Tr fun u v h=>Gr.Adj.symm h
theorem Vc{n:Int}{ps:List (Int×Int)}(hw:Gr.Gz n ps){p:Int×Int}(h:p∈ps):mm p=p∧mm (p.2,p.1)=p:=by
 have:=(hw _ h).2.1
 exact⟨iu (by show min p.1 p.2=p.1;omega) (by show max p.1 p.2=p.2;omega),iu (by show min p.2 p.1=p.1;omega) (by show max p.2 p.1=p.2;omega)⟩
section
variable{P:Program}{w:World}{K:a8}{mg:Str→Option Value}{base:Heap}{CP CL:Addr}
end
end K35
namespace L2.TL
open PySem PySem.Spec PyProof.Rows
section
variable{Z:Zx}{ρ:List (Option T)}{O:AG}{e lo:Expr}{p2 pos:Pos}{ts:List T}{i:Int}
end
end L2.TL
namespace K35
open PySem L2 L2.TL PySem.Spec PyProof.Rows Gr
def HA(b:Int):Nat→Int
 |0=>0
 |n+1=>HA b n+b^n
def grown(d:Int)(g:Nat):Int:=if g%2=1 then 1+d*HA (d-1) (g/2) else 2*HA (d-1) (g/2)
section
variable{P:Program}{w:World}{K:a8}{mg:Str→Option Value}{base:Heap}{CN CE CP CL:Addr}
def UT(CN:Addr)(a b:Int):BX:=fun ts O Φ Ξ=>∃t,ts=[t]∧BC t=false∧(EF t a b=true→Φ .non O)∧(EF t a b=false→Ξ (.ref CN) O)
theorem YA:FnScope ["d"] ["d"] (AA Qu):=⟨rfl,rfl,rfl,by decide+kernel,rfl,by decide+kernel,by decide+kernel⟩
theorem UU{f:Addr}{fd:fF}(F:Fun K "need_ties" "need_ties" Qu f fd)(Tx:Txt mg)(G:FnT P w K mg base "need_number" 2 ["thing","least","most"] (NW CN)):FnOk P w K mg base (CXe P w) 3 f fd ["d"] (BY K (UT CN 2 15)):=by
 refine AK F YA ?_ ?_
 ·rintro ts O Φ Ξ ⟨t,rfl,_⟩
  rfl
 ·rintro cdv A outer s H E O Ξ hr xf _ Φ ⟨t,rfl,ht,q1,q2⟩
  exact AF (Ad (AW G hr xf (EA.wa (AD (ev 0) (AD (BK Tx.iLT) (AD (BK Tx.iMT) AB))) ⟨t,2,15,rfl,ht,q1,q2⟩)))
theorem YB:FnScope ["g"] ["g"] (AA Qv):=⟨rfl,rfl,rfl,by decide+kernel,rfl,by decide+kernel,by decide+kernel⟩
theorem UV{f:Addr}{fd:fF}(F:Fun K "need_ring" "need_ring" Qv f fd)(Tx:Txt mg)(G:FnT P w K mg base "need_number" 2 ["thing","least","most"] (NW CN)):FnOk P w K mg base (CXe P w) 3 f fd ["g"] (BY K (UT CN 3 16)):=by
 refine AK F YB ?_ ?_
 ·rintro ts O Φ Ξ ⟨t,rfl,_⟩
  rfl
 ·rintro cdv A outer s H E O Ξ hr xf _ Φ ⟨t,rfl,ht,q1,q2⟩
  exact AF (Ad (AW G hr xf (EA.wa (AD (ev 0) (AD (BK Tx.iLR) (AD (BK Tx.iMR) AB))) ⟨t,3,16,rfl,ht,q1,q2⟩)))
def RY(CN:Addr):BX:=fun ts O Φ Ξ=>∃t u,ts=[t,u]∧BC t=false∧BC u=false∧(EF t 2 15=true→EF u 3 16=true→Φ .non O)∧(EF t 2 15=false∨EF u 3 16=false→Ξ (.ref CN) O)
theorem dC:FnScope ["d","g"] ["d","g"] (AA dB):=⟨rfl,rfl,rfl,by decide+kernel,rfl,by decide+kernel,by decide+kernel⟩
theorem aZ{f:Addr}{fd:fF}(F:Fun K "need_ties_and_ring" "need_ties_and_ring" dB f fd)(G:FnT P w K mg base "need_ties" 3 ["d"] (UT CN 2 15))(G2:FnT P w K mg base "need_ring" 3 ["g"] (UT CN 3 16)):FnOk P w K mg base (CXe P w) 4 f fd ["d","g"] (BY K (RY CN)):=by
 refine AK F dC ?_ ?_
 ·rintro ts O Φ Ξ ⟨t,u,rfl,_⟩
  rfl
 ·rintro cdv A outer s H E O Ξ hr xf _ Φ ⟨t,u,rfl,ht,hu,q1,q2⟩
  refine AE (Ad (AW G hr xf (EA.wa (AD (ev 0) AB) ⟨t,rfl,ht,fun h=>?_,fun h=>q2 (.inl h)⟩)))
  exact AF (Ad (AW G2 hr xf (EA.wa (AD (ev 1) AB) ⟨u,rfl,hu,fun h2=>q1 h h2,fun h=>q2 (.inr h)⟩)))
def Vd:BX:=Er fun ts r=>∃(b:Int) (m:Nat),ts=[.int b,.int (m:Int)]∧(0≤b∧b<100)∧m≤100∧r=.int (HA b m)
def dD:List Str:=["base","many","total","power","step"]
theorem Hm:FnScope dD ["base","many"] (AA Xm):=⟨rfl,rfl,rfl,by decide+kernel,rfl,by decide+kernel,by decide+kernel⟩
theorem YC{f:Addr}{fd:fF}(F:Fun K "sum_of_powers" "sum_of_powers" Xm f fd)(Tx:Txt mg):FnOk P w K mg base (CXe P w) 1 f fd ["base","many"] (BY K Vd):=by
 refine AK F Hm ?_ ?_
 ·rintro ts O Φ Ξ ⟨r,⟨b,m,rfl,_⟩,_⟩
  rfl
 ·rintro cdv A outer s H E O Ξ hr xf _ Φ ⟨_,⟨b,m,rfl,hb,hm,rfl⟩,q⟩
  refine AE (Aa 2 (ET.we AC ?_) Hm.nd)
  refine AE (Aa 3 (ET.we AC ?_) Hm.nd)
  refine AE (Cd As.own rfl (EI.wi (DO Tx.nRange (ev 1) ⟨by omega,by omega⟩) ⟨fun i ρ' O'=>∃v4,ρ'=[some (.int b),some (.int (m:Int)),some (.int (HA b i)),some (.int (b^i)),v4]∧O=O',⟨none,by rw[Int.pow_zero];rfl,rfl⟩,?_,?_⟩))
  ·rintro i t _ _ e ⟨v4,rfl,rfl⟩
   refine⟨[some (.int b),some (.int (m:Int)),some (.int (HA b i)),some (.int (b^i)),some t],AX 4 Hm.nd (by show 4<5;decide),?_⟩
   refine AE (Lp 2 Oy rfl (ET.we (ev 3) (fun H v w Q ok r1 r2 acc=> ⟨_,_,r1.int_inv,r2.int_inv,acc _ H (.int (HA b (i+1))) _ ?_ (.refl ok) (.int _)⟩)) Hm.nd)
   refine AF (Lp 3 Wt rfl (ET.we (ev 0) (fun H v w Q ok r1 r2 acc=> ⟨_,_,r1.int_inv,r2.int_inv,.inr ⟨by omega,by omega⟩,acc _ H (.int (b^(i+1))) _ ⟨_,rfl,rfl⟩ (.refl ok) (by rw[Int.pow_succ];exact .int _)⟩)) Hm.nd)
  ·rintro _ _ ⟨v4,rfl,rfl⟩
   refine AF (AJ (ET.we (t:=.int (HA b m)) (ev 2 ?_) q))
   rw[BN,gJ]
   rfl
def JF:BX:=Er fun ts r=>∃(d:Int) (g:Nat),ts=[.int d,.int (g:Int)]∧(1≤d∧d<100)∧g≤100∧r=.int (grown d g)
theorem Na:FnScope ["d","g","powers"] ["d","g"] (AA MF):=⟨rfl,rfl,rfl,by decide+kernel,rfl,by decide+kernel,by decide+kernel⟩
theorem RZ{f:Addr}{fd:fF}(F:Fun K "grown_places" "grown_places" MF f fd)(G:FnT P w K mg base "sum_of_powers" 1 ["base","many"] Vd):FnOk P w K mg base (CXe P w) 2 f fd ["d","g"] (BY K JF):=by
 refine AK F Na ?_ ?_
 ·rintro ts O Φ Ξ ⟨r,⟨d,g,rfl,_⟩,_⟩
  rfl
 ·rintro cdv A outer s H E O Ξ hr xf _ Φ ⟨_,⟨d,g,rfl,hd,hg,rfl⟩,q⟩
  refine AE (Aa 2 (ET.we (AQ G hr xf (AD (Fy (ev 0) AC) (AD (DN (ev 1) AC ⟨by decide,by decide⟩) AB)) ⟨d-1,g/2,rfl,⟨by omega,by omega⟩,by omega,rfl⟩) ?_) Na.nd)
  refine AF (AJ (ET.we (ET.cast (HX (Eb (Cb (ev 1) AC (by decide)) AC) (fun _=>BE AC (Cy (ev 0) (ev 2) (.inl ⟨by omega,by omega⟩))) (fun _=>Cy AC (ev 2) (.inl ⟨by decide,by decide⟩))) ?_) q))
  unfold grown
  by_cases h:g%2=1
  ·rw[if_pos h,decide_eq_true (by omega:(g:Int)%2=1)];rfl
  ·rw[if_neg h,decide_eq_false (by omega:¬(g:Int)%2=1)];rfl
def Ve:BX:=Er fun ts r=>∃(d:Int) (g:Nat),ts=[.int d,.int (g:Int)]∧(2≤d∧d≤15)∧3≤g∧g≤16∧r=.int (grown d g)
theorem aa:FnScope ["d","g"] ["d","g"] (AA Xn):=⟨rfl,rfl,rfl,by decide+kernel,rfl,by decide+kernel,by decide+kernel⟩
theorem Dc{i a b:Int}(h0:a≤i)(h1:i≤b):EF (.int i) a b=true:=by
 show(decide (a≤i)&&decide (i≤b))=true
 simp
 omega
theorem YD{f:Addr}{fd:fF}(F:Fun K "least_by_growth" "least_by_growth" Xn f fd)(G:FnT P w K mg base "need_ties_and_ring" 4 ["d","g"] (RY CN))(G2:FnT P w K mg base "grown_places" 2 ["d","g"] JF):FnOk P w K mg base (CXe P w) 5 f fd ["d","g"] (BY K Ve):=by
 refine AK F aa ?_ ?_
 ·rintro ts O Φ Ξ ⟨r,⟨d,g,rfl,_⟩,_⟩
  rfl
 ·rintro cdv A outer s H E O Ξ hr xf _ Φ ⟨_,⟨d,g,rfl,hd,h3,hg,rfl⟩,q⟩
  have h1:EF (.int d) 2 15=true:=Dc hd.1 hd.2
  have h2:EF (.int (g:Int)) 3 16=true:=Dc (by omega) (by omega)
  refine AE (Ad (AW G hr xf (EA.wa (AD (ev 0) (AD (ev 1) AB)) ⟨_,_,rfl,rfl,rfl,fun _ _=>?_,fun h=>?_⟩)))
  ·exact AF (AJ (ET.we (AQ G2 (hr.mono (by decide)) xf (AD (ev 0) (AD (ev 1) AB)) ⟨d,g,rfl,⟨by omega,by omega⟩,by omega,rfl⟩) q))
  ·rw[h1,h2] at h
   rcases h with h|h<;>cases h
end
open GrR
variable{n:Int}{ps:List (Int×Int)}{s:Nat}
theorem JG:∀u v,Gr.Adj ps u v→Gr.Adj ps v u:=fun _ _ h=>h.symm
theorem Ek:∀u v,v∈BU ps u↔Gr.Adj ps u v:=fun _ _=>Hl
theorem DU(hw:Gr.Gz n ps){i:Nat}:AU ps i=BU ps (i:Int):=by
 unfold AU BU
 induction ps with
 |nil=>rfl
 |cons p ps ih=>
  have ih:=ih fun q hq=>hw q (fv _ hq)
  have hp:=hw p (by simp)
  by_cases h1:p.1=(i:Int)
  ·rw[iw,if_pos h1,kv,if_pos (by simp[h1]),fL,←ih,show p.1+p.2- (i:Int)=p.2 by omega]
  ·by_cases h2:p.2=(i:Int)
   ·rw[iw,if_neg h1,if_pos h2,kv,if_pos (by simp[h2]),fL,←ih,show p.1+p.2- (i:Int)=p.1 by omega]
   ·rw[iw,if_neg h1,if_neg h2,kv,if_neg (by simp only[fh,gC,or_false,decide_eq_true_eq];exact fun z=>z.elim (fun z=>h1 z.symm) (fun z=>h2 z.symm))]
    exact ih
theorem UW(hw:Gr.Gz n ps){u:Int}(h:u<0):BU ps u=[]:=by
 cases e:BU ps u with
 |nil=>rfl
 |cons v l=>
  have:Gr.Adj ps u v:=Hl.mp (by rw[e];simp)
  have:=(this.symm.inb hw).1
  omega
theorem Hn(hw:Gr.Gz n ps)(hp:ps.Pairwise Ez):∀u,(BU ps u).Pairwise (· < ·):=fun u=>by
 by_cases h:u<0
 ·rw[UW hw h];exact j4
 ·obtain⟨i,rfl⟩:=fX (show 0≤u by omega)
  rw[←DU hw]
  exact JD hw hp
theorem Kh(hw:Gr.Gz n ps):∀u v,Gr.Adj ps u v→0≤v∧v<n:=fun u v h=> ⟨(h.inb hw).1,(h.inb hw).2.1⟩
theorem Nb(hw:Gr.Gz n ps)(hp:ps.Pairwise Ez):∀u,(BU ps u).Nodup:=fun u=>gc.imp (fun h=>by omega) (Hn hw hp u)
def Gf(ps:List (Int×Int)):Option Int:=Kf (EJ (ps.map fun p=>EK ps p))
theorem Ki(hw:Gr.Gz n ps){p:Int×Int}(hp:p∈ps):Gr.Adj (Ew ps p)=VX (Gr.Adj ps) p.1 p.2:=by
 funext u v
 have:=EL hw (a:=p.1) (b:=p.2) (u:=u) (v:=v)
 rw[(Vc hw hp).1] at this
 exact propext this
theorem Kj{z:Int}:z∈EJ (ps.map fun p=>EK ps p)↔∃p∈ps,∃d:Nat,JV (Gr.Adj (Ew ps p)) [p.1] p.2=some d∧z=d+1:=by
 rw[US]
 constructor
 ·rintro⟨i,d,h,rfl⟩
  rw[fc] at h
  cases e:ps[i]? with
  |none=>rw[e] at h;cases h
  |some p=>
   rw[e] at h
   have h:EK ps p=some d:=by simpa using h
   unfold EK at h
   cases e2:JV (Gr.Adj (Ew ps p)) [p.1] p.2 with
   |none=>rw[e2] at h;cases h
   |some d'=>
    rw[e2] at h
    have:d'+1=d:=by simpa using h
    exact⟨p,fk e,d',e2,by omega⟩
 ·rintro⟨p,hp,d,h,rfl⟩
  obtain⟨i,hi,rfl⟩:=k9 hp
  refine⟨i,d+1,?_,by omega⟩
  rw[fc,fz hi]
  unfold EK
  simp[h]
theorem JH(hw:Gr.Gz n ps){r:List Int}(h:Ring (Gr.Adj ps) r):∃m,Gf ps=some m∧m≤r.length:=by
 obtain⟨a,b,hab,w⟩:=Xh h
 have key:∃z,z∈EJ (ps.map fun p=>EK ps p)∧z≤r.length:=by
  have hl:=h.len
  have fin:∀p∈ps,W (VX (Gr.Adj ps) p.1 p.2) [p.1] (r.length-1) p.2→∃z,z∈EJ (ps.map fun p=>EK ps p)∧z≤r.length:=fun p hp w=>by
   obtain⟨d,hd,hD⟩:=w.least
   rw[←Ki hw hp] at hD
   exact⟨d+1,Kj.mpr ⟨p,hp,d,DE hD,rfl⟩,by omega⟩
  have sy:∀u v,VX (Gr.Adj ps) a b u v→VX (Gr.Adj ps) a b v u:=fun u v c=> ⟨c.1.symm,fun e=>c.2.2 ⟨e.2,e.1⟩,fun e=>c.2.1 ⟨e.2,e.1⟩⟩
  have sw:∀u v,VX (Gr.Adj ps) a b u v→VX (Gr.Adj ps) b a u v:=fun u v c=> ⟨c.1,c.2.2,c.2.1⟩
  rcases hab with hm|hm
  ·exact fin (a,b) hm (w.rev sy)
  ·exact fin (b,a) hm (w.mono sw)
 obtain⟨z,hz,hle⟩:=key
 have hm:=FO (EJ (ps.map fun p=>EK ps p))
 unfold Gf
 cases e:Kf (EJ (ps.map fun p=>EK ps p)) with
 |none=>rw[e] at hm;have hm:EJ (ps.map fun p=>EK ps p)=[]:=hm;rw[hm] at hz;cases hz
 |some m=>
  rw[e] at hm
  exact⟨m,rfl,jK (hm.2 z hz) hle⟩
theorem YE(hw:Gr.Gz n ps){m:Int}(h:Gf ps=some m):∃r,Ring (Gr.Adj ps) r∧(r.length:Int)=m:=by
 have hm:=FO (EJ (ps.map fun p=>EK ps p))
 unfold Gf at h
 rw[h] at hm
 obtain⟨p,hp,d,hd,rfl⟩:=Kj.mp hm.1
 rw[Ki hw hp] at hd
 obtain⟨r,h1,h2⟩:=Tv JG (fun u hu=> (hu.inb hw).2.2 rfl) (show Gr.Adj ps p.1 p.2 from .inl hp) (FM.mp hd)
 exact⟨r,h1,by rw[h2];rfl⟩
theorem Ra(hw:Gr.Gz n ps){r:List Int}(h:Ring (Gr.Adj ps) r):(r.length:Int)≤n∧3≤r.length:=by
 have:=Gr.GM (n:=n) h.nd (Il (Kh hw) h)
 have:=h.len
 omega
theorem JI(hw:Gr.Gz n ps){m:Int}(h:Gf ps=some m):∃k:Nat,m=k∧3≤k∧(k:Int)≤n∧(∀M,Ring (Gr.Adj ps) M→k≤M.length)∧∃r,Ring (Gr.Adj ps) r∧r.length=k:=by
 obtain⟨r,h1,h2⟩:=YE hw h
 have hl:=Ra hw h1
 refine⟨r.length,h2.symm,hl.2,hl.1,fun M hM=>?_,r,h1,rfl⟩
 obtain⟨m',e,hle⟩:=JH hw hM
 rw[h] at e
 cases e
 omega
end K35
namespace L2
open PySem PySem.Spec PySem.Calls PyProof.Rows
section
variable{X:Cx}
end
end L2
namespace L2.TL
open PySem PySem.Spec PySem.Calls PyProof.Rows
section
variable{Z:Zx}{ρ:List (Option T)}{O:AG}{e:Expr}{p pos:Pos}{ns:List Int}
end
end L2.TL
namespace K35
open PySem L2 L2.TL PySem.Spec PyProof.Rows GrR
theorem ae{n:Int}{ps:List (Int×Int)}(wn:WebN n ps):Kf (EJ (ps.map fun p=>Gc (BQ n ps) p.1 p.2))=Gf ps:=by
 unfold Gf
 congr 2
 refine List.map_congr_left fun p hp=>?_
 rw[RX wn (show Gr.Adj ps p.1 p.2 from .inl hp)]
 exact congrArg (EK ps) (Vc wn.hw hp).1
theorem af:(Ae ["a","b"] [(("nears" :Str),1)]).Nodup:=by decide+kernel
section
variable{P:Program}{w:World}{K:a8}{mg:Str→Option Value}{base:Heap}
def FP:BX:=Er fun ts r=>∃n ps,ts=[Bh n ps]∧WebN n ps∧r=CC (Gf ps)
theorem Nc:FnScope ["web","nears"] ["web"] (AA Iw):=⟨rfl,rfl,rfl,by decide+kernel,rfl,by decide+kernel,by decide+kernel⟩
theorem Rb{f:Addr}{fd:fF}(F:Fun K "shortest" "shortest" Iw f fd)(G:FnT P w K mg base "nears_of" 1 ["web"] FN)(Gr:FnT P w K mg base "ring_by_tie" 2 ["nears","a","b"] Vb)(Gl:FnT P w K mg base "least_told" 1 ["numbers"] Va):FnOk P w K mg base (CXe P w) 3 f fd ["web"] (BY K FP):=by
 refine AK F Nc ?_ ?_
 ·rintro ts O Φ Ξ ⟨r,⟨n,ps,rfl,_⟩,_⟩
  rfl
 ·rintro cdv A outer s H E O Ξ hr xf _ Φ ⟨_,⟨n,ps,rfl,wn,rfl⟩,q⟩
  have sb:=AR
  have hl:=wn.hl
  refine AE (Aa 1 (ET.we (AQ G (hr.mono (by decide)) xf (AD (ev 0) AB) ⟨n,ps,rfl,wn.n0,wn.n1,wn.hw,wn.hl,rfl⟩) ?_) Nc.nd)
  rw[Oj,←ae wn] at*
  refine AF (AJ (ET.we (AQ Gl (hr.mono (by decide)) xf (AD (BH ["a","b"] [("nears",1)] ps AL (fun p=>BP (Gc (BQ n ps) p.1 p.2)) rfl (Be (AA Iw) ["web","nears"] (by decide+kernel)) (Bv (Al (ev 0) AC)) (by omega) fun p hp=> ⟨[some (.int p.1),some (.int p.2),some (GW (BQ n ps))],fun X' Oe He is O'=>?_⟩) AB) ⟨ps.map fun p=>Gc (BQ n ps) p.1 p.2,by rw[gZ];rfl,by rw[e8];omega,rfl⟩) q))
  obtain⟨cl,s',H',fp,rfl⟩:=is
  have hb:=wn.hw p hp
  exact⟨Cc 0 1 rfl af (by decide) (by decide),AQ Gr hr BW (AD (ev 2) (AD (ev 0) (AD (ev 1) AB))) ⟨n,BQ n ps,p.1,p.2,rfl,NZ wn,RW wn,by omega,by omega,rfl⟩⟩
end
structure WebR(n:Int)(ps:List (Int×Int)):Prop where
 wn:WebN n ps
 hp:ps.Pairwise Ez
 n0:1≤n
 n1:n≤20
section
variable{P:Program}{w:World}{K:a8}{mg:Str→Option Value}{base:Heap}
end
end K35
namespace L2
open PySem PySem.Spec PyProof.Rows
section
variable{X:Cx}{pos:Pos}
end
end L2
namespace L2.TL
open PySem PySem.Spec PyProof.Rows
section
variable{Z:Zx}{ρ:List (Option T)}{O:AG}{Ψ:Es}
variable{k:Nat}{x y z x2:Str}{ta tb tc td:T}{p1 p2 p3 p4 pos:Pos}
end
theorem Nd{Z:Zx}{ρ:List (Option T)}{O:AG}{a:Expr}{t:T}{p1 pos:Pos}{j:Nat}(hr:BC t=false)(ha:ET Z ρ O a t):ET Z ρ O (.Compare a [.IsNot] [.Constant .none j p1] pos) (.bl (!GL t)):=Ea IA (Af _) (fun Φ p H v w Q ok r1 r2 q=>by
 refine⟨r2.non_inv,?_⟩
 have e:decide (v=V.non)=GL t:=by
  cases r1<;>first|rfl|cases hr
 rw[e]
 exact q _ H _ O p (.refl ok) (.bl _)) ha Ca
end L2.TL
namespace K35
open PySem L2 L2.TL PySem.Spec PyProof.Rows GrR
def ag(cs:List Int):Option Int:=if cs.all (fun c=>decide (c=cs.headD 0))=true then some (cs.headD 0) else none
theorem ah{cs:List Int}:aT cs=CC (ag cs):=by
 unfold aT ag
 by_cases h:cs.all (fun c=>decide (c=cs.headD 0))=true
 ·rw[if_pos h,if_pos h];rfl
 ·rw[if_neg h,if_neg h];rfl
theorem Kl{x:Option Int}{d:Int}:ju (dT (CC x)) (dT (.int d))=decide (x=some d):=by
 cases x with
 |none=>rfl
 |some i=>
  show(i==d)=_
  rw[iR]
  simp
theorem JJ{x:Option Int}:Co (CC x)=true:=by cases x<;> (unfold CC;rw[Co])
theorem JK{x:Option Int}:(dT (CC x)).depth≤100:=by cases x<;> (show 0≤100;decide)
def Rc(n:Int)(ps:List (Int×Int)):Option Int:=ag (BS n ps)
def Ys(ps:List (Int×Int))(g:Int):Bool:=match Gf ps with
 |none=>false
 |some m=>decide (m<g)
def UX(n:Int)(ps:List (Int×Int))(d g:Int):Bool:=decide (Rc n ps=some d)&&!Ys ps g
theorem Re{n:Int}{ps:List (Int×Int)}(wr:WebR n ps){d:Int}(h:Rc n ps=some d):0≤d∧d≤200∧∀i:Nat,(i:Int)<n→((AU ps i).length:Int)=d:=by
 unfold Rc ag at h
 split at h
 ·rename_i ha
  have h:=gh.inj h
  rw[h] at ha
  have all:∀i:Nat,(i:Int)<n→((AU ps i).length:Int)=d:=fun i hi=>of_decide_eq_true (iK.mp ha _ (fo.mpr ⟨i,fW.mpr (by omega),rfl⟩))
  have h0:=all 0 (by have:=wr.n0;omega)
  have:=Bf (qs:=ps) (i:=0)
  have:=wr.wn.hl
  exact⟨by omega,by omega,all⟩
 ·cases h
section
variable{P:Program}{w:World}{K:a8}{mg:Str→Option Value}{base:Heap}{CN CE CG CR:Addr}
def Vf:BX:=Er fun ts r=>∃n ps g,ts=[Bh n ps,.int g]∧WebR n ps∧r=.bl (Ys ps g)
theorem Vg:FnScope ["web","g","size"] ["web","g"] (AA Xo):=⟨rfl,rfl,rfl,by decide+kernel,rfl,by decide+kernel,by decide+kernel⟩
theorem YF{f:Addr}{fd:fF}(F:Fun K "has_shorter_ring" "has_shorter_ring" Xo f fd)(G:FnT P w K mg base "shortest" 3 ["web"] FP):FnOk P w K mg base (CXe P w) 4 f fd ["web","g"] (BY K Vf):=by
 refine AK F Vg ?_ ?_
 ·rintro ts O Φ Ξ ⟨r,⟨n,ps,g,rfl,_⟩,_⟩
  rfl
 ·rintro cdv A outer s H E O Ξ hr xf _ Φ ⟨_,⟨n,ps,g,rfl,wr,rfl⟩,q⟩
  refine AE (Aa 2 (ET.we (AQ G hr xf (AD (ev 0) AB) ⟨n,ps,rfl,wr.wn,rfl⟩) ?_) Vg.nd)
  unfold Ys at q
  cases e:Gf ps with
  |none=>
   rw[e] at q
   exact AF (AJ (ET.we (ET.cast (Ec (x:=false) (y:=false) (Nd (t:=.non) rfl (ev 2)) (fun h=>by cases h)) rfl) q))
  |some m=>
   rw[e] at q
   exact AF (AJ (ET.we (ET.cast (Ec (x:=true) (y:=decide (m<g)) (Nd (t:=.int m) rfl (ev 2)) (fun _=>GA (QH (ev 2) (ev 1)))) (by simp)) q))
def MQ:BX:=Er fun ts r=>∃n ps d g,ts=[Bh n ps,.int d,.int g]∧WebR n ps∧r=.bl (UX n ps d g)
theorem YG:FnScope ["web","d","g"] ["web","d","g"] (AA NP):=⟨rfl,rfl,rfl,by decide+kernel,rfl,by decide+kernel,by decide+kernel⟩
theorem Rf{Z:Zx}{ρ:List (Option T)}{O:AG}{e:Expr}{n:Int}{ps:List (Int×Int)}{p pos:Pos}(G:FnT Z.X.prog Z.X.w Z.X.K Z.X.mg Z.X.base "even_by" 2 ["web"] JC)(hr:Room 2 Z.X.A)(xf:XFly Z.X Z.W)(wr:WebR n ps)(h:ET Z ρ O e (Bh n ps))(hn:Aq e=true:=by rfl)(hg:Gl Z.X "even_by":=by rfl):ET Z ρ O (.Call (.Name "even_by" p) [e] [] pos) (CC (Rc n ps)):=
 ET.cast (AQ G hr xf (AD h AB hn) ⟨n,ps,rfl,wr.wn,wr.n0,rfl⟩ hg (he:=Ap hn)) (ah)
theorem UY{f:Addr}{fd:fF}(F:Fun K "does_fit" "does_fit" NP f fd)(Ge:FnT P w K mg base "even_by" 2 ["web"] JC)(Gh:FnT P w K mg base "has_shorter_ring" 4 ["web","g"] Vf):FnOk P w K mg base (CXe P w) 5 f fd ["web","d","g"] (BY K MQ):=by
 refine AK F YG ?_ ?_
 ·rintro ts O Φ Ξ ⟨r,⟨n,ps,d,g,rfl,_⟩,_⟩
  rfl
 ·rintro cdv A outer s H E O Ξ hr xf _ Φ ⟨_,⟨n,ps,d,g,rfl,wr,rfl⟩,q⟩
  have hu:(A.deeper (kQ "does_fit" (AA NP) s.heap.objs.size f cdv)).units+101<cLine:=by have:=hr.un;omega
  exact AF (AJ (ET.we (Ec (x:=decide (Rc n ps=some d)) (y:=!Ys ps g) (ET.cast (Ea (Lw hu) (Af _) (Qb (u:=.int d) JJ (by rw[Co]) JK) (Rf Ge (hr.mono (by decide)) xf wr (ev 0)) (ev 1)) (by rw[Kl])) (fun _=>GA (XJ (AQ Gh (hr.mono (by decide)) xf (AD (ev 0) (AD (ev 2) AB)) ⟨n,ps,g,rfl,wr,rfl⟩)))) q))
def fB(t u:T)(Bad:Prop)(Q:Int→Nat→Prop):Prop:=BC t=false∧BC u=false∧(EF t 2 15=false∨EF u 3 16=false→Bad)∧∀(d:Int) (g:Nat),t=.int d→u=.int (g:Int)→2≤d→d≤15→3≤g→g≤16→Q d g
def MR(CN:Addr):BX:=fun ts O Φ Ξ=>∃n ps t u,ts=[Bh n ps,t,u]∧WebR n ps∧fB t u (Ξ (.ref CN) O) fun d g=>Φ (.bl (UX n ps d g)) O
theorem Vh{t:T}{a b:Int}(h:EF t a b=true):∃i,t=.int i∧a≤i∧i≤b:=by
 cases t<;>first| (exact⟨_,rfl,by simpa[EF] using h⟩)|cases h
theorem YH:FnScope ["web","d","g"] ["web","d","g"] (AA Qx):=⟨rfl,rfl,rfl,by decide+kernel,rfl,by decide+kernel,by decide+kernel⟩
theorem UZ{f:Addr}{fd:fF}(F:Fun K "fits" "fits" Qx f fd)(Gn:FnT P w K mg base "need_ties_and_ring" 4 ["d","g"] (RY CN))(G:FnT P w K mg base "does_fit" 5 ["web","d","g"] MQ):FnOk P w K mg base (CXe P w) 6 f fd ["web","d","g"] (BY K (MR CN)):=by
 refine AK F YH ?_ ?_
 ·rintro ts O Φ Ξ ⟨n,ps,t,u,rfl,_⟩
  rfl
 ·rintro cdv A outer s H E O Ξ hr xf _ Φ ⟨n,ps,t,u,rfl,wr,ht,hu,q1,q2⟩
  refine AE (Ad (AW Gn (hr.mono (by decide)) xf (EA.wa (AD (ev 1) (AD (ev 2) AB)) ⟨t,u,rfl,ht,hu,fun h1 h2=>?_,q1⟩)))
  obtain⟨d,rfl,d1,d2⟩:=Vh h1
  obtain⟨g,rfl,g1,g2⟩:=Vh h2
  obtain⟨k,rfl⟩:=fX (show 0≤g by omega)
  exact AF (AJ (ET.we (AQ G hr xf (AD (ev 0) (AD (ev 1) (AD (ev 2) AB))) ⟨n,ps,d,k,rfl,wr,rfl⟩) (q2 d k rfl rfl d1 d2 (by omega) (by omega))))
end
def rg(n:Int):List Int:=(fY n.toNat).map fun(i:Nat)=> (i:Int)
section
variable{P:Program}{w:World}{K:a8}{mg:Str→Option Value}{base:Heap}{CP:Addr}
theorem Ua:(Ae ["a","b"] [(("names" :Str),1)]).Nodup:=by decide+kernel
theorem ai:(Ae ["name"] [(("web" :Str),0)]).Nodup:=by decide+kernel
def FQ(n:Int)(t:T)(ns:List Int):Prop:=t=.tup (ns.map T.int)∧ns.Perm (rg n)
structure Askq(n:Int)(ps:List (Int×Int))(t:T):Prop where
 n0:1≤n
 n1:n≤16
 hp:∀p∈ps,BD n p
 hl:ps.length≤300
 pl:SK t=true
 sz:∀us,t=.tup us→us.length≤60
def dE(n:Int)(ps:List (Int×Int))(t:T)(O:AG)(Φ:BJ)(X:Prop):Prop:=
 (∀ns,FQ n t ns→∀qs:List (Int×Int),qs.Pairwise Ez→(∀q,q∈qs↔q∈ps.map (nm ns))→qs.length≤ps.length→Φ (.tup [.int n,.tup (qs.map AL)]) O)∧((∀ns,¬FQ n t ns)→X)
def Ho(CP:Addr):BX:=fun ts O Φ Ξ=>∃(n:Int) (ps:List (Int×Int)) (t:T),ts=[.tup [.int n,.tup (ps.map AL)],t]∧Askq n ps t∧dE n ps t O Φ (Ξ (.ref CP) O)
theorem Ol:FnScope ["web","names"] ["web","names"] (AA CH):=⟨rfl,rfl,rfl,by decide+kernel,rfl,by decide+kernel,by decide+kernel⟩
theorem Km{a b:Int}:∀{us:List T},(us.map fun t=>EF t a b).all id=true→∃ns:List Int,us=ns.map T.int∧∀z∈ns,a≤z∧z≤b
 | [],_=> ⟨[],rfl,fun _ h=>by cases h⟩
 |t::us,h=>by
  have h:(EF t a b&&(us.map fun t=>EF t a b).all id)=true:=h
  rw[iV] at h
  obtain⟨i,rfl⟩:=UK h.1
  obtain⟨ns,rfl,h2⟩:=Km h.2
  have h1:(decide (a≤i)&&decide (i≤b))=true:=h.1
  simp at h1
  exact⟨i::ns,rfl,fun z hz=>by
   rcases fh.mp hz with rfl|hz
   ·exact h1
   ·exact h2 z hz⟩
theorem Gi:∀{ns ms:List Int},ns.map T.int=ms.map T.int→ns=ms
 | [],[],_=>rfl
 | [],_::_,e=>by cases e
 |_::_,[],e=>by cases e
 |p::ps,q::qs,e=>by
  rw[fL,fL] at e
  injection e with e1 e2
  injection e1 with e1
  rw[e1,Gi e2]
theorem YI{n z:Int}(h:z∈rg n):0≤z∧z<n:=by
 obtain⟨i,hi,rfl⟩:=fo.mp h
 have:=fW.mp hi
 omega
theorem YJ{n:Int}:(rg n).length=n.toNat:=by simp[rg]
theorem Ub{n:Int}:(rg n).Pairwise (·≤·):=by
 unfold rg
 rw[gP]
 exact jm.imp fun h=>by omega
theorem MS{f:Addr}{fd:fF}(F:Fun K "renamed" "renamed" CH f fd)(Tx:Txt mg)(mP:mg "NoPlace" =some (.ref CP))(xP:j7 K CP OD "ValueError.__new__" =true)(Gp:FnT P w K mg base "is_place" 2 ["web","thing"] NS)(Gt:FnT P w K mg base "ties_of" 2 ["pairs"] GX):FnOk P w K mg base (CXe P w) 3 f fd ["web","names"] (BY K (Ho CP)):=by
 refine NH F Ol ?_ ?_
 ·rintro ts O Φ Ξ ⟨n,ps,t,rfl,_⟩
  rfl
 ·rintro cdv A outer s H E O Ξ hr xo _ Φ ⟨n,ps,t,rfl,ask,told⟩
  have xf:=xo.f
  have n0:=ask.n0
  have n1:=ask.n1
  have hu:(A.deeper (kQ "renamed" (AA CH) s.heap.objs.size f cdv)).units<cLine:=by have:=hr.un;omega
  cases hT:VR t with
  |false=>
   have no:∀ns,¬FQ n t ns:=fun ns z=>by rw[z.1] at hT;cases hT
   refine AE (Ab (k:=true) (EW.eb (EW.cast (Bm (y:=true) (Ay (DD Tx.nIsi Tx.nTuple Dl DP (ev 1) (NF ask.pl))) fun h=>?_) (by rw[hT];rfl))) (fun h=>AF (DR xo rfl mP xP (told.2 no))) (fun h=>by cases h))
   rw[hT] at h;cases h
  |true=>
   obtain⟨us,rfl⟩:∃us,t=.tup us:=by cases t<;>first|exact⟨_,rfl⟩|cases hT
   have hl:=ask.sz us rfl
   have sb:=AR
   have pl:=NG.mp ask.pl
   refine AE (Ab (EW.eb (Bm (Ay (DD Tx.nIsi Tx.nTuple Dl DP (ev 1) rfl)) fun _=>Bd (Ay (Da (Dm (bs:=us.map fun t=>EF t 0 (n-1)) Tx.nAll rfl ?_))))) (fun h=>AF (DR xo rfl mP xP (told.2 fun ns z=>?_))) (fun h=>Ac ?_))
   ·rw[gZ]
    refine BH ["name"] [("web",0)] us id _ rfl (Be (AA CH) ["web","names"] (by decide+kernel)) (by rw[ou];exact Bv (ev 1)) (by omega) fun x hx=> ⟨[some x,some (.tup [.int n,.tup (ps.map AL)])],fun X' Oe He is O'=>?_⟩
    obtain⟨cl,s',H',fp,rfl⟩:=is
    exact⟨AX 0 ai (by decide),AQ Gp hr BW (AD (ev 1) (AD (ev 0) AB)) ⟨n,_,x,rfl,NF (pl x hx),rfl⟩⟩
   ·obtain⟨e,pm⟩:=z
    injection e with e
    subst e
    have:((ns.map T.int).map fun t=>EF t 0 (n-1)).all id=true:=by
     rw[gZ,List.all_map,iK]
     intro z hz
     have:=YI (pm.mem_iff.mp hz)
     show(decide (0≤z)&&decide (z≤n-1))=true
     simp
     omega
    rw[this] at h;cases h
   ·have h:(us.map fun t=>EF t 0 (n-1)).all id=true:=by
     cases z:(us.map fun t=>EF t 0 (n-1)).all id with
     |true=>rfl
     |false=>rw[z] at h;cases h
    obtain⟨ns,rfl,hz⟩:=Km h
    have hl:ns.length≤60:=by simpa using hl
    refine AE (VP (IX (Xe hu) (Af _) (Lv Tx.nSorted (ev 1) (by omega) fun ms pm pw=>ET.we (QZ Tx.nList Tx.nRange rfl (Al (ev 0) AC) (by omega) (by omega)) (aH _ ⟨_,rfl,?_⟩))))
    by_cases hm:ms=rg n
    ·have e:(!decide (ms=rg n))=false:=by rw[decide_eq_true hm];rfl
     show if(!decide (ms=rg n))=true then _ else _
     rw[e,if_neg e6]
     have isn:FQ n (.tup (ns.map T.int)) ns:=⟨rfl,hm▸pm.symm⟩
     have hlen:(ns.length:Int)=n:=by
      have:=isn.2.length_eq
      rw[YJ] at this
      omega
     refine Ac (AF (AJ (Lm (Lr (ET.we (Al (ev 0) AC) (Lr (AW Gt hr xf (EA.wa (AD (BH ["a","b"] [("names",1)] ps AL (fun p=>AL (KU ns p.1,KU ns p.2)) rfl (Be (AA CH) ["web","names"] (by decide+kernel)) (Bv (Al (ev 0) AC)) (by have:=ask.hl;omega) fun x hx=> ⟨[some (.int x.1),some (.int x.2),some (.tup (ns.map T.int))],fun X' Oe He is O'=>?_⟩) AB) ⟨ps.map fun p=> (KU ns p.1,KU ns p.2),?_,by simpa using ask.hl,?_,fun qs q1 q2 q3=>BR ⟨by show 2≤sizeLine;decide,told.1 ns isn qs q1 (fun z=>?_) (by simpa using q3)⟩⟩))))))))
     ·obtain⟨cl,s',H',fp,rfl⟩:=is
      have:=ask.hp x hx
      unfold BD at this
      exact⟨Cc 0 1 rfl Ua (by decide) (by decide),Dj (AD (Al (ev 2) (ev 0) (KW (by omega) (by omega))) (AD (Al (ev 2) (ev 1) (KW (by omega) (by omega))) AB))⟩
     ·rw[gZ];rfl
     ·intro z hz'
      obtain⟨p,hp,rfl⟩:=fo.mp hz'
      have:=ask.hp p hp
      unfold BD at this
      have a1:=hz _ (NR (ns:=ns) (i:=p.1) (by omega) (by omega))
      have a2:=hz _ (NR (ns:=ns) (i:=p.2) (by omega) (by omega))
      show(0≤KU ns p.1∧KU ns p.1<65536)∧0≤KU ns p.2∧KU ns p.2<65536
      omega
     ·rw[q2 z,gZ];rfl
    ·have e:(!decide (ms=rg n))=true:=by rw[decide_eq_false hm];rfl
     show if(!decide (ms=rg n))=true then _ else _
     rw[e,if_pos rfl]
     refine AF (DR xo rfl mP xP (told.2 fun ns' z=>?_))
     obtain⟨e,pm'⟩:=z
     injection e with e
     cases Gi e
     exact hm ((lY pm pw).trans (lY pm'.symm Ub).symm)
end
variable{n:Int}{ps:List (Int×Int)}{d:Int}{k:Nat}
theorem MU(hw:Gr.Gz n ps):∀u,¬Gr.Adj ps u u:=fun u h=> (h.inb hw).2.2 rfl
theorem El{c d:Nat}:∀k,((GrR.CF (fun i=>c*d^i) k:Nat):Int)=c*HA d k
 |0=>by show(0:Int)=c*0;omega
 |k+1=>by
  show((GrR.CF (fun i=>c*d^i) k+c*d^k:Nat):Int)=c*(HA d k+(d:Int)^k)
  rw[Int.natCast_add,El k,Int.mul_add,Int.natCast_mul,Int.natCast_pow]
theorem Rg(wr:WebR n ps){u:Int}(u0:0≤u)(u1:u<n):((BU ps u).length:Int)≤n-1:=by
 have:=Gr.GM (n:=n) (L:=u::BU ps u) (fH.mpr ⟨fun h=>MU wr.wn.hw u ((Ek u u).mp h),Nb wr.wn.hw wr.hp u⟩) fun z hz=>by
  rcases fh.mp hz with rfl|hz
  ·exact⟨u0,u1⟩
  ·exact Kh wr.wn.hw u z ((Ek u z).mp hz)
 rw[fu] at this
 omega
theorem Rh(wr:WebR n ps):Rc n ps=some d↔∀u:Int,0≤u→u<n→((BU ps u).length:Int)=d:=by
 have n0:=wr.n0
 constructor
 ·intro h u u0 u1
  obtain⟨i,rfl⟩:=fX u0
  rw[←DU wr.wn.hw]
  exact(Re wr h).2.2 i u1
 ·intro h
  have e:∀c∈BS n ps,c=d:=fun c hc=>by
   obtain⟨i,hi,rfl⟩:=fo.mp hc
   have:=fW.mp hi
   rw[DU wr.wn.hw]
   exact h i (by omega) (by omega)
  have hne:(BS n ps).headD 0=d:=by
   cases z:BS n ps with
   |nil=>
    have:=congrArg List.length z
    unfold BS at this
    rw[e8,ig] at this
    simp at this
    omega
   |cons x xs=>exact e x (by rw[z];simp)
  unfold Rc ag
  rw[if_pos,hne]
  rw[iK]
  intro c hc
  rw[hne,e c hc]
  simp
theorem JL{a:Int}:∀{N:Nat},0≤a→((fY N).map fun(i:Nat)=>if a=(i:Int) then(1:Nat) else 0).sum=if a<N then 1 else 0
 |0,h=>by rw[if_neg (by omega)];rfl
 |N+1,h=>by
  rw[List.range_succ,iy,List.sum_append,JL h]
  show _+((if a=(N:Int) then 1 else 0)+0)=_
  by_cases c:a=(N:Int)
  ·rw[if_neg (by omega),if_pos c,if_pos (by omega)]
   rfl
  ·by_cases c2:a< (N:Int)
   ·rw[if_pos c2,if_neg c,if_pos (by omega)]
    rfl
   ·rw[if_neg c2,if_neg c,if_neg (by omega)]
    rfl
theorem JM{f g:Nat→Nat}:∀{xs:List Nat},(xs.map fun i=>f i+g i).sum=(xs.map f).sum+(xs.map g).sum
 | []=>rfl
 |x::xs=>by
  show f x+g x+(xs.map fun i=>f i+g i).sum=f x+(xs.map f).sum+(g x+(xs.map g).sum)
  rw[JM]
  omega
theorem dF(hw:Gr.Gz n ps):((fY n.toNat).map fun i=> (AU ps i).length).sum=2*ps.length:=by
 induction ps with
 |nil=>
  have:((fY n.toNat).map fun i=> (AU [] i).length)=iA n.toNat 0:=by
   rw[List.eq_replicate_iff]
   refine⟨by simp,fun x hx=>?_⟩
   obtain⟨i,_,rfl⟩:=fo.mp hx
   rfl
  rw[this]
  simp
 |cons p ps ih=>
  have ih:=ih fun q hq=>hw q (fv _ hq)
  have hp:=hw p (by simp)
  have e:∀i:Nat,(AU (p::ps) i).length=((if p.1=(i:Int) then 1 else 0)+(if p.2=(i:Int) then 1 else 0))+(AU ps i).length:=fun i=>by
   unfold AU
   rw[iw]
   by_cases c1:p.1=(i:Int)
   ·rw[if_pos c1,if_pos c1,if_neg (by omega)]
    simp only[fu]
    omega
   ·rw[if_neg c1,if_neg c1]
    by_cases c2:p.2=(i:Int)
    ·rw[if_pos c2,if_pos c2]
     simp only[fu]
     omega
    ·rw[if_neg c2,if_neg c2]
     simp only
     omega
  rw[show(fun i=> (AU (p::ps) i).length)=fun(i:Nat)=> ((if p.1=(i:Int) then 1 else 0)+(if p.2=(i:Int) then 1 else 0))+(AU ps i).length from funext e,JM,JM,JL hp.1,JL (by omega),ih,if_pos (by omega),if_pos (by omega),fu]
  omega
theorem Kn(wr:WebR n ps)(h:Rc n ps=some d):(n*d)%2=0:=by
 have e:=dF wr.wn.hw
 have n0:=wr.n0
 have:=(Re wr h).2.2
 obtain⟨D,rfl⟩:∃D:Nat,d=D:=⟨d.toNat,by have:=(Re wr h).1;omega⟩
 rw[show((fY n.toNat).map fun i=> (AU ps i).length)=iA n.toNat D from by
  rw[List.eq_replicate_iff]
  refine⟨by simp,fun x hx=>?_⟩
  obtain⟨i,hi,rfl⟩:=fo.mp hx
  have:=this i (by have:=fW.mp hi;omega)
  omega,List.sum_replicate_nat] at e
 have e2:n*(D:Int)=((n.toNat*D:Nat):Int):=by rw[Int.natCast_mul,lg (by omega)]
 rw[e2,e]
 omega
structure Fit(n:Int)(ps:List (Int×Int))(d:Int)(k:Nat):Prop where
 d2:2≤d
 dn:d≤n-1
 k3:3≤k
 kn:(k:Int)≤n
 gr:grown d k≤n
 ev2:(n*d)%2=0
 tg:grown d k=n→∀v:Int,0≤v→v<n→∃i,i≤k/2∧Gr.IsD ps [0] v i
theorem YK(wr:WebR n ps)(he:Rc n ps=some d)(hs:Gf ps=some (k:Int)):Fit n ps d k:=by
 have wn:=wr.wn
 have n0:=wr.n0
 have hd:=(Rh wr).mp he
 obtain⟨k',e,k3,kn,least,r,rr,rk⟩:=JI wn.hw hs
 have:k'=k:=by omega
 subst this
 have sy:=JG (ps:=ps)
 have ir:=MU wn.hw
 have hR:=Ek (ps:=ps)
 have hn:=Nb wn.hw wr.hp
 have hb:=Kh wn.hw
 have h0:(0:Int)≤0∧(0:Int)<n:=⟨by omega,by omega⟩
 have S0:∀z∈[(0:Int)],0≤z∧z<n:=fun z hz=>by rw[b9.mp hz];exact h0
 have d2:2≤d:=by
  obtain⟨x,hx,h2⟩:=GrR.Qr hR sy rr
  have hi:=GrR.Il hb rr x hx
  have:=hd x hi.1 hi.2
  omega
 obtain⟨D,rfl⟩:∃D:Nat,d=(D:Int)+1:=⟨(d-1).toNat,by omega⟩
 have hd':∀u,0≤u→u<n→(BU ps u).length=D+1:=fun u u0 u1=>by have:=hd u u0 u1;omega
 have dn:(D:Int)+1≤n-1:=by
  have:=Rg wr (u:=0) (by omega) (by omega)
  rw[hd 0 (by omega) (by omega)] at this
  exact this
 obtain⟨b,hb0⟩:∃b,b∈BU ps 0:=List.exists_mem_of_length_pos (by rw[hd' 0 (by omega) (by omega)];omega)
 have ad:Gr.Adj ps 0 b:=(hR 0 b).mp hb0
 have bi:=hb _ _ ad
 have Sb:∀z∈[(0:Int),b],0≤z∧z<n:=fun z hz=>by
  simp only[fh,gC,or_false] at hz
  rcases hz with rfl|rfl
  ·exact h0
  ·exact bi
 have e1:=El (c:=D+1) (d:=D) (k'/2)
 have e2:=El (c:=2) (d:=D) (k'/2)
 rw[Int.natCast_add,show((1:Nat):Int)=1 from rfl] at e1
 rw[show((2:Nat):Int)=2 from rfl] at e2
 have g1:k'%2=1→grown ((D:Int)+1) k'=((1+GrR.CF (fun i=> (D+1)*D^i) (k'/2):Nat):Int):=fun c=>by
  unfold grown
  rw[if_pos c,show(D:Int)+1-1=D by omega,←e1]
  omega
 have g2:k'%2≠1→grown ((D:Int)+1) k'=((GrR.CF (fun i=>2*D^i) (k'/2):Nat):Int):=fun c=>by
  unfold grown
  rw[if_neg c,show(D:Int)+1-1=D by omega,←e2]
 have b1:=GrR.UC sy ir least hR hn hb hd' h0 (GrR.MB hb S0) (k'/2)
 have b2:=GrR.UD sy ir least hR hn hb hd' ad (GrR.MB hb Sb) (k'/2) (by omega)
 refine⟨d2,dn,k3,kn,?_,Kn wr he,fun ht v v0 v1=>?_⟩
 ·by_cases c:k'%2=1
  ·have:=GrR.Qo hb S0 (GrR.MB hb S0) (k'/2+1)
   rw[b1 (by omega)] at this
   rw[g1 c]
   omega
  ·have:=GrR.Qo hb Sb (GrR.MB hb Sb) (k'/2)
   rw[b2] at this
   rw[g2 c]
   omega
 ·by_cases c:k'%2=1
  ·rw[g1 c] at ht
   obtain⟨i,hi,q⟩:=GrR.NM hb S0 (GrR.MB hb S0) (k'/2+1) (by rw[b1 (by omega)];omega) v0 v1
   exact⟨i,by omega,GrR.Qi.mpr q⟩
  ·rw[g2 c] at ht
   obtain⟨i,hi,q⟩:=GrR.NM hb Sb (GrR.MB hb Sb) (k'/2) (by rw[b2];omega) v0 v1
   obtain⟨j,hj,w⟩:=GrR.aN ad q.1
   obtain⟨m,hm,z⟩:=w.least
   exact⟨m,by omega,GrR.Qi.mpr z⟩
variable{n:Int}{ps:List (Int×Int)}
theorem JN:∀{xs ys:List (Int×Int)},xs.Pairwise Ez→ys.Pairwise Ez→(∀v,v∈xs↔v∈ys)→xs=ys
 | [],[],_,_,_=>rfl
 | [],y::ys,_,_,h=>by have:=(h y).mpr (by simp);cases this
 |x::xs,[],_,_,h=>by have:=(h x).mp (by simp);cases this
 |x::xs,y::ys,h1,h2,h=>by
  have a:=jQ.mp h1
  have b:=jQ.mp h2
  have irr:∀{p q:Int×Int},Ez p q→Ez q p→False:=fun{p q} h1 h2=>by unfold Ez at h1 h2;omega
  have e:x=y:=by
   rcases fh.mp ((h x).mp (by simp)) with e|hx
   ·exact e
   ·rcases fh.mp ((h y).mpr (by simp)) with e|hy
    ·exact e.symm
    ·exact(irr (a.1 y hy) (b.1 x hx)).elim
  subst e
  rw[JN a.2 b.2 fun v=>?_]
  constructor
  ·intro hv
   rcases fh.mp ((h v).mp (by simp[hv])) with e|hv'
   ·subst e;exact(irr (a.1 v hv) (a.1 v hv)).elim
   ·exact hv'
  ·intro hv
   rcases fh.mp ((h v).mpr (by simp[hv])) with e|hv'
   ·subst e;exact(irr (b.1 v hv) (b.1 v hv)).elim
   ·exact hv'
def Om(m:Nat):List (Int×Int):=(fY m).flatMap fun(a:Nat)=> ((fY m).filter fun b=>decide (a<b)).map fun(b:Nat)=> ((a:Int),(b:Int))
theorem Nf{m:Nat}:(Om m).Pairwise Ez:=by
 unfold Om
 rw[List.pairwise_flatMap]
 constructor
 ·intro a _
  rw[gP]
  exact(kS _ jm).imp fun{x y} h=> .inr ⟨rfl,by show(x:Int)<y;omega⟩
 ·refine jm.imp fun{a b} h x hx y hy=>?_
  obtain⟨u,_,rfl⟩:=fo.mp hx
  obtain⟨v,_,rfl⟩:=fo.mp hy
  exact .inl (by show(a:Int)<b;omega)
theorem Ko{m:Nat}{q:Int×Int}(h:BD (m:Int) q):q∈Om m:=by
 unfold BD at h
 exact jv.mpr ⟨q.1.toNat,fW.mpr (by omega),fo.mpr ⟨q.2.toNat,fO.mpr ⟨fW.mpr (by omega),decide_eq_true (by omega)⟩,iu (by show((q.1.toNat:Nat):Int)=q.1;omega) (by show((q.2.toNat:Nat):Int)=q.2;omega)⟩⟩
theorem aj{N:Nat}(n0:1≤N)(n1:N≤16)(h1:ps.Pairwise Ez)(h2:∀q∈ps,BD (N:Int) q):WebR (N:Int) ps:=by
 have hl:ps.length≤200:=by
  have e:=JN h1 (kS (fun q=>decide (q∈ps)) (Nf (m:=N))) fun q=>by
   rw[fO,decide_eq_true_eq]
   exact⟨fun h=> ⟨Ko (h2 q h),h⟩,fun h=>h.2⟩
  have key:∀m,m≤16→(Om m).length≤200:=by decide+kernel
  rw[e]
  exact gL (kO ..) (key N n1)
 exact⟨⟨by omega,by omega,h2,hl⟩,h1,by omega,by omega⟩
variable{n:Int}{ps qs:List (Int×Int)}{ns:List Int}
end K35
namespace L2.TL
open PySem PySem.Spec PyProof.Rows
section
variable{X:Cx}{Z:Zx}{ρ:List (Option T)}{O:AG}{a b:Expr}{pos:Pos}{i j:Int}{x y:Bool}
end
end L2.TL
namespace K35
open PySem L2 L2.TL PySem.Spec PyProof.Rows
variable{n:Int}{ps:List (Int×Int)}{O:AG}{Φ:BJ}{Ξ:Value→AG→Prop}{CE CP CG CN:Addr}{d:Int}{k:Nat}
def bp(d:Int)(g:Nat):Int:=if max (grown d g) (d+1)*d%2=0 then max (grown d g) (d+1) else max (grown d g) (d+1)+1
section
variable{P:Program}{w:World}{K:a8}{mg:Str→Option Value}{base:Heap}
def Vi:BX:=Er fun ts r=>∃(d:Int) (g:Nat),ts=[.int d,.int (g:Int)]∧(2≤d∧d≤15)∧3≤g∧g≤16∧r=.int (bp d g)
theorem Vj:FnScope ["d","g","many"] ["d","g"] (AA Qw):=⟨rfl,rfl,rfl,by decide+kernel,rfl,by decide+kernel,by decide+kernel⟩
theorem YL{f:Addr}{fd:fF}(F:Fun K "least_fit" "least_fit" Qw f fd)(Tx:Txt mg)(G:FnT P w K mg base "least_by_growth" 5 ["d","g"] Ve):FnOk P w K mg base (CXe P w) 6 f fd ["d","g"] (BY K Vi):=by
 refine AK F Vj ?_ ?_
 ·rintro ts O Φ Ξ ⟨r,⟨d,g,rfl,_⟩,_⟩
  rfl
 ·rintro cdv A outer s H E O Ξ hr xf _ Φ ⟨_,⟨d,g,rfl,hd,g0,g1,rfl⟩,q⟩
  refine AE (Aa 2 (ET.we (Ie Tx.nMax rfl (AQ G hr xf (AD (ev 0) (AD (ev 1) AB)) ⟨d,g,rfl,hd,g0,g1,rfl⟩) (BE (ev 0) AC)) ?_) Vj.nd)
  refine AF (AJ (ET.we (ET.cast (HX (x:=decide (max (grown d g) (d+1)*d%2=0)) (Eb (Cb (Cy (ev 2) (ev 0) (.inr ⟨by omega,by omega⟩)) AC (by decide)) AC) (fun _=>ev 2) (fun _=>BE (ev 2) AC)) ?_) q))
  unfold bp
  by_cases c:max (grown d g) (d+1)*d%2=0
  ·rw[decide_eq_true c,if_pos rfl,if_pos c]
  ·rw[decide_eq_false c,if_neg e6,if_neg c]
end
theorem Hq{g:Nat}(wr:WebR n ps)(d2:2≤d)(d1:d≤15)(g3:3≤g)(g1:g≤16)(q:Φ (.bl (UX n ps d g)) O):MR CN [Bh n ps,.int d,.int (g:Int)] O Φ Ξ:=
 ⟨n,ps,_,_,rfl,wr,rfl,rfl,(fun h=>by rw[Dc d2 d1,Dc (by omega) (by omega)] at h;rcases h with h|h<;>cases h),fun d' g' e1 e2 _ _ _ _=>by
  cases e1
  have:g'=g:=by injection e2 with e;omega
  subst this
  exact q⟩
section
variable{P:Program}{w:World}{K:a8}{mg:Str→Option Value}{base:Heap}
theorem YM:FnScope ["many","thing"] ["many","thing"] (AA NQ):=⟨rfl,rfl,rfl,by decide+kernel,rfl,by decide+kernel,by decide+kernel⟩
theorem YN:(Ae ["end"] [(("many" :Str),0)]).Nodup:=by decide+kernel
theorem Kq:FnScope ["row"] ["row"] (AA Cf):=⟨rfl,rfl,rfl,by decide+kernel,rfl,by decide+kernel,by decide+kernel⟩
theorem Vk:(Ae ["one","other"] []).Nodup:=by decide+kernel
theorem ak(ts:List T):OY ts (some 1) none=ts.drop 1:=by
 unfold OY
 have:HT.Az ts.length 0 (some 1)=min 1 ts.length:=rfl
 rw[this]
 show(ts.drop (min 1 ts.length)).take (ts.length-min 1 ts.length)=_
 cases ts with
 |nil=>rfl
 |cons t ts=>
  have:min 1 (t::ts).length=1:=by simp
  rw[this]
  simp
theorem MV(ps qs:List (Int×Int)):Ig (ps.map AL) (qs.map AL)=(ps.zip qs).map fun z=> .tup [AL z.1,AL z.2]:=by
 unfold Ig
 rw[List.zipWith_map,List.zip,List.map_zipWith]
theorem YO(p q:Int×Int):HT.Am [p.1,p.2] [q.1,q.2]=true↔Ez p q:=by
 show(if p.1=q.1 then(if p.2=q.2 then false else decide (p.2<q.2)) else decide (p.1<q.1))=true↔_
 unfold Ez
 split
 ·split
  ·simp;omega
  ·simp;omega
 ·simp;omega
theorem Uc:FnScope ["many","thing"] ["many","thing"] (AA GS):=⟨rfl,rfl,rfl,by decide+kernel,rfl,by decide+kernel,by decide+kernel⟩
theorem Ud:(Ae ["tie"] [(("many" :Str),0)]).Nodup:=by decide+kernel
theorem ao:(Ae ["a","b"] []).Nodup:=by decide+kernel
theorem aq:FnScope ["thing"] ["thing"] (AA Xp):=⟨rfl,rfl,rfl,by decide+kernel,rfl,by decide+kernel,by decide+kernel⟩
end
end K35
namespace L2
open PySem PySem.Spec PyProof.Rows
section
variable{X:Cx}{e:Expr}{te:TE}{p2 p3 p4 pos:Pos}
end
end L2
namespace L2.TL
open PySem PySem.Spec PyProof.Rows
section
variable{Z:Zx}{ρ:List (Option T)}{O:AG}{e:Expr}{ts:List T}{p2 p3 p4 pos:Pos}
end
end L2.TL
namespace K35
open PySem L2 L2.TL PySem.Spec PyProof.Rows
variable{n:Int}{ps:List (Int×Int)}
theorem Ri{i a b:Int}(h0:a≤i)(h1:i≤b):EF (.int i) a b=true:=by
 show(decide (a≤i)&&decide (i≤b))=true
 rw[decide_eq_true h0,decide_eq_true h1]
 rfl
theorem Kr{α:Type}{xs:List α}:((xs.map fun _=>true).all id)=true:=by
 rw[iK]
 intro x hx
 obtain⟨_,_,rfl⟩:=fo.mp hx
 rfl
theorem Ks{α:Type}{xs:List α}:T.lst (xs.map fun _=>T.bl true)=T.lst ((xs.map fun _=>true).map T.bl):=by rw[gZ];rfl
section
variable{P:Program}{w:World}{K:a8}{mg:Str→Option Value}{base:Heap}
def ar:BX:=Er fun ts r=>∃(n:Int) (p:Int×Int),ts=[.int n,AL p]∧0≤p.1∧p.1<n∧0≤p.2∧p.2<n∧p.1≠p.2∧r=.bl true
theorem au{f:Addr}{fd:fF}(F:Fun K "is_pair" "is_pair" NQ f fd)(Tx:Txt mg)(G:FnT P w K mg base "is_whole" 1 ["thing","least","most"] DT):FnOk P w K mg base (CXe P w) 2 f fd ["many","thing"] (BY K ar):=by
 refine AK F YM ?_ ?_
 ·rintro ts O Φ Ξ ⟨r,⟨n,p,rfl,_⟩,_⟩
  rfl
 ·rintro cdv A outer s H E O Ξ hr xf _ Φ ⟨_,⟨n,p,rfl,a0,a1,b0,b1,ne,rfl⟩,q⟩
  refine AE (Ab (k:=false) (EW.eb (Bm (x:=false) (y:=false) (Ay (DD (t:=AL p) Tx.nIsi Tx.nTuple Dl DP (ev 1) rfl)) fun _=>Bd (IY (FL (ts:=[.int p.1,.int p.2]) Tx.nLen (ev 1)) AC))) (fun h=>by cases h) (fun _=>Ac ?_))
  refine AF (AJ (ET.we (ET.cast (Ec (x:=true) (y:=true) (ET.cast (Dm (bs:=[p.1,p.2].map fun _=>true) Tx.nAll rfl (BH ["end"] [("many",0)] [p.1,p.2] T.int (fun _=> .bl true) rfl (Be (AA NQ) ["many","thing"] (by decide+kernel)) (Bv (ev 1)) (by show 2≤sizeLine;decide) fun x hx=> ⟨[some (.int x),some (.int n)],fun X' Oe He is O'=>?_⟩)) rfl) fun _=>GA (ET.cast (XE (i:=p.1) (j:=p.2) (Al (ts:=[.int p.1,.int p.2]) (ev 1) AC) (Al (ts:=[.int p.1,.int p.2]) (ev 1) AC)) (by rw[decide_eq_false ne];rfl))) rfl) q))
  obtain⟨cl,s',H',fp,rfl⟩:=is
  refine⟨AX 0 YN (by decide),ET.cast (AQ G hr BW (AD (ev 0) (AD AC (AD (Fy (ev 1) AC) AB))) ⟨_,0,n-1,rfl,rfl,rfl⟩) ?_⟩
  simp only[fh,gC,or_false] at hx
  rw[Ri (by rcases hx with rfl|rfl<;>omega) (by rcases hx with rfl|rfl<;>omega)]
def av:BX:=Er fun ts r=>∃ps:List (Int×Int),ts=[.tup (ps.map AL)]∧ps.length≤1000∧ps.Pairwise Ez∧r=.bl true
theorem Rj:∀{ps:List (Int×Int)},ps.Pairwise Ez→∀z∈ps.zip (ps.drop 1),Ez z.1 z.2
 | [],_,z,hz=>by cases hz
 | [_],_,z,hz=>by cases hz
 |p::q::L,h,z,hz=>by
  have h':=jQ.mp h
  rcases fh.mp (show z∈(p,q)::((q::L).zip L) from hz) with rfl|hz
  ·exact h'.1 q (by simp)
  ·exact Rj h'.2 z hz
theorem aw{f:Addr}{fd:fF}(F:Fun K "is_rising" "is_rising" Cf f fd)(Tx:Txt mg):FnOk P w K mg base (CXe P w) 1 f fd ["row"] (BY K av):=by
 refine AK F Kq ?_ ?_
 ·rintro ts O Φ Ξ ⟨r,⟨t,rfl,_⟩,_⟩
  rfl
 ·rintro cdv A outer s H E O Ξ hr xf _ Φ ⟨_,⟨ps,rfl,hl,pw,rfl⟩,q⟩
  have sb:=AR
  have hu:(A.deeper (kQ "is_rising" (AA Cf) s.heap.objs.size f cdv)).units<cLine:=by have:=hr.un;omega
  refine AF (AJ (ET.we (ET.cast (Dm Tx.nAll rfl (ET.cast (BH ["one","other"] [] (ps.zip (ps.drop 1)) (fun z=> .tup [AL z.1,AL z.2]) (fun _=> .bl true) rfl (Be (AA Cf) ["row"] (by decide+kernel)) ?_ (by simp;omega) fun x hx=> ⟨[some (AL x.1),some (AL x.2)],fun X' Oe He is O'=>?_⟩) Ks)) (by rw[Kr])) q))
  ·rw[←MV,oR,←ak]
   exact QV Tx.nZip (ev 0) (QT (ev 0) AC)
  ·obtain⟨cl,s',H',fp,rfl⟩:=is
   exact⟨Cc 0 1 rfl Vk (by decide) (by decide),ET.cast (Xb (ns:=[x.1.1,x.1.2]) (ms:=[x.2.1,x.2.2]) hu (ev 0) (ev 1)) (by rw[(YO x.1 x.2).mpr (Rj pw x hx)])⟩
def ay:BX:=Er fun ts r=>∃(n:Int) (ps:List (Int×Int)),ts=[.int n,.tup (ps.map AL)]∧ps.length≤1000∧(∀p∈ps,BD n p)∧ps.Pairwise Ez∧r=.bl true
theorem az{f:Addr}{fd:fF}(F:Fun K "ties_good" "ties_good" GS f fd)(Tx:Txt mg)(G:FnT P w K mg base "is_pair" 2 ["many","thing"] ar)(G2:FnT P w K mg base "is_rising" 2 ["row"] av):FnOk P w K mg base (CXe P w) 3 f fd ["many","thing"] (BY K ay):=by
 refine AK F Uc ?_ ?_
 ·rintro ts O Φ Ξ ⟨r,⟨n,ps,rfl,_⟩,_⟩
  rfl
 ·rintro cdv A outer s H E O Ξ hr xf _ Φ ⟨_,⟨n,ps,rfl,hl,hP,pw,rfl⟩,q⟩
  have sb:=AR
  refine AE (Ab (k:=false) (EW.eb (EW.cast (Bm (x:=false) (y:=false) (Ay (DD (t:=.tup (ps.map AL)) Tx.nIsi Tx.nTuple Dl DP (ev 1) rfl)) fun _=>Bd (EB.cast (Ay (k:=true) (EB.cast (Da (Dm Tx.nAll rfl (ET.cast (BH ["tie"] [("many",0)] ps AL (fun _=> .bl true) rfl (Be (AA GS) ["many","thing"] (by decide+kernel)) (Bv (ev 1)) (by omega) fun x hx=> ⟨[some (AL x),some (.int n)],fun X' Oe He is O'=>?_⟩) Ks))) Kr)) rfl)) rfl)) (fun h=>by cases h) (fun _=>Ac ?_))
  ·obtain⟨cl,s',H',fp,rfl⟩:=is
   have:=hP x hx
   unfold BD at this
   exact⟨AX 0 Ud (by decide),AQ G hr BW (AD (ev 1) (AD (ev 0) AB)) ⟨n,x,rfl,by omega,by omega,by omega,by omega,by omega,rfl⟩⟩
  ·refine AF (AJ (ET.we (ET.cast (Ec (x:=true) (y:=true) (ET.cast (Dm Tx.nAll rfl (ET.cast (BH ["a","b"] [] ps AL (fun _=> .bl true) rfl (Be (AA GS) ["many","thing"] (by decide+kernel)) (Bv (ev 1)) (by omega) fun x hx=> ⟨[some (.int x.1),some (.int x.2)],fun X' Oe He is O'=>?_⟩) Ks)) (by rw[Kr])) fun _=>GA (AQ G2 hr xf (AD (ev 1) AB) ⟨ps,rfl,hl,pw,rfl⟩)) rfl) q))
   obtain⟨cl,s',H',fp,rfl⟩:=is
   exact⟨Cc 0 1 rfl ao (by decide) (by decide),ET.cast (QH (ev 0) (ev 1)) (by rw[decide_eq_true (hP x hx).2.1])⟩
def bA:BX:=Er fun ts r=>∃(n:Int) (ps:List (Int×Int)),ts=[Bh n ps]∧WebR n ps∧n≤16∧r=.bl true
theorem bB{f:Addr}{fd:fF}(F:Fun K "web_good" "web_good" Xp f fd)(Tx:Txt mg)(G:FnT P w K mg base "is_whole" 3 ["thing","least","most"] DT)(G2:FnT P w K mg base "ties_good" 3 ["many","thing"] ay):FnOk P w K mg base (CXe P w) 4 f fd ["thing"] (BY K bA):=by
 refine AK F aq ?_ ?_
 ·rintro ts O Φ Ξ ⟨r,⟨n,ps,rfl,_⟩,_⟩
  rfl
 ·rintro cdv A outer s H E O Ξ hr xf _ Φ ⟨_,⟨n,ps,rfl,wr,n1,rfl⟩,q⟩
  have hl:=wr.wn.hl
  refine AE (Ab (k:=false) (EW.eb (Bm (x:=false) (y:=false) (Ay (DD (t:=Bh n ps) Tx.nIsi Tx.nTuple Dl DP (ev 0) rfl)) fun _=>Bd (IY (FL (ts:=[.int n,.tup (ps.map AL)]) Tx.nLen (ev 0)) AC))) (fun h=>by cases h) (fun _=>Ac ?_))
  exact AF (AJ (ET.we (ET.cast (Ec (x:=true) (y:=true) (ET.cast (AQ G hr xf (AD (Al (ev 0) AC) (AD AC (AD (BK Tx.iMost) AB))) ⟨_,1,16,rfl,rfl,rfl⟩) (by rw[Ri wr.n0 n1])) fun _=>GA (AQ G2 hr xf (AD (Al (ev 0) AC) (AD (Al (ev 0) AC) AB)) ⟨n,ps,rfl,by omega,wr.wn.hw,wr.hp,rfl⟩)) rfl) q))
end
end K35
namespace GrR
variable{R R':Int→Int→Prop}{L M r:List Int}{a b p u v x y:Int}{i j k d s:Nat}{nb nb':Int→List Int}{n:Int}{σ τ:Int→Int}
theorem Ue(h:Ch R L)(e:L.getLast?=some x)(hr:R x a):Ch R (L++[a]):=by
 obtain⟨M,rfl⟩:=iX.mp e
 exact Ce.mpr ⟨h,hr⟩
theorem Ug(h:Ch R (L++M)):Ch R L:=by
 have:=Tu (i:=L.length) h
 rwa[List.take_left] at this
theorem Rm(h:Ring R (L++M)):Ring R (M++L):=by
 match L,M,h with
 | [],M,h=>rw[jo];exact h
 |L,[],h=>rw[jo] at h;exact h
 |a::L,b::M,h=>
  obtain⟨y,hy⟩:∃y,(b::M).getLast?=some y:=⟨_,mR⟩
  obtain⟨x,hx⟩:∃x,(a::L).getLast?=some x:=⟨_,mR⟩
  have c:=Dq.mp h.ch
  have hya:R y a:=h.cl a y rfl (by rw[iP,hy];rfl)
  have hxb:R x b:=by
   obtain⟨N,e⟩:=iX.mp hx
   have:=c.1
   rw[e] at this
   exact(Ce.mp this).2
  refine⟨by have:=h.len;simp only[fE,fu] at this ⊢;omega,?_,?_,fun u z hu hz=>?_⟩
  ·have:=gu.mp h.nd
   rw[gu]
   exact⟨this.2.1,this.1,fun x hx y hy e=>this.2.2 y hy x hx e.symm⟩
  ·exact Dq.mpr ⟨Ue c.2 hy hya,Ug h.ch⟩
  ·have hu:b=u:=by simpa using hu
   rw[iP,hx] at hz
   have hz:x=z:=by simpa using hz
   rw[←hu,←hz]
   exact hxb
end GrR
namespace K35
open PySem L2 L2.TL PySem.Spec PyProof.Rows
variable{N:Nat}{ss:List Int}{q:Int×Int}{u v:Int}
structure Stp(N:Nat)(ss:List Int):Prop where
 pw:ss.Pairwise (· < ·)
 hs:∀s∈ss,1≤s∧s*2≤N
def dg(N:Nat)(ss:List Int)(q:Int×Int):Bool:=decide (q.2-q.1∈ss)||decide ((N:Int)- (q.2-q.1)∈ss)
def CJ(N:Nat)(ss:List Int):List (Int×Int):=(Om N).filter (dg N ss)
theorem Cg:q∈CJ N ss↔BD N q∧(q.2-q.1∈ss∨(N:Int)- (q.2-q.1)∈ss):=by
 unfold CJ dg
 rw[fO,Bool.or_eq_true,decide_eq_true_eq,decide_eq_true_eq]
 refine⟨fun h=> ⟨?_,h.2⟩,fun h=> ⟨Ko h.1,h.2⟩⟩
 have h:=h.1
 unfold Om at h
 obtain⟨a,ha,h⟩:=jv.mp h
 obtain⟨b,hb,rfl⟩:=fo.mp h
 have hb:=fO.mp hb
 have h1:=fW.mp ha
 have h2:=fW.mp hb.1
 have h3:=of_decide_eq_true hb.2
 unfold BD
 simp only
 omega
theorem Rn:(CJ N ss).Pairwise Ez:=kS _ Nf
theorem YQ:∀q∈CJ N ss,BD N q:=fun q h=> (Cg.mp h).1
theorem DG(n0:1≤N)(n1:N≤16):WebR (N:Int) (CJ N ss):=aj n0 n1 Rn YQ
theorem MW:Gr.Gz (N:Int) (CJ N ss):=YQ
theorem JO(h:Stp N ss):Gr.Adj (CJ N ss) u v↔(0≤u∧u<N)∧(0≤v∧v<N)∧∃s∈ss,v=u+s∨u=v+s∨u+N=v+s∨v+N=u+s:=by
 unfold Gr.Adj
 rw[Cg,Cg]
 unfold BD
 simp only
 constructor
 ·rintro(⟨h,e|e⟩| ⟨h,e|e⟩)
  ·exact⟨by omega,by omega,_,e,.inl (by omega)⟩
  ·exact⟨by omega,by omega,_,e,.inr (.inr (.inl (by omega)))⟩
  ·exact⟨by omega,by omega,_,e,.inr (.inl (by omega))⟩
  ·exact⟨by omega,by omega,_,e,.inr (.inr (.inr (by omega)))⟩
 ·rintro⟨hu,hv,s,hs,e⟩
  have b:=h.hs s hs
  rcases e with e|e|e|e
  ·exact .inl ⟨by omega,.inl (by rw[show v-u=s by omega];exact hs)⟩
  ·exact .inr ⟨by omega,.inl (by rw[show u-v=s by omega];exact hs)⟩
  ·exact .inl ⟨by omega,.inr (by rw[show(N:Int)- (v-u)=s by omega];exact hs)⟩
  ·exact .inr ⟨by omega,.inr (by rw[show(N:Int)- (u-v)=s by omega];exact hs)⟩
def FR(N:Nat)(ss:List Int):Int:=(ss.length:Int)*2- ((ss.filter fun s=>decide (s*2=(N:Int))).length:Int)
def YR(N:Nat)(u s:Int):Int:=if u+s<N then u+s else u+s-N
def Yt(N:Nat)(u s:Int):Int:=if s≤u then u-s else u-s+N
def bD(N:Nat)(ss:List Int)(u:Int):List Int:=ss.map (YR N u)++(ss.filter fun s=>!decide (s*2=(N:Int))).map (Yt N u)
theorem YS(h:Stp N ss)(u0:0≤u)(u1:u<N):v∈bD N ss u↔Gr.Adj (CJ N ss) u v:=by
 rw[JO h]
 unfold bD
 rw[fI,fo,fo]
 constructor
 ·rintro(⟨s,hs,rfl⟩| ⟨s,hs,rfl⟩)
  ·have b:=h.hs s hs
   unfold YR
   split
   ·exact⟨by omega,by omega,s,hs,.inl rfl⟩
   ·exact⟨by omega,by omega,s,hs,.inr (.inr (.inr (by omega)))⟩
  ·have hs:=(fO.mp hs).1
   have b:=h.hs s hs
   unfold Yt
   split
   ·exact⟨by omega,by omega,s,hs,.inr (.inl (by omega))⟩
   ·exact⟨by omega,by omega,s,hs,.inr (.inr (.inl (by omega)))⟩
 ·rintro⟨hu,hv,s,hs,e⟩
  have b:=h.hs s hs
  by_cases c:s*2=(N:Int)
  ·refine .inl ⟨s,hs,?_⟩
   unfold YR
   split<;>omega
  ·have hf:s∈ss.filter fun s=>!decide (s*2=(N:Int)):=fO.mpr ⟨hs,by rw[decide_eq_false c];rfl⟩
   rcases e with e|e|e|e
   ·refine .inl ⟨s,hs,?_⟩
    unfold YR
    split<;>omega
   ·refine .inr ⟨s,hf,?_⟩
    unfold Yt
    split<;>omega
   ·refine .inr ⟨s,hf,?_⟩
    unfold Yt
    split<;>omega
   ·refine .inl ⟨s,hs,?_⟩
    unfold YR
    split<;>omega
theorem bE(h:Stp N ss)(u0:0≤u)(u1:u<N):(bD N ss u).Nodup:=by
 unfold bD
 rw[gu]
 refine⟨?_,?_,?_⟩
 ·rw[gY,gP]
  refine h.pw.imp_of_mem fun{x y} hx hy l=>?_
  have:=h.hs x hx
  have:=h.hs y hy
  unfold YR
  split<;>split<;>omega
 ·rw[gY,gP]
  refine(h.pw.filter _).imp_of_mem fun{x y} hx hy l=>?_
  have:=h.hs x (fO.mp hx).1
  have:=h.hs y (fO.mp hy).1
  unfold Yt
  split<;>split<;>omega
 ·intro a ha b hb e
  obtain⟨x,hx,rfl⟩:=fo.mp ha
  obtain⟨y,hy,rfl⟩:=fo.mp hb
  have hy:=fO.mp hy
  have:=h.hs x hx
  have:=h.hs y hy.1
  have:¬y*2=(N:Int):=fun z=>by have:=hy.2;rw[decide_eq_true z] at this;cases this
  unfold YR Yt at e
  split at e<;>split at e<;>omega
theorem Ng{α:Type}{p:α→Bool}:∀{xs:List α},(xs.filter fun x=>!p x).length+(xs.filter p).length=xs.length
 | []=>rfl
 |x::xs=>by
  have ih:=Ng (p:=p) (xs:=xs)
  rw[kv,kv]
  cases p x<;>simp only[kM,mT,if_true,if_false,fu,fJ]<;>omega
theorem MX(h:Stp N ss)(n0:1≤N)(n1:N≤16)(u0:0≤u)(u1:u<N):((BU (CJ N ss) u).length:Int)=FR N ss:=by
 have wr:=DG (ss:=ss) n0 n1
 rw[GrR.CD (Nb wr.wn.hw wr.hp u) (bE h u0 u1) fun v=>by rw[Ek,YS h u0 u1]]
 unfold bD FR
 rw[fE,e8,e8]
 have:=Ng (p:=fun s=>decide (s*2=(N:Int))) (xs:=ss)
 omega
theorem Nh(h:Stp N ss)(n0:1≤N)(n1:N≤16):Rc (N:Int) (CJ N ss)=some (FR N ss):=(Rh (DG n0 n1)).mpr fun u u0 u1=>MX h n0 n1 u0 u1
theorem bF{xs ys:List Int}(h1:xs.Pairwise (· < ·))(h2:ys.Pairwise (· < ·))(h:∀v,v∈xs↔v∈ys):xs=ys:=by
 have n1:xs.Nodup:=gY.mpr (h1.imp fun h=>by omega)
 have n2:ys.Nodup:=gY.mpr (h2.imp fun h=>by omega)
 exact(lY ((List.perm_ext_iff_of_nodup n1 n2).mpr h) (h1.imp fun h=>by omega)).trans (lY (.refl _) (h2.imp fun h=>by omega)).symm
theorem Ro(h:Stp N ss)(n0:1≤N)(n1:N≤16):(BU (CJ N ss) 0).filter (fun v=>decide (v*2≤(N:Int)))=ss:=by
 have wr:=DG (ss:=ss) n0 n1
 refine bF ((Hn wr.wn.hw wr.hp 0).filter _) h.pw fun v=>?_
 rw[fO,Ek,JO h,decide_eq_true_eq]
 constructor
 ·rintro⟨⟨_,hv,s,hs,e⟩,l⟩
  have:=h.hs s hs
  have:v=s:=by omega
  rw[this]
  exact hs
 ·intro hv
  have:=h.hs v hv
  exact⟨⟨by omega,by omega,v,hv,by omega⟩,by omega⟩
def FD(N:Nat):List Int:=(fY N).map fun(p:Nat)=> ((p:Int)+1)%(N:Int)
theorem Rp(n0:1≤N)(n1:N≤16):(FD N).Perm (rg (N:Int)):=by
 have key:∀m,m<17→1≤m→(FD m).isPerm (rg (m:Int))=true:=by decide+kernel
 exact List.isPerm_iff.mp (key N (by omega) n0)
theorem Em(h0:0≤u)(h1:u<N):KU (FD N) u=if u+1<N then u+1 else 0:=by
 obtain⟨i,rfl⟩:=fX h0
 unfold KU FD
 rw[gJ,gN,fc,ki (by omega)]
 show((i:Int)+1)%(N:Int)=_
 split
 ·exact nh (by omega) (by omega)
 ·rw[show((i:Int)+1)=(N:Int) by omega]
  exact Int.emod_self
theorem YT(h:Stp N ss)(n2:2≤N){qs:List (Int×Int)}(q1:qs.Pairwise Ez)(q2:∀q,q∈qs↔q∈(CJ N ss).map (nm (FD N))):qs=CJ N ss:=by
 refine JN q1 Rn fun q=>?_
 rw[q2,fo]
 constructor
 ·rintro⟨p,hp,rfl⟩
  have hp:=Cg.mp hp
  have P:=hp.1
  unfold BD at P
  unfold nm
  rw[Em (by omega) (by omega),Em (by omega) (by omega),if_pos (by omega),Cg]
  unfold BD
  simp only
  split
  ·rw[lC (by omega),l7 (by omega)]
   refine⟨by omega,?_⟩
   rw[show p.2+1- (p.1+1)=p.2-p.1 by omega]
   exact hp.2
  ·rw[k4 (by omega),mq (by omega)]
   refine⟨by omega,?_⟩
   rw[show p.1+1-0=(N:Int)- (p.2-p.1) by omega,show(N:Int)- ((N:Int)- (p.2-p.1))=p.2-p.1 by omega]
   exact hp.2.symm
 ·intro hq
  have hq:=Cg.mp hq
  have P:=hq.1
  unfold BD at P
  by_cases c:q.1=0
  ·refine⟨(q.2-1,(N:Int)-1),Cg.mpr ⟨?_,?_⟩,?_⟩
   ·unfold BD
    simp only
    omega
   ·simp only
    rw[show(N:Int)-1- (q.2-1)=N- (q.2-q.1) by omega,show(N:Int)- ((N:Int)- (q.2-q.1))=q.2-q.1 by omega]
    exact hq.2.symm
   ·unfold nm
    rw[Em (by simp only;omega) (by simp only;omega),Em (by simp only;omega) (by simp only;omega)]
    simp only
    rw[if_pos (by omega),if_neg (by omega),k4 (by omega),mq (by omega)]
    exact iu c.symm (by simp only;omega)
  ·refine⟨(q.1-1,q.2-1),Cg.mpr ⟨?_,?_⟩,?_⟩
   ·unfold BD
    simp only
    omega
   ·simp only
    rw[show q.2-1- (q.1-1)=q.2-q.1 by omega]
    exact hq.2
   ·unfold nm
    rw[Em (by simp only;omega) (by simp only;omega),Em (by simp only;omega) (by simp only;omega)]
    simp only
    rw[if_pos (by omega),if_pos (by omega),lC (by omega),l7 (by omega)]
    exact iu (by simp only;omega) (by simp only;omega)
theorem JP:∀{l m:List Int},l.Nodup→(∀v∈l,v∈m)→l.length≤m.length
 | [],_,_,_=>gT _
 |x::l,m,nd,h=>by
  have nd:=fH.mp nd
  have hx:=h x (by simp)
  have:=JP (m:=m.erase x) nd.2 fun v hv=> (List.mem_erase_of_ne (fun e:v=x=>nd.1 (e▸hv))).mpr (h v (by simp[hv]))
  rw[lx hx] at this
  have:=kG hx
  rw[fu]
  omega
theorem On(h:Stp N ss)(h2:1<ss.length):∃r,GrR.Ring (Gr.Adj (CJ N ss)) r∧r.length=4:=by
 match ss,h,h2 with
 | [],_,h2=>simp at h2
 | [_],_,h2=>simp at h2
 |a::b::L,h,_=>
  have ha:=h.hs a (by simp)
  have hb:=h.hs b (by simp)
  have ab:a<b:=(jQ.mp h.pw).1 b (by simp)
  have A:∀{u v:Int},0≤u→u<N→0≤v→v<N→(v=u+a∨u=v+a∨v=u+b∨u=v+b)→Gr.Adj (CJ N (a::b::L)) u v:=fun h1 h2 h3 h4 e=> (JO h).mpr ⟨⟨h1,h2⟩,⟨h3,h4⟩,by
   rcases e with e|e|e|e
   ·exact⟨a,by simp,.inl e⟩
   ·exact⟨a,by simp,.inr (.inl e)⟩
   ·exact⟨b,by simp,.inl e⟩
   ·exact⟨b,by simp,.inr (.inl e)⟩⟩
  refine⟨[0,a,a+b,b],⟨by simp,?_,⟨A (by omega) (by omega) (by omega) (by omega) (by omega),A (by omega) (by omega) (by omega) (by omega) (by omega),A (by omega) (by omega) (by omega) (by omega) (by omega),trivial⟩,fun x z hx hz=>?_⟩,rfl⟩
  ·simp only[fH,fh,gC,or_false,not_or,not_false_eq_true,List.nodup_nil,and_true]
   omega
  ·have hx:some (0:Int)=some x:=hx
   have hz:some b=some z:=hz
   have hx:=gh.inj hx
   have hz:=gh.inj hz
   subst hx
   subst hz
   exact A (by omega) (by omega) (by omega) (by omega) (by omega)
theorem Rr(n3:3≤N){r:List Int}(h:GrR.Ring (Gr.Adj (CJ N [1])) r):N≤r.length:=by
 have st:Stp N [1]:=⟨by simp,fun s hs=>by rw[b9.mp hs];omega⟩
 have sy:=JG (ps:=CJ N [1])
 have ad:∀{u v},Gr.Adj (CJ N [1]) u v→(0≤u∧u<N)∧(0≤v∧v<N)∧(v=u+1∨u=v+1∨u+N=v+1∨v+N=u+1):=fun{u v} z=>by
  obtain⟨h1,h2,s,hs,e⟩:=(JO st).mp z
  rw[b9.mp hs] at e
  exact⟨h1,h2,e⟩
 have nx:∀x∈r,(if x+1<N then x+1 else 0)∈r:=fun x hx=>by
  obtain⟨L,M,rfl⟩:=List.append_of_mem hx
  have h':=GrR.Rm h
  have hm:∀v,v∈(x::M)++L→v∈L++x::M:=fun v hv=>by simp only[fI] at hv ⊢;exact hv.symm
  match hh:M++L,h' with
  | [],h'=>
   have:=h'.len
   rw[gj,hh] at this
   simp at this
  | [_],h'=>
   have:=h'.len
   rw[gj,hh] at this
   simp at this
  |y::z::K,h'=>
   rw[gj,hh] at h'
   have hne:(z::K)≠[]:=by simp
   have hl:(x::y::z::K).getLast?=some (GrR.lst (z::K)):=by
    rw[gG,gG];exact GrR.GN hne
   have hlm:=je (GrR.GN hne)
   have a1:=ad h'.ch.1
   have a2:=ad (h'.cl x _ rfl hl)
   have ne:y≠GrR.lst (z::K):=fun w=>by
    have nd:=h'.nd
    rw[fH,fH] at nd
    exact nd.2.1 (w▸hlm)
   have e:(if x+1<N then x+1 else 0)=y∨(if x+1<N then x+1 else 0)=GrR.lst (z::K):=by split<;>omega
   refine hm _ ?_
   rw[gj,hh]
   rcases e with e|e
   ·rw[e];simp
   ·rw[e];exact fv _ (fv _ hlm)
 have h0:(0:Int)∈r:=by
  have key:∀(k:Nat) (x:Int),x∈r→x+k+1=N→(0:Int)∈r:=fun k=>by
   induction k with
   |zero=>intro x hx e;have:=nx x hx;rwa[if_neg (by omega)] at this
   |succ k ih=>intro x hx e;have:=nx x hx;rw[if_pos (by omega)] at this;exact ih _ this (by omega)
  match r,h with
  |x::r,h=>
   have:=GrR.Il (Kh (MW (ss:=[1]) (N:=N))) h x (by simp)
   exact key (N-1-x).toNat x (by simp) (by omega)
  | [],h=>exact absurd h.len (by decide)
 have al:∀i:Nat,i<N→(i:Int)∈r:=fun i=>by
  induction i with
  |zero=>exact fun _=>h0
  |succ i ih=>
   intro hi
   have:=nx _ (ih (by omega))
   rw[if_pos (by omega)] at this
   exact this
 have:=JP (l:=(fY N).map fun(i:Nat)=> (i:Int)) (m:=r) (gY.mpr (by
  rw[gP]
  exact jm.imp fun h=>by omega)) fun v hv=>by
   obtain⟨i,hi,rfl⟩:=fo.mp hv
   exact al i (fW.mp hi)
 rwa[e8,ig] at this
theorem bG(h:Stp N ss)(n0:1≤N)(n1:N≤16)(hd:1<FR N ss):∃k:Nat,Gf (CJ N ss)=some (k:Int)∧Fit (N:Int) (CJ N ss) (FR N ss) k:=by
 have wr:=DG (ss:=ss) n0 n1
 have hb:=Kh wr.wn.hw
 have h0:(0:Int)≤0∧(0:Int)<N:=⟨by omega,by omega⟩
 obtain⟨M,rm⟩:=GrR.Qp (d:=(FR N ss-1).toNat) (p:=0) JG (MU wr.wn.hw) Ek (Nb wr.wn.hw wr.hp) hb (fun u u0 u1=>by have:=MX h n0 n1 u0 u1;omega) (by omega) h0 (GrR.MB hb fun z hz=>by rw[b9.mp hz];exact h0)
 obtain⟨m,hm,_⟩:=JH wr.wn.hw rm
 obtain⟨k,rfl,_⟩:=JI wr.wn.hw hm
 exact⟨k,hm,YK wr (Nh h n0 n1) hm⟩
theorem YU(h:Stp N ss)(h2:1<ss.length):∃m,Gf (CJ N ss)=some m∧m≤4:=by
 obtain⟨r,hr,hl⟩:=On h h2
 obtain⟨m,hm,l⟩:=JH MW hr
 exact⟨m,hm,by omega⟩
theorem YV(n3:3≤N):Stp N [1]:=⟨by simp,fun s hs=>by rw[b9.mp hs];omega⟩
theorem YW(n3:3≤N):FR N [1]=2:=by
 unfold FR
 rw[kv,if_neg (by rw[decide_eq_true_eq];omega)]
 rfl
theorem YX(n3:3≤N)(n1:N≤16):Gf (CJ N [1])=some (N:Int):=by
 obtain⟨k,hk,F⟩:=bG (YV n3) (by omega) n1 (by rw[YW n3];decide)
 obtain⟨k',e,_,_,_,r,hr,hl⟩:=JI MW hk
 have:=Rr n3 hr
 have:=F.kn
 rw[hk]
 congr 1
 omega
def CK:Nat→List (List Int)
 |0=> [[]]
 |k+1=>CK k++(CK k).map fun r=>r++[((k+1:Nat):Int)]
def Up(k:Nat)(ss:List Int):Prop:=ss.Pairwise (· < ·)∧∀s∈ss,1≤s∧s≤k
theorem Bg:∀{k:Nat} {ss:List Int},ss∈CK k↔Up k ss
 |0,ss=>by
  show ss∈[[]]↔_
  rw[b9]
  constructor
  ·rintro rfl
   exact⟨.nil,fun _ h=>by cases h⟩
  ·intro h
   cases ss with
   |nil=>rfl
   |cons s l=>have:=h.2 s (by simp);omega
 |k+1,ss=>by
  show ss∈CK k++(CK k).map (fun r=>r++[((k+1:Nat):Int)])↔_
  rw[fI,Bg,fo]
  constructor
  ·rintro(h| ⟨r,hr,rfl⟩)
   ·exact⟨h.1,fun s hs=>by have:=h.2 s hs;omega⟩
   ·have hr:=Bg.mp hr
    refine⟨jy.mpr ⟨hr.1,by simp,fun a ha b hb=>?_⟩,fun s hs=>?_⟩
    ·rw[b9.mp hb]
     have:=hr.2 a ha
     omega
    ·rcases fI.mp hs with hs|hs
     ·have:=hr.2 s hs
      omega
     ·rw[b9.mp hs]
      omega
  ·intro h
   rcases List.eq_nil_or_concat ss with rfl| ⟨l,x,rfl⟩
   ·exact .inl ⟨.nil,fun _ h=>by cases h⟩
   ·rw[List.concat_eq_append] at h ⊢
    have pw:=jy.mp h.1
    have hx:=h.2 x (by simp)
    by_cases c:x=((k+1:Nat):Int)
    ·refine .inr ⟨l,Bg.mpr ⟨pw.1,fun s hs=>?_⟩,by rw[c]⟩
     have:=h.2 s (by simp[hs])
     have:=pw.2.2 s hs x (by simp)
     omega
    ·refine .inl ⟨h.1,fun s hs=>?_⟩
     have:=h.2 s hs
     rcases fI.mp hs with hs'|hs'
     ·have:=pw.2.2 s hs' x (by simp)
      omega
     ·rw[b9.mp hs'] at this ⊢
      omega
theorem Rt:Up (N/2) ss↔Stp N ss:=⟨fun h=> ⟨h.1,fun s hs=>by have:=h.2 s hs;omega⟩,fun h=> ⟨h.pw,fun s hs=>by have:=h.hs s hs;omega⟩⟩
theorem Kt:∀k,(CK k).length=2^k
 |0=>rfl
 |k+1=>by
  show(CK k++(CK k).map (fun r=>r++[((k+1:Nat):Int)])).length=_
  rw[fE,e8,Kt k,nQ]
  omega
theorem Gj{k:Nat}(h:k≤8):(CK k).length≤256:=by
 rw[Kt]
 exact Nat.pow_le_pow_right (by decide) h
theorem Hr:∀k,(CK k).head?=some []
 |0=>rfl
 |k+1=>by
  show(CK k++_).head?=_
  rw[List.head?_append,Hr k]
  rfl
theorem MY{k:Nat}(h:Up k ss):ss.length≤k:=by
 have:=JP (l:=ss) (m:=(fY k).map fun(i:Nat)=> ((i+1:Nat):Int)) (gY.mpr (h.1.imp fun h=>by omega)) fun v hv=>by
  have:=h.2 v hv
  exact fo.mpr ⟨(v-1).toNat,fW.mpr (by omega),by omega⟩
 rwa[e8,ig] at this
theorem YY{k:Nat}(k8:k≤8)(h:Up k ss):SrtG.Ip 8 ss:=⟨gL (MY h) k8,fun z hz=>by have:=h.2 z hz;omega⟩
theorem JQ(n1:N≤16)(h:Stp N ss):ss.length≤8:=gL (MY (Rt.mpr h)) (by omega)
def Uh(N:Nat)(ss:List Int):List (Int×Int):=ss.flatMap fun s=> (fY N).map fun(p:Nat)=> ((p:Int),((p:Int)+s)%(N:Int))
def bq(p:Int×Int):Int×Int:=(min p.1 p.2,max p.1 p.2)
theorem Ui:(Uh N ss).length=N*ss.length:=by
 unfold Uh
 induction ss with
 |nil=>simp
 |cons s l ih=>
  rw[m8,fE,ih,e8,ig,fu,Nat.mul_succ]
  omega
theorem Ni{s:Int}{p:Nat}(hp:p<N)(h1:1≤s)(h2:s*2≤N):((p:Int)+s)%(N:Int)=if(p:Int)+s<N then(p:Int)+s else(p:Int)+s-N:=by
 split
 ·exact nh (by omega) (by omega)
 ·rw[←Int.sub_emod_right,nh (by omega) (by omega)]
theorem YZ(h:Stp N ss):∀q∈Uh N ss,(0≤q.1∧q.1<N)∧0≤q.2∧q.2<N:=fun q hq=>by
 obtain⟨s,hs,hq⟩:=jv.mp hq
 obtain⟨p,hp,rfl⟩:=fo.mp hq
 have:=fW.mp hp
 have:=h.hs s hs
 simp only
 rw[Ni (by omega) (by omega) (by omega)]
 split<;>omega
theorem Yb(h:Stp N ss){qs:List (Int×Int)}(q1:qs.Pairwise Ez)(q2:∀q,q∈qs↔q∈(Uh N ss).map bq):qs=CJ N ss:=by
 refine JN q1 Rn fun q=>?_
 rw[q2,fo,Cg]
 unfold BD
 constructor
 ·rintro⟨x,hx,rfl⟩
  obtain⟨s,hs,hq⟩:=jv.mp hx
  obtain⟨p,hp,rfl⟩:=fo.mp hq
  have:=fW.mp hp
  have:=h.hs s hs
  unfold bq
  simp only
  rw[Ni (by omega) (by omega) (by omega)]
  split
  ·rw[lC (by omega),l7 (by omega)]
   exact⟨by omega,.inl (by rw[show(p:Int)+s-p=s by omega];exact hs)⟩
  ·rw[k4 (by omega),mq (by omega)]
   exact⟨by omega,.inr (by rw[show(N:Int)- ((p:Int)- ((p:Int)+s-N))=s by omega];exact hs)⟩
 ·rintro⟨P,e⟩
  rcases e with e|e
  ·have:=h.hs _ e
   refine⟨(q.1,q.2),jv.mpr ⟨_,e,fo.mpr ⟨q.1.toNat,fW.mpr (by omega),?_⟩⟩,?_⟩
   ·rw[Ni (by omega) (by omega) (by omega),if_pos (by omega)]
    exact iu (by simp only;omega) (by simp only;omega)
   ·unfold bq
    exact iu (by simp only;omega) (by simp only;omega)
  ·have:=h.hs _ e
   refine⟨(q.2,q.1),jv.mpr ⟨_,e,fo.mpr ⟨q.2.toNat,fW.mpr (by omega),?_⟩⟩,?_⟩
   ·rw[Ni (by omega) (by omega) (by omega),if_neg (by omega)]
    exact iu (by simp only;omega) (by simp only;omega)
   ·unfold bq
    exact iu (by simp only;omega) (by simp only;omega)
section
variable{P:Program}{w:World}{K:a8}{mg:Str→Option Value}{base:Heap}{CN:Addr}
theorem Oo(xs ys:List Int):Ig (xs.map T.int) (ys.map T.int)=(xs.zip ys).map fun z=> .tup [.int z.1,.int z.2]:=by
 unfold Ig
 rw[List.zipWith_map,List.zip,List.map_zipWith]
theorem Ku:∀{xs:List Int},xs.Pairwise (· < ·)→∀z∈xs.zip (xs.drop 1),z.1<z.2
 | [],_,z,hz=>by cases hz
 | [_],_,z,hz=>by cases hz
 |p::q::L,h,z,hz=>by
  have h':=jQ.mp h
  rcases fh.mp (show z∈(p,q)::((q::L).zip L) from hz) with rfl|hz
  ·exact h'.1 q (by simp)
  ·exact Ku h'.2 z hz
def bH:BX:=Er fun ts r=>∃ss:List Int,ts=[.tup (ss.map T.int)]∧ss.length≤1000∧ss.Pairwise (· < ·)∧r=.bl true
theorem bI{f:Addr}{fd:fF}(F:Fun K "is_rising" "is_rising" Cf f fd)(Tx:Txt mg):FnOk P w K mg base (CXe P w) 1 f fd ["row"] (BY K bH):=by
 refine AK F Kq ?_ ?_
 ·rintro ts O Φ Ξ ⟨r,⟨t,rfl,_⟩,_⟩
  rfl
 ·rintro cdv A outer s H E O Ξ hr xf _ Φ ⟨_,⟨ps,rfl,hl,pw,rfl⟩,q⟩
  have sb:=AR
  refine AF (AJ (ET.we (ET.cast (Dm Tx.nAll rfl (ET.cast (BH ["one","other"] [] (ps.zip (ps.drop 1)) (fun z=> .tup [.int z.1,.int z.2]) (fun _=> .bl true) rfl (Be (AA Cf) ["row"] (by decide+kernel)) ?_ (by simp;omega) fun x hx=> ⟨[some (.int x.1),some (.int x.2)],fun X' Oe He is O'=>?_⟩) Ks)) (by rw[Kr])) q))
  ·rw[←Oo,oR,←ak]
   exact QV Tx.nZip (ev 0) (QT (ev 0) AC)
  ·obtain⟨cl,s',H',fp,rfl⟩:=is
   exact⟨Cc 0 1 rfl Vk (by decide) (by decide),ET.cast (QH (ev 0) (ev 1)) (by rw[decide_eq_true (Ku pw x hx)])⟩
def MZ:BX:=Er fun ts r=>∃N:Nat,ts=[.int (N:Int)]∧3≤N∧N≤16∧r=.non
theorem Yc:FnScope ["many"] ["many"] (AA Qy):=⟨rfl,rfl,rfl,by decide+kernel,rfl,by decide+kernel,by decide+kernel⟩
theorem Uj{f:Addr}{fd:fF}(F:Fun K "need_many" "need_many" Qy f fd)(Tx:Txt mg)(G:FnT P w K mg base "need_number" 2 ["thing","least","most"] (NW CN)):FnOk P w K mg base (CXe P w) 3 f fd ["many"] (BY K MZ):=by
 refine AK F Yc ?_ ?_
 ·rintro ts O Φ Ξ ⟨r,⟨N,rfl,_⟩,_⟩
  rfl
 ·rintro cdv A outer s H E O Ξ hr xf _ Φ ⟨_,⟨N,rfl,n0,n1,rfl⟩,q⟩
  exact AF (Ad (AW G hr xf (EA.wa (AD (ev 0) (AD (BK Tx.iLP) (AD (BK Tx.iMost) AB))) ⟨_,3,16,rfl,rfl,fun _=>q,fun h=>by rw[Dc (by omega) (by omega)] at h;cases h⟩)))
def Kv:BX:=Er fun ts r=>∃(N:Nat) (ss:List Int),ts=[.int (N:Int),.tup (ss.map T.int)]∧3≤N∧N≤16∧Stp N ss∧r=.bl true
theorem bJ:FnScope ["many","thing"] ["many","thing"] (AA UI):=⟨rfl,rfl,rfl,by decide+kernel,rfl,by decide+kernel,by decide+kernel⟩
theorem Vl:(Ae ["step"] [(("many" :Str),0)]).Nodup:=by decide+kernel
theorem Yd{f:Addr}{fd:fF}(F:Fun K "are_steps" "are_steps" UI f fd)(Tx:Txt mg)(G:FnT P w K mg base "is_whole" 1 ["thing","least","most"] DT)(G2:FnT P w K mg base "is_rising" 1 ["row"] bH):FnOk P w K mg base (CXe P w) 2 f fd ["many","thing"] (BY K Kv):=by
 refine AK F bJ ?_ ?_
 ·rintro ts O Φ Ξ ⟨r,⟨N,ss,rfl,_⟩,_⟩
  rfl
 ·rintro cdv A outer s H E O Ξ hr xf _ Φ ⟨_,⟨N,ss,rfl,n0,n1,st,rfl⟩,q⟩
  have sb:=AR
  have sl:=JQ n1 st
  refine AE (Ab (k:=false) (EW.eb (EW.cast (Bm (x:=false) (y:=false) (Ay (DD (t:=.tup (ss.map T.int)) Tx.nIsi Tx.nTuple Dl DP (ev 1) rfl)) fun _=>Bd (EB.cast (Ay (k:=true) (EB.cast (Da (Dm Tx.nAll rfl (ET.cast (BH ["step"] [("many",0)] ss T.int (fun _=> .bl true) rfl (Be (AA UI) ["many","thing"] (by decide+kernel)) (Bv (ev 1)) (by omega) fun x hx=> ⟨[some (.int x),some (.int (N:Int))],fun X' Oe He is O'=>?_⟩) Ks))) Kr)) rfl)) rfl)) (fun h=>by cases h) (fun _=>Ac ?_))
  ·obtain⟨cl,s',H',fp,rfl⟩:=is
   have:=st.hs x hx
   exact⟨AX 0 Vl (by decide),ET.cast (AQ G hr BW (AD (ev 0) (AD AC (AD (DN (ev 1) AC ⟨by decide,by decide⟩) AB))) ⟨_,1,_,rfl,rfl,rfl⟩) (by rw[Dc (by omega) (by omega)])⟩
  ·exact AF (AJ (ET.we (AQ G2 hr xf (AD (ev 1) AB) ⟨ss,rfl,by omega,st.pw,rfl⟩) q))
theorem Uk:FnScope ["many","thing"] ["many","thing"] (AA MG):=⟨rfl,rfl,rfl,by decide+kernel,rfl,by decide+kernel,by decide+kernel⟩
theorem Ru{f:Addr}{fd:fF}(F:Fun K "steps_good" "steps_good" MG f fd)(Gm:FnT P w K mg base "need_many" 3 ["many"] MZ)(G:FnT P w K mg base "are_steps" 2 ["many","thing"] Kv):FnOk P w K mg base (CXe P w) 4 f fd ["many","thing"] (BY K Kv):=by
 refine AK F Uk ?_ ?_
 ·rintro ts O Φ Ξ ⟨r,⟨N,ss,rfl,_⟩,_⟩
  rfl
 ·rintro cdv A outer s H E O Ξ hr xf _ Φ ⟨_,⟨N,ss,rfl,n0,n1,st,rfl⟩,q⟩
  exact AE (Ad (ET.we (AQ Gm hr xf (AD (ev 0) AB) ⟨N,rfl,n0,n1,rfl⟩) (AF (AJ (ET.we (AQ G (hr.mono (by decide)) xf (AD (ev 0) (AD (ev 1) AB)) ⟨N,ss,rfl,n0,n1,st,rfl⟩) q)))))
def FS:BX:=Er fun ts r=>∃(N:Nat) (ss:List Int),ts=[.int (N:Int),.tup (ss.map T.int)]∧3≤N∧N≤16∧Stp N ss∧r=.non
theorem Ul:FnScope ["many","steps"] ["many","steps"] (AA MH):=⟨rfl,rfl,rfl,by decide+kernel,rfl,by decide+kernel,by decide+kernel⟩
theorem Rv{f:Addr}{fd:fF}(F:Fun K "need_steps" "need_steps" MH f fd)(G:FnT P w K mg base "steps_good" 4 ["many","thing"] Kv):FnOk P w K mg base (CXe P w) 5 f fd ["many","steps"] (BY K FS):=by
 refine AK F Ul ?_ ?_
 ·rintro ts O Φ Ξ ⟨r,⟨N,ss,rfl,_⟩,_⟩
  rfl
 ·rintro cdv A outer s H E O Ξ hr xf _ Φ ⟨_,⟨N,ss,rfl,n0,n1,st,rfl⟩,q⟩
  exact AF (Ab (k:=false) (EB.cast (Ay (k:=true) (Da (AQ G hr xf (AD (ev 0) (AD (ev 1) AB)) ⟨N,ss,rfl,n0,n1,st,rfl⟩))) rfl) (fun h=>by cases h) fun _=>Ac q)
def Ma:BX:=Er fun ts r=>∃(N:Nat) (ss:List Int),ts=[.int (N:Int),.tup (ss.map T.int)]∧3≤N∧N≤16∧Stp N ss∧r=Bh (N:Int) (CJ N ss)
def dh:List Str:=["many","steps","pairs","step"]
theorem Ye:FnScope dh ["many","steps"] (AA bh):=⟨rfl,rfl,rfl,by decide+kernel,rfl,by decide+kernel,by decide+kernel⟩
theorem bK:(Ae ["place"] [(("step" :Str),3),(("many" :Str),0)]).Nodup:=by decide+kernel
theorem bL{f:Addr}{fd:fF}(F:Fun K "web_turned" "web_turned" bh f fd)(Tx:Txt mg)(G:FnT P w K mg base "ties_of" 2 ["pairs"] GX):FnOk P w K mg base (CXe P w) 3 f fd ["many","steps"] (BY K Ma):=by
 refine AK F Ye ?_ ?_
 ·rintro ts O Φ Ξ ⟨r,⟨N,ss,rfl,_⟩,_⟩
  rfl
 ·rintro cdv A outer s H E O Ξ hr xf _ Φ ⟨_,⟨N,ss,rfl,n0,n1,st,rfl⟩,q⟩
  have sb:=AR
  have sl:=JQ n1 st
  have pl:∀i,(Uh N (ss.take i)).length≤16*8:=fun i=>by
   rw[Ui]
   rw[gD]
   exact Nat.mul_le_mul n1 (by omega)
  refine AE (Aa 2 (FI (BR ⟨gT _,fun l hl=>?_⟩)) Ye.nd)
  refine AE (Cd As.own rfl (EI.wi (Bv (ev 1)) ⟨fun i ρ' O'=>∃v3:Option T,ρ'=[some (.int (N:Int)),some (.tup (ss.map T.int)),some (.raw (.ref l)),v3]∧O'=Aj O l ((Uh N (ss.take i)).map AL),⟨none,rfl,rfl⟩,?_,?_⟩))
  ·rintro i t _ _ e ⟨v3,rfl,rfl⟩
   rw[fc] at e
   cases es:ss[i]? with
   |none=>rw[es] at e;cases e
   |some x=>
    rw[es] at e
    cases e
    have pi:=pl i
    refine⟨[some (.int (N:Int)),some (.tup (ss.map T.int)),some (.raw (.ref l)),some (.int x)],AX 3 Ye.nd (by show 3<4;decide),?_⟩
    refine AF (Ad (OZ (ET.we (ev 2) ⟨l,rfl,⟨_,AI⟩,ET.we (t:=.lst (((fY N).map fun(p:Nat)=> ((p:Int),((p:Int)+x)%(N:Int))).map AL)) (ET.cast (BH ["place"] [("step",3),("many",0)] (fY N) (fun(j:Nat)=>T.int (j:Int)) (fun(p:Nat)=>AL ((p:Int),((p:Int)+x)%(N:Int))) rfl (Be (AA bh) dh (by decide+kernel)) (EI.cast (DO Tx.nRange (ev 0) ⟨by omega,by omega⟩) (by unfold GF;simp)) (by rw[ig];omega) fun y hy=> ⟨[some (.int (y:Int)),some (.int x),some (.int (N:Int))],fun X' Oe He is O'=>?_⟩) (by rw[gZ];rfl)) ⟨_,_,rfl,AI,by simp only[e8,ig];omega,_,rfl,?_⟩⟩)))
    ·obtain⟨cl,s',H',fp,rfl⟩:=is
     exact⟨AX 0 bK (by decide),Tg (ev 0) (Cb (BE (ev 0) (ev 1)) (ev 2) (by omega))⟩
    ·rw[Bl,←iy,i6,es]
     unfold Uh
     rw[List.flatMap_append]
     congr 3
     simp
  ·rintro _ _ ⟨v3,rfl,rfl⟩
   have pi:=pl (ss.map T.int).length
   rw[e8,iS] at pi ⊢
   refine DA (p:=l) (n:=2) (ts:=(Uh N ss).map AL) AI hl rfl ?_
   rw[BG hl]
   refine AF (AJ (Lm (Lr (ET.we (ev 0) (Lr (AW G (hr.mono (by decide)) xf (EA.wa (AD (ev 2) AB) ⟨Uh N ss,rfl,by omega,fun p hp=>by have:=YZ st p hp;omega,fun qs q1 q2 _=>BR ⟨by show 2≤sizeLine;decide,?_⟩⟩)))))))
   have:=Yb st q1 q2
   subst this
   exact q
def Rx:BX:=Er fun ts r=>∃(N:Nat) (ss:List Int),ts=[.int (N:Int),.tup (ss.map T.int)]∧3≤N∧N≤16∧Stp N ss∧r=.int (FR N ss)
theorem dG:FnScope ["many","steps"] ["many","steps"] (AA bj):=⟨rfl,rfl,rfl,by decide+kernel,rfl,by decide+kernel,by decide+kernel⟩
theorem bM{f:Addr}{fd:fF}(F:Fun K "ties_turned" "ties_turned" bj f fd)(Tx:Txt mg):FnOk P w K mg base (CXe P w) 1 f fd ["many","steps"] (BY K Rx):=by
 refine AK F dG ?_ ?_
 ·rintro ts O Φ Ξ ⟨r,⟨N,ss,rfl,_⟩,_⟩
  rfl
 ·rintro cdv A outer s H E O Ξ hr xf _ Φ ⟨_,⟨N,ss,rfl,n0,n1,st,rfl⟩,q⟩
  have sb:=AR
  have sl:=JQ n1 st
  refine AF (AJ (ET.we (ET.cast (Fy (Cy (FL Tx.nLen (ev 1)) AC (.inr ⟨by decide,by decide⟩)) (NB Tx.nLen (GK ["step"] [("many",0)] ss T.int T.int (fun s=>decide (s*2=(N:Int))) rfl (Be (AA bj) ["many","steps"] (by decide+kernel)) (Bv (ev 1)) (by omega) fun x hx=> ⟨[some (.int x),some (.int (N:Int))],fun X' Oe He is O'=>?_⟩))) ?_) q))
  ·obtain⟨cl,s',H',fp,rfl⟩:=is
   exact⟨AX 0 Vl (by decide),Eb (Cy (ev 0) AC (.inr ⟨by decide,by decide⟩)) (ev 1),fun _=>ev 0⟩
  ·rw[e8,e8]
   rfl
theorem Um:FnScope ["many","steps"] ["many","steps"] (AA MI):=⟨rfl,rfl,rfl,by decide+kernel,rfl,by decide+kernel,by decide+kernel⟩
theorem Ry{f:Addr}{fd:fF}(F:Fun K "turned_web" "turned_web" MI f fd)(Gn:FnT P w K mg base "need_steps" 5 ["many","steps"] FS)(G:FnT P w K mg base "web_turned" 3 ["many","steps"] Ma):FnOk P w K mg base (CXe P w) 6 f fd ["many","steps"] (BY K Ma):=by
 refine AK F Um ?_ ?_
 ·rintro ts O Φ Ξ ⟨r,⟨N,ss,rfl,_⟩,_⟩
  rfl
 ·rintro cdv A outer s H E O Ξ hr xf _ Φ ⟨_,⟨N,ss,rfl,n0,n1,st,rfl⟩,q⟩
  exact AE (Ad (ET.we (AQ Gn hr xf (AD (ev 0) (AD (ev 1) AB)) ⟨N,ss,rfl,n0,n1,st,rfl⟩) (AF (AJ (ET.we (AQ G (hr.mono (by decide)) xf (AD (ev 0) (AD (ev 1) AB)) ⟨N,ss,rfl,n0,n1,st,rfl⟩) q)))))
theorem Uo:FnScope ["many","steps"] ["many","steps"] (AA MJ):=⟨rfl,rfl,rfl,by decide+kernel,rfl,by decide+kernel,by decide+kernel⟩
theorem Rz{f:Addr}{fd:fF}(F:Fun K "turned_ties" "turned_ties" MJ f fd)(Gn:FnT P w K mg base "need_steps" 5 ["many","steps"] FS)(G:FnT P w K mg base "ties_turned" 1 ["many","steps"] Rx):FnOk P w K mg base (CXe P w) 6 f fd ["many","steps"] (BY K Rx):=by
 refine AK F Uo ?_ ?_
 ·rintro ts O Φ Ξ ⟨r,⟨N,ss,rfl,_⟩,_⟩
  rfl
 ·rintro cdv A outer s H E O Ξ hr xf _ Φ ⟨_,⟨N,ss,rfl,n0,n1,st,rfl⟩,q⟩
  exact AE (Ad (ET.we (AQ Gn hr xf (AD (ev 0) (AD (ev 1) AB)) ⟨N,ss,rfl,n0,n1,st,rfl⟩) (AF (AJ (ET.we (AQ G (hr.mono (by decide)) xf (AD (ev 0) (AD (ev 1) AB)) ⟨N,ss,rfl,n0,n1,st,rfl⟩) q)))))
def Nj:BX:=Er fun ts r=>∃(N:Nat) (ss:List Int),ts=[.int (N:Int),.tup (ss.map T.int)]∧3≤N∧N≤16∧Stp N ss∧r=CC (Gf (CJ N ss))
theorem Uq:FnScope ["many","steps"] ["many","steps"] (AA MK):=⟨rfl,rfl,rfl,by decide+kernel,rfl,by decide+kernel,by decide+kernel⟩
theorem SA{f:Addr}{fd:fF}(F:Fun K "turned_ring" "turned_ring" MK f fd)(Gn:FnT P w K mg base "need_steps" 5 ["many","steps"] FS)(G:FnT P w K mg base "web_turned" 3 ["many","steps"] Ma)(Gs:FnT P w K mg base "shortest" 3 ["web"] FP):FnOk P w K mg base (CXe P w) 6 f fd ["many","steps"] (BY K Nj):=by
 refine AK F Uq ?_ ?_
 ·rintro ts O Φ Ξ ⟨r,⟨N,ss,rfl,_⟩,_⟩
  rfl
 ·rintro cdv A outer s H E O Ξ hr xf _ Φ ⟨_,⟨N,ss,rfl,n0,n1,st,rfl⟩,q⟩
  exact AE (Ad (ET.we (AQ Gn hr xf (AD (ev 0) (AD (ev 1) AB)) ⟨N,ss,rfl,n0,n1,st,rfl⟩) (AF (AJ (ET.we (AQ Gs (hr.mono (by decide)) xf (AD (AQ G (hr.mono (by decide)) xf (AD (ev 0) (AD (ev 1) AB)) ⟨N,ss,rfl,n0,n1,st,rfl⟩) AB) ⟨(N:Int),CJ N ss,rfl,(DG (by omega) n1).wn,rfl⟩) q)))))
def Hs:BX:=Er fun ts r=>∃(N:Nat) (ss:List Int),ts=[Bh (N:Int) (CJ N ss)]∧3≤N∧N≤16∧Stp N ss∧r=.tup (ss.map T.int)
theorem Ht:FnScope ["web","steps"] ["web"] (AA DF):=⟨rfl,rfl,rfl,by decide+kernel,rfl,by decide+kernel,by decide+kernel⟩
theorem bN:(Ae ["near"] [(("web" :Str),0)]).Nodup:=by decide+kernel
theorem Kw{n:Int}{ps:List (Int×Int)}:(dT (Bh n ps)).depth≤100:=by
 have:∀{ps:List (Int×Int)},jY (dTs (ps.map AL))≤2:=fun{ps}=>by
  induction ps with
  |nil=>simp[dTs,jY]
  |cons p ps ih=>
   simp only[fL,dTs,jY,AL,dT,iD.depth]
   omega
 have:=this (ps:=ps)
 simp only[Bh,dT,dTs,iD.depth,jY]
 omega
theorem Mb{f:Addr}{fd:fF}(F:Fun K "steps_of" "steps_of" DF f fd)(Tx:Txt mg)(Gg:FnT P w K mg base "web_good" 4 ["thing"] bA)(Gn:FnT P w K mg base "nears_of" 1 ["web"] FN)(G:FnT P w K mg base "web_turned" 3 ["many","steps"] Ma):FnOk P w K mg base (CXe P w) 5 f fd ["web"] (BY K Hs):=by
 refine AK F Ht ?_ ?_
 ·rintro ts O Φ Ξ ⟨r,⟨N,ss,rfl,_⟩,_⟩
  rfl
 ·rintro cdv A outer s H E O Ξ hr xf _ Φ ⟨_,⟨N,ss,rfl,n0,n1,st,rfl⟩,q⟩
  have sb:=AR
  have wr:=DG (ss:=ss) (by omega) n1
  have hl:=wr.wn.hl
  have hu:(A.deeper (kQ "steps_of" (AA DF) s.heap.objs.size f cdv)).units+101<cLine:=by have:=hr.un;omega
  have nl:=Bf (qs:=CJ N ss) (i:=0)
  refine AE (Ab (k:=false) (EW.eb (EW.cast (Bm (x:=false) (y:=false) (EB.cast (Ay (k:=true) (Da (AQ Gg hr xf (AD (ev 0) AB) ⟨_,_,rfl,wr,by omega,rfl⟩))) rfl) fun _=>Bd (EB.cast (QM (Al (ev 0) AC) (BK Tx.iLP)) (decide_eq_false (by omega)))) rfl)) (fun h=>by cases h) (fun _=>Ac ?_))
  refine AE (Aa 1 (ET.we (t:=.tup (ss.map T.int)) (KI Tx.nTuple (ET.cast (GK ["near"] [("web",0)] (AU (CJ N ss) 0) T.int T.int (fun v=>decide (v*2≤(N:Int))) rfl (Be (AA DF) ["web","steps"] (by decide+kernel)) (BB (GB (AQ Gn (hr.mono (by decide)) xf (AD (ev 0) AB) ⟨_,_,rfl,wr.wn.n0,wr.wn.n1,wr.wn.hw,wr.wn.hl,rfl⟩) AC (RL (i:=0) (by omega)))) (by omega) fun x hx=> ⟨[some (.int x),some (Bh (N:Int) (CJ N ss))],fun X' Oe He is O'=>?_⟩) ?_)) ?_) Ht.nd)
  ·obtain⟨cl,s',H',fp,rfl⟩:=is
   exact⟨AX 0 bN (by decide),Zy (Cy (ev 0) AC (.inr ⟨by decide,by decide⟩)) (Al (ev 1) AC),fun _=>ev 0⟩
  ·rw[DU wr.wn.hw,show(((0:Nat):Int))=0 from rfl,Ro st (by omega) n1]
  ·exact AF (AJ (ET.we (ET.cast (HX (x:=true) (EB.cast (BF (Lw hu) (Af _) (Qb Lx Lx Kw) (AQ G (hr.mono (by decide)) xf (AD (Al (ev 0) AC) (AD (ev 1) AB)) ⟨N,ss,rfl,n0,n1,st,rfl⟩) (ev 0)) (by rw[NI,decide_eq_true rfl,decide_eq_true rfl];rfl)) (fun _=>ev 1) (fun _=>Ca)) rfl) q))
end
section
variable{P:Program}{w:World}{K:a8}{mg:Str→Option Value}{base:Heap}{CN:Addr}
def SB:BX:=fun ts O Φ _=>∃N:Nat,ts=[.int (N:Int)]∧3≤N∧N≤16∧∀L:List (List Int),L.Perm (CK (N/2))→Φ (.lst (L.map AS)) O
def Vm:List Str:=["many","rows","step"]
theorem JR:FnScope Vm ["many"] (AA KR):=⟨rfl,rfl,rfl,by decide+kernel,rfl,by decide+kernel,by decide+kernel⟩
theorem bO:(Ae ["row"] [(("step" :Str),2)]).Nodup:=by decide+kernel
theorem Ur{f:Addr}{fd:fF}(F:Fun K "all_steps" "all_steps" KR f fd)(Tx:Txt mg):FnOk P w K mg base (CXe P w) 1 f fd ["many"] (BY K SB):=by
 refine AK F JR ?_ ?_
 ·rintro ts O Φ Ξ ⟨N,rfl,_⟩
  rfl
 ·rintro cdv A outer s H E O Ξ hr xf _ Φ ⟨N,rfl,n0,n1,q⟩
  have sb:=AR
  have hu:(A.deeper (kQ "all_steps" (AA KR) s.heap.objs.size f cdv)).units+2<cLine:=by have:=hr.un;omega
  refine AE (Aa 1 (ET.we (t:=.lst ((CK 0).map AS)) (Ln (ts:=[.tup []]) (AD (Dj AB) AB) (by show 1≤sizeLine;decide)) ?_) JR.nd)
  refine AE (Cd As.own rfl (EI.wi (Ef Tx.nRange AC (BE (DN (ev 0) AC ⟨by decide,by decide⟩) AC) ⟨by decide,by decide,by omega,by omega⟩) ⟨fun i ρ' O'=>∃v2:Option T,ρ'=[some (.int (N:Int)),some (.lst ((CK i).map AS)),v2]∧O'=O,⟨none,rfl,rfl⟩,?_,?_⟩))
  ·rintro i t _ _ e ⟨v2,rfl,rfl⟩
   obtain⟨hi,rfl⟩:=DB e
   have la:=Gj (k:=i) (by omega)
   refine⟨[some (.int (N:Int)),some (.lst ((CK i).map AS)),some (.int (1+i))],AX 2 JR.nd (by show 2<3;decide),?_⟩
   refine AF (Aa 1 (ET.we (t:=.lst ((CK (i+1)).map AS)) (ET.cast (Tf (ev 1) (BH ["row"] [("step",2)] (CK i) AS (fun r=>AS (r++[((i+1:Nat):Int)])) rfl (Be (AA KR) Vm (by decide+kernel)) (BB (ev 1)) (by omega) fun x hx=> ⟨[some (AS x),some (.int (1+i))],fun X' Oe He is O'=>?_⟩) (by rw[e8,e8];omega)) ?_) ?_) JR.nd)
   ·obtain⟨cl,s',H',fp,rfl⟩:=is
    have xl:=MY (Bg.mp hx)
    refine⟨AX 0 bO (by decide),ET.cast (Te (ts:=x.map T.int) (us:=[.int (1+i)]) (ev 0) (Dj (AD (ev 1) AB)) (by rw[e8,List.length_singleton];omega)) ?_⟩
    unfold AS
    rw[iy,show((i+1:Nat):Int)=1+i by omega]
    rfl
   ·show T.lst _=T.lst ((CK i++(CK i).map (fun r=>r++[((i+1:Nat):Int)])).map AS)
    rw[iy,gZ]
    rfl
   ·exact⟨_,rfl,rfl⟩
  ·rintro _ _ ⟨v2,rfl,rfl⟩
   rw[BN,show((N:Int)/2+1-1).toNat=N/2 by omega]
   exact AF (AJ (MC (ks:=CK (N/2)) hu Tx.nSorted (ev 1) (Hr _) (fun k hk=>YY (by omega) (Bg.mp hk)) (gL (Gj (by omega)) (by decide)) fun ms pm _=>q ms pm))
def Hu(N:Nat)(d:Int)(g:Nat)(ss:List Int):Prop:=grown d g≤N∧Stp N ss∧FR N ss=d∧UX (N:Int) (CJ N ss) d (g:Int)=true
def Kx:BX:=fun ts O Φ _=>∃(N:Nat) (d:Int) (g:Nat),ts=[.int (N:Int),.int d,.int (g:Int)]∧3≤N∧N≤16∧(2≤d∧d≤15)∧3≤g∧g≤16∧∀L:List (List Int),L.length≤256→(∀ss,ss∈L↔Hu N d g ss)→Φ (.lst (L.map AS)) O
def Yg:List Str:=["many","d","g","rows"]
theorem Vn:FnScope Yg ["many","d","g"] (AA Qz):=⟨rfl,rfl,rfl,by decide+kernel,rfl,by decide+kernel,by decide+kernel⟩
theorem Yh:(Ae ["steps"] [(("many" :Str),0),(("d" :Str),1)]).Nodup:=by decide+kernel
theorem Yi:(Ae ["steps"] [(("many" :Str),0),(("d" :Str),1),(("g" :Str),2)]).Nodup:=by decide+kernel
theorem Yj{f:Addr}{fd:fF}(F:Fun K "steps_that_fit" "steps_that_fit" Qz f fd)(Gg:FnT P w K mg base "grown_places" 2 ["d","g"] JF)(Ga:FnT P w K mg base "all_steps" 1 ["many"] SB)(Gt:FnT P w K mg base "ties_turned" 1 ["many","steps"] Rx)(Gw:FnT P w K mg base "web_turned" 3 ["many","steps"] Ma)(Gd:FnT P w K mg base "does_fit" 5 ["web","d","g"] MQ):FnOk P w K mg base (CXe P w) 6 f fd ["many","d","g"] (BY K Kx):=by
 refine AK F Vn ?_ ?_
 ·rintro ts O Φ Ξ ⟨N,d,g,rfl,_⟩
  rfl
 ·rintro cdv A outer s H E O Ξ hr xf _ Φ ⟨N,d,g,rfl,n0,n1,hd,g0,g1,q⟩
  have sb:=AR
  refine AE (Ab (k:=decide ((N:Int)<grown d g)) (Fz (AQ Gg (hr.mono (by decide)) xf (AD (ev 1) (AD (ev 2) AB)) ⟨d,g,rfl,by omega,by omega,rfl⟩) (ev 0)) (fun h=>?_) (fun h=>Ac ?_))
  ·have h:=of_decide_eq_true h
   exact AF (AJ (ET.we (Ln (ts:=[]) AB (gT _)) (q [] (by simp) fun ss=> ⟨fun z=>by(cases z),fun z=>absurd z.1 (by omega)⟩)))
  ·have h:=of_decide_eq_false h
   refine AE (KH (i:=3) (nc:=["steps"]) (cap:=[("many",0),("d",1)]) (by rfl) Vn.nd rfl (Be (AA Qz) Yg (by decide+kernel)) (IZ (AW Ga (hr.mono (by decide)) xf (EA.wa (AD (ev 0) AB) ⟨N,rfl,n0,n1,fun L pm=> ⟨_,rfl,?_⟩⟩))))
   have hL:L.length≤256:=by rw[pm.length_eq];exact Gj (by omega)
   have hst:∀x∈L,Stp N x:=fun x hx=>Rt.mp (Bg.mp (pm.mem_iff.mp hx))
   refine Et L AS AS (fun ss=>decide (FR N ss=d)) (by omega) (fun x hx=> ⟨[some (AS x),some (.int (N:Int)),some (.int d)],fun X' Oe He is O'=>?_⟩) ?_
   ·obtain⟨cl,s',H',fp,rfl⟩:=is
    exact⟨AX 0 Yh (by decide),Eb (AQ Gt (hr.mono (by decide)) BW (AD (ev 1) (AD (ev 0) AB)) ⟨N,x,rfl,n0,n1,hst x hx,rfl⟩) (ev 2),fun _=>ev 0⟩
   ·have fl:(L.filter fun ss=>decide (FR N ss=d)).length≤256:=gL (kO ..) hL
    refine AF (AJ (ET.we (GK ["steps"] [("many",0),("d",1),("g",2)] (L.filter fun ss=>decide (FR N ss=d)) AS AS (fun ss=>UX (N:Int) (CJ N ss) d (g:Int)) rfl (Be (AA Qz) Yg (by decide+kernel)) (BB (ev 3)) (by omega) fun x hx=> ⟨[some (AS x),some (.int (N:Int)),some (.int d),some (.int (g:Int))],fun X' Oe He is O'=>?_⟩) (q _ (gL (kO ..) fl) fun ss=>?_)))
    ·obtain⟨cl,s',H',fp,rfl⟩:=is
     exact⟨AX 0 Yi (by decide),Da (AQ Gd hr BW (AD (AQ Gw (hr.mono (by decide)) BW (AD (ev 1) (AD (ev 0) AB)) ⟨N,x,rfl,n0,n1,hst x (fO.mp hx).1,rfl⟩) (AD (ev 2) (AD (ev 3) AB))) ⟨_,_,d,g,rfl,DG (by omega) n1,rfl⟩),fun _=>ev 0⟩
    ·rw[fO,fO,pm.mem_iff,Bg,Rt,decide_eq_true_eq]
     exact⟨fun z=> ⟨by omega,z.1.1,z.1.2,z.2⟩,fun z=> ⟨⟨z.2.1,z.2.2.1⟩,z.2.2.2⟩⟩
theorem bP:FnScope ["many","d","g"] ["many","d","g"] (AA Xq):=⟨rfl,rfl,rfl,by decide+kernel,rfl,by decide+kernel,by decide+kernel⟩
theorem Yk{f:Addr}{fd:fF}(F:Fun K "by_turns" "by_turns" Xq f fd)(Gm:FnT P w K mg base "need_many" 3 ["many"] MZ)(Gt:FnT P w K mg base "need_ties_and_ring" 4 ["d","g"] (RY CN))(G:FnT P w K mg base "steps_that_fit" 6 ["many","d","g"] Kx):FnOk P w K mg base (CXe P w) 7 f fd ["many","d","g"] (BY K Kx):=by
 refine AK F bP ?_ ?_
 ·rintro ts O Φ Ξ ⟨N,d,g,rfl,_⟩
  rfl
 ·rintro cdv A outer s H E O Ξ hr xf _ Φ ⟨N,d,g,rfl,n0,n1,hd,g0,g1,q⟩
  refine AE (Ad (ET.we (AQ Gm (hr.mono (by decide)) xf (AD (ev 0) AB) ⟨N,rfl,n0,n1,rfl⟩) ?_))
  refine AE (Ad (AW Gt (hr.mono (by decide)) xf (EA.wa (AD (ev 1) (AD (ev 2) AB)) ⟨_,_,rfl,rfl,rfl,fun _ _=>?_,fun h=>by rw[Dc hd.1 hd.2,Dc (by omega) (by omega)] at h;rcases h with h|h<;>cases h⟩)))
  exact AF (AJ (AW G hr xf (EA.wa (AD (ev 0) (AD (ev 1) (AD (ev 2) AB))) ⟨N,d,g,rfl,n0,n1,hd,g0,g1,q⟩)))
def Ky:BX:=fun ts O Φ _=>∃(d:Int) (g:Nat),ts=[.int d,.int (g:Int)]∧(2≤d∧d≤15)∧3≤g∧g≤16∧Φ .non O∧∀(N:Nat) (ss:List Int),3≤N→N≤16→Hu N d g ss→Φ (.tup [.int (N:Int),AS ss]) O
def Us:List Str:=["d","g","many","rows"]
theorem Gk:FnScope Us ["d","g"] (AA Iy):=⟨rfl,rfl,rfl,by decide+kernel,rfl,by decide+kernel,by decide+kernel⟩
theorem Oq{f:Addr}{fd:fF}(F:Fun K "least_by_turns" "least_by_turns" Iy f fd)(Tx:Txt mg)(Gt:FnT P w K mg base "need_ties_and_ring" 4 ["d","g"] (RY CN))(G:FnT P w K mg base "steps_that_fit" 6 ["many","d","g"] Kx):FnOk P w K mg base (CXe P w) 7 f fd ["d","g"] (BY K Ky):=by
 refine AK F Gk ?_ ?_
 ·rintro ts O Φ Ξ ⟨d,g,rfl,_⟩
  rfl
 ·rintro cdv A outer s H E O Ξ hr xf _ Φ ⟨d,g,rfl,hd,g0,g1,q1,q2⟩
  refine AE (Ad (AW Gt (hr.mono (by decide)) xf (EA.wa (AD (ev 0) (AD (ev 1) AB)) ⟨_,_,rfl,rfl,rfl,fun _ _=>?_,fun h=>by rw[Dc hd.1 hd.2,Dc (by omega) (by omega)] at h;rcases h with h|h<;>cases h⟩)))
  refine AE (Cd As.own rfl (EI.wi (Ef Tx.nRange (BK Tx.iLP) (BE (BK Tx.iMost) AC) ⟨by decide,by decide,by decide,by decide⟩) ⟨fun i ρ' O'=>∃v2 v3:Option T,ρ'=[some (.int d),some (.int (g:Int)),v2,v3]∧O'=O,⟨none,none,rfl,rfl⟩,?_,?_⟩))
  ·rintro i t _ _ e ⟨v2,v3,rfl,rfl⟩
   obtain⟨hi,rfl⟩:=DB e
   rw[show(3:Int)+(i:Int)=((i+3:Nat):Int) by omega]
   refine⟨[some (.int d),some (.int (g:Int)),some (.int ((i+3:Nat):Int)),v3],AX 2 Gk.nd (by show 2<4;decide),?_⟩
   refine AE (Aa 3 (AW G hr xf (EA.wa (AD (ev 2) (AD (ev 0) (AD (ev 1) AB))) ⟨i+3,d,g,rfl,by omega,by omega,hd,g0,g1,fun L hL hm=>?_⟩)) Gk.nd)
   cases L with
   |nil=>exact AF (Ab (k:=false) (Dz (t:=.lst []) (ev 3) rfl) (fun h=>by cases h) fun _=>Ac ⟨_,_,rfl,rfl⟩)
   |cons x L=>exact AF (Ab (k:=true) (Dz (t:=.lst (AS x::L.map AS)) (ev 3) rfl) (fun _=>AF (AJ (ET.we (Dj (AD (ev 2) (AD (GB (t:=AS x) (ev 3) AC (BI (j:=0) rfl)) AB))) (q2 (i+3) x (by omega) (by omega) ((hm x).mp (by simp)))))) fun h=>by cases h)
  ·rintro _ _ ⟨v2,v3,rfl,rfl⟩
   exact AF (AJ (ET.we Ca q1))
def bQ:BX:=fun ts O Φ _=>∃(p:Addr) (xs:List T) (N:Nat),ts=[.raw (.ref p),.int (N:Int)]∧O p=some xs∧KS xs∧3≤N∧N≤16∧∀(ss:List Int) (O':AG),Stp N ss→PO O p O'→Φ (.tup (ss.map T.int)) O'
theorem dH:FnScope ["_law_pen","_law_many"] ["_law_pen","_law_many"] (AA bo):=⟨rfl,rfl,rfl,by decide+kernel,rfl,by decide+kernel,by decide+kernel⟩
theorem bR:(Ae ["_law_step"] [(("_law_pen" :Str),0)]).Nodup:=by decide+kernel
theorem bS{f:Addr}{fd:fF}(F:Fun K "_law_steps_by" "_law_steps_by" bo f fd)(Tx:Txt mg)(G:FnT P w K mg base "_law_draw" 2 ["_law_pen","_law_many"] GU):FnOk P w K mg base (CXe P w) 3 f fd ["_law_pen","_law_many"] (BY K bQ):=by
 refine AK F dH ?_ ?_
 ·rintro ts O Φ Ξ ⟨p,xs,N,rfl,_⟩
  rfl
 ·rintro cdv A outer s H E O Ξ hr xf _ Φ ⟨p,xs,N,rfl,hp,px,n0,n1,q⟩
  have sb:=AR
  refine AF (AJ (GG Tx.nTuple (QR (nc:=["_law_step"]) (cap:=[("_law_pen",0)]) rfl (Be (AA bo) ["_law_pen","_law_many"] (by decide+kernel)) (EI.wi (Ef Tx.nRange AC (BE (DN (ev 1) AC ⟨by decide,by decide⟩) AC) ⟨by decide,by decide,by omega,by omega⟩) ?_))))
  refine⟨fun i acc O'=>∃ss:List Int,acc=ss.map T.int∧Stp N ss∧(∀z∈ss,z<1+(i:Int))∧PO O p O',⟨[],rfl,⟨.nil,fun _ h=>by cases h⟩,(fun _ h=>by cases h),PO.start hp px⟩,?_,?_⟩
  ·rintro i t acc O' c e ⟨ss,rfl,st,hl,po⟩ hc
   obtain⟨hi,rfl⟩:=DB e
   have sl:=JQ n1 st
   refine⟨[some (.int (1+i)),some (.raw (.ref p))],fun X' Oe He is=>?_⟩
   obtain⟨cl,s',H',fp,rfl⟩:=is
   refine⟨AX 0 bR (by decide),NA (IX VE (Af _) (RH G hr BW po hc (ev 1) AC (by decide) (by decide) fun r O3 r0 r1 po3 hc3=>ET.we AC (QI _ ⟨_,rfl,?_⟩)))⟩
   refine Zd (fun h=>?_) (fun h=>?_)
   ·rintro X' Oe He ⟨cl,s',H',fp,rfl⟩
    refine ET.we (ev 0) ⟨O3,rfl,hc3,by rw[e8];omega,ss++[1+(i:Int)],by rw[iy];rfl,⟨jy.mpr ⟨st.pw,by simp,fun a ha b hb=>?_⟩,fun y hy=>?_⟩,fun y hy=>?_,po3⟩
    ·rw[b9.mp hb]
     exact hl a ha
    ·rcases fI.mp hy with hy|hy
     ·exact st.hs y hy
     ·rw[b9.mp hy];omega
    ·rcases fI.mp hy with hy|hy
     ·have:=hl y hy;omega
     ·rw[b9.mp hy];omega
   ·exact⟨O3,rfl,hc3,ss,rfl,st,fun z hz=>by have:=hl z hz;omega,po3⟩
  ·rintro acc O' ⟨ss,rfl,st,hl,po⟩
   exact⟨_,rfl,q ss O' st po⟩
end
variable{N:Nat}{ss:List Int}{d:Int}{g k:Nat}
theorem Ut{x:Option Int}:BC (CC x)=false:=by cases x<;>rfl
theorem Uu{x:Option Int}:ju (dT (CC x)) (dT (CC x))=true:=by
 cases x with
 |none=>rfl
 |some i=>rw[show CC (some i)=T.int i from rfl];show(i==i)=true;simp
theorem Uv{n:Int}{ps:List (Int×Int)}(he:Rc n ps=some d)(hs:Gf ps=some (k:Int)){g:Int}(h:g≤k):UX n ps d g=true:=by
 unfold UX Ys
 rw[he,hs]
 show(decide (some d=some d)&&!decide ((k:Int)<g))=true
 rw[decide_eq_true rfl,decide_eq_false (by omega)]
 rfl
theorem Uw{n:Int}{ps:List (Int×Int)}(hs:Gf ps=some (k:Int)){g:Int}(h:(k:Int)<g):UX n ps d g=false:=by
 unfold UX Ys
 rw[hs]
 show(_&&!decide ((k:Int)<g))=false
 rw[decide_eq_true h]
 simp
theorem Ux(h:Hu N d g ss)(n0:3≤N)(n1:N≤16):bp d g≤N:=by
 obtain⟨h1,st,ht,_⟩:=h
 have wr:=DG (ss:=ss) (N:=N) (by omega) n1
 have he:=Nh st (by omega) n1
 have hd:=Rg wr (u:=0) (by omega) (by omega)
 rw[MX st (by omega) n1 (by omega) (by omega)] at hd
 have e2:=Kn wr he
 rw[ht] at hd e2
 unfold bp
 split
 ·omega
 ·rename_i c
  by_cases e:max (grown d g) (d+1)=N
  ·rw[e] at c
   exact absurd e2 c
  ·omega
section
variable{Z:Zx}{ρ:List (Option T)}{O:AG}{a b:Expr}{pos:Pos}{t:T}
theorem Mc(hu:Z.X.A.units+101<cLine)(h1:Co t=true)(h2:(dT t).depth≤100)(h3:ju (dT t) (dT t)=true)(ha:ET Z ρ O a t)(hb:ET Z ρ O b t):EB Z ρ O (.Compare a [.NotEq] [b] pos) false:=EB.cast (BF (Qa hu) (Af _) (Qb h1 h1 h2) ha hb) (by rw[h3];rfl)
end
def SL(i:Nat):Stmt:=(Aw ML).getD i (.Pass ⟨0,0,0,0⟩)
def dI:Stmt→Expr
 | .For _ e _ _ _=>e
 |_=> .Constant .none 0 ⟨0,0,0,0⟩
def JS:Stmt→List Stmt
 | .For _ _ b _ _=>b
 |_=> []
def Uy:List Str:=["_law_script","_law_cell","_law_pen","_law_many","_law_steps","_law_web","_law_d","_law_g","_law_least"]
theorem EM:FnScope Uy ["_law_script"] (AA ML):=⟨rfl,rfl,rfl,by decide+kernel,rfl,by decide+kernel,by decide+kernel⟩
theorem bT:(Ae ["_law_place"] [(("_law_many" :Str),3)]).Nodup:=by decide+kernel
section
variable{P:Program}{w:World}{K:a8}{mg:Str→Option Value}{base:Heap}{f:Addr}{cdv:Value}{A:fG}{outer:List Env}{s:a9}{H:Hp}{E:XK}
abbrev zL(P:Program)(w:World)(K:a8)(mg:Str→Option Value)(base:Heap)(f:Addr)(cdv:Value)(A:fG)(outer:List Env)(s:a9)(H:Hp)(E:XK):Zx:=zB P w K mg base Uy "law" (AA ML) f cdv A outer s H E VU (fun _ _=>False)
structure Has(P:Program)(w:World)(K:a8)(mg:Str→Option Value)(base:Heap)(CN CP:Addr):Prop where
 tx:Txt mg
 gd:FnT P w K mg base "_law_draw" 2 ["_law_pen","_law_many"] GU
 gp:FnT P w K mg base "_law_pen_of" 1 ["_law_cell"] VY
 gy:FnT P w K mg base "_law_steps_by" 3 ["_law_pen","_law_many"] bQ
 gw:FnT P w K mg base "turned_web" 6 ["many","steps"] Ma
 gt:FnT P w K mg base "turned_ties" 6 ["many","steps"] Rx
 gr:FnT P w K mg base "turned_ring" 6 ["many","steps"] Nj
 ge:FnT P w K mg base "even_by" 2 ["web"] JC
 gs:FnT P w K mg base "shortest" 3 ["web"] FP
 go:FnT P w K mg base "steps_of" 5 ["web"] Hs
 gg:FnT P w K mg base "steps_good" 4 ["many","thing"] Kv
 gn:FnT P w K mg base "renamed" 3 ["web","names"] (Ho CP)
 gb:FnT P w K mg base "by_turns" 7 ["many","d","g"] Kx
 gf:FnT P w K mg base "fits" 6 ["web","d","g"] (MR CN)
 gl:FnT P w K mg base "least_by_turns" 7 ["d","g"] Ky
 gi:FnT P w K mg base "least_fit" 6 ["d","g"] Vi
def Nk(K:a8):Sp:=fun vs H Q _=>∃(a:Addr) (ns:List Int),vs=[.ref a]∧De K H a (ns.map V.int)∧ns.length≤63∧∀H',Q (.bl true) H'
def dJ:BJ:=fun t _=>t=.bl true
abbrev Kz(a:Addr)(v1 v2 v3 v4 v5 v6 v7 v8:Option T):List (Option T):=[some (.raw (.ref a)),v1,v2,v3,v4,v5,v6,v7,v8]
theorem SC{ρ:List (Option T)}{a:Addr}{ns:List Int}{Φ:BJ}{fC:Addr}{fdC:fF}(hr:Room 7 (zL P w K mg base f cdv A outer s H E).X.A)(xf:XFly (zL P w K mg base f cdv A outer s H E).X (zL P w K mg base f cdv A outer s H E).W)(hS:De K H a (ns.map V.int))(hn:ns.length≤63)(hρ:ρ[0]?=some (some (.raw (.ref a))))
  (FC:FnOk P w K mg base (CXe P w) 1 fC fdC ["_law_script","_law_k"] (GT K)) (mC:mg "_law_cell_at" =some (.ref fC)) (kC:jP K (.ref fC)=true) (bC:Binds K fdC ["_law_script","_law_k"] [])
  (k:∀ms:List Int,ms.length≤64→Φ (.lst (ms.map T.int)) VU):HWE (zL P w K mg base f cdv A outer s H E) ρ VU (dI (SL 0)) Φ:=by
 have sb:=AR
 refine⟨?_⟩
 refine HV PV ?_
 refine QG (Lr (QW FC mC kC bC (hr.mono (by decide)) xf (AD (ev 0 hρ) (AD AC AB)) ?_))
 intro σ H1 vs Q as r acc
 obtain⟨v,u,rfl,r1,r2⟩:=r.two_inv
 cases r1.raw_inv
 cases r2.int_inv
 refine⟨a,ns,rfl,VV as.fr.kp hS,fun c=>acc _ _ _ _ ?_ (.refl as.ok) (.int c)⟩
 refine BR ⟨by show 1≤sizeLine;decide,?_⟩
 refine Xf rfl hS (ev 0 hρ) AC AC fun ms hm=>?_
 exact NC (ts:=[T.int c]) (us:=ms.map T.int) (by simp;omega) _ (k (c::ms) (by simp;omega))
abbrev Os(a:Addr)(v1:Option T)(p:Addr)(N:Nat)(ss:List Int)(d:Int)(v7 v8:Option T):List (Option T):=Kz a v1 (some (.raw (.ref p))) (some (.int (N:Int))) (some (AS ss)) (some (Bh (N:Int) (CJ N ss))) (some (.int d)) v7 v8
theorem Uz{O:AG}{a p CN CP:Addr}{v1 v8:Option T}{Ψ:Es}(B:Has P w K mg base CN CP)(hr:Room 7 (zL P w K mg base f cdv A outer s H E).X.A)(xf:XFly (zL P w K mg base f cdv A outer s H E).X (zL P w K mg base f cdv A outer s H E).W)(n0:3≤N)(n1:N≤16)(st:Stp N ss)
  (k:HS (zL P w K mg base f cdv A outer s H E) (Os a v1 p N ss (FR N ss) (some (CC (Gf (CJ N ss)))) v8) O ((JS (SL 0)).drop 7) Ψ):HS (zL P w K mg base f cdv A outer s H E) (Os a v1 p N ss (FR N ss) (some (CC (Gf (CJ N ss)))) v8) O ((JS (SL 0)).drop 5) Ψ:=by
 have sb:=AR
 have hu:(zL P w K mg base f cdv A outer s H E).X.A.units+101<cLine:=by have:=hr.un;omega
 have wr:=DG (ss:=ss) (N:=N) (by omega) n1
 refine An (Ab (k:=false) (EW.eb (EW.cast (Bm (x:=false) (y:=false) (EB.cast (BF (Qa hu) (Af _) (Qb (u:=.int (FR N ss)) JJ (by rw[Co]) JK) (Rf B.ge (hr.mono (by decide)) xf wr (ev 5)) (ev 6)) (by rw[Kl,Nh st (by omega) n1,decide_eq_true rfl];rfl)) fun _=>EW.cast (Bm (x:=false) (y:=false) (Mc hu JJ JK Uu (AQ B.gs (hr.mono (by decide)) xf (AD (ev 5) AB) ⟨_,_,rfl,wr.wn,rfl⟩) (ev 7)) fun _=>EW.cast (Bm (x:=false) (y:=false) (Mc (t:=AS ss) hu CI Bn (EH.trans (decide_eq_true rfl)) (AQ B.go (hr.mono (by decide)) xf (AD (ev 5) AB) ⟨N,ss,rfl,n0,n1,st,rfl⟩) (ev 4)) fun _=>Bd (EB.cast (Ay (k:=true) (Da (AQ B.gg (hr.mono (by decide)) xf (AD (ev 3) (AD (ev 4) AB)) ⟨N,ss,rfl,n0,n1,st,rfl⟩))) rfl)) rfl) rfl) rfl)) (fun h=>by cases h) fun _=>Ac ?_)
 refine An (Ab (k:=false) (Mc (t:=Bh (N:Int) (CJ N ss)) hu Lx Kw (by rw[NI,decide_eq_true rfl,decide_eq_true rfl];rfl) (FK B.gn (hr.mono (by decide)) xf (AD (ev 5) (AD (KI (ts:=(FD N).map T.int) B.tx.nTuple (ET.cast (BH ["_law_place"] [("_law_many",3)] (fY N) (fun(j:Nat)=>T.int (j:Int)) (fun(j:Nat)=>T.int (((j:Int)+1)%(N:Int))) rfl (Be (AA ML) Uy (by decide+kernel)) (EI.cast (DO B.tx.nRange (ev 3) ⟨by omega,by omega⟩) (by unfold GF;simp)) (by rw[ig];omega) fun x hx=> ⟨[some (.int (x:Int)),some (.int (N:Int))],fun X' Oe He is O'=>?c1⟩) ?c2)) AB)) ?c3) (ev 5)) (fun h=>by cases h) fun _=>Ac k)
 case c1=>
  obtain⟨cl,s',H',fp,rfl⟩:=is
  exact⟨AX 0 bT (by decide),Cb (BE (ev 0) AC) (ev 1) (by omega)⟩
 case c2=>
  show _=T.lst ((FD N).map T.int)
  unfold FD
  rw[gZ]
  rfl
 case c3=>
  intro Φ q
  have pm:=Rp (N:=N) (by omega) n1
  refine⟨N,CJ N ss,.tup ((FD N).map T.int),rfl,⟨by omega,by omega,YQ,by have:=wr.wn.hl;omega,NG.mpr fun u hu=> (by obtain⟨i,_,rfl⟩:=fo.mp hu;rw[SK]),fun us e=>?_⟩,fun ns' h qs q1 q2 _=>?_,fun h=>absurd ⟨rfl,pm⟩ (h (FD N))⟩
  ·injection e with e
   subst e
   unfold FD
   rw[e8,e8,ig]
   omega
  ·have e:=Gi (show ns'.map T.int=(FD N).map T.int from by have:=h.1;injection this with e;exact e.symm)
   subst e
   rw[YT st (by omega) q1 q2]
   exact q
theorem VA{O:AG}{a p CN CP:Addr}{v1 v8:Option T}{Ψ:Es}(B:Has P w K mg base CN CP)(hr:Room 7 (zL P w K mg base f cdv A outer s H E).X.A)(xf:XFly (zL P w K mg base f cdv A outer s H E).X (zL P w K mg base f cdv A outer s H E).W)(n0:3≤N)(n1:N≤16)(st:Stp N ss)
  (k:HS (zL P w K mg base f cdv A outer s H E) (Os a v1 p N ss (FR N ss) (some (CC (Gf (CJ N ss)))) v8) O ((JS (SL 0)).drop 8) Ψ):HS (zL P w K mg base f cdv A outer s H E) (Os a v1 p N ss (FR N ss) (some (CC (Gf (CJ N ss)))) v8) O ((JS (SL 0)).drop 7) Ψ:=by
 have sb:=AR
 have hu:(zL P w K mg base f cdv A outer s H E).X.A.units+101<cLine:=by have:=hr.un;omega
 refine An (Ab (k:=false) (EW.eb (EW.cast (Bm (x:=false) (y:=false) (EW.eb (EW.cast (Dk (x:=decide (1< (ss.length:Int))) (y:=false) (EB.cast (Fz (FL (ts:=ss.map T.int) B.tx.nLen (ev 4)) AC) (by rw[e8])) fun h=>FJ (EW.eb ?c1)) (by simp))) fun _=>Bd (EW.eb (EW.cast (Dk (x:=decide (ss=[1])) (y:=false) (EB.cast (BF (Lw hu) (Af _) (Qb (t:=AS ss) (u:=AS [1]) CI CI Bn) (ev 4) (Dj (AD AC AB))) EH) fun h=>FJ ?c2) (by simp)))) rfl)) (fun h=>by cases h) fun _=>Ac k)
 case c1=>
  obtain⟨m,hm,m4⟩:=YU st (by have:=of_decide_eq_true h;omega)
  rw[hm]
  exact EW.cast (Bm (x:=false) (y:=false) (EB.cast (Ij Ut (ev 7)) rfl) fun _=>Bd (EB.cast (Fz (i:=m) (ev 7) AC) (decide_eq_false (by omega)))) rfl
 case c2=>
  have e:=of_decide_eq_true h
  subst e
  rw[YX n0 n1]
  exact EB.cast (IY (i:=(N:Int)) (j:=(N:Int)) (ev 7) (ev 3)) (by rw[decide_eq_true rfl];rfl)
theorem bU{ρ:List (Option T)}{O:AG}{CN CP:Addr}{a1 a2 a3 a4:Expr}{p pos pos2:Pos}{x:Bool}(B:Has P w K mg base CN CP)(hr:Room 7 (zL P w K mg base f cdv A outer s H E).X.A)(xf:XFly (zL P w K mg base f cdv A outer s H E).X (zL P w K mg base f cdv A outer s H E).W)(h1:ET (zL P w K mg base f cdv A outer s H E) ρ O a1 (AS ss))(h2:ET (zL P w K mg base f cdv A outer s H E) ρ O a2 (.int (N:Int)))(h3:ET (zL P w K mg base f cdv A outer s H E) ρ O a3 (.int d))(h4:ET (zL P w K mg base f cdv A outer s H E) ρ O a4 (.int (g:Int)))(s2:Aq a2=true)(s3:Aq a3=true)(s4:Aq a4=true)(n0:3≤N)(n1:N≤16)(hd:2≤d∧d≤15)(g0:3≤g)(g1:g≤16)(hx:x=true↔Hu N d g ss):ET (zL P w K mg base f cdv A outer s H E) ρ O (.Compare a1 [.In] [.Call (.Name "by_turns" p) [a2,a3,a4] [] pos] pos2) (.bl x):=fun Φ q=>by
 have hu:(zL P w K mg base f cdv A outer s H E).X.A.units+102<cLine:=by have:=hr.un;omega
 refine QE (VW hu) rfl (ET.we h1 (AW B.gb hr xf (EA.wa (AD h2 (AD h3 (AD h4 AB s4) s3) s2) ⟨N,d,g,rfl,n0,n1,hd,g0,g1,fun L _ hL=>Qc CI Ei Bn Φ ?_⟩) (he:=Ap s2) (hpl:=by rw[Ap s3,Ap s4];rfl)))
 have e:x=decide (ss∈L):=by
  rw[iR,decide_eq_true_eq,hL]
  exact hx
 rw[Ej,←e]
 exact q
theorem Yl{ρ:List (Option T)}{O:AG}{CN CP:Addr}{a1 a2 a3 a4:Expr}{p pos pos2:Pos}{x:Bool}(B:Has P w K mg base CN CP)(hr:Room 7 (zL P w K mg base f cdv A outer s H E).X.A)(xf:XFly (zL P w K mg base f cdv A outer s H E).X (zL P w K mg base f cdv A outer s H E).W)(h1:ET (zL P w K mg base f cdv A outer s H E) ρ O a1 (AS ss))(h2:ET (zL P w K mg base f cdv A outer s H E) ρ O a2 (.int (N:Int)))(h3:ET (zL P w K mg base f cdv A outer s H E) ρ O a3 (.int d))(h4:ET (zL P w K mg base f cdv A outer s H E) ρ O a4 (.int (g:Int)))(s2:Aq a2=true)(s3:Aq a3=true)(s4:Aq a4=true)(n0:3≤N)(n1:N≤16)(hd:2≤d∧d≤15)(g0:3≤g)(g1:g≤16)(hx:x=true↔Hu N d g ss):EB (zL P w K mg base f cdv A outer s H E) ρ O (.Compare a1 [.In] [.Call (.Name "by_turns" p) [a2,a3,a4] [] pos] pos2) x:=fun Φ q=>by
 have hu:(zL P w K mg base f cdv A outer s H E).X.A.units+102<cLine:=by have:=hr.un;omega
 refine IX (VW hu) rfl (ET.we h1 (AW B.gb hr xf (EA.wa (AD h2 (AD h3 (AD h4 AB s4) s3) s2) ⟨N,d,g,rfl,n0,n1,hd,g0,g1,fun L _ hL=>Qc CI Ei Bn _ ⟨_,rfl,?_⟩⟩) (he:=Ap s2) (hpl:=by rw[Ap s3,Ap s4];rfl)))
 have e:x=decide (ss∈L):=by
  rw[iR,decide_eq_true_eq,hL]
  exact hx
 rw[Ej,←e]
 exact q
theorem Ot{O:AG}{a p CN CP:Addr}{v1 v8:Option T}{Ψ:Es}(B:Has P w K mg base CN CP)(hr:Room 7 (zL P w K mg base f cdv A outer s H E).X.A)(xf:XFly (zL P w K mg base f cdv A outer s H E).X (zL P w K mg base f cdv A outer s H E).W)(n0:3≤N)(n1:N≤16)(st:Stp N ss)
  (k:HS (zL P w K mg base f cdv A outer s H E) (Os a v1 p N ss (FR N ss) (some (CC (Gf (CJ N ss)))) v8) O ((JS (SL 0)).drop 10) Ψ):HS (zL P w K mg base f cdv A outer s H E) (Os a v1 p N ss (FR N ss) (some (CC (Gf (CJ N ss)))) v8) O ((JS (SL 0)).drop 8) Ψ:=by
 have wr:=DG (ss:=ss) (N:=N) (by omega) n1
 by_cases hd:1<FR N ss
 ·obtain⟨j,hj,F⟩:=bG st (by omega) n1 hd
  have f1:=F.d2
  have f2:=F.dn
  have f3:=F.k3
  have f4:=F.kn
  have f5:=F.gr
  have he:=Nh st (by omega) n1
  have ft:=Uv he hj (g:=(j:Int)) (by omega)
  have ff:=Uw (n:=(N:Int)) (d:=FR N ss) hj (g:=((j+1:Nat):Int)) (by omega)
  rw[hj] at k ⊢
  refine An (Ab (k:=false) (EW.eb (EW.cast (Dk (x:=true) (y:=false) (EB.cast (Fz (ev 6) AC) (decide_eq_true hd)) fun _=>FJ (EB.cast (XF (x:=true) (y:=true) (bU (d:=FR N ss) (g:=j) (x:=true) B hr xf (ev 4) (ev 3) (ev 6) (ev 7) rfl rfl rfl n0 n1 (by omega) f3 (by omega) ⟨fun _=> ⟨f5,st,rfl,ft⟩,fun _=>rfl⟩) (ET.cast (FK B.gf (hr.mono (by decide)) xf (AD (ev 5) (AD (ev 6) (AD (ev 7) AB))) fun Φ q=>Hq (g:=j) wr f1 (by omega) f3 (by omega) q) (by rw[ft]))) rfl)) rfl)) (fun h=>by cases h) fun _=>Ac ?_)
  refine An (Ab (k:=false) (EW.eb (EW.cast (Dk (x:=true) (y:=false) (EB.cast (Fz (ev 6) AC) (decide_eq_true hd)) fun _=>EW.cast (Dk (x:=decide ((j:Int)<16)) (y:=false) (QM (ev 7) AC) fun h=>FJ ((Yl (d:=FR N ss) (g:=j+1) (x:=false) B hr xf (ev 4) (ev 3) (ev 6) (ET.cast (BE (ev 7) AC) (by congr 1)) rfl rfl rfl n0 n1 (by omega) (by omega) (by have:=of_decide_eq_true h;omega) ⟨(fun h=>by cases h),fun z=>by have:=z.2.2.2;rw[ff] at this;cases this⟩))) (by simp)) rfl)) (fun h=>by cases h) fun _=>Ac k)
 ·refine An (Ab (k:=false) (EW.eb (EW.cast (Dk (x:=false) (y:=false) (EB.cast (Fz (ev 6) AC) (decide_eq_false hd)) fun h=>by cases h) rfl)) (fun h=>by cases h) fun _=>Ac ?_)
  exact An (Ab (k:=false) (EW.eb (EW.cast (Dk (x:=false) (y:=false) (EB.cast (Fz (ev 6) AC) (decide_eq_false hd)) fun h=>by cases h) rfl)) (fun h=>by cases h) fun _=>Ac k)
theorem SD{O O1:AG}{a p CN CP:Addr}{v1 v3 v4 v5 v6 v7 v8:Option T}{Φ:BJ}{N' Bk Ct:OT}(B:Has P w K mg base CN CP)(hr:Room 7 (zL P w K mg base f cdv A outer s H E).X.A)(xf:XFly (zL P w K mg base f cdv A outer s H E).X (zL P w K mg base f cdv A outer s H E).W)(po:PO O p O1)
  (k:∀v6 v7 v8 O',N' (Kz a v1 (some (.raw (.ref p))) v3 v4 v5 v6 v7 v8) O'):HS (zL P w K mg base f cdv A outer s H E) (Kz a v1 (some (.raw (.ref p))) v3 v4 v5 v6 v7 v8) O1 ((JS (SL 0)).drop 10) {nx:=N',rt:=Φ,bk:=Bk,ct:=Ct}:=by
 refine An (Qk 6 7 rfl EM.nd (Lr (HV FV (ET.we AC (Iz B.gd (hr.mono (by decide)) xf po (ev 2) AC (by decide) (by decide) fun r1 O2 r10 r11 po2=>HW _ (Lr (HV FV (ET.we AC (Iz B.gd (hr.mono (by decide)) xf po2 (ev 2) AC (by decide) (by decide) fun r2 O3 r20 r21 po3=>HW _ (BR ⟨_,_,rfl,?_⟩))))))))))
 obtain⟨g,hg⟩:∃g:Nat,(3:Int)+r2=(g:Int):=⟨(3+r2).toNat,by omega⟩
 rw[hg]
 have last:∀{N:Nat} {ss:List Int},3≤N→N≤16→Hu N (2+r1) g ss→EB (zL P w K mg base f cdv A outer s H E) (Kz a v1 (some (.raw (.ref p))) v3 v4 v5 (some (.int (2+r1))) (some (.int (g:Int))) (some (.tup [.int (N:Int),AS ss]))) O3 (match (JS (SL 0)).getD 12 (.Pass ⟨0,0,0,0⟩) with| .If _ [.If c _ _ _] _ _=>c|_=> .Constant .none 0 ⟨0,0,0,0⟩) false:=fun{N ss} n0 n1 gs=>by
  refine EW.eb (EW.cast (Bm (x:=false) (y:=false) (EB.cast (QM (Al (t:=.int (N:Int)) (ev 8) AC) (AQ B.gi (hr.mono (by decide)) xf (AD (ev 6) (AD (ev 7) AB)) ⟨2+r1,g,rfl,by omega,by omega,by omega,rfl⟩)) (decide_eq_false (by have:=Ux gs n0 n1;omega))) fun _=>Bd (EB.cast (Ay (k:=true) (EB.cast (Da (FK B.gf (hr.mono (by decide)) xf (AD (AQ B.gw (hr.mono (by decide)) xf (AD (Al (t:=.int (N:Int)) (ev 8) AC) (AD (Al (t:=AS ss) (ev 8) AC) AB)) ⟨N,ss,rfl,n0,n1,gs.2.1,rfl⟩) (AD (ev 6) (AD (ev 7) AB))) fun Φ q=>Hq (g:=g) (DG (by omega) n1) (by omega) (by omega) (by omega) (by omega) q)) gs.2.2.2)) rfl)) rfl)
 refine An (Aa 8 (AW B.gl hr xf (EA.wa (AD (ev 6) (AD (ev 7) AB)) ⟨2+r1,g,rfl,by omega,by omega,by omega,?_,fun N ss n0 n1 gs=>?_⟩)) EM.nd)
 ·exact Ls (Ab (k:=false) (EB.cast (BF IA (Af _) (fun Φ p H v w Q ok r1 r2 q=> ⟨r2.non_inv,by cases r1.non_inv;exact q _ H _ _ p (.refl ok) (.bl _)⟩) (ev 8) Ca) rfl) (fun h=>by cases h) fun _=>Ac (k _ _ _ _))
 ·exact Ls (Ab (k:=true) (EB.cast (NX (t:=.tup [.int (N:Int),AS ss]) rfl (ev 8)) rfl) (fun _=>AF (Ab (k:=false) (last n0 n1 gs) (fun h=>by cases h) fun _=>Ac (k _ _ _ _))) fun h=>by cases h)
theorem SE{O:AG}{a CN CP:Addr}{v2 v3 v4 v5 v6 v7 v8:Option T}{c:Int}{Φ:BJ}{N' Bk Ct:OT}(B:Has P w K mg base CN CP)(hr:Room 7 (zL P w K mg base f cdv A outer s H E).X.A)(xf:XFly (zL P w K mg base f cdv A outer s H E).X (zL P w K mg base f cdv A outer s H E).W)
  (k:∀v2 v3 v4 v5 v6 v7 v8 O',N' (Kz a (some (.int c)) v2 v3 v4 v5 v6 v7 v8) O'):HS (zL P w K mg base f cdv A outer s H E) (Kz a (some (.int c)) v2 v3 v4 v5 v6 v7 v8) O (JS (SL 0)) {nx:=N',rt:=Φ,bk:=Bk,ct:=Ct}:=by
 refine An (Aa 2 (AW B.gp (hr.mono (by decide)) xf (EA.wa (AD (ev 1) AB) ⟨c,rfl,fun p xs hp px=>?_⟩)) EM.nd)
 refine An (Aa 3 (HV FV (ET.we AC (Iz B.gd (hr.mono (by decide)) xf (PO.start AI px) (ev 2) AC (by decide) (by decide) fun r1 O2 r10 r11 po=>HW _ ?_))) EM.nd)
 obtain⟨N,hN⟩:∃N:Nat,(3:Int)+r1=(N:Int):=⟨(3+r1).toNat,by omega⟩
 rw[hN]
 obtain⟨ys,hy,py⟩:=po.at
 refine An (Aa 4 (AW B.gy (hr.mono (by decide)) xf (EA.wa (AD (ev 2) (AD (ev 3) AB)) ⟨p,ys,N,rfl,hy,py,by omega,by omega,fun ss O3 st po3=>?_⟩)) EM.nd)
 have n0:3≤N:=by omega
 have n1:N≤16:=by omega
 refine An (Aa 5 (ET.we (AQ B.gw (hr.mono (by decide)) xf (AD (ev 3) (AD (ev 4) AB)) ⟨N,ss,rfl,n0,n1,st,rfl⟩) ?_) EM.nd)
 refine An (Qk 6 7 rfl EM.nd (EA.wa (AD (AQ B.gt (hr.mono (by decide)) xf (AD (ev 3) (AD (ev 4) AB)) ⟨N,ss,rfl,n0,n1,st,rfl⟩) (AD (AQ B.gr (hr.mono (by decide)) xf (AD (ev 3) (AD (ev 4) AB)) ⟨N,ss,rfl,n0,n1,st,rfl⟩) AB)) ⟨_,_,rfl,?_⟩))
 exact Uz B hr xf n0 n1 st (VA B hr xf n0 n1 st (Ot B hr xf n0 n1 st (SD B hr xf po3 fun _ _ _ _=>k _ _ _ _ _ _ _ _)))
theorem SF{a CN CP:Addr}{ns:List Int}{fC:Addr}{fdC:fF}(B:Has P w K mg base CN CP)(hr:Room 7 (zL P w K mg base f cdv A outer s H E).X.A)(xf:XFly (zL P w K mg base f cdv A outer s H E).X (zL P w K mg base f cdv A outer s H E).W)(hS:De K H a (ns.map V.int))(hn:ns.length≤63)
  (FC:FnOk P w K mg base (CXe P w) 1 fC fdC ["_law_script","_law_k"] (GT K)) (mC:mg "_law_cell_at" =some (.ref fC)) (kC:jP K (.ref fC)=true) (bC:Binds K fdC ["_law_script","_law_k"] []):HS (zL P w K mg base f cdv A outer s H E) (Dn Uy [.raw (.ref a)]) VU (Aw ML) {nx:=fun _ O'=>dJ .non O',rt:=dJ}:=by
 refine An (Th As.own rfl (SC hr xf hS hn rfl FC mC kC bC fun ms hm=> ⟨ms.map T.int,rfl,fun i ρ' O'=>∃v1 v2 v3 v4 v5 v6 v7 v8,ρ'=Kz a v1 v2 v3 v4 v5 v6 v7 v8,⟨none,none,none,none,none,none,none,none,rfl⟩,?_,?_⟩) (by intro _;rfl))
 ·rintro i t _ O1 e ⟨v1,v2,v3,v4,v5,v6,v7,v8,rfl⟩
  rw[fc] at e
  cases ec:ms[i]? with
  |none=>rw[ec] at e;cases e
  |some c=>
   rw[ec] at e
   cases e
   exact⟨Kz a (some (.int c)) v2 v3 v4 v5 v6 v7 v8,AX 1 EM.nd (by show 1<9;decide),SE B hr xf fun _ _ _ _ _ _ _ _=> ⟨_,_,_,_,_,_,_,_,rfl⟩⟩
 ·rintro _ _ ⟨v1,v2,v3,v4,v5,v6,v7,v8,rfl⟩
  exact Ls (AJ (ET.we VM rfl))
theorem Ym{fd:fF}{CN CP fC:Addr}{fdC:fF}(F:Fun K "law" "law" ML f fd)(B:Has P w K mg base CN CP)
  (FC:FnOk P w K mg base (CXe P w) 1 fC fdC ["_law_script","_law_k"] (GT K)) (mC:mg "_law_cell_at" =some (.ref fC)) (kC:jP K (.ref fC)=true) (bC:Binds K fdC ["_law_script","_law_k"] []):
  FnOk P w K mg base (CXe P w) 8 f fd ["_law_script"] (Nk K):=by
 refine aG F EM (fun vs H Q E h=>?_) (fun cdv A outer s H vs Q E hr h=>?_)
 ·obtain⟨a,ns,rfl,_⟩:=h
  rfl
 ·obtain⟨a,ns,rfl,hS,hn,k⟩:=h
  refine⟨[.raw (.ref a)],VU,dJ,fun _ _=>False,.cons (.raw _) .nil,QY,fun xf=>SF B hr xf hS hn FC mC kC bC,fun v H' t O' p f r=>?_,fun cls O' H' z=>z.elim⟩
  have p:t=T.bl true:=p
  subst p
  cases r.bl_inv
  exact k H'
end
theorem Yn{l:nX}{w:World}{K:a8}{h:Heap}{mg:Str→Option Value}{fa CNoPlace CNoNumber:Addr}{tMOST_PLACES tLEAST_PLACES tLEAST_TIES tMOST_TIES tLEAST_RING tMOST_RING:Tok}(X:K.In h)(G:h.Ns gS mg)(hfa:mg "law" =some (.ref fa))
  (H0:Fx K "is_whole" MD) (H1:Fx K "need_number" Ir) (H2:Fx K "is_rising" Cf) (H3:Fx K "least_told" Iv) (H4:Fx K "web_good" Xp) (H5:Fx K "ties_good" GS) (H6:Fx K "is_pair" NQ) (H7:Fx K "ties_of" EE) (H8:Fx K "is_place" ME) (H9:Fx K "nears_of" Iu) (H10:Fx K "fars_from" Hj) (H11:Fx K "even_by" NO) (H12:Fx K "ring_by_tie" UH) (H13:Fx K "shortest" Iw) (H14:Fx K "renamed" CH) (H15:Fx K "need_ties" Qu) (H16:Fx K "need_ring" Qv) (H17:Fx K "need_ties_and_ring" dB) (H18:Fx K "sum_of_powers" Xm) (H19:Fx K "grown_places" MF) (H20:Fx K "least_by_growth" Xn) (H21:Fx K "least_fit" Qw) (H22:Fx K "has_shorter_ring" Xo) (H23:Fx K "does_fit" NP) (H24:Fx K "fits" Qx) (H25:Fx K "need_many" Qy) (H26:Fx K "are_steps" UI) (H27:Fx K "steps_good" MG) (H28:Fx K "need_steps" MH) (H29:Fx K "web_turned" bh) (H30:Fx K "ties_turned" bj) (H31:Fx K "turned_web" MI) (H32:Fx K "turned_ties" MJ) (H33:Fx K "turned_ring" MK) (H34:Fx K "steps_of" DF) (H35:Fx K "all_steps" KR) (H36:Fx K "steps_that_fit" Qz) (H37:Fx K "by_turns" Xq) (H38:Fx K "least_by_turns" Iy) (H39:Fx K "_law_cell_at" RB) (H40:Fx K "_law_next" RC) (H41:Fx K "_law_pen_of" Xr) (H42:Fx K "_law_draw" RD) (H43:Fx K "_law_steps_by" bo) (H44:Fx K "law" ML)
  (zint:Zn K "int") (zbool:Zn K "bool") (ztuple:Zn K "tuple") (zlist:Zn K "list") (zset:Zn K "set") (zrange:Zn K "range") (zisinstance:Zn K "isinstance") (zmax:Zn K "max") (zmin:Zn K "min") (zlen:Zn K "len") (zall:Zn K "all") (zsorted:Zn K "sorted") (zrepr:Zn K "repr") (zValueError:Zn K "ValueError") (zany:Zn K "any") (zenumerate:Zn K "enumerate") (zzip:Zn K "zip") (vMOST_PLACES:jj K gS "MOST_PLACES" =some (some (.int 16 tMOST_PLACES))) (vLEAST_PLACES:jj K gS "LEAST_PLACES" =some (some (.int 3 tLEAST_PLACES))) (vLEAST_TIES:jj K gS "LEAST_TIES" =some (some (.int 2 tLEAST_TIES))) (vMOST_TIES:jj K gS "MOST_TIES" =some (some (.int 15 tMOST_TIES))) (vLEAST_RING:jj K gS "LEAST_RING" =some (some (.int 3 tLEAST_RING))) (vMOST_RING:jj K gS "MOST_RING" =some (some (.int 16 tMOST_RING))) (mNoPlace:Cn K "NoPlace" CNoPlace) (xNoPlace:j7 K CNoPlace OD "ValueError.__new__" =true) (mNoNumber:Cn K "NoNumber" CNoNumber) (xNoNumber:j7 K CNoNumber OD "ValueError.__new__" =true)
  :∃fd:fF,(∀(s:a9) (v:Value),pD s fd ⟨[v],[]⟩ [("_law_script",v)])∧∀base:Heap,K.In base→base.Ns gS mg→FnOk l.prog w K mg base (CXe l.prog w) 8 fa fd ["_law_script"] (Nk K):=by
 obtain⟨f0,d0,h0⟩:=H0
 obtain⟨f1,d1,h1⟩:=H1
 obtain⟨f2,d2,h2⟩:=H2
 obtain⟨f3,d3,h3⟩:=H3
 obtain⟨f4,d4,h4⟩:=H4
 obtain⟨f5,d5,h5⟩:=H5
 obtain⟨f6,d6,h6⟩:=H6
 obtain⟨f7,d7,h7⟩:=H7
 obtain⟨f8,d8,h8⟩:=H8
 obtain⟨f9,d9,h9⟩:=H9
 obtain⟨f10,d10,h10⟩:=H10
 obtain⟨f11,d11,h11⟩:=H11
 obtain⟨f12,d12,h12⟩:=H12
 obtain⟨f13,d13,h13⟩:=H13
 obtain⟨f14,d14,h14⟩:=H14
 obtain⟨f15,d15,h15⟩:=H15
 obtain⟨f16,d16,h16⟩:=H16
 obtain⟨f17,d17,h17⟩:=H17
 obtain⟨f18,d18,h18⟩:=H18
 obtain⟨f19,d19,h19⟩:=H19
 obtain⟨f20,d20,h20⟩:=H20
 obtain⟨f21,d21,h21⟩:=H21
 obtain⟨f22,d22,h22⟩:=H22
 obtain⟨f23,d23,h23⟩:=H23
 obtain⟨f24,d24,h24⟩:=H24
 obtain⟨f25,d25,h25⟩:=H25
 obtain⟨f26,d26,h26⟩:=H26
 obtain⟨f27,d27,h27⟩:=H27
 obtain⟨f28,d28,h28⟩:=H28
 obtain⟨f29,d29,h29⟩:=H29
 obtain⟨f30,d30,h30⟩:=H30
 obtain⟨f31,d31,h31⟩:=H31
 obtain⟨f32,d32,h32⟩:=H32
 obtain⟨f33,d33,h33⟩:=H33
 obtain⟨f34,d34,h34⟩:=H34
 obtain⟨f35,d35,h35⟩:=H35
 obtain⟨f36,d36,h36⟩:=H36
 obtain⟨f37,d37,h37⟩:=H37
 obtain⟨f38,d38,h38⟩:=H38
 obtain⟨f39,d39,h39⟩:=H39
 obtain⟨f40,d40,h40⟩:=H40
 obtain⟨f41,d41,h41⟩:=H41
 obtain⟨f42,d42,h42⟩:=H42
 obtain⟨f43,d43,h43⟩:=H43
 obtain⟨f44,d44,h44⟩:=H44
 have e:=hfa.symm.trans (PySem.W.mg_of X G h44.a)
 cases e
 have mm:∀{x:Str} {v:Value},jj K gS x=some (some v)→mg x=some v:=fun e=>PySem.W.mg_of X G e
 have nn:∀{x:Str},Zn K x→mg x=none:=fun e=>PySem.W.mg_none_of X G e
 have Tx:Txt mg:=⟨nn zint,nn zbool,nn ztuple,nn zlist,nn zset,nn zrange,nn zisinstance,nn zmax,nn zmin,nn zlen,nn zall,nn zsorted,nn zrepr,nn zValueError,nn zany,nn zenumerate,nn zzip,⟨tMOST_PLACES,mm vMOST_PLACES⟩,⟨tLEAST_PLACES,mm vLEAST_PLACES⟩,⟨tLEAST_TIES,mm vLEAST_TIES⟩,⟨tMOST_TIES,mm vMOST_TIES⟩,⟨tLEAST_RING,mm vLEAST_RING⟩,⟨tMOST_RING,mm vMOST_RING⟩⟩
 refine⟨d44,fun s v=>?_,fun base _ _=>?_⟩
 ·obtain⟨⟨_,_,_,_,_,_,_,_,_,rfl,_⟩,_⟩:=h44.F
  exact .of_eq rfl
 have M:Mg l.prog w K mg base:=⟨mm⟩
 have G0:=h0.t M (RA h0.F Tx) (h0.b3 rfl fun _ _ _ _ _ _ _ _ _=>rfl)
 have G1:=h1.t M (Xv h1.F (mm mNoNumber) xNoNumber G0) (h1.b3 rfl fun _ _ _ _ _ _ _ _ _=>rfl)
 have G2:=h2.t M (aw h2.F Tx) (h2.b1 rfl fun _ _ _ _ _ _ _=>rfl)
 have R2:=h2.t M (bI h2.F Tx) (h2.b1 rfl fun _ _ _ _ _ _ _=>rfl)
 have G3:=h3.t M (RU h3.F Tx) (h3.b1 rfl fun _ _ _ _ _ _ _=>rfl)
 have G6:=h6.t M (au h6.F Tx G0) (h6.b2 rfl fun _ _ _ _ _ _ _ _=>rfl)
 have G5:=h5.t M (az h5.F Tx G6 (G2.mono (by decide))) (h5.b2 rfl fun _ _ _ _ _ _ _ _=>rfl)
 have G4:=h4.t M (bB h4.F Tx (G0.mono (by decide)) G5) (h4.b1 rfl fun _ _ _ _ _ _ _=>rfl)
 have G7:=h7.t M (FnOk.mono (k:=2) (MO h7.F Tx) (by decide)) (h7.b1 rfl fun _ _ _ _ _ _ _=>rfl)
 have G8:=h8.t M (RI h8.F G0) (h8.b2 rfl fun _ _ _ _ _ _ _ _=>rfl)
 have G9:=h9.t M (RJ h9.F Tx) (h9.b1 rfl fun _ _ _ _ _ _ _=>rfl)
 have G10:=h10.t M (RO h10.F) (h10.b2 rfl fun _ _ _ _ _ _ _ _=>rfl)
 have G11:=h11.t M (UR h11.F Tx G9) (h11.b1 rfl fun _ _ _ _ _ _ _=>rfl)
 have G12:=h12.t M (Xz h12.F Tx G10) (h12.b3 rfl fun _ _ _ _ _ _ _ _ _=>rfl)
 have G13:=h13.t M (Rb h13.F G9 G12 G3) (h13.b1 rfl fun _ _ _ _ _ _ _=>rfl)
 have G14:=h14.t M (MS h14.F Tx (mm mNoPlace) xNoPlace G8 G7) (h14.b2 rfl fun _ _ _ _ _ _ _ _=>rfl)
 have G15:=h15.t M (UU h15.F Tx G1) (h15.b1 rfl fun _ _ _ _ _ _ _=>rfl)
 have G16:=h16.t M (UV h16.F Tx G1) (h16.b1 rfl fun _ _ _ _ _ _ _=>rfl)
 have G17:=h17.t M (aZ h17.F G15 G16) (h17.b2 rfl fun _ _ _ _ _ _ _ _=>rfl)
 have G18:=h18.t M (YC h18.F Tx) (h18.b2 rfl fun _ _ _ _ _ _ _ _=>rfl)
 have G19:=h19.t M (RZ h19.F G18) (h19.b2 rfl fun _ _ _ _ _ _ _ _=>rfl)
 have G20:=h20.t M (YD h20.F G17 G19) (h20.b2 rfl fun _ _ _ _ _ _ _ _=>rfl)
 have G21:=h21.t M (YL h21.F Tx G20) (h21.b2 rfl fun _ _ _ _ _ _ _ _=>rfl)
 have G22:=h22.t M (YF h22.F G13) (h22.b2 rfl fun _ _ _ _ _ _ _ _=>rfl)
 have G23:=h23.t M (UY h23.F G11 G22) (h23.b3 rfl fun _ _ _ _ _ _ _ _ _=>rfl)
 have G24:=h24.t M (UZ h24.F G17 G23) (h24.b3 rfl fun _ _ _ _ _ _ _ _ _=>rfl)
 have G25:=h25.t M (Uj h25.F Tx G1) (h25.b1 rfl fun _ _ _ _ _ _ _=>rfl)
 have G26:=h26.t M (Yd h26.F Tx G0 R2) (h26.b2 rfl fun _ _ _ _ _ _ _ _=>rfl)
 have G27:=h27.t M (Ru h27.F G25 G26) (h27.b2 rfl fun _ _ _ _ _ _ _ _=>rfl)
 have G28:=h28.t M (Rv h28.F G27) (h28.b2 rfl fun _ _ _ _ _ _ _ _=>rfl)
 have G29:=h29.t M (bL h29.F Tx G7) (h29.b2 rfl fun _ _ _ _ _ _ _ _=>rfl)
 have G30:=h30.t M (bM h30.F Tx) (h30.b2 rfl fun _ _ _ _ _ _ _ _=>rfl)
 have G31:=h31.t M (Ry h31.F G28 G29) (h31.b2 rfl fun _ _ _ _ _ _ _ _=>rfl)
 have G32:=h32.t M (Rz h32.F G28 G30) (h32.b2 rfl fun _ _ _ _ _ _ _ _=>rfl)
 have G33:=h33.t M (SA h33.F G28 G29 G13) (h33.b2 rfl fun _ _ _ _ _ _ _ _=>rfl)
 have G34:=h34.t M (Mb h34.F Tx G4 G9 G29) (h34.b1 rfl fun _ _ _ _ _ _ _=>rfl)
 have G35:=h35.t M (Ur h35.F Tx) (h35.b1 rfl fun _ _ _ _ _ _ _=>rfl)
 have G36:=h36.t M (Yj h36.F G19 G35 G30 G29 G23) (h36.b3 rfl fun _ _ _ _ _ _ _ _ _=>rfl)
 have G37:=h37.t M (Yk h37.F G25 G17 G36) (h37.b3 rfl fun _ _ _ _ _ _ _ _ _=>rfl)
 have G38:=h38.t M (Oq h38.F Tx G17 G36) (h38.b2 rfl fun _ _ _ _ _ _ _ _=>rfl)
 have W39:FnOk l.prog w K mg base (CXe l.prog w) 1 f39 _ _ (GT K):=UL h39.F Tx
 have G40:=h40.t M (UM h40.F) (h40.b1 rfl fun _ _ _ _ _ _ _=>rfl)
 have G41:=h41.t M (Xu h41.F Tx) (h41.b1 rfl fun _ _ _ _ _ _ _=>rfl)
 have G42:=h42.t M (UN h42.F G40) (h42.b2 rfl fun _ _ _ _ _ _ _ _=>rfl)
 have G43:=h43.t M (bS h43.F Tx G42) (h43.b2 rfl fun _ _ _ _ _ _ _ _=>rfl)
 exact Ym h44.F ⟨Tx,G42,G41,G43,G31,G32,G33,G11,G13,G34,G27,G14,G37,G24,G38,G21⟩ W39 (mm h39.a) h39.F.kp (h39.b2 rfl fun _ _ _ _ _ _ _ _=>rfl)
theorem walk{l:nX}{q:Program}{loose:List Str}{XP:(Str→Option Value)→Heap→Prop}{YP:World→Heap→Prop}{d:DefRec}{K:Params→a8}(hn:l.most=some 63)(hdf:d.params.defaults=[])
  (hY:∀(w:World) (h:Heap),YP w h→(K w.params).In h)
  (F:∀(w:World) (mg:Str→Option Value) (fa:Addr) (h:Heap),(K w.params).In h→h.Ns gS mg→mg d.name=some (.ref fa)→
   ∃fd:fF,(∀(s:a9) (u:Value),pD s fd ⟨[u],[]⟩ [("_law_script",u)])∧∀base:Heap,(K w.params).In base→base.Ns gS mg→FnOk l.prog w (K w.params) mg base (CXe l.prog w) 8 fa fd ["_law_script"] (Nk (K w.params))):
  PySem.W.WalkO q loose XP YP l.row.toRowW d [] (fun f vs=>PySem.call f vs):=
 L2.Si (n:=63) (k:=8) (x:="_law_script") (CX:=fun w=>CXe l.prog w) (sp:=fun w=>Nk (K w.params)) hn (by decide) hdf ⟨rfl,by decide,by decide,rfl⟩ hY F (fun _ _ a ns hl _ hS=> ⟨a,ns,rfl,hS,hl,fun _=>rfl⟩) fun _ _ _ _ _ z=>z.never
end K35
open PySem PySem.W PyProof.Rows
set_option maxRecDepth 100000 in
set_option maxHeartbeats 0 in
theorem PySem.Challenge.cw_noshortring_k35_whole_turns_holds : PySem.Challenge.rw_noshortring_k35_whole_turns.Holds := by
 w_on;o_law
 refine PySem.W.holds_open (q:=K35.kq) (loose:=[]) (Xt:=fun s=>pj K35.kq [] s&&oO [] s) (XP:=PySem.W.XL K35.kq []) (Yf:=fun s=>K35.ka.map s.heap.get?) (Ya:=fun w=> (K35.Kk w.params).map fun(p:Addr×Obj)=>some p.2) (YP:=pJ K35.Kk) (N:=4558) K35.left (pJ.of fun _=>by kernel_rfl) pJ.keeps (fun s e=>xl_of s (Bool.and_eq_true_iff.mp e).1) XL.keeps (by rfl) (by rfl) (by rfl) (fun s e=>recFacts_of (Bool.and_eq_true_iff.mp e).2) (by rfl) (by first|assumption|decide+kernel) (by first|k_qdec|decide+kernel) ⟨rfl,rfl,rfl,rfl,rfl,by decide+kernel⟩ ?hw ?hc
 (case hw=>w_witness2)
 k_fill
 refine K35.walk (l:=PySem.Challenge.rw_noshortring_k35_whole_turns) rfl rfl (fun w h Y=>Y) ?F
 case F=>
  intro w mg fa h KX G hmg
  refine' K35.Yn KX G hmg ?H0 ?H1 ?H2 ?H3 ?H4 ?H5 ?H6 ?H7 ?H8 ?H9 ?H10 ?H11 ?H12 ?H13 ?H14 ?H15 ?H16 ?H17 ?H18 ?H19 ?H20 ?H21 ?H22 ?H23 ?H24 ?H25 ?H26 ?H27 ?H28 ?H29 ?H30 ?H31 ?H32 ?H33 ?H34 ?H35 ?H36 ?H37 ?H38 ?H39 ?H40 ?H41 ?H42 ?H43 ?H44 ?zint ?zbool ?ztuple ?zlist ?zset ?zrange ?zisinstance ?zmax ?zmin ?zlen ?zall ?zsorted ?zrepr ?zValueError ?zany ?zenumerate ?zzip ?vMOST_PLACES ?vLEAST_PLACES ?vLEAST_TIES ?vMOST_TIES ?vLEAST_RING ?vMOST_RING ?mNoPlace ?xNoPlace ?mNoNumber ?xNoNumber
  case H0|H1|H2|H3|H4|H5|H6|H7|H8|H9|H10|H11|H12|H13|H14|H15|H16|H17|H18|H19|H20|H21|H22|H23|H24|H25|H26|H27|H28|H29|H30|H31|H32|H33|H34|H35|H36|H37|H38|H39|H40|H41|H42|H43|H44=> (refine' L2.TL.fi ?a ?l ?q ?k;(case a=>k_is);(case l=>k_is);(case q=>k_is);(case k=>k_is))
  case zint|zbool|ztuple|zlist|zset|zrange|zisinstance|zmax|zmin|zlen|zall|zsorted|zrepr|zValueError|zany|zenumerate|zzip=> (delta L2.TL.Zn;k_is)
  case mNoPlace|mNoNumber=> (delta L2.TL.Cn;k_is)
  case vMOST_PLACES=>k_is
  case vLEAST_PLACES=>k_is
  case vLEAST_TIES=>k_is
  case vMOST_TIES=>k_is
  case vLEAST_RING=>k_is
  case vMOST_RING=>k_is
  case xNoPlace=>k_exc
  case xNoNumber=>k_exc
