import PyProof.Rows.All
import Wide.All
import OpenK.AllK
import Wide.FinOn
import Lean
import PyProof.EqAt
import PyProof.EqKinds
import PyProof.TupleCall
import PySem.Challenge.RW_noshortring_k19_whole_fewest_places
noncomputable section
open Array renaming length_toList→dg,getElem?_toList→dQ,getElem?_eq_some_iff→eX,toList_extract→fb,toList_reverse→fB,toList_append→gO,toList_push→iy,ext'→jo,getD→km,toList_map→kR,replicate→lA
open Bool renaming false_ne_true→b6,false_eq_true→dJ,and_eq_true→dS,not_eq_true'→fO,not_true→jf,eq_iff_iff→jj,or_eq_true→jR,not_eq_false'→kl,not_false→lO,and_false→lP,true_and→l7
open Classical renaming byContradiction→fU
open False renaming elim→iB
open ForInStep renaming yield→gx
open Int renaming eq_ofNat_of_zero_le→dz,toNat_natCast→dY,emod_lt_of_pos→gG,le_of_lt→gH,le_trans→gQ,le_refl→gR,emod_nonneg→ig,toNat_of_nonneg→iF,mul_le_mul_of_nonneg_right→iK,le_total→ja,min_eq_right→jF,min_eq_left→jQ,max_eq_right→kP,natCast_mul→lj,max_eq_left→lu,le_antisymm→lz,pow_succ→mD,add_mul→mS
open List renaming mem_singleton→a8,length_map→a9,getElem?_map→b8,getElem?_eq_getElem→b9,mem_of_getElem?→dc,mem_cons_of_mem→df,mem_cons→dh,mem_map→di,getElem?_eq_some_iff→dj,length_cons→dm,size_toArray→du,range→dv,mem_append→dw,nodup_cons→dE,map_cons→dF,length_append→dH,getElem?_append_right→dI,mem_cons_self→dR,mem_range→dW,Pairwise→dX,getElem?_append_left→dZ,getElem?_set_ne→ef,mem_filter→et,getElem?_set_self→eB,extract_eq_drop_take→eC,getElem?_of_mem→eD,map_append→eG,nodup_append→eH,map_map→eJ,getD_eq_getElem?_getD→eK,lookup_cons→eO,getLast?_cons_cons→eP,mem_append_right→eS,pairwise_map→eT,length_take→eU,cons_append→eZ,all_eq_true→e6,pairwise_iff_getElem→e7,length_range→fk,getElem?_eq_none→fo,filterMap_cons→fq,replicate→fu,not_mem_nil→fv,nodup_iff_pairwise_ne→fw,ext_getElem?→fA,getLast?_eq_some_iff→fD,getElem_mem→fI,append_assoc→fM,take_length→fR,take_add_one→fW,take_append_drop→fY,getElem?_drop→gh,mem_of_getLast?→gj,mem_append_left→gk,getElem?_replicate→gm,pairwise_lt_range→gw,perm_append_comm→gB,length_replicate→gC,mem_filterMap→gF,getLast?_append→gJ,length_nil→gN,drop_eq_getElem_cons→gY,length_set→hV,getD→hZ,append_nil→ic,Perm→ie,getElem?_take_of_lt→iA,getElem?_range→iE,pairwise_singleton→iI,getElem?_cons_succ→iJ,pairwise_cons→iO,mem_flatMap→i8,length_drop→i9,getElem_of_mem→jb,reverse_cons→jx,map_nil→jy,length_pos_of_mem→jz,length_filter_le→jA,getElem_map→jE,pairwise_append→jM,reverse_append→jS,mem_map_of_mem→jT,toArray→jZ,getElem?_take→kj,head?_append→kz,filter_cons→kO,map_set→k4,of_mem_zip→lh,take_zero→lN,map_id→mR,cons→nj
open List.Pairwise renaming imp_of_mem→fJ,nil→iw,filter→iZ,map→kA
open Nat renaming le_refl→de,lt_of_lt_of_le→dG,ne_of_lt→dU,le_trans→eY,lt_irrefl→e9,zero_le→fj,lt_succ_of_lt→gq,zero_add→ip,lt_trichotomy→iq,le_of_lt→iu,lt_succ_self→iH,not_lt_zero→ji,le_of_not_lt→jD,succ_pos→jX,ne_of_gt→jY,lt_of_le_of_lt→ki,le_of_succ_le→ky,add_assoc→l0,mod_lt→md,succ_add→mw,pow_succ→mx,mul_comm→my,lt_trans→mz
open Option renaming some→eu,isSome→kK
open Or renaming inr→ke,inl→kg
open Prod renaming ext→fZ,fst→gi
open Prod.mk renaming injEq→lZ
open PyProof.Rows renaming wpS_bind→b7,wpS_pure→da,SortSt→eF,seqObj→eQ,wpS_forRange→eV,wpS_mono→fT,failedOf→iG,wpS_modify→iL,envOfC→iN,callWith_type1→iU,SortKind→iY,wpS_get→jg,wpS_lift→jJ,get?_update_seq→jP,AllBare→j0,setPending→j7,assignInOrder_cons→j9,listUpdate_at→kG,entry_list_sort→k7,slot_list_sort→lC,seqEpoch_at→lD,args_list_sort→lH,minRun'→lT,plain_sorted→me,entry_sorted→mh,args_sorted1→ml,kind_sorted→mO
open PyProof.Rows.F renaming plain_set_update_loop→fV
open PyProof.Rows.SortSt renaming mk'→kc
open PySem renaming wpAny_bind→a6,Shared→a7,starEach→b4,wpAny_pure→b5,Spec→dt,Around→dy,FuncData→dM,bootBuiltins→eE,wpAny_holding→eW,sizeLine_eq→e8,mainGlobals→fg,SetTable→fh,compareOp→fm,wpAny_setState_of→fK,foldedSetIterable→fL,cellsFrom→fX,assignEach→gD,PyData→gE,backTo→gI,wpAny_truthy_bool→gL,codeAny_builtin→gM,wpAny_call_entry→gS,wpAny_passesOwn→gZ,wpAny_newObj_type→il,Builtin→iz,mem_of_lookup→iC,wpAny_mono→iM,plainId_quiet→iQ,wpAny_rule→iV,codeAny_call_builtin→iX,wpAny_eqBool_int→i5,codeAny→i6,wpAny_standAt→jd,wpAny_attempt→je,wpAny_Call_Name_kw→jk,sliceBounds→jq,wpAny_tryCatch→jt,wpAny_seqItems→ju,binaryOp→jv,wpAny_askSetting→jB,swapsWith→jC,wpAny_newList→jG,swapsWithSole→jH,swappedStores→jI,wpAny_execs_nil→jN,letOwnedTupleGo→jO,codeAny_mono→jW,pickOrder→j4,PassesOwn→j5,wpAny_setField_rec→j6,pyNext→j8,wpAny_pyIter_list→ko,wpAny_of_eq→kr,ofAClassStatement→ku,Keyword→kB,attributeBase→kH,wpAny_forIn_list→kL,checkBuiltinCall→kM,wpAny_call→kS,rawInt→kT,argBest→kU,wpAny_updateSeq→k6,wpAny_letGo→lB,newFunctionEnv→lE,keywordEach→lF,isSubtype_type→lG,Operator→lM,seqIndex?→lR,pushCells→lS,callerA→lU,rangeSize_one→lV,frameOf→lX,setEntries→l8,pyIter→l9,builtinsNs→ma,entryPlaceOf→mi,compEnvC→mj,Within→mn,BindsTo→mH,Result→mK,seqIndex_of→mM,backToKw→mY,Fin→ni
open PySem.Around renaming under_plainId→gK
open PySem.Builtin.Range renaming rangeSize→js
open PySem.Challenge renaming pw_noshortring_k19_whole_fewest_places→dO
open PySem.EntryCells renaming newEntry→jV
open PySem.Expr renaming Call→mL
open PySem.F renaming plain_min_loop→gT,entry_min_loop→kQ
open PySem.Heap renaming get?_push_of_some→c9,lt_size→dr,get?_push_size→dN,get?_update_other→fS,size_push→gc,SameBut→iP,get?_update_self→iT,get?_update_ne→jc,FlyingW→mF
open PySem.Heap.SameBut renaming update→jU
open PySem.NameKind renaming cell→iS
open PySem.Obj renaming mapSeq→fP,putSet→kh
open PySem.PyData renaming eqv→gX
open PySem.SeqAt renaming EqAt→fE,RcNeAt→kZ
open PySem.SetTable renaming insertAt→gz,runEnd→iW,sizeAbove→lQ,fill→lW
open PySem.SetTable.below renaming go→mX
open PySem.SetTable.probe renaming go→jK
open PySem.Value renaming type→jl,none→jm,int→jr,bool→kb,str→mJ
open PySem.W renaming Frag→a5,kitOne→dP,openGood→fc,kia_one→fH,excIn→fQ,nsIn→gP,kitCls→gU,keepIn→gW,hideAll_get→iD,Looks→iR,fnOf→i7,hideAll→jh,of_hideAll→jn,findIn→jw,looks_findIn→jL,methodObj→kv,mroIn→kI,clsIn→kJ,kat_cons→kN,kat_yes→k8,instObj→k9,OpenLaw→lg,lookIn→lI,kat_no→lJ,kat_go→lK,codeIn→lL,recOk→lY,xlAt→mq,KatTups→mB,InK→mQ
open PySem.W.Fast renaming te14364793385576792824→fz,tw4187177175401517315→fF,te4187177175401517315→fG
open PySem.pickOrder renaming go→mf
open Sum renaming inr→kX,inl→kY
open True renaming intro→kW
set_option Elab.async false
set_option linter.all false
set_option maxRecDepth 100000
namespace L2
open PySem PySem.Spec PyProof.Rows
abbrev Ja:=Sum Int Str
def UY:Ja→Value→Bool
 | .inl k,v=>Value.isInt k v
 | .inr x,v=>Value.isStrOf x v
def aJ(w:World):Ja→Int
 | .inl k=>hashInt k
 | .inr x=>hashStr w x
theorem Ak:∀{k:Ja} {v:Value},UY k v=true→(∃i t,k=kY i∧v=jr i t)∨(∃x t,k=kX x∧v=mJ x t)
 | .inl i,v,h=>by
  obtain⟨t,e⟩:=Value.isInt_shape (k:=i) (v:=v) h
  exact .inl ⟨i,t,rfl,e⟩
 | .inr x,v,h=>by
  obtain⟨t,e⟩:=Value.isStrOf_shape (x:=x) (v:=v) h
  exact .inr ⟨x,t,rfl,e⟩
theorem VF(a b:Int):decide ((kY a:Ja)=kY b)=(a==b):=by
 by_cases e:a=b
 ·subst e;simp
 ·have h:¬(kY a:Ja)=kY b:=fun q=>e (kY.inj q)
  rw[decide_eq_false h]
  exact(beq_eq_false_iff_ne.mpr e).symm
theorem VG(a b:Str):decide ((kX a:Ja)=kX b)=decide (a=b):=by
 by_cases e:a=b
 ·subst e;simp
 ·have h:¬(kX a:Ja)=kX b:=fun q=>e (kX.inj q)
  rw[decide_eq_false h,decide_eq_false e]
theorem VH(a:Int)(b:Str):decide ((kY a:Ja)=kX b)=false:=decide_eq_false (fun q=>nomatch q)
theorem VI(a:Str)(b:Int):decide ((kX a:Ja)=kY b)=false:=decide_eq_false (fun q=>nomatch q)
def IG(prog:Program)(w:World):PySem.KeyKind prog w Ja where
 is:=UY
 hash:=aJ w
 inj:=fun v a b ha hb=>by
  rcases Ak ha with⟨i,t,rfl,rfl⟩| ⟨x,t,rfl,rfl⟩
  ·rcases Ak hb with⟨j,u,rfl,e⟩| ⟨y,u,rfl,e⟩
   ·injection e with e1 _;rw[e1]
   ·exact nomatch e
  ·rcases Ak hb with⟨j,u,rfl,e⟩| ⟨y,u,rfl,e⟩
   ·exact nomatch e
   ·injection e with e1 _;rw[e1]
 byValue:=fun k v h=>by
  rcases Ak h with⟨i,t,rfl,rfl⟩| ⟨x,t,rfl,rfl⟩<;>rfl
 pyHash:=fun hv h=>by
  rcases Ak hv with⟨i,t,rfl,rfl⟩| ⟨x,t,rfl,rfl⟩
  ·exact wpAny_pyHash_int h
  ·exact wpAny_pyHash_str h
 eqBool:=fun hu hv h=>by
  rcases Ak hu with⟨i,t,rfl,rfl⟩| ⟨x,t,rfl,rfl⟩
  ·rcases Ak hv with⟨j,u,rfl,rfl⟩| ⟨y,u,rfl,rfl⟩
   ·rw[VF] at h;exact i5 h
   ·rw[VH] at h;exact fE.int_str i t y u _ _ _ _ h
  ·rcases Ak hv with⟨j,u,rfl,rfl⟩| ⟨y,u,rfl,rfl⟩
   ·rw[VI] at h;exact fE.str_int x t j u _ _ _ _ h
   ·rw[VG] at h;exact wpAny_eqBool_str h
 «strs»:=fun k x t v h=>by
  rcases Ak h with⟨i,u,rfl,e⟩| ⟨y,u,rfl,e⟩
  ·exact nomatch e
  ·injection e with e1 _
   subst e1
   cases v<;>rfl
inductive V where
 |non|bl (b:Bool)|int (i:Int)|str (x:Str)|byt (b:Array UInt8)|flt (b:UInt64)|ref (a:Addr)|ty (n:String)
 deriving DecidableEq
def RelV:V→Value→Prop
 | .non,u=>u=jm
 | .bl b,u=>u=kb b
 | .int i,u=>∃t,u=jr i t
 | .str x,u=>∃t,u=mJ x t
 | .byt b,u=>∃t,u=Value.bytes b t
 | .flt b,u=>∃t,u=Value.float b t
 | .ref a,u=>u=Value.ref a
 | .ty n,u=>u=jl n
abbrev Vals:List V→List Value→Prop:=Paired RelV
theorem Vals.length{xs:List V}{us:List Value}(r:Vals xs us):xs.length=us.length:=Paired.length r
theorem Vals.get:∀{xs:List V} {us:List Value} {i:Nat} {x:V},Vals xs us→xs[i]?=some x→∃u,us[i]?=some u∧RelV x u
 |_,_,_,_,.nil,e=>by simp at e
 |_,_,0,_,.cons r _,e=>by simp at e;subst e;exact⟨_,rfl,r⟩
 |_,_,i+1,x,.cons _ t,e=>by
  obtain⟨u,h1,h2⟩:=Vals.get (i:=i) (x:=x) t (by simpa using e)
  exact⟨u,by simpa using h1,h2⟩
theorem Vals.set{x:V}{u:Value}(r:RelV x u):∀{xs:List V} {us:List Value} (i:Nat),Vals xs us→Vals (xs.set i x) (us.set i u)
 |_,_,_,.nil=> .nil
 |_,_,0,.cons _ t=> .cons r t
 |_,_,i+1,.cons q t=> .cons q (Vals.set r i t)
theorem Vals.append:∀{xs ys:List V} {us ws:List Value},Vals xs us→Vals ys ws→Vals (xs++ys) (us++ws)
 |_,_,_,_,.nil,s=>s
 |_,_,_,_,.cons r t,s=> .cons r (Vals.append t s)
theorem Vals.take:∀{xs:List V} {us:List Value} (n:Nat),Vals xs us→Vals (xs.take n) (us.take n)
 |_,_,0,_=> .nil
 |_,_,_+1,.nil=> .nil
 |_,_,n+1,.cons r t=> .cons r (Vals.take n t)
theorem Vals.drop:∀{xs:List V} {us:List Value} (n:Nat),Vals xs us→Vals (xs.drop n) (us.drop n)
 |_,_,0,r=>r
 |_,_,_+1,.nil=> .nil
 |_,_,n+1,.cons _ t=>Vals.drop n t
def SJ:Option V→Option Value→Prop
 |some v,some u=>RelV v u
 |none,none=>True
 |_,_=>False
def KV{κ:Type}:List (κ×V)→List (κ×Value)→Prop:=Paired fun(p:κ×V) (q:κ×Value)=>p.1=q.1∧RelV p.2 q.2
def kV:Ja→V
 | .inl i=> .int i
 | .inr x=> .str x
inductive HO where
 /-- a list -/
 | lst (xs:List V)
 /-- a tuple (never changes) -/
 | tup (xs:List V)
 /-- a dict whose keys are ints and texts; one whose keys are tuples of ints and texts (the empty one is both) -/
 | dK (kvs:List (Ja × V)) | dT (kvs:List (List Ja × V))
 /-- a set of ints: its members,its size -/
 | set (S:Int→Bool) (n:Nat)
 /-- an instance of the class at C,its dict at dx,its attributes -/
 | ins (C dx:Addr) (fs:List (Str × V))
 /-- the dict of the instance at x -/
 | own (x:Addr)
 /-- the dict of an exception -/
 | xd (fs:List (Str × V))
 /-- a bound method,f of x -/
 | met (f x:Addr)
 /-- a range object lo,lo + 1,.. below hi -/
 | rng (lo hi:Int)
 /-- a thing that is known to the object (the script; a dict while a loop walks it): read,never written while it is so -/
 | frz (o:Obj) (u:HO)
 /-- a code object's table -/
 | tbl (ps:Array Value)
 /-- any other thing,by what is true of its one object (a def of one's own: SetO a S n:=HO.ext fun h => ..) -/
 | ext (φ:Heap→Prop)
abbrev Hp:=Addr→Option HO
def upd(H:Hp)(a:Addr)(o:HO):Hp:=fun b=>if b=a then some o else H b
theorem AZ{H:Hp}{a:Addr}{o:HO}:upd H a o a=some o:=by unfold upd;rw[if_pos rfl]
theorem Ab{H:Hp}{a b:Addr}{o:HO}(h:b≠a):upd H a o b=H b:=by unfold upd;rw[if_neg h]
theorem AX{H:Hp}{a b:Addr}{o:HO}(h:H a=some o)(h':H b=none):a≠b:=by
 intro e;subst e;rw[h] at h';cases h'
section
variable(P:Program)(w:World)
def ObjOk(H:Hp)(h:Heap)(a:Addr):HO→Prop
 | .lst xs=>xs.length≤sizeLine∧∃(its:List Value) (n:Nat),Vals xs its∧h.get? a=some {cls:=.type "list",data:=.seq its.toArray n}
 | .tup xs=>xs.length≤sizeLine∧∃its:List Value,Vals xs its∧IsTup h a its.toArray
 | .dK kvs=>kvs.length≤sizeLine∧(a==sysModules)=false∧∃vs,KV kvs vs∧h.DictOf (IG P w) a vs
 | .dT kvs=>kvs.length≤sizeLine∧(a==sysModules)=false∧∃xs:List (List Ja×Addr×Value),
   Paired (fun(p:List Ja×V) (q:List Ja×Addr×Value)=>p.1=q.1∧H q.2.1=some (.tup (p.1.map kV))∧RelV p.2 q.2.2) kvs xs∧
   ∃o es ep,h.get? a=some o∧o.ExactDict∧o.data=.dict es ep∧es.toList=xs.map (entryOfKey (tupleKind (IG P w)))∧(xs.map (·.1)).Nodup
 | .set S n=>h.SetOf (intKind P w) a S n
 | .ins C dx fs=>H dx=some (.own a)∧fs.length≤1000∧dx≠a∧h.get? a=some (k9 C dx)∧
   ∃mA,h.Ns1 dx mA∧(∀f,SJ (fs.lookup f) (mA f))∧mn mA (fs.map (·.1))
 | .own _=>∃o,h.get? a=some o
 | .xd fs=>∃mA,h.Ns1 a mA∧∀f,SJ (fs.lookup f) (mA f)
 | .rng lo hi=>∃t u v,h.get? a=some {cls:=.type "range",data:=.fields #[.int lo t,.int hi u,.int 1 v]}
 | .frz o u=>h.get? a=some o∧ObjOk H h a u
 | .tbl ps=>h.get? a=some {cls:=.none,data:=.fields ps}
 | .met f x=>h.get? a=some (kv (.ref f) (.ref x))
 | .ext φ=>φ h∧(∃o,h.get? a=some o)∧∀h1 h2:Heap,φ h1→(∀o,h1.get? a=some o→h2.get? a=some o)→φ h2
def HOk(H:Hp)(h:Heap):Prop:=∀a o,H a=some o→ObjOk P w H h a o
end
section
variable{P:Program}{w:World}{H H':Hp}{h h':Heap}{a:Addr}{o:HO}
theorem ObjOk.lt(x:ObjOk P w H h a o):a<h.objs.size:=by
 cases o with
 |lst xs=>obtain⟨_,_,_,_,e⟩:=x;exact dr e
 |tup xs=>obtain⟨_,_,_,p⟩:=x;exact p.lt
 |dK kvs=>obtain⟨_,_,_,_,o,_,_,e,_⟩:=x;exact dr e
 |dT kvs=>obtain⟨_,_,_,_,o,_,_,e,_⟩:=x;exact dr e
 |set S n=>obtain⟨o,_,_,_,e,_⟩:=x;exact dr e
 |ins C dx fs=>obtain⟨_,_,_,e,_⟩:=x;exact dr e
 |own y=>obtain⟨_,e⟩:=x;exact dr e
 |xd fs=>obtain⟨_,⟨_,_,_,e,_⟩,_⟩:=x;exact dr e
 |rng lo hi=>obtain⟨_,_,_,e⟩:=x;exact dr e
 |frz ob u=>obtain⟨e,_⟩:=x;exact dr e
 |tbl ps=>exact dr (show h.get? a=some _ from x)
 |met f y=>exact dr (show h.get? a=some _ from x)
 |ext φ=>obtain⟨_,⟨_,e⟩,_⟩:=x;exact dr e
theorem Paired.mapP{α β:Type}{F G:α→β→Prop}:∀{l₁:List α} {l₂:List β},Paired F l₁ l₂→(∀a b,F a b→G a b)→Paired G l₁ l₂
 |_,_,.nil,_=> .nil
 |_,_,.cons r t,f=> .cons (f _ _ r) (Paired.mapP t f)
theorem ObjOk.stay(x:ObjOk P w H h a o)(k:∀b u,(b=a∨H b=some (.own a))→h.get? b=some u→h'.get? b=some u)
  (ho:∀b,H b=some (.own a)→H' b=some (.own a)) (ht:∀b xs,H b=some (.tup xs)→H' b=some (.tup xs)):ObjOk P w H' h' a o:=by
 induction o with
 |lst xs=>obtain⟨z,its,n,r,e⟩:=x;exact⟨z,its,n,r,k _ _ (.inl rfl) e⟩
 |tup xs=>obtain⟨z,its,r,ob,e,c⟩:=x;exact⟨z,its,r,ob,k _ _ (.inl rfl) e,c⟩
 |dK kvs=>obtain⟨z,y,vs,r,ob,es,ep,e,c⟩:=x;exact⟨z,y,vs,r,ob,es,ep,k _ _ (.inl rfl) e,c⟩
 |dT kvs=>
  obtain⟨z,y,xs,r,ob,es,ep,e,c⟩:=x
  exact⟨z,y,xs,Paired.mapP r fun p q z=> ⟨z.1,ht _ _ z.2.1,z.2.2⟩,ob,es,ep,k _ _ (.inl rfl) e,c⟩
 |set S n=>obtain⟨ob,es,ep,t,e,c⟩:=x;exact⟨ob,es,ep,t,k _ _ (.inl rfl) e,c⟩
 |ins C dx fs=>
  obtain⟨d,z,ne,e,mA,⟨od,es,ep,e2,c⟩,r⟩:=x
  exact⟨ho _ d,z,ne,k _ _ (.inl rfl) e,mA,⟨od,es,ep,k _ _ (.inr d) e2,c⟩,r⟩
 |own y=>obtain⟨ob,e⟩:=x;exact⟨ob,k _ _ (.inl rfl) e⟩
 |xd fs=>obtain⟨mA,⟨od,es,ep,e,c⟩,r⟩:=x;exact⟨mA,⟨od,es,ep,k _ _ (.inl rfl) e,c⟩,r⟩
 |rng lo hi=>obtain⟨t,u,v,e⟩:=x;exact⟨t,u,v,k _ _ (.inl rfl) e⟩
 |frz ob u ih=>obtain⟨e,q⟩:=x;exact⟨k _ _ (.inl rfl) e,ih q⟩
 |tbl ps=>
  have e:h.get? a=some {cls:=.none,data:=.fields ps}:=x
  show h'.get? a=some {cls:=.none,data:=.fields ps}
  exact k a _ (.inl rfl) e
 |met f y=>
  have e:h.get? a=some (kv (.ref f) (.ref y)):=x
  show h'.get? a=some (kv (.ref f) (.ref y))
  exact k a _ (.inl rfl) e
 |ext φ=>obtain⟨p,⟨o,e⟩,st⟩:=x;exact⟨st _ _ p fun o q=>k _ _ (.inl rfl) q,⟨o,k _ _ (.inl rfl) e⟩,st⟩
theorem HOk.lt(x:HOk P w H h)(e:H a=some o):a<h.objs.size:=(x a o e).lt
theorem HOk.fresh(x:HOk P w H h)(e:h.objs.size≤a):H a=none:=by
 cases q:H a with
 |none=>rfl
 |some u=>exact absurd (dG (x.lt q) e) (e9 _)
theorem HOk.kept(x:HOk P w H h)(k:∀b u,h.get? b=some u→h'.get? b=some u):HOk P w H h':=fun a o e=>
 (x a o e).stay (fun b u _ q=>k b u q) (fun _ q=>q) fun _ _ q=>q
theorem HOk.laid(x:HOk P w H h)(k:∀b u,h.get? b=some u→h'.get? b=some u)(hp:h.objs.size≤a)(new:ObjOk P w (upd H a o) h' a o):HOk P w (upd H a o) h':=fun b u e=>by
 have hn:=x.fresh hp
 by_cases hb:b=a
 ·subst hb;rw[AZ] at e;cases e;exact new
 ·rw[Ab hb] at e
  exact(x b u e).stay (fun c v _ q=>k c v q) (fun c q=>by rw[Ab (AX q hn)];exact q) fun c xs q=>by rw[Ab (AX q hn)];exact q
end
def Rd(H:Hp)(a:Addr)(u:HO):Prop:=H a=some u∨∃o,H a=some (.frz o u)
theorem Rd.ok{P:Program}{w:World}{H:Hp}{h:Heap}{a:Addr}{u:HO}(r:Rd H a u)(x:HOk P w H h):ObjOk P w H h a u:=by
 rcases r with r| ⟨o,r⟩
 ·exact x a u r
 ·obtain⟨_,q⟩:=x a _ r
  exact q
def Zy:Option HO→Prop
 |some (.lst _)=>True
 |some (.dK _)=>True
 |some (.dT _)=>True
 |some (.set _ _)=>True
 |some (.ins _ _ _)=>True
 |some (.ext _)=>True
 |_=>False
section
variable{P:Program}{w:World}{H:Hp}{h h':Heap}{x e:Addr}{o':HO}
theorem HOk.write(ok:HOk P w H h)(mu:Zy (H x))(he:e=x∨H e=some (.own x))(k:∀b u,b≠e→h.get? b=some u→h'.get? b=some u)(heo:∃u,h'.get? e=some u)
  (new:ObjOk P w (upd H x o') h' x o'):HOk P w (upd H x o') h':=fun b u q=>by
 have nown:∀c y,H c=some (.own y)→c≠x:=fun c y r z=>by subst z;rw[r] at mu;exact mu
 have ntup:∀c xs,H c=some (.tup xs)→c≠x:=fun c xs r z=>by subst z;rw[r] at mu;exact mu
 by_cases hb:b=x
 ·subst hb;rw[AZ] at q;cases q;exact new
 ·rw[Ab hb] at q
  by_cases hbe:b=e
  ·have q':H b=some (.own x):=by
    rcases he with z|z
    ·exact absurd (hbe.trans z) hb
    ·rw[hbe];exact z
   rw[q] at q';cases q'
   obtain⟨v,hv⟩:=heo
   exact⟨v,by rw[hbe];exact hv⟩
  ·refine(ok b u q).stay (fun c v hc r=>k c v ?_ r) (fun c r=>by rw[Ab (nown c b r)];exact r) fun c xs r=>by rw[Ab (ntup c xs r)];exact r
   rcases hc with rfl|hc
   ·exact hbe
   ·rintro rfl
    rcases he with z|z
    ·exact nown c b hc z
    ·rw[hc] at z;cases z;exact hb rfl
end
structure Un(fs ex:List Addr)(H H':Hp)(h h':Heap):Prop where
 keep:∀b o,h.get? b=some o→H b=none→b∉fs→b∉ex→h'.get? b=some o
 slot:∀b o,h.get? b=some o→H b=none→b∈fs→b∉ex→∃sl,h'.get? b=some {o with slots:=sl}
 free:∀b o,h.get? b=some o→H b=none→b∉ex→H' b=none
 there:∀b o,h.get? b=some o→b∉ex→∃o',h'.get? b=some o'
 tups:∀b xs,H b=some (.tup xs)→H' b=some (.tup xs)
 frzs:∀b o u,H b=some (.frz o u)→H' b=some (.frz o u)
 tbls:∀b ps,H b=some (.tbl ps)→∃more,H' b=some (.tbl (ps++more))
section
variable{fs fs' ex ex':List Addr}{H H1 H2:Hp}{h h1 h2 h':Heap}{a x e:Addr}{o:HO}
theorem Un.any(u:Un fs ex H H1 h h1){b:Addr}{ob:Obj}(q:h.get? b=some ob)(n:H b=none)(hx:b∉ex):∃sl,h1.get? b=some {ob with slots:=sl}:=by
 by_cases hb:b∈fs
 ·exact u.slot b ob q n hb hx
 ·exact⟨ob.slots,u.keep b ob q n hb hx⟩
theorem Un.kept(k:∀b u,h.get? b=some u→h'.get? b=some u):Un fs ex H H h h':=
 ⟨fun b ob q _ _ _=>k b ob q,fun b ob q _ _ _=> ⟨ob.slots,k b ob q⟩,fun _ _ _ n _=>n,fun b ob q _=> ⟨ob,k b ob q⟩,fun _ _ q=>q,fun _ _ _ q=>q,fun _ ps q=> ⟨#[],by rw[q];simp⟩⟩
theorem Un.refl:Un fs ex H H h h:=Un.kept fun _ _ q=>q
theorem Un.laid(k:∀b u,h.get? b=some u→h'.get? b=some u)(hp:h.objs.size≤a)(hn:H a=none):Un fs ex H (upd H a o) h h' where
 keep:=fun b u q _ _ _=>k b u q
 slot:=fun b u q _ _ _=> ⟨u.slots,k b u q⟩
 free:=fun b u q n _=>by rw[Ab (dU (dG (dr q) hp))];exact n
 there:=fun b u q _=> ⟨u,k b u q⟩
 tups:=fun b xs q=>by rw[Ab (AX q hn)];exact q
 frzs:=fun b u xs q=>by rw[Ab (AX q hn)];exact q
 tbls:=fun b ps q=> ⟨#[],by rw[Ab (AX q hn),q];simp⟩
theorem Un.write(mu:Zy (H x))(he:e=x∨H e=some (.own x))(k:∀b u,b≠e→h.get? b=some u→h'.get? b=some u)(heo:∃u,h'.get? e=some u):Un fs ex H (upd H x o) h h':=by
 have hx:∀b,H b=none→b≠x:=fun b n z=>by subst z;rw[n] at mu;exact mu
 have hb:∀b,H b=none→b≠e:=fun b n z=>by
  subst z
  rcases he with r|r
  ·exact hx b n r
  ·rw[n] at r;cases r
 have hm:∀b u,H b=some u→¬Zy (some u)→b≠x:=fun b u q nm z=>by subst z;rw[q] at mu;exact nm mu
 refine⟨fun b u q n _ _=>k b u (hb b n) q,fun b u q n _ _=> ⟨u.slots,k b u (hb b n) q⟩,fun b u q n _=>by rw[Ab (hx b n)];exact n,fun b u q _=>?_,
  fun b xs q=>by rw[Ab (hm b _ q fun z=>z)];exact q,fun b u xs q=>by rw[Ab (hm b _ q fun z=>z)];exact q,fun b ps q=> ⟨#[],by rw[Ab (hm b _ q fun z=>z),q];simp⟩⟩
 by_cases hbe:b=e
 ·subst hbe;exact heo
 ·exact⟨u,k b u hbe q⟩
end
def Zz(h:Heap)(H:Hp):List Addr:=(dv h.objs.size).filter fun a=> (H a).isSome
def IH(h:Heap)(H:Hp):Heap:=jh h (Zz h H)
theorem Ng(h:Heap)(H:Hp):(IH h H).objs.size=h.objs.size:=PySem.W.hideAll_size _ _
theorem Om{h:Heap}{H:Hp}{b:Addr}{o:Obj}(e:h.get? b=some o)(n:H b=none):(IH h H).get? b=some o:=
 iD _ e fun hm=>by
  have q:(H b).isSome=true:=(et.mp hm).2
  rw[n] at q;simp at q
theorem SK{h:Heap}{H:Hp}{b:Addr}{o:Obj}(e:(IH h H).get? b=some o):h.get? b=some o∧H b=none:=by
 have e':h.get? b=some o:=jn (Zz h H) e
 refine⟨e',?_⟩
 cases q:H b with
 |none=>rfl
 |some x=>
  have hm:b∈Zz h H:=et.mpr ⟨dW.mpr (dr e'),by simp[q]⟩
  have z:(IH h H).get? b=none:=PySem.W.hideAll_none (Zz h H) hm
  rw[z] at e;cases e
structure Mod(K:a5)(mg:Str→Option Value)(base:Heap):Prop where
 kin:K.In base
 glob:base.Ns fg mg
 blt:∃mb,base.Ns ma mb∧∀x:Str,x≠"__name__"→mb x=eE x
 nolimit:base.NoLimit
structure Cx where
 prog:Program
 w:World
 K:a5
 mg:Str→Option Value
 base:Heap
 A:dy
 N:List Str
 s₀:a7
 H₀:Hp
 env:Env
 outer:List Env
 stack:List Env
 ex:List Addr
 fn:Str→Bool
 calm:Bool
 pn:List (Addr×Obj)
 xe:Value→a7→Prop
def Gz(l:List Env):List Addr:=l.filterMap (·.frame)
abbrev Cx.fs(X:Cx):List Addr:=Gz X.outer
def Xo(sc:Scope)(x:Str):Prop:=sc.names.lookup x=some .local∨sc.names.lookup x=some .cell∨sc.names.lookup x=some .free
def Oh(sc:Scope)(x:Str):Prop:=sc.names.lookup x=some .local∨sc.names.lookup x=some .cell
def aK(env:Env)(h:Heap)(m:Str→Option Value)(x:Str)(u:Value):Prop:=
 (env.kindOf x=some .local∧m x=some u)∨((env.kindOf x=some .cell∨env.kindOf x=some .free)∧∃c,env.cells.lookup x=some c∧h.IsCell c (some u))
structure Cx.Ok(X:Cx):Prop where
 mod:Mod X.K X.mg X.base
 kind:X.env.scope.kind=.function
 glob:X.env.globals=fg
 blt:X.env.builtins=ma
 above:X.s₀.heap.objs.size≤X.env.locals
 inj:∀x y c,X.env.cells.lookup x=some c→X.env.cells.lookup y=some c→x=y
 has:∀x,(X.env.kindOf x=some .cell∨X.env.kindOf x=some .free)→∃c,X.env.cells.lookup x=some c
 cab:∀x c,X.fn x=true→X.env.cells.lookup x=some c→X.s₀.heap.objs.size≤c
 hd:X.calm=true→X.A.handled=none
 frames:X.A.frames=some X.stack
 stk:X.stack=X.outer∨(X.stack=X.env::X.outer∧X.env.frame=some X.env.locals)
 exf:∀b∈X.ex,b≠X.env.locals∧∀x c,X.env.cells.lookup x=some c→c≠b
 bs:∀b o,X.base.get? b=some o→X.s₀.heap.get? b=some o∧X.H₀ b=none
 bsz:X.base.objs.size≤X.s₀.heap.objs.size
 noex:∀b o,X.base.get? b=some o→b∉X.ex
 exfs:∀b∈X.ex,b∉X.fs
 funs:X.s₀.heap.FunFrames X.base X.outer
 frf:∀b∈X.fs,X.H₀ b=none
structure Inv(X:Cx)(pins:List (Addr×Obj))(σ:List (Option V))(H:Hp)(s:a7):Prop where
 ok:X.Ok
 os:s.os=X.s₀.os
 bare:j0 s.gens
 base:Un X.fs X.ex X.H₀ H X.s₀.heap s.heap
 loc:∃m,s.heap.Ns X.env.locals m∧∀(i:Nat) (x:Str) (v:V),X.N[i]?=some x→σ[i]?=some (some v)→Xo X.env.scope x→∃u,RelV v u∧aK X.env s.heap m x u
 cell:∀x c,X.env.cells.lookup x=some c→∃v,s.heap.IsCell c v
 free:H X.env.locals=none
 freeC:∀x c,X.env.cells.lookup x=some c→H c=none
 pin:∀p∈X.pn++pins,s.heap.get? p.1=some p.2∧H p.1=none∧p.1≠X.env.locals∧p.1∉X.fs∧∀v,p.2.data≠.cell v
 hok:HOk X.prog X.w H s.heap
 len:σ.length=X.N.length
section
variable{X:Cx}{pins:List (Addr×Obj)}{σ:List (Option V)}{H H':Hp}{s:a7}{h':Heap}
theorem Cx.Ok.nofr(ok:X.Ok){b:Addr}{o:Obj}(e:X.base.get? b=some o):b∉X.fs:=fun hb=>by
 have:=(ok.funs.mem hb).1
 rw[e] at this;cases this
theorem Inv.bs(I:Inv X pins σ H s):∀b o,X.base.get? b=some o→s.heap.get? b=some o∧H b=none:=fun b o e=>
 ⟨I.base.keep b o (I.ok.bs b o e).1 (I.ok.bs b o e).2 (I.ok.nofr e) (I.ok.noex b o e),I.base.free b o (I.ok.bs b o e).1 (I.ok.bs b o e).2 (I.ok.noex b o e)⟩
theorem Inv.bk(I:Inv X pins σ H s):∀b o,X.base.get? b=some o→s.heap.get? b=some o:=fun b o e=> (I.bs b o e).1
theorem Inv.mod(I:Inv X pins σ H s):Mod X.K X.mg X.base:=I.ok.mod
theorem Inv.kIn(I:Inv X pins σ H s):X.K.In s.heap:=I.ok.mod.kin.keeps I.bk
theorem Inv.lt(I:Inv X pins σ H s):X.env.locals<s.heap.objs.size:=let⟨_,hn,_⟩:=I.loc;hn.lt
theorem Inv.sz(I:Inv X pins σ H s):X.s₀.heap.objs.size≤s.heap.objs.size:=eY I.ok.above (iu I.lt)
theorem Inv.nofs(I:Inv X pins σ H s){a:Addr}(h:s.heap.objs.size≤a):a∉X.fs:=fun hb=>by
 obtain⟨_,o,ho,_⟩:=I.ok.funs.mem hb
 exact absurd (dG (dr ho) (eY I.sz h)) (e9 _)
theorem Inv.cne(I:Inv X pins σ H s):∀x c,X.env.cells.lookup x=some c→c≠X.env.locals:=fun x c e z=>by
 obtain⟨v,o,ho,hd⟩:=I.cell x c e
 obtain⟨m,⟨o',es,ep,ho',hd',_⟩,_⟩:=I.loc
 rw[z,ho'] at ho;cases ho;rw[hd'] at hd;cases hd
theorem Inv.funs(I:Inv X pins σ H s):s.heap.FunFrames X.base X.outer:=by
 have all:∀(l:List Env),(∀b∈Gz l,b∈X.fs)→X.s₀.heap.FunFrames X.base l→s.heap.FunFrames X.base l:=by
  intro l
  induction l with
  |nil=>intro _ _;trivial
  |cons env r ih=>
   intro hs hl
   obtain⟨hk,⟨L,o,hf,hn,ho,hd⟩,hr⟩:=hl
   have hL:L∈X.fs:=hs L (by unfold Gz;rw[fq,hf];exact dR)
   obtain⟨sl,e⟩:=I.base.slot L o ho (I.ok.frf L hL) hL fun z=>I.ok.exfs L z hL
   exact⟨hk,⟨L,_,hf,hn,e,hd⟩,ih (fun b hb=>hs b (by unfold Gz;rw[fq,hf];exact df _ hb)) hr⟩
 exact all X.outer (fun _ hb=>hb) I.ok.funs
theorem Inv.stack(I:Inv X pins σ H s):s.heap.FunFrames X.base X.stack:=by
 rcases I.ok.stk with e| ⟨e,hf⟩
 ·rw[e];exact I.funs
 ·rw[e]
  obtain⟨m,hn,_⟩:=I.loc
  refine .cons (by rw[I.ok.kind];decide) hf hn ?_ I.funs
  exact Heap.get?_none_of_le (eY I.ok.bsz I.ok.above)
theorem Inv.stkSub(I:Inv X pins σ H s):∀b∈Gz X.stack,b∈X.env.locals::X.fs:=fun b hb=>by
 rcases I.ok.stk with e| ⟨e,hf⟩
 ·rw[e] at hb;exact df _ hb
 ·rw[e] at hb
  unfold Gz at hb
  rw[fq,hf] at hb
  exact hb
theorem Inv.stkFree(I:Inv X pins σ H s):∀b∈Gz X.stack,H b=none:=fun b hb=>by
 rcases dh.mp (I.stkSub b hb) with e|hb
 ·rw[e];exact I.free
 ·obtain⟨_,o,ho,_⟩:=I.ok.funs.mem hb
  exact I.base.free b o ho (I.ok.frf b hb) fun z=>I.ok.exfs b z hb
theorem Inv.step{g':Array GenState}{t':Nat}{d':Drawn}{ch:List Addr}(I:Inv X pins σ H s)
  (hch:∀b∈ch,(b∈X.ex∨X.s₀.heap.objs.size≤b)∧b≠X.env.locals∧(∀x c,X.env.cells.lookup x=some c→c≠b)∧∀p∈X.pn++pins,p.1≠b)
  (keep:∀b o,b≠X.env.locals→b∉X.fs→b∉ch→s.heap.get? b=some o→H b=none→h'.get? b=some o)
  (slot:∀b o,b≠X.env.locals→b∈X.fs→b∉ch→s.heap.get? b=some o→H b=none→∃sl,h'.get? b=some {o with slots:=sl}) (free:∀b o,b∉ch→s.heap.get? b=some o→H b=none→H' b=none)
  (there:∀b o,b∉ch→s.heap.get? b=some o→∃o',h'.get? b=some o')
  (tups:∀b xs,H b=some (.tup xs)→H' b=some (.tup xs)) (frzs:∀b o u,H b=some (.frz o u)→H' b=some (.frz o u)) (tbls:∀b ps,H b=some (.tbl ps)→∃more,H' b=some (.tbl (ps++more)))
  (ns:∀m,s.heap.Ns X.env.locals m→h'.Ns X.env.locals m) (hok:HOk X.prog X.w H' h') (hg:j0 g'):
  Inv X pins σ H' {s with heap:=h',gens:=g',drawn:=d',toks:=t'}:=by
 have neL:∀b o,X.s₀.heap.get? b=some o→b≠X.env.locals:=fun b o e=>dU (dG (dr e) I.ok.above)
 have neC:∀b o,X.s₀.heap.get? b=some o→b∉X.ex→b∉ch:=fun b o e hx hb=>by
  rcases(hch b hb).1 with z|z
  ·exact hx z
  ·exact absurd (dG (dr e) z) (e9 _)
 have cellK:∀x c,X.env.cells.lookup x=some c→∀v,s.heap.IsCell c v→h'.IsCell c v:=fun x c e v ⟨o,ho,hd⟩=>by
  have nch:c∉ch:=fun z=> (hch c z).2.2.1 x c e rfl
  by_cases hc:c∈X.fs
  ·obtain⟨sl,q⟩:=slot c o (I.cne x c e) hc nch ho (I.freeC x c e)
   exact⟨_,q,hd⟩
  ·exact⟨o,keep c o (I.cne x c e) hc nch ho (I.freeC x c e),hd⟩
 refine⟨I.ok,I.os,hg,⟨fun b o e n hb hx=>?_,fun b o e n hb hx=>?_,fun b o e n hx=>?_,fun b o e hx=>?_,fun b xs e=>tups b xs (I.base.tups b xs e),fun b o xs e=>frzs b o xs (I.base.frzs b o xs e),fun b ps e=>?_⟩,?_,fun x c e=>?_,?_,fun x c e=>?_,fun p hp=>?_,hok,I.len⟩
 ·exact keep b o (neL b o e) hb (neC b o e hx) (I.base.keep b o e n hb hx) (I.base.free b o e n hx)
 ·obtain⟨sl,e1⟩:=I.base.slot b o e n hb hx
  obtain⟨sl',e2⟩:=slot b _ (neL b o e) hb (neC b o e hx) e1 (I.base.free b o e n hx)
  exact⟨sl',e2⟩
 ·obtain⟨o',e1⟩:=I.base.there b o e hx
  exact free b o' (neC b o e hx) e1 (I.base.free b o e n hx)
 ·obtain⟨o',e1⟩:=I.base.there b o e hx
  exact there b o' (neC b o e hx) e1
 ·obtain⟨m1,e1⟩:=I.base.tbls b ps e
  obtain⟨m2,e2⟩:=tbls b _ e1
  exact⟨m1++m2,by rw[e2,Array.append_assoc]⟩
 ·obtain⟨m,hn,hl⟩:=I.loc
  refine⟨m,ns m hn,fun i x v e1 e2 e3=>?_⟩
  obtain⟨u,r,l⟩:=hl i x v e1 e2 e3
  refine⟨u,r,?_⟩
  rcases l with l| ⟨k,c,e,z⟩
  ·exact .inl l
  ·exact .inr ⟨k,c,e,cellK x c e _ z⟩
 ·obtain⟨v,z⟩:=I.cell x c e
  exact⟨v,cellK x c e v z⟩
 ·obtain⟨m,⟨o,_,_,ho,_⟩,_⟩:=I.loc
  exact free _ o (fun z=> (hch _ z).2.1 rfl) ho I.free
 ·obtain⟨v,o,ho,hd⟩:=I.cell x c e
  exact free c o (fun z=> (hch c z).2.2.1 x c e rfl) ho (I.freeC x c e)
 ·obtain⟨e,n,ne,nf,d⟩:=I.pin p hp
  have nch:p.1∉ch:=fun z=> (hch p.1 z).2.2.2 p hp rfl
  exact⟨keep p.1 p.2 ne nf nch e n,free p.1 p.2 nch e n,ne,nf,d⟩
theorem Inv.un{t':Nat}(I:Inv X pins σ H s)(u:Un X.fs [] H H' s.heap h')(hok:HOk X.prog X.w H' h'):Inv X pins σ H' {s with heap:=h',toks:=t'}:=by
 obtain⟨m,⟨o,es,ep,ho,r⟩,_⟩:=id I.loc
 obtain⟨sl,hL⟩:=u.any ho I.free (by simp)
 exact I.step (g':=s.gens) (d':=s.drawn) (ch:=[]) (fun _ z=>nomatch z) (fun b o _ hb _ e n=>u.keep b o e n hb (by simp)) (fun b o _ hb _ e n=>u.slot b o e n hb (by simp)) (fun b o _ e n=>u.free b o e n (by simp)) (fun b o _ e=>u.there b o e (by simp)) u.tups u.frzs u.tbls (fun m' hm=>by
  obtain⟨o',es',ep',ho',r'⟩:=hm
  rw[ho] at ho';cases ho'
  exact⟨_,es',ep',hL,r'⟩) hok I.bare
theorem Inv.call{g':Array GenState}{t':Nat}{d':Drawn}{ch:List Addr}(I:Inv X pins σ H s)(u:Un (Gz X.stack) ch H H' s.heap h')(hok:HOk X.prog X.w H' h')(hg:j0 g')
  (hch:∀b∈ch,(b∈X.ex∨X.s₀.heap.objs.size≤b)∧b≠X.env.locals∧(∀x c,X.env.cells.lookup x=some c→c≠b)∧∀p∈X.pn++pins,p.1≠b):
  Inv X pins σ H' {s with heap:=h',gens:=g',drawn:=d',toks:=t'}:=by
 obtain⟨m,⟨o,es,ep,ho,r⟩,_⟩:=id I.loc
 obtain⟨sl,hL⟩:=u.any ho I.free fun z=> (hch _ z).2.1 rfl
 exact I.step (ch:=ch) hch (fun b o hL hb hc e n=>u.keep b o e n (fun z=> (dh.mp (I.stkSub b z)).elim hL hb) hc) (fun b o _ _ hc e n=>u.any e n hc) (fun b o hc e n=>u.free b o e n hc) (fun b o hc e=>u.there b o e hc) u.tups u.frzs u.tbls (fun m' hm=>by
  obtain⟨o',es',ep',ho',r'⟩:=hm
  rw[ho] at ho';cases ho'
  exact⟨_,es',ep',hL,r'⟩) hok hg
theorem Inv.turned{t':Nat}{it:Addr}(I:Inv X pins σ H s)(k:∀b o,b≠it→s.heap.get? b=some o→h'.get? b=some o)(hn:H it=none)(hL:it≠X.env.locals)
  (h1:it∈X.ex∨X.s₀.heap.objs.size≤it) (h2:∀x c,X.env.cells.lookup x=some c→c≠it) (h3:∀p∈X.pn++pins,p.1≠it):Inv X pins σ H {s with heap:=h',toks:=t'}:=by
 have nit:∀b u,H b=some u→b≠it:=fun b u e z=>by rw[z,hn] at e;cases e
 refine I.step (g':=s.gens) (d':=s.drawn) (ch:=[it]) (fun b hb=>?_) (fun b o _ _ hc e _=>k b o (fun z=>hc (by simp[z])) e) (fun b o _ _ hc e _=> ⟨o.slots,k b o (fun z=>hc (by simp[z])) e⟩) (fun _ _ _ _ n=>n)
  (fun b o hc e=> ⟨o,k b o (fun z=>hc (by simp[z])) e⟩) (fun _ _ e=>e) (fun _ _ _ e=>e) (fun b ps e=> ⟨#[],by rw[e];simp⟩) (fun m hm=>?_) (fun b u e=>?_) I.bare
 ·have e:b=it:=by simpa using hb
  subst e
  exact⟨h1,hL,h2,h3⟩
 ·obtain⟨o,es,ep,ho,r⟩:=hm
  exact⟨o,es,ep,k _ o (Ne.symm hL) ho,r⟩
 ·refine(I.hok b u e).stay (fun c v hc q=>k c v ?_ q) (fun _ q=>q) fun _ _ q=>q
  rcases hc with z|z
  ·rw[z];exact nit b u e
  ·exact nit c _ z
theorem Inv.tok(I:Inv X pins σ H s)(t:Nat):Inv X pins σ H {s with toks:=t}:=I.un (h':=s.heap) (t':=t) Un.refl I.hok
theorem Inv.kept{t':Nat}(I:Inv X pins σ H s)(k:∀b u,s.heap.get? b=some u→h'.get? b=some u):Inv X pins σ H {s with heap:=h',toks:=t'}:=I.un (Un.kept k) (I.hok.kept k)
theorem Inv.laid{a:Addr}{o:HO}{t':Nat}(I:Inv X pins σ H s)(k:∀b u,s.heap.get? b=some u→h'.get? b=some u)(hp:s.heap.objs.size≤a)(new:ObjOk X.prog X.w (upd H a o) h' a o):
  Inv X pins σ (upd H a o) {s with heap:=h',toks:=t'}:=I.un (Un.laid k hp (I.hok.fresh hp)) (I.hok.laid k hp new)
theorem Inv.write{x e:Addr}{o:HO}{t':Nat}(I:Inv X pins σ H s)(mu:Zy (H x))(he:e=x∨H e=some (.own x))(k:∀b u,b≠e→s.heap.get? b=some u→h'.get? b=some u)(heo:∃u,h'.get? e=some u)
  (new:ObjOk X.prog X.w (upd H x o) h' x o):Inv X pins σ (upd H x o) {s with heap:=h',toks:=t'}:=I.un (Un.write mu he k heo) (I.hok.write mu he k heo new)
theorem Inv.weak{σ':List (Option V)}(I:Inv X pins σ H s)(hl:σ'.length=σ.length)(w:∀(i:Nat) v,σ'[i]?=some (some v)→σ[i]?=some (some v)):Inv X pins σ' H s:=
 ⟨I.ok,I.os,I.bare,I.base,let⟨m,hn,hl'⟩:=I.loc;⟨m,hn,fun i x v e1 e2 e3=>hl' i x v e1 (w i v e2) e3⟩,I.cell,I.free,I.freeC,I.pin,I.hok,hl.trans I.len⟩
theorem Inv.pins_of{pins':List (Addr×Obj)}(I:Inv X pins σ H s)(h:∀p∈pins',s.heap.get? p.1=some p.2∧H p.1=none∧p.1≠X.env.locals∧p.1∉X.fs∧∀v,p.2.data≠.cell v):Inv X pins' σ H s:=
 ⟨I.ok,I.os,I.bare,I.base,I.loc,I.cell,I.free,I.freeC,fun p hp=> (dw.mp hp).elim (fun z=>I.pin p (gk _ z)) (h p),I.hok,I.len⟩
theorem Je{N:List Str}(hN:N.Nodup){i j:Nat}{x:Str}(a:N[i]?=some x)(b:N[j]?=some x):i=j:=by
 obtain⟨h1,e1⟩:=dj.mp a
 obtain⟨h2,e2⟩:=dj.mp b
 exact(List.getElem_inj hN).mp (e1.trans e2.symm)
theorem HJ{M:Model}{A:dy}{E:Value→a7→Prop}{i:Nat}{x:Str}{v:V}{u:Value}{Q:Unit→a7→Prop}(I:Inv X pins σ H s)(hN:X.N.Nodup)(hi:X.N[i]?=some x)(hx:Oh X.env.scope x)(r:RelV v u)
  (h:∀s',Inv X pins (σ.set i (some v)) H s'→(∃a,iP a s.heap s'.heap∧(a=X.env.locals∨X.env.cells.lookup x=some a))→Q () s') (hf:X.fn x=true∨X.env.scope.names.lookup x=some .local:=by first|exact .inl rfl|exact .inr rfl|assumption):wpAny M A (storeName X.env x u) Q E s:=by
 obtain⟨m,hn,hl⟩:=id I.loc
 have hcls:(X.env.scope.kind==.class|| (X.env.scope.kind==.module&&X.env.locals !=X.env.globals))=false:=by rw[I.ok.kind];rfl
 have hiσ:i<σ.length:=by rw[I.len];exact(dj.mp hi).1
 have cne:=I.cne
 have tracked:∀{a:Addr} {h':Heap},(∃o,s.heap.get? a=some o∧H a=none)→iP a s.heap h'→HOk X.prog X.w H h':=fun{a h'} ha hs b ob e=>by
  obtain⟨_,_,hfree⟩:=ha
  refine(I.hok b ob e).stay (fun c w' hc q=> (hs.2 c ?_).trans q) (fun _ q=>q) fun _ _ q=>q
  rintro rfl
  rcases hc with rfl|hc
  ·rw[hfree] at e;cases e
  ·rw[hfree] at hc;cases hc
 rcases hx with hk|hk
 ·refine wpAny_storeName_local hk hn (fun h' hn' hs=>?_) hcls
  obtain⟨oL,_,_,hoL,_⟩:=id hn
  refine h _ ⟨I.ok,I.os,I.bare,⟨fun b o e n hb hx=>?_,fun b o e n hb hx=>?_,I.base.free,fun b o e hx=>?_,I.base.tups,I.base.frzs,I.base.tbls⟩,⟨_,hn',fun j y v' e1 e2 e3=>?_⟩,fun y c e=>?_,I.free,I.freeC,fun p hp=>?_,tracked ⟨oL,hoL,I.free⟩ hs,by simpa using I.len⟩ ⟨_,hs,.inl rfl⟩
  ·exact(hs.2 b (dU (dG (dr e) I.ok.above))).trans (I.base.keep b o e n hb hx)
  ·obtain⟨sl,e1⟩:=I.base.slot b o e n hb hx
   exact⟨sl,(hs.2 b (dU (dG (dr e) I.ok.above))).trans e1⟩
  ·obtain⟨o',e1⟩:=I.base.there b o e hx
   exact⟨o',(hs.2 b (dU (dG (dr e) I.ok.above))).trans e1⟩
  ·by_cases hj:j=i
   ·subst hj
    rw[hi] at e1;cases e1
    rw[eB hiσ] at e2
    cases e2
    exact⟨u,r,.inl ⟨hk,by simp⟩⟩
   ·rw[ef (Ne.symm hj)] at e2
    obtain⟨u',r',q⟩:=hl j y v' e1 e2 e3
    refine⟨u',r',?_⟩
    rcases q with⟨k,e⟩| ⟨k,c,e,z⟩
    ·refine .inl ⟨k,?_⟩
     have:y≠x:=fun e=>hj (Je hN e1 (e▸hi))
     simp[this,e]
    ·exact .inr ⟨k,c,e,z.sameBut hs (cne y c e)⟩
  ·obtain⟨w',z⟩:=I.cell y c e
   exact⟨w',z.sameBut hs (cne y c e)⟩
  ·obtain⟨e,n,ne,nf,d⟩:=I.pin p hp
   exact⟨(hs.2 p.1 ne).trans e,n,ne,nf,d⟩
 ·have hfn:X.fn x=true:=by
   rcases hf with z|z
   ·exact z
   ·rw[z] at hk;cases hk
  obtain⟨c,hc⟩:=I.ok.has x (.inl hk)
  obtain⟨w',z⟩:=I.cell x c hc
  refine wpAny_storeName_cell I.ok.kind hk hc z (fun h' hc' hs=>?_)
  obtain⟨oc,hoc,hocd⟩:=id z
  refine h {s with heap:=h'} ⟨I.ok,I.os,I.bare,⟨fun b o e n hb hx=>?_,fun b o e n hb hx=>?_,I.base.free,fun b o e hx=>?_,I.base.tups,I.base.frzs,I.base.tbls⟩,⟨m,hn.sameBut hs (Ne.symm (cne x c hc)),fun j y v' e1 e2 e3=>?_⟩,fun y c' e=>?_,I.free,I.freeC,fun p hp=>?_,tracked ⟨oc,hoc,I.freeC x c hc⟩ hs,by simpa using I.len⟩ ⟨c,hs,.inr hc⟩
  ·exact(hs.2 b (dU (dG (dr e) (I.ok.cab x c hfn hc)))).trans (I.base.keep b o e n hb hx)
  ·obtain⟨sl,e1⟩:=I.base.slot b o e n hb hx
   exact⟨sl,(hs.2 b (dU (dG (dr e) (I.ok.cab x c hfn hc)))).trans e1⟩
  ·obtain⟨o',e1⟩:=I.base.there b o e hx
   exact⟨o',(hs.2 b (dU (dG (dr e) (I.ok.cab x c hfn hc)))).trans e1⟩
  ·by_cases hj:j=i
   ·subst hj
    rw[hi] at e1;cases e1
    rw[eB hiσ] at e2
    cases e2
    exact⟨u,r,.inr ⟨.inl hk,c,hc,hc'⟩⟩
   ·rw[ef (Ne.symm hj)] at e2
    obtain⟨u',r',q⟩:=hl j y v' e1 e2 e3
    refine⟨u',r',?_⟩
    rcases q with q| ⟨k,c',e,z'⟩
    ·exact .inl q
    ·refine .inr ⟨k,c',e,z'.sameBut hs ?_⟩
     rintro rfl
     exact hj (Je hN e1 (I.ok.inj _ _ _ e hc▸hi))
  ·by_cases hcc:c'=c
   ·subst hcc;exact⟨_,hc'⟩
   ·obtain⟨w2,z2⟩:=I.cell y c' e
    exact⟨w2,z2.sameBut hs hcc⟩
  ·obtain⟨e,n,ne,nf,d⟩:=I.pin p hp
   refine⟨(hs.2 p.1 ?_).trans e,n,ne,nf,d⟩
   intro q
   rw[q,hoc] at e
   have q':oc=p.2:=eu.inj e
   exact d w' (by rw[←q'];exact hocd)
theorem DI{M:Model}{A:dy}{E:Value→a7→Prop}{i:Nat}{x:Str}{v:V}{u:Value}{Q:Unit→a7→Prop}(I:Inv X pins σ H s)(hN:X.N.Nodup)(hi:X.N[i]?=some x)(hx:Oh X.env.scope x)(r:RelV v u)
  (h:∀s',Inv X pins (σ.set i (some v)) H s'→Q () s') (hf:X.fn x=true∨X.env.scope.names.lookup x=some .local:=by first|exact .inl rfl|exact .inr rfl|assumption):wpAny M A (storeName X.env x u) Q E s:=
 HJ I hN hi hx r (fun s' I' _=>h s' I') hf
theorem Inv.call'{s':a7}{ch:List Addr}(I:Inv X pins σ H s)(ho:s'.os=s.os)(u:Un (Gz X.stack) ch H H' s.heap s'.heap)(hok:HOk X.prog X.w H' s'.heap)(hg:j0 s'.gens)
  (hch:∀b∈ch,(b∈X.ex∨X.s₀.heap.objs.size≤b)∧b≠X.env.locals∧(∀x c,X.env.cells.lookup x=some c→c≠b)∧∀p∈X.pn++pins,p.1≠b):Inv X pins σ H' s':=by
 obtain⟨h',g',d',t',o'⟩:=s'
 have e:o'=s.os:=ho
 subst e
 exact I.call (g':=g') (t':=t') (d':=d') u hok hg hch
end
abbrev XK:=Value→Option Addr→Hp→Prop
abbrev St:=List (Option V)
abbrev VK:=V→Hp→Prop
abbrev TE:=St→Hp→VK→Prop
abbrev TT:=St→Hp→(Bool→Hp→Prop)→Prop
abbrev TA:=St→Hp→(List V→Hp→Prop)→Prop
structure Ends where
 nx:St→Hp→Prop
 rt:VK
 bk:St→Hp→Prop:=fun _ _=>False
 ct:St→Hp→Prop:=fun _ _=>False
abbrev TS:=Ends→St→Hp→Prop
def EP(X:Cx)(pins:List (Addr×Obj))(σ:St)(Q:VK)(u:Value)(s':a7):Prop:=∃v H',Inv X pins σ H' s'∧RelV v u∧Q v H'
def TP(X:Cx)(pins:List (Addr×Obj))(σ:St)(Q:Bool→Hp→Prop)(b:Bool)(s':a7):Prop:=∃H',Inv X pins σ H' s'∧Q b H'
def AP(X:Cx)(pins:List (Addr×Obj))(σ:St)(Q:List V→Hp→Prop)(us:List Value)(s':a7):Prop:=∃vs H',Inv X pins σ H' s'∧Vals vs us∧Q vs H'
def SP(X:Cx)(pins:List (Addr×Obj))(D:Ends)(f:Flow)(s':a7):Prop:=
 match f with
 | .next=>∃σ' H',Inv X pins σ' H' s'∧D.nx σ' H'
 | .brk=>∃σ' H',Inv X pins σ' H' s'∧D.bk σ' H'
 | .cont=>∃σ' H',Inv X pins σ' H' s'∧D.ct σ' H'
 | .ret u=>∃v σ' H',Inv X pins σ' H' s'∧RelV v u∧D.rt v H'
def PE(X:Cx)(e:Expr)(t:TE):Prop:=
 ∀(pins:List (Addr×Obj)) (s:a7) (σ:St) (H:Hp) (Q:VK),Inv X pins σ H s→t σ H Q→wpAny (model X.prog X.w) X.A (eval e X.env) (EP X pins σ Q) X.xe s
def PT(X:Cx)(e:Expr)(t:TT):Prop:=
 ∀(pins:List (Addr×Obj)) (s:a7) (σ:St) (H:Hp) (Q:Bool→Hp→Prop),Inv X pins σ H s→t σ H Q→wpAny (model X.prog X.w) X.A (isTrue e X.env (eval e X.env)) (TP X pins σ Q) X.xe s
def PW(X:Cx)(e:Expr)(t:TT):Prop:=
 ∀(whole:Sem Value) (pins:List (Addr×Obj)) (s:a7) (σ:St) (H:Hp) (Q:Bool→Hp→Prop),Inv X pins σ H s→t σ H Q→wpAny (model X.prog X.w) X.A (isTrue e X.env whole) (TP X pins σ Q) X.xe s
theorem PW.pt{X:Cx}{e:Expr}{t:TT}(h:PW X e t):PT X e t:=h _
def PA(X:Cx)(es:List Expr)(t:TA):Prop:=
 ∀(pos:Pos) (pins:List (Addr×Obj)) (s:a7) (σ:St) (H:Hp) (Q:List V→Hp→Prop),Inv X pins σ H s→t σ H Q→wpAny (model X.prog X.w) X.A (spliced (gI pos (b4 es X.env))) (AP X pins σ Q) X.xe s
def PS(X:Cx)(st:Stmt)(t:TS):Prop:=
 ∀(pins:List (Addr×Obj)) (s:a7) (σ:St) (H:Hp) (D:Ends),Inv X pins σ H s→t D σ H→wpAny (model X.prog X.w) X.A (exec st X.env) (SP X pins D) X.xe s
def PSs(X:Cx)(st:List Stmt)(t:TS):Prop:=
 ∀(pins:List (Addr×Obj)) (s:a7) (σ:St) (H:Hp) (D:Ends),Inv X pins σ H s→t D σ H→wpAny (model X.prog X.w) X.A (execs st X.env) (SP X pins D) X.xe s
theorem Ar{α:Type}{t:Sem α}{Q Q':α→a7→Prop}{M:Model}{A:dy}{E:Value→a7→Prop}{s:a7}(h:wpAny M A t Q E s)(hQ:∀a s,Q a s→Q' a s):wpAny M A t Q' E s:=iM h hQ fun _ _ x=>x
section
variable{X:Cx}
def Xu(i:Nat):TE:=fun σ H Q=>∃v,σ[i]?=some (some v)∧Q v H
def tC(v:V):TE:=fun _ H Q=>Q v H
theorem On{i:Nat}{x:Str}{pos:Pos}(hN:X.N[i]?=some x)(hv:Xo X.env.scope x)(hd:(x==("__debug__" :Str))=false:=by decide)(hcd:(x==("__classdict__" :Str))=false:=by decide):PE X (.Name x pos) (Xu i):=by
 intro pins s σ H Q I h
 obtain⟨v,e,h⟩:=h
 obtain⟨m,hn,hl⟩:=I.loc
 obtain⟨u,r,l⟩:=hl i x v hN e hv
 have fin:EP X pins σ Q u s:=⟨v,H,I,r,h⟩
 rcases l with⟨hk,hm⟩| ⟨hk,c,hc,hcell⟩
 ·exact wpAny_Name (wpAny_loadName_local I.ok.kind hk hn hm fin) hd
 ·rcases hk with hk|hk
  ·exact wpAny_Name (wpAny_loadName_cell I.ok.kind hk hc hcell fin) hd
  ·exact wpAny_Name (wpAny_loadName_free I.ok.kind hk hc hcell fin hcd) hd
theorem Oo{i j pos}:PE X (.Constant (.int i) j pos) (tC (.int i)):=fun _ _ _ H _ I h=>wpAny_Constant_int ⟨.int i,H,I.tok _,⟨_,rfl⟩,h⟩
theorem Xv{b j pos}:PE X (.Constant (.bool b) j pos) (tC (.bl b)):=fun _ _ _ H _ I h=>Constant_bool ⟨.bl b,H,I,rfl,h⟩
theorem VJ{j pos}:PE X (.Constant .none j pos) (tC .non):=fun _ _ _ H _ I h=>Constant_none ⟨.non,H,I,rfl,h⟩
def Gl(X:Cx)(x:Str):Prop:=X.env.kindOf x=some .globalImplicit
theorem II{E:Value→a7→Prop}{pins:List (Addr×Obj)}{s:a7}{σ:St}{H:Hp}{x:Str}{u:Value}{pos:Pos}{Q:Value→a7→Prop}(I:Inv X pins σ H s)(hg:Gl X x)(hm:X.mg x=some u)(h:Q u s)
  (hd:(x==("__debug__" :Str))=false:=by decide):wpAny (model X.prog X.w) X.A (eval (.Name x pos) X.env) Q E s:=
 Calls.Name_function_global I.ok.kind hg (Calls.loadGlobal_global (by rw[I.ok.glob];exact I.mod.glob.keeps I.bk) hm h) hd
theorem Eg{E:Value→a7→Prop}{pins:List (Addr×Obj)}{s:a7}{σ:St}{H:Hp}{x:Str}{u:Value}{pos:Pos}{Q:Value→a7→Prop}(I:Inv X pins σ H s)(hg:Gl X x)(hm:X.mg x=none)(hv:eE x=some u)(h:Q u s)
  (hn:x≠"__name__":=by decide) (hd:(x==("__debug__" :Str))=false:=by decide):wpAny (model X.prog X.w) X.A (eval (.Name x pos) X.env) Q E s:=by
 obtain⟨mb,h1,h2⟩:=I.mod.blt
 exact Calls.Name_function_global I.ok.kind hg (Calls.loadGlobal_builtin (by rw[I.ok.glob];exact I.mod.glob.keeps I.bk) hm (by rw[I.ok.blt];exact h1.keeps I.bk) ((h2 x hn).trans hv) h) hd
theorem SL{x:Str}{v:V}{u:Value}{pos:Pos}(hg:Gl X x)(hm:X.mg x=some u)(r:RelV v u)(hd:(x==("__debug__" :Str))=false:=by decide):PE X (.Name x pos) (tC v):=
 fun _ _ _ H _ I h=>II I hg hm ⟨v,H,I,r,h⟩ hd
theorem SM{x:Str}{v:V}{u:Value}{pos:Pos}(hg:Gl X x)(hm:X.mg x=none)(hv:eE x=some u)(r:RelV v u)(hn:x≠"__name__":=by decide)(hd:(x==("__debug__" :Str))=false:=by decide):PE X (.Name x pos) (tC v):=
 fun _ _ _ H _ I h=>Eg I hg hm hv ⟨v,H,I,r,h⟩ hn hd
variable{a b:Expr}{ta tb:TE}{pos:Pos}
variable{tA tB':TT}{rest:List Expr}
def aL(t u:TT):TT:=fun σ H Q=>t σ H fun c H1=>if c=true then u σ H1 Q else Q false H1
def cA(t u:TT):TT:=fun σ H Q=>t σ H fun c H1=>if c=true then Q true H1 else u σ H1 Q
def aM(t:TT):TT:=fun σ H Q=>t σ H fun c H1=>Q (!c) H1
theorem SN(ha:PT X a tA):PW X (.BoolOp .And [a] pos) tA:=by
 intro wh pins s σ H Q I h
 refine isTrue_and (Ar (ha pins s σ H Q I h) fun c s1 e=>?_)
 cases c with
 |true=>exact isTrue_and_nil e
 |false=>exact e
theorem VL(ha:PT X a tA):PW X (.BoolOp .Or [a] pos) tA:=by
 intro wh pins s σ H Q I h
 refine isTrue_or (Ar (ha pins s σ H Q I h) fun c s1 e=>?_)
 cases c with
 |false=>exact isTrue_or_nil e
 |true=>exact e
theorem VM(ha:PT X a tA)(hb:PW X (.BoolOp .And (b::rest) pos) tB'):PW X (.BoolOp .And (a::b::rest) pos) (aL tA tB'):=by
 intro wh pins s σ H Q I h
 refine isTrue_and (Ar (ha pins s σ H _ I h) fun c s1 ⟨H1,I1,q1⟩=>?_)
 cases c with
 |true=>exact hb wh pins s1 σ H1 Q I1 q1
 |false=>exact⟨H1,I1,q1⟩
theorem Xw(ha:PT X a tA)(hb:PW X (.BoolOp .Or (b::rest) pos) tB'):PW X (.BoolOp .Or (a::b::rest) pos) (cA tA tB'):=by
 intro wh pins s σ H Q I h
 refine isTrue_or (Ar (ha pins s σ H _ I h) fun c s1 ⟨H1,I1,q1⟩=>?_)
 cases c with
 |true=>exact⟨H1,I1,q1⟩
 |false=>exact hb wh pins s1 σ H1 Q I1 q1
theorem VN(ha:PT X a tA):PT X (.UnaryOp .Not a pos) (aM tA):=by
 intro pins s σ H Q I h
 exact isTrue_not (ha pins s σ H (fun c H1=>Q (!c) H1) I h)
def Xx(ta tb:TE):TE:=fun σ H Q=>ta σ H fun x H1=>∃c,x=.bl c∧if c=true then tb σ H1 Q else Q (.bl false) H1
def Xy(ta:TE):TE:=fun σ H Q=>ta σ H fun x H1=>∃c,x=.bl c∧Q (.bl (!c)) H1
theorem VO{op}{t:TE}(h:PE X a t):PE X (.BoolOp op [a] pos) t:=fun pins s σ H Q I hw=>BoolOp_one (h pins s σ H Q I hw)
theorem VP(ha:PE X a ta)(hb:PE X (.BoolOp .And (b::rest) pos) tb):PE X (.BoolOp .And (a::b::rest) pos) (Xx ta tb):=by
 intro pins s σ H Q I h
 refine BoolOp_and (Ar (ha pins s σ H _ I h) fun v s1 ⟨x,H1,I1,r1,q1⟩=>?_)
 obtain⟨c,rfl,q1⟩:=q1
 cases r1
 refine gL ?_
 cases c with
 |true=>exact hb pins s1 σ H1 Q I1 q1
 |false=>exact⟨.bl false,H1,I1,rfl,q1⟩
theorem VQ(ha:PE X a ta):PE X (.UnaryOp .Not a pos) (Xy ta):=by
 intro pins s σ H Q I h
 refine UnaryOp_ (Ar (ha pins s σ H _ I h) fun v s1 ⟨x,H1,I1,r1,q1⟩=>?_)
 obtain⟨c,rfl,q1⟩:=q1
 cases r1
 exact not_of (gL ⟨.bl (!c),H1,I1,rfl,q1⟩)
def cB(t:TT)(ta tb:TE):TE:=fun σ H Q=>t σ H fun c H1=>if c=true then ta σ H1 Q else tb σ H1 Q
theorem Oq{c:Expr}(hc:PT X c tA)(ha:PE X a ta)(hb:PE X b tb):PE X (.IfExp c a b pos) (cB tA ta tb):=by
 intro pins s σ H Q I h
 refine wpAny_IfExp (Ar (hc pins s σ H _ I h) fun d s1 ⟨H1,I1,q1⟩=>?_)
 cases d with
 |true=>exact ha pins s1 σ H1 Q I1 q1
 |false=>exact hb pins s1 σ H1 Q I1 q1
end
def Dj(K:a5)(H:Hp)(a:Addr)(xs:List V):Prop:=
 Rd H a (.lst xs)∨
  ∃(o:Obj) (its:Array Value) (n:Nat),K.lookup a=some o∧o.cls=.type "list"∧o.dict=none∧o.data=.seq its n∧its.size≤sizeLine∧Vals xs its.toList
def IJ(K:a5)(H:Hp)(a:Addr)(xs:List V):Prop:=
 Rd H a (.tup xs)∨
  ∃(o:Obj) (its:Array Value) (n:Nat),K.lookup a=some o∧o.cls=.type "tuple"∧o.data=.seq its n∧its.size≤sizeLine∧Vals xs its.toList
def aN:Value→Option V
 | .none=>some .non
 | .bool b=>some (.bl b)
 | .int i _=>some (.int i)
 | .str x _=>some (.str x)
 | .bytes b _=>some (.byt b)
 | .float b _=>some (.flt b)
 | .ref a=>some (.ref a)
 | .type n=>some (.ty n)
 |_=>none
theorem RelV.abs{x:V}{u:Value}(r:RelV x u):aN u=some x:=by
 cases x with
 |non=>cases r;rfl
 |bl _=>cases r;rfl
 |int _=>obtain⟨t,rfl⟩:=r;rfl
 |str _=>obtain⟨t,rfl⟩:=r;rfl
 |byt _=>obtain⟨t,rfl⟩:=r;rfl
 |flt _=>obtain⟨t,rfl⟩:=r;rfl
 |ref _=>cases r;rfl
 |ty _=>cases r;rfl
theorem RelV.inj{x y:V}{u:Value}(r:RelV x u)(q:RelV y u):x=y:=eu.inj (r.abs.symm.trans q.abs)
theorem Vals.inj:∀{xs ys:List V} {us:List Value},Vals xs us→Vals ys us→xs=ys
 |_,_,_,.nil,.nil=>rfl
 |_,_,_,.cons r t,.cons r' t'=>by rw[r.inj r',Vals.inj t t']
section
variable{X:Cx}{pins:List (Addr×Obj)}{σ:St}{H:Hp}{s:a7}{a:Addr}{xs ys:List V}
theorem Inv.list(I:Inv X pins σ H s)(h:Dj X.K H a xs):∃its:List Value,Vals xs its∧PlainL s.heap a its.toArray∧xs.length≤sizeLine:=by
 rcases h with h| ⟨o,its,n,hk,hc,hd,hs,hz,r⟩
 ·obtain⟨z,its,n,r,e⟩:=h.ok I.hok
  exact⟨its,r,⟨_,n,e,rfl,rfl,rfl⟩,z⟩
 ·refine⟨its.toList,r,⟨o,n,I.kIn a o hk,hc,hd,by simpa using hs⟩,?_⟩
  have e:=r.length
  simp only[dg] at e
  omega
theorem Inv.tuple(I:Inv X pins σ H s)(h:IJ X.K H a xs):∃its:List Value,Vals xs its∧IsTup s.heap a its.toArray∧xs.length≤sizeLine:=by
 rcases h with h| ⟨o,its,n,hk,hc,hs,hz,r⟩
 ·obtain⟨z,its,r,p⟩:=h.ok I.hok
  exact⟨its,r,p,z⟩
 ·refine⟨its.toList,r,⟨o,I.kIn a o hk,hc,n,by simpa using hs⟩,?_⟩
  have e:=r.length
  simp only[dg] at e
  omega
theorem Inv.list_inj(I:Inv X pins σ H s)(h:Dj X.K H a xs)(h':Dj X.K H a ys):xs=ys:=by
 obtain⟨its,r,⟨o,n,e,_,_,d⟩,_⟩:=I.list h
 obtain⟨its',r',⟨o',n',e',_,_,d'⟩,_⟩:=I.list h'
 rw[e] at e';cases e'
 rw[d] at d'
 injection d' with d1 _
 have:its=its':=by simpa using congrArg Array.toList d1
 subst this
 exact r.inj r'
theorem Inv.tuple_inj(I:Inv X pins σ H s)(h:IJ X.K H a xs)(h':IJ X.K H a ys):xs=ys:=by
 obtain⟨its,r,⟨o,e,_,n,d⟩,_⟩:=I.tuple h
 obtain⟨its',r',⟨o',e',_,n',d'⟩,_⟩:=I.tuple h'
 rw[e] at e';cases e'
 rw[d] at d'
 injection d' with d1 _
 have:its=its':=by simpa using congrArg Array.toList d1
 subst this
 exact r.inj r'
end
section
variable{X:Cx}{pins:List (Addr×Obj)}{σ:St}{H:Hp}{s:a7}{E:Value→a7→Prop}
end
section
variable{X:Cx}{st:Stmt}{rest:List Stmt}{t u:TS}{e:Expr}{te:TE}{pos:Pos}
def Xz:TS:=fun D σ H=>D.nx σ H
def aO(t u:TS):TS:=fun D σ H=>t {D with nx:=u D} σ H
theorem MN:PSs X [] Xz:=fun _ _ σ H _ I h=>jN ⟨σ,H,I,h⟩
theorem Jf(h1:PS X st t)(h2:PSs X rest u):PSs X (st::rest) (aO t u):=by
 intro pins s σ H D I h
 refine wpAny_execs_cons (Ar (h1 pins s σ H {D with nx:=u D} I h) fun f s1 q=>?_)
 cases f with
 |next=>
  obtain⟨σ',H',I',q⟩:=q
  exact h2 pins s1 σ' H' D I' q
 |ret v=>exact q
 |brk=>exact q
 |cont=>exact q
theorem IL(h1:PS X st t):PSs X [st] t:=by
 intro pins s σ H D I h
 refine wpAny_execs_cons (Ar (h1 pins s σ H D I h) fun f s1 q=>?_)
 cases f with
 |next=>exact jN q
 |ret v=>exact q
 |brk=>exact q
 |cont=>exact q
theorem Inv.quiet{pins:List (Addr×Obj)}{σ:St}{H:Hp}{s:a7}(I:Inv X pins σ H s):interactive X.env=false:=by simp[interactive,I.ok.kind]
def YA(te:TE):TS:=fun D σ H=>te σ H fun _ H1=>D.nx σ H1
theorem SO(he:PE X e te)(hs:jC e none pos.line X.env=pure false:=by rfl):PS X (.Expr e pos) (YA te):=by
 intro pins s σ H D I h
 exact wpAny_Expr_any (Ar (he pins s σ H _ I h) fun v s1 ⟨x,H1,I1,r1,q1⟩=> ⟨σ,H1,I1,q1⟩) I.quiet hs
def aP(te:TE):TS:=fun D σ H=>te σ H D.rt
theorem IM(he:PE X e te):PS X (.Return (some e) pos) (aP te):=by
 intro pins s σ H D I h
 exact wpAny_Return_some (Ar (he pins s σ H _ I h) fun v s1 ⟨x,H1,I1,r1,q1⟩=> ⟨x,σ,H1,I1,r1,q1⟩)
def aQ(c:TT)(t u:TS):TS:=fun D σ H=>c σ H fun b H1=>if b=true then t D σ H1 else u D σ H1
theorem UZ{c:Expr}{a b:List Stmt}{tc:TT}(hc:PT X c tc)(ha:PSs X a t)(hb:PSs X b u):PS X (.If c a b pos) (aQ tc t u):=by
 intro pins s σ H D I h
 refine wpAny_If (Ar (hc pins s σ H _ I h) fun d s1 ⟨H1,I1,q1⟩=>?_)
 cases d with
 |true=>exact ha pins s1 σ H1 D I1 q1
 |false=>exact hb pins s1 σ H1 D I1 q1
end
abbrev TG:=V→St→Hp→(St→Hp→Prop)→Prop
abbrev VR:=List V→St→Hp→(St→Hp→Prop)→Prop
def PG(X:Cx)(target:Expr)(t:TG):Prop:=
 ∀(pins:List (Addr×Obj)) (s:a7) (σ:St) (H:Hp) (v:V) (u:Value) (Q:St→Hp→Prop),Inv X pins σ H s→RelV v u→t v σ H Q→
  wpAny (model X.prog X.w) X.A (assign target X.env u) (fun _ s'=>∃σ' H',Inv X pins σ' H' s'∧Q σ' H') X.xe s
def aA(X:Cx)(ts:List Expr)(t:VR):Prop:=
 ∀(pins:List (Addr×Obj)) (s:a7) (σ:St) (H:Hp) (vs:List V) (us:List Value) (Q:St→Hp→Prop),Inv X pins σ H s→Vals vs us→t vs σ H Q→
  wpAny (model X.prog X.w) X.A (assignInOrder ((gD ts X.env).map (·.2)) us) (fun _ s'=>∃σ' H',Inv X pins σ' H' s'∧Q σ' H') X.xe s
abbrev VS:=V→V→V→Hp→(Hp→Prop)→Prop
def YB(X:Cx)(t:VS):Prop:=
 ∀(pins:List (Addr×Obj)) (s:a7) (σ:St) (H:Hp) (o i v:V) (ov iv u:Value) (Q:Hp→Prop),Inv X pins σ H s→RelV o ov→RelV i iv→RelV v u→t o i v H Q→
  wpAny (model X.prog X.w) X.A (setItem ov iv u) (fun _ s'=>∃H',Inv X pins σ H' s'∧Q H') X.xe s
abbrev YC:=V→V→Hp→VK→Prop
def aB(X:Cx)(op:lM)(t:YC):Prop:=
 ∀(pins:List (Addr×Obj)) (s:a7) (σ:St) (H:Hp) (x y:V) (v u:Value) (Q:VK),Inv X pins σ H s→RelV x v→RelV y u→t x y H Q→
  wpAny (model X.prog X.w) X.A (inplaceOp op v u) (EP X pins σ Q) X.xe s
section
variable{X:Cx}{pos:Pos}
def Ua(i:Nat):TG:=fun v σ H Q=>Q (σ.set i (some v)) H
theorem IP{i:Nat}{x:Str}(hN:X.N.Nodup)(hi:X.N[i]?=some x)(hx:Oh X.env.scope x)(hf:X.fn x=true∨X.env.scope.names.lookup x=some .local:=by first|exact .inl rfl|exact .inr rfl|assumption):PG X (.Name x pos) (Ua i):=by
 intro pins s σ H v u Q I r h
 exact wpAny_assign_Name (DI I hN hi hx r (fun s' I'=> ⟨_,H,I',h⟩) hf)
def aR:VR:=fun vs σ H Q=>vs=[]∧Q σ H
def YD(t:TG)(u:VR):VR:=fun vs σ H Q=>∃v r,vs=v::r∧t v σ H fun σ' H'=>u r σ' H' Q
theorem SQ:aA X [] aR:=by
 intro pins s σ H vs us Q I r h
 obtain⟨e,h⟩:=h
 subst e
 cases r
 exact assignInOrder_nil ⟨σ,H,I,h⟩
theorem Jg{e:Expr}{es:List Expr}{t:TG}{u:VR}(h1:PG X e t)(h2:aA X es u)
  (hs:(gD (e::es) X.env).map (·.2)=assign e X.env::(gD es X.env).map (·.2):=by rfl):aA X (e::es) (YD t u):=by
 intro pins s σ H vs us Q I r h
 obtain⟨v,vr,e1,h⟩:=h
 subst e1
 cases r with
 |cons r rr=>
  rw[hs]
  refine j9 (Ar (h1 pins s σ H _ _ _ I r h) fun _ s1 ⟨σ1,H1,I1,q1⟩=>?_)
  exact h2 pins s1 σ1 H1 _ _ Q I1 rr q1
def aS(K:a5)(n:Nat)(t:VR):TG:=fun v σ H Q=>∃a xs,v=.ref a∧IJ K H a xs∧xs.length=n∧t xs σ H Q
theorem VT{es:List Expr}{k:Nat}{t:VR}{n:Nat}(hc:X.calm=true)(h:aA X es t)
  (hn:(gD es X.env).length=n:=by rfl) (hst:(gD es X.env).findIdx? (·.1)=none:=by rfl):PG X (.Tuple es k pos) (aS X.K n t):=by
 intro pins s σ H v u Q I r hw
 obtain⟨a,xs,e1,hq,hl,hw⟩:=hw
 subst e1
 cases r
 obtain⟨its,rv,ht,hz⟩:=I.tuple hq
 refine assign_Tuple_tuple (I.ok.hd hc) ht (by simp[hn,←hl,rv.length]) hst fun h' hx=>?_
 have I1:Inv X pins σ H {s with heap:=h'}:=I.kept (t':=s.toks) fun b o e=>hx b o (dU (dr e)) e
 exact h pins _ σ H xs _ Q I1 (by simpa using rv) hw
def aT(to ti:TE)(t:VS):TG:=fun v σ H Q=>to σ H fun o H1=>ti σ H1 fun i H2=>t o i v H2 fun H3=>Q σ H3
theorem VU{o i:Expr}{to ti:TE}{t:VS}(ho:PE X o to)(hi:PE X i ti)(hs:YB X t)
  (ha:∀v,assign (.Subscript o i pos) X.env v=(do
   let ov←holding [v] (eval o X.env)
   let iv←holding [v,ov] (eval i X.env)
   standAt pos
   holding [v,ov,iv] (setItem ov iv v)
   release [v,ov,iv] []):=by intro _;rfl):PG X (.Subscript o i pos) (aT to ti t):=by
 intro pins s σ H v u Q I r h
 rw[ha]
 refine a6 (eW (Ar (ho pins s σ H _ I h) fun ov s1 ⟨x,H1,I1,r1,q1⟩=>?_))
 refine a6 (eW (Ar (hi pins s1 σ H1 _ I1 q1) fun iv s2 ⟨y,H2,I2,r2,q2⟩=>?_))
 refine a6 (jd (a6 (eW (Ar (hs pins s2 σ H2 x y v ov iv u _ I2 r1 r2 r q2) fun _ s3 ⟨H3,I3,q3⟩=>?_))))
 exact wpAny_release ⟨σ,H3,I3,q3⟩
def YE(te:TE)(g:TG):TS:=fun D σ H=>te σ H fun x H1=>g x σ H1 D.nx
theorem Os{tg e:Expr}{te:TE}{g:TG}(he:PE X e te)(hg:PG X tg g)(hs:jH [tg] e pos.line X.env=pure false:=by rfl)(hw:jI [tg] e X.env=pure none:=by rfl)
  (h1:(gD [tg] X.env).map (·.2)=[assign tg X.env]:=by rfl):PS X (.Assign [tg] e pos) (YE te g):=by
 intro pins s σ H D I h
 refine wpAny_Assign_stores (Ar (he pins s σ H _ I h) fun v s1 ⟨x,H1,I1,r1,q1⟩=>?_) hs hw
 rw[h1]
 exact Ar (hg pins s1 σ H1 x v _ I1 r1 q1) fun _ s2 q=>q
theorem VV{i:Nat}{x:Str}{e:Expr}{te:TE}{pos':Pos}(hN:X.N.Nodup)(hi:X.N[i]?=some x)(hx:Oh X.env.scope x)(he:PE X e te)(hs:jC e (some (.Name x pos')) pos.line X.env=pure false:=by rfl)(hf:X.fn x=true∨X.env.scope.names.lookup x=some .local:=by first|exact .inl rfl|exact .inr rfl|assumption):
  PS X (.Assign [.Name x pos'] e pos) (YE te (Ua i)):=by
 intro pins s σ H D I h
 refine wpAny_Assign_Name (Ar (he pins s σ H _ I h) fun v s1 ⟨y,H1,I1,r1,q1⟩=>?_) hs
 exact DI I1 hN hi hx r1 (fun s2 I2=> ⟨_,H1,I2,q1⟩) hf
def aU(i j:Nat)(ta:TA):TS:=fun D σ H=>ta σ H fun vs H1=>∃v w,vs=[v,w]∧D.nx ((σ.set i (some v)).set j (some w)) H1
theorem VW{i j:Nat}{x y:Str}{a b:Expr}{ta:TA}{px py pt:Pos}{kt k2 pt2}(hc:X.calm=true)(hN:X.N.Nodup)(hi:X.N[i]?=some x)(hj:X.N[j]?=some y)(hij:i≠j)
  (hx:X.env.scope.names.lookup x=some .local) (hy:X.env.scope.names.lookup y=some .local) (ha:PA X [a,b] ta)
  (hw:jI [.Tuple [.Name x px,.Name y py] kt pt] (.Tuple [a,b] k2 pt2) X.env=pure (some [x,y]))
  (hs:jH [.Tuple [.Name x px,.Name y py] kt pt] (.Tuple [a,b] k2 pt2) pos.line X.env=pure false:=by rfl):
  PS X (.Assign [.Tuple [.Name x px,.Name y py] kt pt] (.Tuple [a,b] k2 pt2) pos) (aU i j ta):=by
 intro pins s σ H D I h
 rw[exec_Assign_arm]
 refine a6 (jd ?_)
 rw[hs]
 refine a6 (b5 ?_)
 rw[if_neg (by decide)]
 refine a6 (Tuple_ (Ar (ha _ pins s σ H _ I h) fun us s1 ⟨vs,H1,I1,r1,q1⟩=>?_))
 obtain⟨v,w,e1,q1⟩:=q1
 subst e1
 obtain⟨u1,u2,rfl,rv,rw'⟩:∃u1 u2,us=[u1,u2]∧RelV v u1∧RelV w u2:=by
  cases r1 with
  |cons p q=>
   cases q with
   |cons p' q'=>
    cases q'
    exact⟨_,_,rfl,p,p'⟩
 refine il ?_ (by show 2≤sizeLine;decide)
 have I2:Inv X pins σ H1 {s1 with heap:=s1.heap.push {cls:=.type "tuple",data:=.seq [u1,u2].toArray}}:=I1.kept (t':=s1.toks) fun b o e=>c9 _ e
 rw[hw]
 refine a6 (b5 ?_)
 show wpAny (model X.prog X.w) X.A (do rule "assign.swapped-stores";let items←unpackItems (.ref s1.heap.objs.size) 2 none;assignInOrder [fun v=>bindName X.env y v,fun v=>bindName X.env x v] items.reverse;pure Flow.next) _ _ _
 refine a6 (iV (a6 (unpackItems_tuple (items:=#[u1,u2]) (I.ok.hd hc) (IsTup.new s1.heap _) fun h' hx'=>?_)))
 have I3:=I2.kept (h':=h') (t':=s1.toks) fun b o e=>hx' b o (dU (dr e)) e
 show wpAny _ _ (assignInOrder [fun v=>bindName X.env y v,fun v=>bindName X.env x v] [u2,u1]>>=fun _=>pure Flow.next) _ _ _
 refine a6 (j9 (wpAny_bindName (DI I3 hN hj (.inl hy) rw' (fun s2 I4=>?_) (.inr hy))))
 refine j9 (wpAny_bindName (DI I4 hN hi (.inl hx) rv (fun s3 I5=>assignInOrder_nil (b5 ?_)) (.inr hx)))
 rw[List.set_comm _ _ (Ne.symm hij)] at I5
 exact⟨_,H1,I5,q1⟩
def aV(i:Nat)(te:TE)(ti:YC):TS:=fun D σ H=>∃x,σ[i]?=some (some x)∧te σ H fun y H1=>ti x y H1 fun z H2=>D.nx (σ.set i (some z)) H2
theorem VX{i:Nat}{x:Str}{e:Expr}{te:TE}{op:lM}{ti:YC}{pos':Pos}(hN:X.N.Nodup)(hi:X.N[i]?=some x)(hx:Oh X.env.scope x)(he:PE X e te)(ho:aB X op ti)(hf:X.fn x=true∨X.env.scope.names.lookup x=some .local:=by first|exact .inl rfl|exact .inr rfl|assumption):
  PS X (.AugAssign (.Name x pos') op e pos) (aV i te ti):=by
 intro pins s σ H D I h
 obtain⟨v,e1,h⟩:=h
 obtain⟨m,hn,hl⟩:=I.loc
 have vis:Xo X.env.scope x:=by rcases hx with k|k;exact .inl k;exact .inr (.inl k)
 obtain⟨u,r,l⟩:=hl i x v hi e1 vis
 refine wpAny_AugAssign_Name ?_
 have go:wpAny (model X.prog X.w) X.A (eval e X.env) (fun w s₂=>wpAny (model X.prog X.w) X.A (inplaceOp op u w) (fun r s₃=>wpAny (model X.prog X.w) X.A (storeName X.env x r) (fun _=>SP X pins D .next) X.xe s₃) X.xe s₂) X.xe s:=by
  refine Ar (he pins s σ H _ I h) fun w s1 ⟨y,H1,I1,r1,q1⟩=>?_
  refine Ar (ho pins s1 σ H1 v y u w _ I1 r r1 q1) fun z s2 ⟨zv,H2,I2,r2,q2⟩=>?_
  exact DI I2 hN hi hx r2 (fun s3 I3=> ⟨_,H2,I3,q2⟩) hf
 rcases l with⟨hk,hm⟩| ⟨hk,c,hc,hcell⟩
 ·exact wpAny_loadName_local I.ok.kind hk hn hm go
 ·rcases hk with hk|hk
  ·exact wpAny_loadName_cell I.ok.kind hk hc hcell go
  ·rcases hx with k|k
   ·have:X.env.scope.names.lookup x=some .free:=hk
    rw[k] at this;cases this
   ·have:X.env.scope.names.lookup x=some .free:=hk
    rw[k] at this;cases this
def cC(f:Int→Int→Int):YC:=fun x y H Q=>∃i j,x=.int i∧y=.int j∧Q (.int (f i j)) H
theorem Ot:aB X .Add (cC fun i j=>i+j):=by
 intro pins s σ H x y v u Q I r1 r2 h
 obtain⟨i,j,e1,e2,q⟩:=h
 subst e1;subst e2
 obtain⟨t,rfl⟩:=r1
 obtain⟨t',rfl⟩:=r2
 exact iadd_int ⟨.int _,H,I.tok _,⟨_,rfl⟩,q⟩
end
section
variable{X:Cx}{pos:Pos}
def VY(c:TT)(tb:TS):TS:=fun D σ H=>∃W:Nat→St→Hp→Prop,(∃m,W m σ H)∧∀m σ H,W m σ H→
 c σ H fun b H1=>if b=true then∃N:St→Hp→Prop,(∀σ' H',N σ' H'→∃m',m'<m∧W m' σ' H')∧tb {D with nx:=N,ct:=N,bk:=D.nx} σ H1 else D.nx σ H1
theorem Ou{c:Expr}{body:List Stmt}{tc:TT}{tb:TS}(hp:j5 (model X.prog X.w) X.A X.env X.xe)(hc:PT X c tc)(hb:PSs X body tb):PS X (.While c body [] pos) (VY tc tb):=by
 intro pins s σ H D I h
 obtain⟨W,⟨m0,w0⟩,turn⟩:=h
 refine wpAny_While (codeAny_whileLoop (fun n s'=>∃σ' H',Inv X pins σ' H' s'∧W n σ' H') ?_ m0 ⟨σ,H,I,w0⟩)
 rintro n s1 ⟨σ1,H1,I1,w1⟩
 refine gZ hp (Ar (hc pins s1 σ1 H1 _ I1 (turn n σ1 H1 w1)) fun b s2 ⟨H2,I2,q2⟩=>?_)
 cases b with
 |true=>
  obtain⟨N,hN,q2⟩:=q2
  rw[if_pos rfl]
  refine gZ hp (Ar (hb pins s2 σ1 H2 _ I2 q2) fun f s3 q3=>?_)
  cases f with
  |next=>
   obtain⟨σ3,H3,I3,n3⟩:=q3
   obtain⟨m',hm,w3⟩:=hN σ3 H3 n3
   exact⟨m',hm,σ3,H3,I3,w3⟩
  |cont=>
   obtain⟨σ3,H3,I3,n3⟩:=q3
   obtain⟨m',hm,w3⟩:=hN σ3 H3 n3
   exact⟨m',hm,σ3,H3,I3,w3⟩
  |brk=>exact q3
  |ret v=>exact q3
 |false=>
  rw[if_neg b6]
  exact jN ⟨σ1,H2,I2,q2⟩
end
structure It where
 go:Nat→Hp→Prop
 yld:Nat→Hp→V→Hp→Prop
 stop:Nat→Hp→Prop
def HA(X:Cx)(pins:List (Addr×Obj))(H:Hp)(b:Addr):Prop:=
 H b=none∧b≠X.env.locals∧b∉X.fs∧(b∈X.ex∨X.s₀.heap.objs.size≤b)∧(∀x c,X.env.cells.lookup x=some c→c≠b)∧∀p∈X.pn++pins,p.1≠b
theorem Inv.fpOk{X:Cx}{pins:List (Addr×Obj)}{σ:St}{H H':Hp}{s:a7}{b:Addr}(I:Inv X pins σ H s)(hb:s.heap.objs.size≤b)(hn:H' b=none):HA X pins H' b:=by
 refine⟨hn,jY (dG I.lt hb),I.nofs hb,.inr (eY I.sz hb),fun x c e z=>?_,fun p hp z=>?_⟩
 ·obtain⟨v,q⟩:=I.cell x c e
  exact absurd (dG q.lt (by rw[z];exact hb)) (e9 _)
 ·exact absurd (dG (dr (I.pin p hp).1) (by rw[z];exact hb)) (e9 _)
structure Turn(P:Program)(w:World)(K:a5)(tg:Expr)(J:It)(fp:List Addr)(it:Addr)(tn:Nat→Heap→Prop):Prop where
 mem:it∈fp
 obj:∀i h,tn i h→∀b∈fp,∃o,h.get? b=some o∧∀v,o.data≠.cell v
 keep:∀i h h',tn i h→(∀b∈fp,∀o,h.get? b=some o→h'.get? b=some o)→tn i h'
 item:∀(X:Cx),X.prog=P→X.w=w→X.K=K→X.calm=true→∀(i:Nat) (pins:List (Addr×Obj)) (s:a7) (σ:St) (H:Hp) (E:Value→a7→Prop),Inv X pins σ H s→(∀b∈fp,HA X pins H b)→tn i s.heap→J.go i H→
  wpAny (model P w) X.A (j8 (.ref it)) (fun r s1=>∃u,r=some u∧
   wpAny (model P w) X.A (jO tg (.ref it) u) (fun _ s2=>∃x H',Inv X pins σ H' s2∧RelV x u∧J.yld i H x H'∧tn (i+1) s2.heap∧∀b∈fp,H' b=none) E s1) E s
 done:∀(X:Cx),X.prog=P→X.w=w→X.K=K→X.calm=true→∀(i:Nat) (pins:List (Addr×Obj)) (s:a7) (σ:St) (H:Hp) (E:Value→a7→Prop),Inv X pins σ H s→(∀b∈fp,HA X pins H b)→tn i s.heap→J.stop i H→
  wpAny (model P w) X.A (j8 (.ref it)) (fun r s1=>r=none∧Inv X pins σ H s1) E s
 self:∀(A:dy) (i:Nat) (s:a7) (Q:Value→a7→Prop) (E:Value→a7→Prop),tn i s.heap→Q (.ref it) s→wpAny (model P w) A (l9 (.ref it)) Q E s
abbrev TI:=St→Hp→(It→Hp→Prop)→Prop
def bQ(X:Cx)(pins:List (Addr×Obj))(σ:St)(tg:Expr)(R:It→Hp→Prop)(itv:Value)(s2:a7):Prop:=
 ∃(it:Addr) (fp:List Addr) (tn:Nat→Heap→Prop) (J:It) (H':Hp),itv=.ref it∧Inv X pins σ H' s2∧Turn X.prog X.w X.K tg J fp it tn∧tn 0 s2.heap∧(∀b∈fp,HA X pins H' b)∧R J H'
def PI(X:Cx)(tg iter:Expr)(wi:TI):Prop:=
 ∀(pins:List (Addr×Obj)) (s:a7) (σ:St) (H:Hp) (R:It→Hp→Prop),Inv X pins σ H s→wi σ H R→
  wpAny (model X.prog X.w) X.A (eval iter X.env) (fun v s1=>wpAny (model X.prog X.w) X.A (l9 v) (bQ X pins σ tg R) X.xe s1) X.xe s
theorem Ov{M:Model}{A:dy}{E:Value→a7→Prop}{s:a7}{tg:Expr}{it:Addr}{u:Value}{o:Obj}{n:String}{vs:Array Value}{Q:Unit→a7→Prop}(ho:s.heap.get? it=some o)(hc:o.cls=.type n)(hd:o.data=.fields vs)
    (hn:["enumerate","zip","dict_itemiterator","dict_reverseitemiterator","odict_iterator","itertools.zip_longest","itertools.pairwise"].contains n=false) (hQ:Q () s):wpAny M A (jO tg (.ref it) u) Q E s:=by
  unfold jO
  cases tg<;>first
    |exact b5 hQ
    | (cases u<;>first
        |exact b5 hQ
        | (refine a6 (wpAny_load ho ?_)
           rw[hc,hd]
           show wpAny M A (if(["enumerate","zip","dict_itemiterator","dict_reverseitemiterator","odict_iterator","itertools.zip_longest","itertools.pairwise"].contains n&&vs[0]?==some (kT _))=true then _ else _) Q E s
           rw[if_neg (by intro h;rw[hn,Bool.false_and] at h;cases h)]
           exact b5 hQ))
def aW(K:a5)(a:Addr):It:=
 ⟨fun i H=>∃xs x,Dj K H a xs∧xs[i]?=some x,fun i H x H'=>H'=H∧∀xs,Dj K H a xs→xs[i]?=some x,fun i H=>∃xs,Dj K H a xs∧xs.length≤i⟩
def aX(K:a5)(a:Addr):It:=
 ⟨fun i H=>∃xs x,IJ K H a xs∧xs[i]?=some x,fun i H x H'=>H'=H∧∀xs,IJ K H a xs→xs[i]?=some x,fun i H=>∃xs,IJ K H a xs∧xs.length≤i⟩
def YF(lo:Int)(n:Nat):It:=⟨fun i _=>i<n,fun i H x H'=>H'=H∧x=.int (lo+i),fun i _=>n≤i⟩
theorem Nh{P:Program}{w:World}{K:a5}{tg:Expr}(a it:Addr):Turn P w K tg (aW K a) [it] it (fun i h=>h.IsListIter it a i) where
 mem:=by simp
 obj:=fun i h st b hb=>by
  have e:b=it:=by simpa using hb
  subst e
  obtain⟨o,e,c,d⟩:=st
  exact⟨o,e,fun v z=>by rw[d] at z;cases z⟩
 keep:=fun i h h' st k=>st.at fun o e=>k it (by simp) o e
 item:=by
  intro X hP hw hK hc i pins s σ H E I hf st hg
  subst hP hw hK
  obtain⟨xs,x,hq,hx⟩:=hg
  obtain⟨its,rv,p,hz⟩:=I.list hq
  obtain⟨u,hu,ru⟩:=rv.get hx
  obtain⟨f0,f1,f2,f3,f4,f5⟩:=hf it (by simp)
  refine wpAny_pyNext_list_item st p.isList (x:=u) (by simpa using hu) fun h' st' sb=>?_
  have I1:Inv X pins σ H {s with heap:=h'}:=I.turned (t':=s.toks) (fun b o hb e=> (sb.2 b hb).trans e) f0 f1 f3 f4 f5
  obtain⟨o,e,c,d⟩:=id st'
  exact⟨u,rfl,Ov (s:={s with heap:=h'}) e c d (by decide) ⟨x,H,I1,ru,⟨rfl,fun ys hy=>by rw[I.list_inj hy hq];exact hx⟩,st',fun b hb=> (hf b hb).1⟩⟩
 done:=by
  intro X hP hw hK hc i pins s σ H E I hf st hg
  subst hP hw hK
  obtain⟨xs,hq,hx⟩:=hg
  obtain⟨its,rv,p,hz⟩:=I.list hq
  obtain⟨f0,f1,f2,f3,f4,f5⟩:=hf it (by simp)
  have hl:=rv.length
  exact wpAny_pyNext_list_end (I.ok.hd hc) st p.isList (by simp;omega) fun h' eb=> ⟨rfl,I.turned (t':=s.toks) (fun b o hb e=>eb b o hb e) f0 f1 f3 f4 f5⟩
 self:=fun _ _ _ _ _ st h=>wpAny_pyIter_listiter st h
theorem LA{P:Program}{w:World}{K:a5}{tg:Expr}(a it:Addr):Turn P w K tg (aX K a) [it] it (fun i h=>h.IsTupleIter it a i) where
 mem:=by simp
 obj:=fun i h st b hb=>by
  have e:b=it:=by simpa using hb
  subst e
  obtain⟨o,e,c,d⟩:=st
  exact⟨o,e,fun v z=>by rw[d] at z;cases z⟩
 keep:=fun i h h' st k=>st.at fun o e=>k it (by simp) o e
 item:=by
  intro X hP hw hK hc i pins s σ H E I hf st hg
  subst hP hw hK
  obtain⟨xs,x,hq,hx⟩:=hg
  obtain⟨its,rv,p,hz⟩:=I.tuple hq
  obtain⟨u,hu,ru⟩:=rv.get hx
  obtain⟨f0,f1,f2,f3,f4,f5⟩:=hf it (by simp)
  refine wpAny_pyNext_tuple_item st (show s.heap.IsTuple a its.toArray from p) (x:=u) (by simpa using hu) fun h' st' sb=>?_
  have I1:Inv X pins σ H {s with heap:=h'}:=I.turned (t':=s.toks) (fun b o hb e=> (sb.2 b hb).trans e) f0 f1 f3 f4 f5
  obtain⟨o,e,c,d⟩:=id st'
  exact⟨u,rfl,Ov (s:={s with heap:=h'}) e c d (by decide) ⟨x,H,I1,ru,⟨rfl,fun ys hy=>by rw[I.tuple_inj hy hq];exact hx⟩,st',fun b hb=> (hf b hb).1⟩⟩
 done:=by
  intro X hP hw hK hc i pins s σ H E I hf st hg
  subst hP hw hK
  obtain⟨xs,hq,hx⟩:=hg
  obtain⟨its,rv,p,hz⟩:=I.tuple hq
  obtain⟨f0,f1,f2,f3,f4,f5⟩:=hf it (by simp)
  have hl:=rv.length
  exact wpAny_pyNext_tuple_end (I.ok.hd hc) st (show s.heap.IsTuple a its.toArray from p) (by simp;omega) fun h' eb=> ⟨rfl,I.turned (t':=s.toks) (fun b o hb e=>eb b o hb e) f0 f1 f3 f4 f5⟩
 self:=fun _ _ _ _ _ st h=>wpAny_pyIter_tupleiter st h
theorem LB{P:Program}{w:World}{K:a5}{tg:Expr}(it:Addr)(lo:Int)(n:Nat):Turn P w K tg (YF lo n) [it] it (fun i h=>IsRangeIter h it (lo+(i:Nat)*1) ((n:Int)- (i:Nat)) 1) where
 mem:=by simp
 obj:=fun i h st b hb=>by
  have e:b=it:=by simpa using hb
  subst e
  exact⟨_,st,fun v z=>by
   have z':Data.fields _=Data.cell v:=z
   cases z'⟩
 keep:=fun i h h' st k=>k it (by simp) _ st
 item:=by
  intro X hP hw hK hc i pins s σ H E I hf st hg
  subst hP hw hK
  obtain⟨f0,f1,f2,f3,f4,f5⟩:=hf it (by simp)
  have W:=Walks.range (prog:=X.prog) (w:=X.w) (I.ok.hd hc) it lo 1 n
  refine W.item i s _ _ hg st fun v h' tk hv st' kk=>?_
  obtain⟨t,rfl⟩:=hv
  have I1:Inv X pins σ H {s with heap:=h',toks:=tk}:=I.turned (fun b o hb e=>kk b o (by simpa using hb) e) f0 f1 f3 f4 f5
  refine⟨_,rfl,Ov (s:={s with heap:=h',toks:=tk}) (n:="range_iterator") st' rfl rfl (by decide) ⟨.int (lo+i),H,I1,⟨t,?_⟩,⟨rfl,rfl⟩,st',fun b hb=> (hf b hb).1⟩⟩
  rw[Int.mul_one]
 done:=by
  intro X hP hw hK hc i pins s σ H E I hf st hg
  subst hP hw hK
  obtain⟨f0,f1,f2,f3,f4,f5⟩:=hf it (by simp)
  exact wpAny_pyNext_range_end (I.ok.hd hc) st (by have:n≤i:=hg;omega) fun h' eb=> ⟨rfl,I.turned (t':=s.toks) (fun b o hb e=>eb b o hb e) f0 f1 f3 f4 f5⟩
 self:=fun _ _ _ _ _ st h=>wpAny_pyIter_rangeiter st h
section
variable{X:Cx}{tg:Expr}
def YG(K:a5)(tl:TE):TI:=fun σ H R=>tl σ H fun x H1=>∃a,x=.ref a∧(∃xs,Dj K H1 a xs)∧R (aW K a) H1
def aY(K:a5)(tl:TE):TI:=fun σ H R=>tl σ H fun x H1=>∃a,x=.ref a∧(∃xs,IJ K H1 a xs)∧R (aX K a) H1
theorem SR{l:Expr}{tl:TE}(hl:PE X l tl):PI X tg l (YG X.K tl):=by
 intro pins s σ H R I h
 refine Ar (hl pins s σ H _ I h) fun v s1 ⟨x,H1,I1,r1,q1⟩=>?_
 obtain⟨a,e,⟨xs,hq⟩,q⟩:=q1
 subst e
 cases r1
 obtain⟨its,rv,p,hz⟩:=I1.list hq
 refine ko p.isList ?_
 refine⟨s1.heap.objs.size,[s1.heap.objs.size],_,_,H1,rfl,I1.kept (t':=s1.toks) fun b o e=>c9 _ e,Nh a _,⟨_,dN _ rfl,rfl,rfl⟩,fun b hb=>?_,q⟩
 have e:b=s1.heap.objs.size:=by simpa using hb
 subst e
 exact I1.fpOk (de _) (I1.hok.fresh (de _))
theorem VZ{l:Expr}{tl:TE}(hl:PE X l tl):PI X tg l (aY X.K tl):=by
 intro pins s σ H R I h
 refine Ar (hl pins s σ H _ I h) fun v s1 ⟨x,H1,I1,r1,q1⟩=>?_
 obtain⟨a,e,⟨xs,hq⟩,q⟩:=q1
 subst e
 cases r1
 obtain⟨its,rv,p,hz⟩:=I1.tuple hq
 refine wpAny_pyIter_tuple (show s1.heap.IsTuple a its.toArray from p) ?_
 refine⟨s1.heap.objs.size,[s1.heap.objs.size],_,_,H1,rfl,I1.kept (t':=s1.toks) fun b o e=>c9 _ e,LA a _,⟨_,dN _ rfl,rfl,rfl⟩,fun b hb=>?_,q⟩
 have e:b=s1.heap.objs.size:=by simpa using hb
 subst e
 exact I1.fpOk (de _) (I1.hok.fresh (de _))
theorem Jh{pins:List (Addr×Obj)}{σ:St}{H:Hp}{s:a7}{R:It→Hp→Prop}{E:Value→a7→Prop}{lo hi:Int}{t u v:Tok}{tk:Nat}(I:Inv X pins σ H s)(h1: -(2^62)≤lo)(h2:lo<2^62)(h3: -(2^62)≤hi)(h4:hi<2^62)
  (q:R (YF lo (hi-lo).toNat) H):wpAny (model X.prog X.w) X.A (l9 (.ref s.heap.objs.size)) (bQ X pins σ tg R) E {s with heap:=s.heap.push {cls:=.type "range",data:=.fields #[.int lo t,.int hi u,.int 1 v]},toks:=tk}:=by
 refine wpAny_pyIter_range (IsRange.new ..) (small_one h1 h2 h3 h4) ?_
 have I1:Inv X pins σ H {s with heap:=s.heap.push {cls:=.type "range",data:=.fields #[.int lo t,.int hi u,.int 1 v]},toks:=tk}:=I.kept fun b o e=>c9 _ e
 refine⟨(s.heap.push {cls:=.type "range",data:=.fields #[.int lo t,.int hi u,.int 1 v]}).objs.size,[(s.heap.push {cls:=.type "range",data:=.fields #[.int lo t,.int hi u,.int 1 v]}).objs.size],_,_,H,rfl,
  I1.kept (t':=tk) fun b o e=>c9 _ e,LB _ lo (hi-lo).toNat,?_,fun b hb=>?_,q⟩
 ·have e1:lo+((0:Nat):Int)*1=lo:=by simp
  have e2:(((hi-lo).toNat:Nat):Int)- ((0:Nat):Int)=js lo hi 1:=by rw[lV];split<;>omega
  show IsRangeIter _ _ (lo+((0:Nat):Int)*1) ((((hi-lo).toNat:Nat):Int)- ((0:Nat):Int)) 1
  rw[e1,e2]
  exact dN _ rfl
 ·have e:b=(s.heap.push {cls:=.type "range",data:=.fields #[.int lo t,.int hi u,.int 1 v]}).objs.size:=by simpa using hb
  subst e
  exact I1.fpOk (de _) (I1.hok.fresh (de _))
def YH(ta:TA):TI:=fun σ H R=>ta σ H fun vs H1=>∃j:Int,vs=[.int j]∧-(2^62)≤j∧j<2^62∧R (YF 0 j.toNat) H1
def YI(ta:TA):TI:=fun σ H R=>ta σ H fun vs H1=>∃i j:Int,vs=[.int i,.int j]∧(-(2^62)≤i∧i<2^62∧-(2^62)≤j∧j<2^62)∧R (YF i (j-i).toNat) H1
theorem Ni{a:Expr}{ta:TA}{p pos:Pos}(hg:Gl X "range")(hm:X.mg "range" =none)(ha:PA X [a] ta)(hs:b4 [a] X.env=[(false,eval a X.env)]:=by rfl):PI X tg (.Call (.Name "range" p) [a] [] pos) (YH ta):=by
 intro pins s σ H R I h
 refine Call_ (Eg I hg hm boot_range (iU (Ar (ha pos pins s σ H _ I h) fun us s1 ⟨vs,H1,I1,r1,q1⟩=>?_) hs rfl))
 obtain⟨j,e,q1,q2,q⟩:=q1
 subst e
 cases r1 with
 |cons r rr=>
  cases rr
  obtain⟨t,rfl⟩:=r
  exact call_range_1 (Jh I1 (by omega) (by omega) q1 q2 (by simpa using q))
theorem Nj{a b:Expr}{ta:TA}{p pos:Pos}(hg:Gl X "range")(hm:X.mg "range" =none)(ha:PA X [a,b] ta)(hs:b4 [a,b] X.env=[(false,eval a X.env),(false,eval b X.env)]:=by rfl)(hs2:b4 [b] X.env=[(false,eval b X.env)]:=by rfl):
  PI X tg (.Call (.Name "range" p) [a,b] [] pos) (YI ta):=by
 intro pins s σ H R I h
 refine Call_ (Eg I hg hm boot_range (iU (Ar (ha pos pins s σ H _ I h) fun us s1 ⟨vs,H1,I1,r1,q1⟩=>?_) (by rw[hs,hs2]) (by rw[hs2];rfl)))
 obtain⟨i,j,e,⟨q1,q2,q3,q4⟩,q⟩:=q1
 subst e
 cases r1 with
 |cons r rr=>
  cases rr with
  |cons r' rr=>
   cases rr
   obtain⟨t,rfl⟩:=r
   obtain⟨t',rfl⟩:=r'
   exact call_range_2 (Jh I1 q1 q2 q3 q4 q)
def aZ(wi:TI)(g:TG)(tb:TS):TS:=fun D σ H=>wi σ H fun J H1=>∃W:Nat→Nat→St→Hp→Prop,(∃m,W 0 m σ H1)∧∀i m σ H,W i m σ H→
 (J.stop i H∧D.nx σ H)∨(J.go i H∧∃N:St→Hp→Prop,(∀σ' H',N σ' H'→∃m',m'<m∧W (i+1) m' σ' H')∧∀x H',J.yld i H x H'→g x σ H' fun σ2 H2=>tb {D with nx:=N,ct:=N,bk:=D.nx} σ2 H2)
def Fk(fp:List Addr)(h:Heap):List (Addr×Obj):=fp.filterMap fun b=> (h.get? b).map fun o=> (b,o)
theorem Cf{fp:List Addr}{h:Heap}{b:Addr}{o:Obj}(hb:b∈fp)(e:h.get? b=some o):(b,o)∈Fk fp h:=gF.mpr ⟨b,hb,by rw[e];rfl⟩
theorem Nk{fp:List Addr}{h:Heap}{p:Addr×Obj}(hp:p∈Fk fp h):p.1∈fp∧h.get? p.1=some p.2:=by
 obtain⟨b,hb,e⟩:=gF.mp hp
 cases q:h.get? b with
 |none=>rw[q] at e;cases e
 |some o=>
  rw[q] at e
  have e':(b,o)=p:=eu.inj e
  subst e'
  exact⟨hb,q⟩
theorem Inv.pinned{pins:List (Addr×Obj)}{σ:St}{H:Hp}{s:a7}{fp:List Addr}(I:Inv X pins σ H s)(hf:∀b∈fp,HA X pins H b)(ho:∀b∈fp,∃o,s.heap.get? b=some o∧∀v,o.data≠.cell v):Inv X (pins++Fk fp s.heap) σ H s:=
 I.pins_of fun p hp=> (dw.mp hp).elim (fun z=>I.pin p (eS _ z)) fun z=>by
  obtain⟨hb,e⟩:=Nk z
  obtain⟨f0,f1,f2,_⟩:=hf p.1 hb
  obtain⟨o,e',d⟩:=ho p.1 hb
  rw[e] at e';cases e'
  exact⟨e,f0,f1,f2,d⟩
theorem Inv.unpinned{pins pl:List (Addr×Obj)}{σ:St}{H:Hp}{s:a7}(I:Inv X (pins++pl) σ H s):Inv X pins σ H s:=I.pins_of fun p hp=>I.pin p (eS _ (gk _ hp))
theorem Va{iter:Expr}{body:List Stmt}{wi:TI}{g:TG}{tb:TS}{pos:Pos}(hp:j5 (model X.prog X.w) X.A X.env X.xe)(hc:X.calm=true)(hi:PI X tg iter wi)(hg:PG X tg g)(hb:PSs X body tb)
  (hs:∀x,fL iter X.env x=pure x:=by intro _;rfl):PS X (.For tg iter body [] pos) (aZ wi g tb):=by
 intro pins s σ H D I h
 refine wpAny_For (Ar (hi pins s σ H _ I h) fun v s1 h1=>Ar h1 fun itv s2 h2=>?_) hs
 obtain⟨it,fp,tn,J,H2,e,I2,T,st2,f2,W,⟨m0,w0⟩,turn⟩:=h2
 subst e
 have stat:∀{H':Hp},(∀b∈fp,H' b=none)→∀b∈fp,HA X pins H' b:=fun hn b hb=> ⟨hn b hb,(f2 b hb).2⟩
 refine codeAny_forLoop_any (fun n s'=>∃i σ' H',Inv X pins σ' H' s'∧tn i s'.heap∧(∀b∈fp,H' b=none)∧W i n σ' H') ?_ m0 ⟨0,σ,H2,I2,st2,fun b hb=> (f2 b hb).1,w0⟩
 rintro n s3 ⟨i,σ3,H3,I3,st3,fr3,w3⟩
 rcases turn i n σ3 H3 w3 with⟨stop,qn⟩| ⟨go,N,hN,step⟩
 ·refine gZ hp (Ar (T.done X rfl rfl rfl hc i pins s3 σ3 H3 X.xe I3 (stat fr3) st3 stop) fun r s4 ⟨hr,I4⟩=>?_)
  subst hr
  exact jN ⟨σ3,H3,I4,qn⟩
 ·refine gZ hp (Ar (T.item X rfl rfl rfl hc i pins s3 σ3 H3 X.xe I3 (stat fr3) st3 go) fun r s4 ⟨u,hr,h4⟩=>?_)
  subst hr
  refine gZ hp (Ar h4 fun _ s5 ⟨x,H5,I5,r5,y5,st5,fr5⟩=>?_)
  have I5':=I5.pinned (stat fr5) (T.obj _ _ st5)
  refine gZ hp (Ar (hg _ s5 σ3 H5 x u _ I5' r5 (step x H5 y5)) fun _ s6 ⟨σ6,H6,I6,q6⟩=>?_)
  refine gZ hp (Ar (hb _ s6 σ6 H6 _ I6 q6) fun f s7 q7=>?_)
  have again:∀{σ7:St} {H7:Hp},Inv X (pins++Fk fp s5.heap) σ7 H7 s7→N σ7 H7→∃m,m<n∧∃i σ' H',Inv X pins σ' H' s7∧tn i s7.heap∧(∀b∈fp,H' b=none)∧W i m σ' H':=fun{σ7 H7} I7 n7=>by
   obtain⟨m',hm,w7⟩:=hN σ7 H7 n7
   refine⟨m',hm,i+1,σ7,H7,I7.unpinned,T.keep _ _ _ st5 fun b hb o e=> (I7.pin (b,o) (eS _ (eS _ (Cf hb e)))).1,fun b hb=>?_,w7⟩
   obtain⟨o,e,d⟩:=T.obj _ _ st5 b hb
   exact(I7.pin (b,o) (eS _ (eS _ (Cf hb e)))).2.1
  cases f with
  |next=>obtain⟨σ7,H7,I7,n7⟩:=q7;exact again I7 n7
  |cont=>obtain⟨σ7,H7,I7,n7⟩:=q7;exact again I7 n7
  |brk=>obtain⟨σ7,H7,I7,q7⟩:=q7;exact⟨σ7,H7,I7.unpinned,q7⟩
  |ret v=>obtain⟨x7,σ7,H7,I7,r7,q7⟩:=q7;exact⟨x7,σ7,H7,I7.unpinned,r7,q7⟩
end
abbrev R2:=V→V→Hp→VK→Prop
def DF(X:Cx)(f:Value→Value→Sem Value)(r:R2):Prop:=
 ∀(pins:List (Addr×Obj)) (s:a7) (σ:St) (H:Hp) (x y:V) (v u:Value) (Q:VK),Inv X pins σ H s→RelV x v→RelV y u→r x y H Q→
  wpAny (model X.prog X.w) X.A (f v u) (EP X pins σ Q) X.xe s
def Av(X:Cx)(f:Value)(r:List V→Hp→VK→Prop):Prop:=
 ∀(pins:List (Addr×Obj)) (s:a7) (σ:St) (H:Hp) (xs:List V) (us:List Value) (Q:VK),Inv X pins σ H s→Vals xs us→r xs H Q→
  wpAny (model X.prog X.w) X.A (call f us) (EP X pins σ Q) X.xe s
def aa(X:Cx)(r:V→Hp→(Bool→Hp→Prop)→Prop):Prop:=
 ∀(pins:List (Addr×Obj)) (s:a7) (σ:St) (H:Hp) (x:V) (v:Value) (Q:Bool→Hp→Prop),Inv X pins σ H s→RelV x v→r x H Q→
  wpAny (model X.prog X.w) X.A (truthy v) (TP X pins σ Q) X.xe s
def YJ(r:R2)(ta tb:TE):TE:=fun σ H Q=>ta σ H fun x H1=>tb σ H1 fun y H2=>r x y H2 Q
def rI(C:Int→Int→Prop)(g:Int→Int→V):R2:=fun x y H Q=>∃i j,x=.int i∧y=.int j∧C i j∧Q (g i j) H
def SE(g:Int→Int→V):R2:=fun x y H Q=>∃i j,x=.int i∧y=.int j∧Q (g i j) H
section
variable{X:Cx}{a b c:Expr}{ta tb tc:TE}{pos:Pos}
theorem Vb(ha:PE X a ta)(hb:PE X b tb){pins:List (Addr×Obj)}{s:a7}{σ:St}{H:Hp}{R:V→V→Hp→Prop}(I:Inv X pins σ H s)
  (h:ta σ H fun x H1=>tb σ H1 fun y H2=>R x y H2) {Q:Value→a7→Prop} {f:Value→Value→Sem Value}
  (hf:∀v u s2 x y H2,Inv X pins σ H2 s2→RelV x v→RelV y u→R x y H2→wpAny (model X.prog X.w) X.A (f v u) Q X.xe s2):
  wpAny (model X.prog X.w) X.A (eval a X.env) (fun v s₁=>wpAny (model X.prog X.w) X.A (eval b X.env) (fun u s₂=>wpAny (model X.prog X.w) X.A (f v u) Q X.xe s₂) X.xe s₁) X.xe s:=by
 refine Ar (ha pins s σ H _ I h) fun v s1 ⟨x,H1,I1,r1,q1⟩=>?_
 refine Ar (hb pins s1 σ H1 _ I1 q1) fun u s2 ⟨y,H2,I2,r2,q2⟩=>?_
 exact hf v u s2 x y H2 I2 r1 r2 q2
theorem YK{op:lM}{r:R2}(ho:DF X (jv op) r)(ha:PE X a ta)(hb:PE X b tb):PE X (.BinOp a op b pos) (YJ r ta tb):=by
 intro pins s σ H Q I h
 exact wpAny_BinOp (Vb ha hb I h fun v u s2 x y H2 I2 rx ry q=>ho pins s2 σ H2 x y v u Q I2 rx ry q)
theorem aC{f:Value→Value→Sem Value}{C:Int→Int→Prop}{g:Int→Int→Int}
  (rule:∀(i j:Int) (t u:Tok) (s:a7) (Q:Value→a7→Prop) (E:Value→a7→Prop),C i j→Q (.int (g i j) s.toks) {s with toks:=s.toks+1}→wpAny (model X.prog X.w) X.A (f (.int i t) (.int j u)) Q E s):
  DF X f (rI C fun i j=> .int (g i j)):=by
 intro pins s σ H x y v u Q I rx ry h
 obtain⟨i,j,rfl,rfl,hc,q⟩:=h
 obtain⟨t,rfl⟩:=rx
 obtain⟨t',rfl⟩:=ry
 exact rule i j t t' s _ _ hc ⟨.int (g i j),H,I.tok _,⟨_,rfl⟩,q⟩
theorem YL{f:Value→Value→Sem Value}{g:Int→Int→Int}
  (rule:∀(i j:Int) (t u:Tok) (s:a7) (Q:Value→a7→Prop) (E:Value→a7→Prop),Q (.int (g i j) s.toks) {s with toks:=s.toks+1}→wpAny (model X.prog X.w) X.A (f (.int i t) (.int j u)) Q E s):
  DF X f (SE fun i j=> .int (g i j)):=by
 intro pins s σ H x y v u Q I rx ry h
 obtain⟨i,j,rfl,rfl,q⟩:=h
 obtain⟨t,rfl⟩:=rx
 obtain⟨t',rfl⟩:=ry
 exact rule i j t t' s _ _ ⟨.int (g i j),H,I.tok _,⟨_,rfl⟩,q⟩
theorem SS{f:Value→Value→Sem Value}{g:Int→Int→Bool}
  (rule:∀(i j:Int) (t u:Tok) (s:a7) (Q:Value→a7→Prop) (E:Value→a7→Prop),Q (.bool (g i j)) s→wpAny (model X.prog X.w) X.A (f (.int i t) (.int j u)) Q E s):
  DF X f (SE fun i j=> .bl (g i j)):=by
 intro pins s σ H x y v u Q I rx ry h
 obtain⟨i,j,rfl,rfl,q⟩:=h
 obtain⟨t,rfl⟩:=rx
 obtain⟨t',rfl⟩:=ry
 exact rule i j t t' s _ _ ⟨.bl (g i j),H,I,rfl,q⟩
def YM(i j:Int):Prop:=0<j∧j<1073741824
def YN(i j:Int):Prop:=0≤j∧j≤1000000∧i.natAbs<2^64
def CMul(i j:Int):Prop:=(-(2^64)<i∧i<2^64)∨(-(2^64)<j∧j<2^64)
theorem CMul.ok{i j:Int}(h:CMul i j):IntMulOk i j:=by
 rcases h with⟨h1,h2⟩| ⟨h1,h2⟩
 ·exact .of_left (intBits_le_64 h1 h2)
 ·exact .of_right (intBits_le_64 h1 h2)
theorem Eh:DF X (jv .Add) (SE fun i j=> .int (i+j)):=YL fun _ _ _ _ _ _ _ q=>add_int q
theorem Vc:DF X (jv .Sub) (SE fun i j=> .int (i-j)):=YL fun _ _ _ _ _ _ _ q=>sub_int q
theorem Vd:DF X (jv .Mult) (rI CMul fun i j=> .int (i*j)):=aC fun _ _ _ _ _ _ _ hc q=>mul_int q hc.ok
theorem SU:DF X (jv .FloorDiv) (rI YM fun i j=> .int (i/j)):=aC fun i j _ _ _ _ _ hc q=>by
 have h1:(0:Int)<j:=hc.1
 have h2:j<1073741824:=hc.2
 exact floordiv_int (by omega) (by rw[Int.fdiv_eq_ediv_of_nonneg i (by omega)];exact q) (.inl (PyProof.noPylong_small (by omega)))
theorem Ow:DF X (jv .Mod) (rI (fun _ j=>0<j) fun i j=> .int (i%j)):=aC fun i j _ _ _ _ _ hc q=>by
 have h1:(0:Int)<j:=hc
 exact mod_int' (by omega) (by rw[Int.fmod_eq_emod_of_nonneg i (by omega)];exact q)
theorem Ve:DF X (jv .Pow) (rI YN fun i j=> .int (i^j.toNat)):=aC fun _ _ _ _ _ _ _ hc q=>pow_int_small hc.1 hc.2.1 hc.2.2 q
end
def YO:V→V→Bool
 | .non,.non=>true| .non,.int _=>true| .int _,.non=>true| .non,.bl _=>true| .bl _,.non=>true| .non,.str _=>true| .str _,.non=>true
 | .int _,.int _=>true| .bl _,.bl _=>true| .str _,.str _=>true| .byt _,.byt _=>true
 | .int _,.str _=>true| .str _,.int _=>true| .bl _,.str _=>true| .str _,.bl _=>true
 |_,_=>false
def bR:R2:=fun x y H Q=>YO x y=true∧Q (.bl (decide (x=y))) H
def ae:R2:=fun x y H Q=>YO x y=true∧Q (.bl (!decide (x=y))) H
theorem MO{i j:Int}:decide (V.int i=V.int j)=(i==j):=by
 rw[jj]
 simp
theorem LD{i j:Bool}:decide (V.bl i=V.bl j)=(i==j):=by
 rw[jj]
 simp
theorem MP{i j:Str}:decide (V.str i=V.str j)=(i==j):=by
 rw[jj]
 simp
theorem MQ{i j:Array UInt8}:decide (V.byt i=V.byt j)=(i.toList==j.toList):=by
 rw[jj]
 cases i
 cases j
 simp
section
variable{X:Cx}{a b c:Expr}{ta tb tc:TE}{pos:Pos}
theorem AV{pins:List (Addr×Obj)}{σ:St}{H:Hp}{s:a7}{Q:VK}{k k':Bool}(I:Inv X pins σ H s)(q:Q (.bl k) H)(e:k=k'):EP X pins σ Q (.bool k') s:=by
 subst e
 exact⟨.bl k,H,I,rfl,q⟩
theorem Ji:DF X (fm .Eq) bR:=by
 intro pins s σ H x y v u Q I rx ry h
 obtain⟨hs,q⟩:=h
 cases x with
 |non=>
  cases rx
  cases y with
  |non=>cases ry;exact PySem.EqNone.eq_none_none (AV I q (by simp))
  |bl j=>cases ry;exact PySem.EqNone.eq_none_bool (AV I q (by simp))
  |int j=>obtain⟨t',rfl⟩:=ry;exact PySem.EqNone.eq_none_int (AV I q (by simp))
  |str j=>obtain⟨t',rfl⟩:=ry;exact PySem.EqNone.eq_none_str (AV I q (by simp))
  |_=>exact absurd (show false=true from hs) b6
 |bl i=>
  cases rx
  cases y with
  |non=>cases ry;exact PySem.EqNone.eq_bool_none (AV I q (by simp))
  |bl j=>cases ry;exact eq_bool (AV I q LD)
  |str j=>obtain⟨t',rfl⟩:=ry;exact PySem.EqMixed.eq_bool_str (AV I q (by simp))
  |_=>exact absurd (show false=true from hs) b6
 |int i=>
  obtain⟨t,rfl⟩:=rx
  cases y with
  |non=>cases ry;exact PySem.EqNone.eq_int_none (AV I q (by simp))
  |int j=>obtain⟨t',rfl⟩:=ry;exact eq_int (AV I q MO)
  |str j=>obtain⟨t',rfl⟩:=ry;exact PySem.EqMixed.eq_int_str (AV I q (by simp))
  |_=>exact absurd (show false=true from hs) b6
 |str i=>
  obtain⟨t,rfl⟩:=rx
  cases y with
  |non=>cases ry;exact PySem.EqNone.eq_str_none (AV I q (by simp))
  |bl j=>cases ry;exact PySem.EqMixed.eq_str_bool (AV I q (by simp))
  |int j=>obtain⟨t',rfl⟩:=ry;exact PySem.EqMixed.eq_str_int (AV I q (by simp))
  |str j=>obtain⟨t',rfl⟩:=ry;exact eq_str (AV I q MP)
  |_=>exact absurd (show false=true from hs) b6
 |byt i=>
  obtain⟨t,rfl⟩:=rx
  cases y with
  |byt j=>obtain⟨t',rfl⟩:=ry;exact PySem.W.eq_bytes (AV I q MQ)
  |_=>exact absurd (show false=true from hs) b6
 |_=>cases y<;>exact absurd (show false=true from hs) b6
theorem Ub:DF X (fm .NotEq) ae:=by
 intro pins s σ H x y v u Q I rx ry h
 obtain⟨hs,q⟩:=h
 cases x with
 |non=>
  cases rx
  cases y with
  |non=>cases ry;exact PySem.EqNone.ne_none_none (AV I q (by simp))
  |bl j=>cases ry;exact PySem.EqNone.ne_none_bool (AV I q (by simp))
  |int j=>obtain⟨t',rfl⟩:=ry;exact PySem.EqNone.ne_none_int (AV I q (by simp))
  |str j=>obtain⟨t',rfl⟩:=ry;exact PySem.EqNone.ne_none_str (AV I q (by simp))
  |_=>exact absurd (show false=true from hs) b6
 |bl i=>
  cases rx
  cases y with
  |non=>cases ry;exact PySem.EqNone.ne_bool_none (AV I q (by simp))
  |bl j=>cases ry;exact ne_bool (AV I q (congrArg not LD))
  |str j=>obtain⟨t',rfl⟩:=ry;exact PySem.EqMixed.ne_bool_str (AV I q (by simp))
  |_=>exact absurd (show false=true from hs) b6
 |int i=>
  obtain⟨t,rfl⟩:=rx
  cases y with
  |non=>cases ry;exact PySem.EqNone.ne_int_none (AV I q (by simp))
  |int j=>obtain⟨t',rfl⟩:=ry;exact ne_int (AV I q (congrArg not MO))
  |str j=>obtain⟨t',rfl⟩:=ry;exact PySem.EqMixed.ne_int_str (AV I q (by simp))
  |_=>exact absurd (show false=true from hs) b6
 |str i=>
  obtain⟨t,rfl⟩:=rx
  cases y with
  |non=>cases ry;exact PySem.EqNone.ne_str_none (AV I q (by simp))
  |bl j=>cases ry;exact PySem.EqMixed.ne_str_bool (AV I q (by simp))
  |int j=>obtain⟨t',rfl⟩:=ry;exact PySem.EqMixed.ne_str_int (AV I q (by simp))
  |str j=>obtain⟨t',rfl⟩:=ry;exact ne_str (AV I q (congrArg not MP))
  |_=>exact absurd (show false=true from hs) b6
 |byt i=>
  obtain⟨t,rfl⟩:=rx
  cases y with
  |byt j=>obtain⟨t',rfl⟩:=ry;exact PySem.W.ne_bytes (AV I q (congrArg not MQ))
  |_=>exact absurd (show false=true from hs) b6
 |_=>cases y<;>exact absurd (show false=true from hs) b6
theorem Ox:DF X (fm .Lt) (SE fun i j=> .bl (decide (i<j))):=SS fun _ _ _ _ _ _ _ q=>lt_int q
theorem Oy:DF X (fm .LtE) (SE fun i j=> .bl (decide (i≤j))):=SS fun _ _ _ _ _ _ _ q=>le_int q
theorem YQ:DF X (fm .Gt) (SE fun i j=> .bl (decide (j<i))):=SS fun _ _ _ _ _ _ _ q=>gt_int q
theorem YR:DF X (fm .GtE) (SE fun i j=> .bl (decide (j≤i))):=SS fun _ _ _ _ _ _ _ q=>ge_int q
theorem Oz:DF X (fm .Is) (fun x y H Q=>y=.non∧Q (.bl (decide (x=.non))) H):=by
 intro pins s σ H x y v u Q I rx ry h
 obtain⟨rfl,q⟩:=h
 cases ry
 refine is_none_gen (AV I q ?_)
 cases x<;>first
  | (cases rx;rfl)
  | (obtain⟨t,rfl⟩:=rx;rfl)
theorem MR:DF X (fm .IsNot) (fun x y H Q=>y=.non∧Q (.bl (!decide (x=.non))) H):=by
 intro pins s σ H x y v u Q I rx ry h
 obtain⟨rfl,q⟩:=h
 cases ry
 refine isnot_none_gen (AV I q ?_)
 cases x<;>first
  | (cases rx;rfl)
  | (obtain⟨t,rfl⟩:=rx;rfl)
theorem Ad(b:Expr){op:CmpOp}(h:op≠.In:=by decide)(h2:op≠.NotIn:=by decide):behindInMarks op b=false:=by
 have e1:(op==CmpOp.In)=false:=by cases op<;>first|rfl|exact absurd rfl h
 have e2:(op==CmpOp.NotIn)=false:=by cases op<;>first|rfl|exact absurd rfl h2
 cases b<;>simp[behindInMarks,e1,e2]
theorem SV{op:CmpOp}{r:R2}(ho:DF X (fm op) r)(ha:PE X a ta)(hb:PE X b tb)(hm:behindInMarks op b=false):PE X (.Compare a [op] [b] pos) (YJ r ta tb):=by
 intro pins s σ H Q I h
 exact wpAny_Compare1 (Vb ha hb I h fun v u s2 x y H2 I2 rx ry q=>ho pins s2 σ H2 x y v u Q I2 rx ry q) hm
def YS(t:TE):TT:=fun σ H Q=>t σ H fun x H'=>∃k,x=.bl k∧Q k H'
theorem MS{op:CmpOp}{r:R2}(ho:DF X (fm op) r)(ha:PE X a ta)(hb:PE X b tb)(hm:behindInMarks op b=false):PT X (.Compare a [op] [b] pos) (YS (YJ r ta tb)):=by
 intro pins s σ H Q I h
 refine wpAny_isTrue_Compare1 (Ar (ha pins s σ H _ I h) fun v s1 ⟨x,H1,I1,r1,q1⟩=>Ar (hb pins s1 σ H1 _ I1 q1) fun u s2 ⟨y,H2,I2,r2,q2⟩=>
  Ar (ho pins s2 σ H2 x y v u _ I2 r1 r2 q2) fun c s3 ⟨z,H3,I3,r3,k,e,q3⟩=>?_) hm
 subst e
 cases r3
 exact gL ⟨H3,I3,q3⟩
def Vf(r r':R2)(ta tb tc:TE):TE:=fun σ H Q=>ta σ H fun x H1=>tb σ H1 fun y H2=>r x y H2 fun z H3=>∃k,z=.bl k∧
 (if k=true then tc σ H3 fun w' H4=>r' y w' H4 Q else Q (.bl false) H3)
theorem PB{op op':CmpOp}{r r':R2}(ho:DF X (fm op) r)(ho':DF X (fm op') r')(ha:PE X a ta)(hb:PE X b tb)(hc:PE X c tc)
  (hm:lastMarks [op,op'] [b,c]=false:=by with_unfolding_all rfl):PE X (.Compare a [op,op'] [b,c] pos) (Vf r r' ta tb tc):=by
 intro pins s σ H Q I h
 refine Compare_chain (Ar (ha pins s σ H _ I h) fun v s1 ⟨x,H1,I1,r1,q1⟩=>chain_link (Ar (hb pins s1 σ H1 _ I1 q1) fun u s2 ⟨y,H2,I2,r2,q2⟩=>
  Ar (ho pins s2 σ H2 x y v u _ I2 r1 r2 q2) fun d s3 ⟨z,H3,I3,r3,k,e,q3⟩=>?_)) hm
 subst e
 cases r3
 refine gL ?_
 cases k with
 |false=>exact ite_ff ⟨.bl false,H3,I3,rfl,q3⟩
 |true=>exact ite_tt (chain_last (Ar (hc pins s3 σ H3 _ I3 q3) fun w' s4 ⟨z',H4,I4,r4,q4⟩=>ho' pins s4 σ H4 y z' u w' Q I4 r2 r4 q4))
def Vg(K:a5)(x:V)(H:Hp)(k:Bool):Prop:=
 match x with
 | .non=>k=false
 | .bl b=>k=b
 | .int i=>k=(i !=0)
 | .str y=>y.length≤sizeLine∧k=((y.length:Int) !=0)
 | .byt y=>y.size≤sizeLine∧k=((y.size:Int) !=0)
 | .ref p=> (∃xs,Dj K H p xs∧k=!xs.isEmpty)∨(∃xs,IJ K H p xs∧k=!xs.isEmpty)∨∃kvs,H p=some (.dK kvs)∧k=!kvs.isEmpty
 |_=>False
theorem LF{κ:Type}{kvs:List (κ×V)}{vs:List (κ×Value)}(r:KV kvs vs):(!vs.isEmpty)=!kvs.isEmpty:=by
 cases r<;>rfl
theorem Fl{xs:List V}{its:List Value}(r:Vals xs its):(!its.toArray.isEmpty)=!xs.isEmpty:=by
 cases r<;>simp
theorem Fm:(sizeLine:Nat)<2^63:=by rw[e8];decide
theorem Vh:aa X (fun x H Q=>∃k,Vg X.K x H k∧Q k H):=by
 intro pins s σ H x v Q I rx h
 obtain⟨k,e,q⟩:=h
 have hl:=Fm
 have hs:sizeLine=16777216:=e8
 cases x with
 |non=>
  cases rx
  have e':k=false:=e
  subst e'
  exact truthy_none ⟨H,I,q⟩
 |bl b=>
  cases rx
  have e':k=b:=e
  subst e'
  exact gL ⟨H,I,q⟩
 |int i=>
  obtain⟨t,rfl⟩:=rx
  have e':k=(i !=0):=e
  subst e'
  exact PySem.P.truthy_int ⟨H,I,q⟩
 |str y=>
  obtain⟨t,rfl⟩:=rx
  obtain⟨hy,e'⟩:y.length≤sizeLine∧k=((y.length:Int) !=0):=e
  subst e'
  exact PySem.P.truthy_str (by omega) ⟨H,I.tok _,q⟩
 |byt y=>
  obtain⟨t,rfl⟩:=rx
  obtain⟨hy,e'⟩:y.size≤sizeLine∧k=((y.size:Int) !=0):=e
  subst e'
  exact PySem.W.truthy_bytes (by omega) ⟨H,I.tok _,q⟩
 |ref p=>
  cases rx
  have e':(∃xs,Dj X.K H p xs∧k=!xs.isEmpty)∨(∃xs,IJ X.K H p xs∧k=!xs.isEmpty)∨∃kvs,H p=some (.dK kvs)∧k=!kvs.isEmpty:=e
  rcases e' with⟨xs,hx,e'⟩| ⟨xs,hx,e'⟩| ⟨kvs,hx,e'⟩
  ·subst e'
   obtain⟨its,r,pl,hz⟩:=I.list hx
   have hlen:=r.length
   exact wpAny_truthy_list pl.isList (by simp only[du];omega) ⟨H,I.tok _,by rw[Fl r];exact q⟩
  ·subst e'
   obtain⟨its,r,pl,hz⟩:=I.tuple hx
   have hlen:=r.length
   exact truthy_tuple pl (by simp only[du];omega) ⟨H,I.tok _,by rw[Fl r];exact q⟩
  ·subst e'
   obtain⟨hz,hS,vs,r,m⟩:kvs.length≤sizeLine∧(p==sysModules)=false∧∃vs,KV kvs vs∧s.heap.DictOf (IG X.prog X.w) p vs:=I.hok p _ hx
   have hlen:kvs.length=vs.length:=Paired.length r
   exact wpAny_truthy_dict hS m (by omega) ⟨H,I.tok _,by rw[LF r];exact q⟩
 |_=>exact(show False from e).elim
theorem PC(ha:PE X a ta)(he:∀whole,isTrue a X.env whole=(do let v←whole;standAt a.pos;holding [v] (truthy v))):
  PT X a (fun σ H Q=>ta σ H fun x H'=>∃k,Vg X.K x H' k∧Q k H'):=by
 intro pins s σ H Q I h
 exact isTrue_plain (Ar (ha pins s σ H _ I h) fun v s1 ⟨x,H1,I1,r1,q1⟩=>Vh pins s1 σ H1 x v Q I1 r1 q1) (he _)
theorem DJ{x:V}{us:List Value}(r:Vals [x] us):∃u,us=[u]∧RelV x u:=by
 cases r with
 |cons r1 r2=>cases r2;exact⟨_,rfl,r1⟩
theorem MU{x y:V}{us:List Value}(r:Vals [x,y] us):∃u w',us=[u,w']∧RelV x u∧RelV y w':=by
 cases r with
 |cons r1 r2=>
  cases r2 with
  |cons r3 r4=>cases r4;exact⟨_,_,rfl,r1,r3⟩
theorem Nl(hc:X.calm=true):Av X (.builtin "max") (fun xs H Q=>∃i j,xs=[.int i,.int j]∧Q (.int (if j>i then j else i)) H):=by
 intro pins s σ H xs us Q I r h
 obtain⟨i,j,rfl,q⟩:=h
 obtain⟨u,w',rfl,⟨t,rfl⟩,⟨t',rfl⟩⟩:=MU r
 refine max_two_ints (I.ok.hd hc) fun h' tk k=> ⟨_,H,I.kept k,?_,q⟩
 by_cases hj:j>i
 ·rw[if_pos hj,if_pos hj];exact⟨_,rfl⟩
 ·rw[if_neg hj,if_neg hj];exact⟨_,rfl⟩
theorem Nm(hc:X.calm=true):Av X (.builtin "min") (fun xs H Q=>∃i j,xs=[.int i,.int j]∧Q (.int (if j<i then j else i)) H):=by
 intro pins s σ H xs us Q I r h
 obtain⟨i,j,rfl,q⟩:=h
 obtain⟨u,w',rfl,⟨t,rfl⟩,⟨t',rfl⟩⟩:=MU r
 refine min_two_ints (I.ok.hd hc) fun h' tk k=> ⟨_,H,I.kept k,?_,q⟩
 by_cases hj:j<i
 ·rw[if_pos hj,if_pos hj];exact⟨_,rfl⟩
 ·rw[if_neg hj,if_neg hj];exact⟨_,rfl⟩
theorem Nn:Av X (.type "int") (fun xs H Q=> (∃i,xs=[.int i]∧Q (.int i) H)∨∃k,xs=[.bl k]∧Q (.int (if k then 1 else 0)) H):=by
 intro pins s σ H xs us Q I r h
 rcases h with⟨i,rfl,q⟩| ⟨k,rfl,q⟩
 ·obtain⟨u,rfl,t,rfl⟩:=DJ r
  exact call_int_int ⟨.int i,H,I,⟨_,rfl⟩,q⟩
 ·obtain⟨u,rfl,r1⟩:=DJ r
  cases r1
  exact call_int_bool ⟨.int (if k then 1 else 0),H,I.tok _,⟨_,rfl⟩,q⟩
end
structure ObjM(h:Heap)(x dx C:Addr)(mA:Str→Option Value):Prop where
 obj:h.get? x=some (k9 C dx)
 ns:h.Ns1 dx mA
 ne:dx≠x
theorem Np{h:Heap}{dx:Addr}{mA:Str→Option Value}(n:h.Ns1 dx mA):∃od,h.get? dx=some od∧∀name,lI name od=some (mA name):=by
 obtain⟨o,es,ep,ho,hd,hk,_,hm⟩:=n
 refine⟨o,ho,fun name=>?_⟩
 have e:=hm name
 unfold nsFind findBy at e
 rw[←Array.find?_toList] at e
 unfold lI
 rw[hd]
 dsimp only
 split
 ·rename_i y q
  rw[q] at e
  exact congrArg some e
 ·rename_i q
  rw[q] at e
  have a:es.toList.any (·.refKey)=false:=by
   rw[List.any_eq_false]
   intro y hy
   obtain⟨z,t,hkey⟩:=hk y (Array.mem_toList_iff.mp hy)
   simp[DictEntry.refKey,hkey]
  have a':¬es.toList.any (·.refKey)=true:=by rw[a];exact b6
  rw[if_neg a']
  exact congrArg some e
theorem ObjM.look{h:Heap}{x dx C:Addr}{mA:Str→Option Value}(I:ObjM h x dx C mA):∃od,PySem.W.InstAt h x (k9 C dx) C (some od)∧∀name,lI name od=some (mA name):=
 let⟨od,ho,hl⟩:=Np I.ns
 ⟨od,⟨I.obj,rfl,rfl,ho⟩,hl⟩
section
variable{prog:Program}{w:World}{A:dy}{E:Value→a7→Prop}{s:a7}{K:a5}{x dx C f:Addr}{mA:Str→Option Value}{name:Str}{v:Value}
end
section
variable{P:Program}{w:World}{H H':Hp}{h h':Heap}{a C dx:Addr}{fs fs':List (Str×V)}
theorem SW(hok:HOk P w H h)(e:H a=some (.ins C dx fs)):∃mA,ObjM h a dx C mA∧(∀f,SJ (fs.lookup f) (mA f))∧mn mA (fs.map (·.1))∧fs.length≤1000∧H dx=some (.own a):=by
 obtain⟨d,z,ne,ob,mA,n,r,q⟩:=(show ObjOk P w H h a (.ins C dx fs) from hok a _ e)
 exact⟨mA,⟨ob,n,ne⟩,r,q,z,d⟩
end
structure Cls(K:a5)(C:Addr):Prop where
 pg:PySem.W.plainGet K C Str.empty=true
 hd:PySem.W.hasDictIn K C=true
 po:PySem.W.plainOver K C=true
 sa:jw K (.ref C) "__setattr__" =some (some (.builtin "object.__setattr__"))
theorem Cls.get{K:a5}{C:Addr}(c:Cls K C)(f:Str):PySem.W.plainGet K C f=true:=c.pg
section
variable{X:Cx}{pins:List (Addr×Obj)}{σ:St}{H:Hp}{s:a7}{a C dx:Addr}{fs:List (Str×V)}{f:Str}{v:V}{A:dy}{E:Value→a7→Prop}
end
section
variable{X:Cx}{o e value:Expr}{f:Str}{pos pos' tpos:Pos}{ta tv:TE}
end
section
variable{X:Cx}{pins:List (Addr×Obj)}{σ:St}{H:Hp}{s:a7}{A:dy}{E:Value→a7→Prop}{Q:Value→a7→Prop}{c:Value}{b:Bool}
inductive TyOf(K:a5)(H:Hp):V→Value→Prop where
 |non:TyOf K H .non (.type "NoneType")
 |bl (x:Bool):TyOf K H (.bl x) (.type "bool")
 |int (i:Int):TyOf K H (.int i) (.type "int")
 |str (x:Str):TyOf K H (.str x) (.type "str")
 |flt (x:UInt64):TyOf K H (.flt x) (.type "float")
 |lst {a:Addr} {xs:List V} (e:H a=some (.lst xs)):TyOf K H (.ref a) (.type "list")
 |frz {a:Addr} {o:Obj} {xs:List V} (e:H a=some (.frz o (.lst xs))):TyOf K H (.ref a) (.type "list")
 |tup {a:Addr} {xs:List V} (e:H a=some (.tup xs)):TyOf K H (.ref a) (.type "tuple")
 |dK {a:Addr} {kvs:List (Ja×V)} (e:H a=some (.dK kvs)):TyOf K H (.ref a) (.type "dict")
 |dT {a:Addr} {kvs:List (List Ja×V)} (e:H a=some (.dT kvs)):TyOf K H (.ref a) (.type "dict")
 |ins {a C dx:Addr} {fs:List (Str×V)} (e:H a=some (.ins C dx fs)) (cl:Cls K C) (ha:jw K (.ref C) "__class__" =some (some (.builtin "object.__class__")))
   (hn:PySem.W.specialIn K (.builtin "object.__class__") "__get__" =some (some (.builtin "getset_descriptor.__get__"))) (htk:PySem.W.takesIn K (.builtin "object.__class__")=some true)
   (hm:kI K C (.type "object")=some true):TyOf K H (.ref a) (.ref C)
theorem Nq{x:V}{u t:Value}(I:Inv X pins σ H s)(rx:RelV x u)(ty:TyOf X.K H x t)(e:dP X.K t c=some b)(h:∀tk,Q (.bool b) {s with toks:=tk}):
  wpAny (model X.prog X.w) A (call (.builtin "isinstance") [u,c]) Q E s:=by
 cases ty with
 |non=>cases(show u=jm from rx);exact fH PySem.W.kitx_none I.kIn kW e (fun z=>nomatch z) h
 |bl y=>cases(show u=kb y from rx);exact fH PySem.W.kitx_bool I.kIn kW e (fun z=>nomatch z) h
 |int i=>obtain⟨t,q⟩:=(show∃t,u=jr i t from rx);cases q;exact fH PySem.W.kitx_int I.kIn kW e (fun z=>nomatch z) h
 |str y=>obtain⟨t,q⟩:=(show∃t,u=mJ y t from rx);cases q;exact fH PySem.W.kitx_str I.kIn kW e (fun z=>nomatch z) h
 |flt y=>obtain⟨t,q⟩:=(show∃t,u=Value.float y t from rx);cases q;exact fH PySem.W.kitx_float I.kIn kW e (fun z=>nomatch z) h
 | @lst a xs ea=>
  cases(show u=Value.ref a from rx)
  obtain⟨_,_,n,_,h1⟩:=(show ObjOk X.prog X.w H s.heap a (.lst xs) from I.hok a _ ea)
  exact fH PySem.W.kitx_list I.kIn ⟨_,h1,rfl⟩ e (fun z=>nomatch z) h
 | @frz a ob xs ea=>
  cases(show u=Value.ref a from rx)
  obtain⟨_,_,_,n,_,h1⟩:=(show ObjOk X.prog X.w H s.heap a (.frz ob (.lst xs)) from I.hok a _ ea)
  exact fH PySem.W.kitx_list I.kIn ⟨_,h1,rfl⟩ e (fun z=>nomatch z) h
 | @tup a xs ea=>
  cases(show u=Value.ref a from rx)
  obtain⟨_,_,_,p⟩:=(show ObjOk X.prog X.w H s.heap a (.tup xs) from I.hok a _ ea)
  obtain⟨o,h1,h2,_⟩:=p
  exact fH PySem.W.kitx_tuple I.kIn ⟨o,h1,h2⟩ e (fun z=>nomatch z) h
 | @dK a kvs ea=>
  cases(show u=Value.ref a from rx)
  obtain⟨_,_,vs,_,p⟩:=(show ObjOk X.prog X.w H s.heap a (.dK kvs) from I.hok a _ ea)
  obtain⟨o,es,ep,h1,h2,_⟩:=p
  exact fH PySem.W.kitx_dict I.kIn ⟨o,h1,h2.1⟩ e (fun z=>nomatch z) h
 | @dT a kvs ea=>
  cases(show u=Value.ref a from rx)
  obtain⟨_,_,xs,_,o,es,ep,h1,h2,_⟩:=(show ObjOk X.prog X.w H s.heap a (.dT kvs) from I.hok a _ ea)
  exact fH PySem.W.kitx_dict I.kIn ⟨o,h1,h2.1⟩ e (fun z=>nomatch z) h
 | @ins a C dx fs ea cl ha hn htk hm=>
  cases(show u=Value.ref a from rx)
  obtain⟨mA,O,_⟩:=SW I.hok ea
  obtain⟨od,J,_⟩:=O.look
  exact fH (PySem.W.kitx_own (cl.get _) cl.hd ha hn htk hm) I.kIn J e (fun z=>nomatch z) h
end
structure Room(k:Nat)(A:dy):Prop where
 hd:A.handled=none
 dp:A.depth+3*k+5<recursionLimit
 un:A.units+16*k+200<cLine
 gd:A.guards=some []
theorem Room.mono{j k:Nat}{A:dy}(r:Room k A)(h:j≤k):Room j A:=⟨r.hd,by have:=r.dp;omega,by have:=r.un;omega,r.gd⟩
theorem Room.deeper{k:Nat}{A:dy}(r:Room (k+1) A)(env:Env):Room k (A.deeper env):=
 ⟨r.hd,by have:=r.dp;show A.depth+1+3*k+5<_;omega,by have:=r.un;show A.units+3+16*k+200<_;omega,r.gd⟩
theorem Room.depth{k:Nat}{A:dy}(r:Room k A):A.depth<recursionLimit:=by have:=r.dp;omega
def af:TA:=fun _ H Q=>Q [] H
def YT(ta:TE)(tr:TA):TA:=fun σ H Q=>ta σ H fun x H1=>tr σ H1 fun xs H2=>Q (x::xs) H2
section
variable{X:Cx}{e:Expr}{es:List Expr}{te:TE}{t:TA}{pos:Pos}
theorem Ei:PA X [] af:=fun _ _ _ _ H Q I h=>Calls.spliced_nil ⟨[],H,I,.nil,h⟩
theorem DY(ha:PE X e te)(hr:PA X es t)(hs:b4 (e::es) X.env=(false,eval e X.env)::b4 es X.env:=by rfl):PA X (e::es) (YT te t):=by
 intro pos pins s σ H Q I h
 rw[hs]
 show wpAny _ _ (spliced ((false,eval e X.env)::gI pos (b4 es X.env))) _ _ s
 refine Calls.spliced_cons (Ar (ha pins s σ H _ I h) fun u s1 ⟨x,H1,I1,r1,q1⟩=>?_)
 exact Ar (hr pos pins s1 σ H1 _ I1 q1) fun us s2 ⟨xs,H2,I2,r2,q2⟩=> ⟨x::xs,H2,I2,.cons r1 r2,q2⟩
def ah(t:TA):TE:=fun σ H Q=>t σ H fun xs H1=>xs.length≤sizeLine∧∀p,H1 p=none→Q (.ref p) (upd H1 p (.tup xs))
def ai(t:TA):TE:=fun σ H Q=>t σ H fun xs H1=>xs.length≤sizeLine∧∀p,H1 p=none→Q (.ref p) (upd H1 p (.lst xs))
theorem Vi{x1}(h:PA X es t):PE X (.Tuple es x1 pos) (ah t):=by
 intro pins s σ H Q I hq
 refine wpAny_Tuple_spliced (Ar (h pos pins s σ H _ I hq) fun us s1 ⟨xs,H1,I1,r,z,q⟩=> ⟨by rw[←r.length];exact z,?_⟩)
 have hf:H1 s1.heap.objs.size=none:=I1.hok.fresh (de _)
 refine⟨.ref s1.heap.objs.size,upd H1 s1.heap.objs.size (.tup xs),I1.laid (t':=s1.toks) (fun b u e=>c9 _ e) (de _) ?_,rfl,q _ hf⟩
 exact⟨z,us,r,⟨_,dN _ rfl,rfl,_,rfl⟩⟩
theorem PD(h:PA X es t):PE X (.List es pos) (ai t):=by
 intro pins s σ H Q I hq
 refine wpAny_List_spliced (Ar (h pos pins s σ H _ I hq) fun us s1 ⟨xs,H1,I1,r,z,q⟩=> ⟨by rw[←r.length];exact z,?_⟩)
 have hf:H1 s1.heap.objs.size=none:=I1.hok.fresh (de _)
 refine⟨.ref s1.heap.objs.size,upd H1 s1.heap.objs.size (.lst xs),I1.laid (t':=s1.toks) (fun b u e=>c9 _ e) (de _) ?_,rfl,q _ hf⟩
 exact⟨z,us,0,r,dN _ rfl⟩
end
abbrev Sp:=List V→Hp→VK→XK→Prop
abbrev Oi:=List Env→Hp→a7→XK→Value→a7→Prop
structure Env0(P:Program)(w:World)(K:a5)(mg:Str→Option Value)(base:Heap)(A:dy)(outer:List Env)(s:a7)(H:Hp):Prop where
 frames:A.frames=some outer
 mod:Mod K mg base
 bs:∀b o,base.get? b=some o→s.heap.get? b=some o∧H b=none
 bsz:base.objs.size≤s.heap.objs.size
 funs:s.heap.FunFrames base outer
 frf:∀b∈Gz outer,H b=none
 hok:HOk P w H s.heap
 bare:j0 s.gens
def CE(outer:List Env)(P:Program)(w:World)(H:Hp)(s:a7)(Q:VK)(u:Value)(s':a7):Prop:=
 ∃v H',s'.os=s.os∧j0 s'.gens∧Un (Gz outer) [] H H' s.heap s'.heap∧HOk P w H' s'.heap∧RelV v u∧Q v H'
def CR(CX:Oi)(outer:List Env)(P:Program)(w:World)(H:Hp)(s:a7)(Q:VK)(E:XK)(r:mK)(s':a7):Prop:=
 match r with
 | .ok (.ret u)=>CE outer P w H s Q u s'
 | .ok _=>False
 | .error e=>CX outer H s E e s'
structure FnOk(P:Program)(w:World)(K:a5)(mg:Str→Option Value)(base:Heap)(CX:Oi)(k:Nat)(f:Addr)(fd:dM)(ps:List Str)(sp:Sp):Prop where
 len:∀vs H Q E,sp vs H Q E→vs.length=ps.length
 run:∀(A:dy) (outer:List Env) (s:a7) (H:Hp) (args:Args) (us:List Value) (vs:List V) (Q:VK) (E:XK),Room k A→Env0 P w K mg base A outer s H→mH s fd args (ps.zip us)→Vals vs us→sp vs H Q E→
  i6 (model P w) A (.call (.ref f) args) (CR CX outer P w H s Q E) s
theorem FnOk.mono{P:Program}{w:World}{K:a5}{mg:Str→Option Value}{base:Heap}{CX:Oi}{j k:Nat}{f:Addr}{fd:dM}{ps:List Str}{sp:Sp}(F:FnOk P w K mg base CX j f fd ps sp)(h:j≤k):
  FnOk P w K mg base CX k f fd ps sp:=⟨F.len,fun A outer s H args us vs Q E hr=>F.run A outer s H args us vs Q E (hr.mono h)⟩
theorem FnOk.imp{P:Program}{w:World}{K:a5}{mg:Str→Option Value}{base:Heap}{CX:Oi}{k:Nat}{f:Addr}{fd:dM}{ps:List Str}{sp sp':Sp}(F:FnOk P w K mg base CX k f fd ps sp)
  (h:∀vs H Q E,sp' vs H Q E→sp vs H Q E):FnOk P w K mg base CX k f fd ps sp':=
 ⟨fun vs H Q E q=>F.len vs H Q E (h _ _ _ _ q),fun A outer s H args us vs Q E hr he hb hv hs=>F.run A outer s H args us vs Q E hr he hb hv (h _ _ _ _ hs)⟩
section
variable{X:Cx}{pins:List (Addr×Obj)}{σ:St}{H:Hp}{s s':a7}
theorem Inv.env0(I:Inv X pins σ H s):Env0 X.prog X.w X.K X.mg X.base X.A X.stack s H:=
 ⟨I.ok.frames,I.ok.mod,I.bs,eY I.ok.bsz I.sz,I.stack,I.stkFree,I.hok,I.bare⟩
theorem Inv.after{Q:VK}{u:Value}(I:Inv X pins σ H s)(h:CE X.stack X.prog X.w H s Q u s'):EP X pins σ Q u s':=by
 obtain⟨v,H',os,bare,un,hok,r,q⟩:=h
 obtain⟨hh,g,d,t,os'⟩:=s'
 obtain rfl:os'=s.os:=os
 exact⟨v,H',I.call (h':=hh) (g':=g) (d':=d) (t':=t) (ch:=[]) un hok bare (fun b z=>absurd z (by simp)),r,q⟩
end
def Binds(K:a5)(fd:dM)(ps:List Str)(ds:List Value):Prop:=
 ∀(s:a7) (us:List Value),K.In s.heap→(us++ds).length=ps.length→mH s fd ⟨us,[]⟩ (ps.zip (us++ds))
theorem Binds.all{K:a5}{fd:dM}{ps:List Str}(h:∀us:List Value,us.length=ps.length→bindArgs fd ⟨us,[]⟩=pure (ps.zip us)):Binds K fd ps []:=fun s us _ hl=>by
 rw[ic] at hl ⊢
 exact .of_eq (h us hl)
section
variable{X:Cx}{CX:Oi}{k:Nat}{f C:Addr}{fd:dM}{ps:List Str}{sp:Sp}{dvs:List V}{ds:List Value}{E:XK}{x m:Str}{p pos apos:Pos}{e o:Expr}{es:List Expr}{ta:TE}{t:TA}
end
section
variable{X:Cx}{CX:Oi}{k:Nat}{f C:Addr}{fd:dM}{ps ks:List Str}{sp:Sp}{E:XK}{x m:Str}{p pos apos kpos:Pos}{e o:Expr}{es:List Expr}{kws:List kB}{te ta:TE}{t tk:TA}{nm:Option Str}
variable{g:List Value→List Value→List Value}{gV:List V→List V→List V}
end
structure FnScope(N P:List Str)(sc:Scope):Prop where
 kind:sc.kind=.function
 co:sc.isCoroutine=false
 gen:sc.isGenerator=false
 nd:N.Nodup
 pre:N.take P.length=P
 par:∀x∈P,sc.names.lookup x=some .local∨sc.names.lookup x=some .cell
 nofree:∀y∈sc.names,y.2≠.free
theorem HK{kindOf:Str→Option NameKind}{x:Str}:∀{binds:List (Str×Value)} {m:Str→Option Value},(∀v,(x,v)∉binds)→bindL kindOf binds m x=m x
 | [],_,_=>rfl
 | (n,v)::r,m,h=>by
  unfold bindL
  rw[HK fun w hw=>h w (df _ hw)]
  split
  ·have:x≠n:=by rintro rfl;exact h v dR
   simp[this]
  ·rfl
theorem HL{kindOf:Str→Option NameKind}{x:Str}:∀{binds:List (Str×Value)} {m:Str→Option Value},(∀v,(x,v)∉binds)→bindC kindOf binds m x=m x
 | [],_,_=>rfl
 | (n,v)::r,m,h=>by
  unfold bindC
  rw[HL fun w hw=>h w (df _ hw)]
  split
  ·rfl
  ·have:x≠n:=by rintro rfl;exact h v dR
   simp[this]
theorem HM{kindOf:Str→Option NameKind}{x:Str}{v:Value}:∀{P:List Str} {vs:List Value} {i:Nat} {m:Str→Option Value},P.Nodup→P[i]?=some x→vs[i]?=some v→kindOf x=some .local→
  bindL kindOf (P.zip vs) m x=some v
 | [],_,_,_,_,h,_,_=>by simp at h
 |_::_,[],_,_,_,_,h,_=>by simp at h
 |p::P,w::vs,0,m,nd,h1,h2,hk=>by
  simp at h1 h2;subst h1;subst h2
  show bindL kindOf ((p,w)::P.zip vs) m p=_
  unfold bindL
  rw[HK fun v hv=> (dE.mp nd).1 (lh hv).1,if_pos hk]
  simp
 |p::P,w::vs,i+1,m,nd,h1,h2,hk=>by
  show bindL kindOf ((p,w)::P.zip vs) m x=_
  unfold bindL
  exact HM (i:=i) (dE.mp nd).2 (by simpa using h1) (by simpa using h2) hk
theorem HN{kindOf:Str→Option NameKind}{x:Str}{v:Value}:∀{P:List Str} {vs:List Value} {i:Nat} {m:Str→Option Value},P.Nodup→P[i]?=some x→vs[i]?=some v→kindOf x≠some .local→
  bindC kindOf (P.zip vs) m x=some v
 | [],_,_,_,_,h,_,_=>by simp at h
 |_::_,[],_,_,_,_,h,_=>by simp at h
 |p::P,w::vs,0,m,nd,h1,h2,hk=>by
  simp at h1 h2;subst h1;subst h2
  show bindC kindOf ((p,w)::P.zip vs) m p=_
  unfold bindC
  rw[HL fun v hv=> (dE.mp nd).1 (lh hv).1,if_neg hk]
  simp
 |p::P,w::vs,i+1,m,nd,h1,h2,hk=>by
  show bindC kindOf ((p,w)::P.zip vs) m x=_
  unfold bindC
  exact HN (i:=i) (dE.mp nd).2 (by simpa using h1) (by simpa using h2) hk
def start(N:List Str)(vs:List V):St:=vs.map some++fu (N.length-vs.length) none
def By(CX:Oi)(P:Program)(w:World)(K:a5)(mg:Str→Option Value)(base:Heap)(N:List Str)(qual:Str)(scope:Scope)(f:Addr)(cd:Value)(A:dy)(outer:List Env)(s:a7)(H:Hp)(E:XK):Cx where
 prog:=P
 w:=w
 K:=K
 mg:=mg
 base:=base
 A:=A.deeper (iN qual scope s.heap.objs.size f cd)
 N:=N
 s₀:=s
 H₀:=H
 env:=iN qual scope s.heap.objs.size f cd
 outer:=outer
 stack:=iN qual scope s.heap.objs.size f cd::outer
 ex:=[]
 calm:=true
 fn:=fun _=>true
 pn:=[]
 xe:=fun e s'=>wpAny (model P w) (A.deeper (iN qual scope s.heap.objs.size f cd)) (leaving (iN qual scope s.heap.objs.size f cd) e) (fun _ s''=>CX outer H s E e s'') (fun e' s''=>CX outer H s E e' s'') s'
theorem Jj{sc:Scope}{n:Nat}{x:Str}(h:sc.names.lookup x=some .cell):∃c,(fX n sc.names []).lookup x=some c:=by
 have q:=PySem.W.cellsFrom_some sc.names n [] (.inl h)
 exact Option.isSome_iff_exists.mp q
theorem Nt{CX:Oi}{P:Program}{w:World}{K:a5}{mg:Str→Option Value}{base:Heap}{N ps:List Str}{qual:Str}{scope:Scope}{f:Addr}{cd:Value}{A:dy}{outer:List Env}{s s1:a7}{H:Hp}{E:XK}{us:List Value}{vs:List V}
  (S:FnScope N ps scope) (hd:A.handled=none) (e0:Env0 P w K mg base A outer s H) (hl:vs.length=ps.length) (r:Vals vs us)
  (x:InCallC s s.heap.objs.size (bindL (iN qual scope s.heap.objs.size f cd).kindOf (ps.zip us) fun _=>none) (fX (s.heap.objs.size+1) scope.names []) (bindC (iN qual scope s.heap.objs.size f cd).kindOf (ps.zip us) fun _=>none) s1):
  Inv (By CX P w K mg base N qual scope f cd A outer s H E) [] (start N vs) H s1:=by
 have hpl:ps.length≤N.length:=by have:=congrArg List.length S.pre;rw[eU] at this;omega
 obtain⟨h1,tk,rfl,hk⟩:=x.done
 have noA:∀b:Addr,b∉(By CX P w K mg base N qual scope f cd A outer s H E).ex:=fun b z=>absurd (show b∈([]:List Addr) from z) (by simp)
 refine⟨⟨e0.mod,S.kind,rfl,rfl,de _,fun y z c h1 h2=>?_,fun y hy=>?_,fun y c _ h=>?_,fun _=>hd,dy.frames_deeper e0.frames,.inr ⟨rfl,rfl⟩,fun b z=>absurd z (noA b),e0.bs,e0.bsz,fun b _ _=>noA b,fun b z=>absurd z (noA b),e0.funs,e0.frf⟩,
  rfl,e0.bare,Un.kept hk,⟨_,x.toInCall.ns,fun i y v h1 h2 h3=>?_⟩,fun y c h=> ⟨_,x.cell y c h⟩,e0.hok.fresh (de _),fun y c h=>?_,fun p hp=>absurd (show p∈([]:List (Addr×Obj)) from hp) (by simp),e0.hok.kept hk,?_⟩
 ·exact name_of_addr x.apart (iC h1) (iC h2)
 ·have hy:scope.names.lookup y=some .cell∨scope.names.lookup y=some .free:=hy
  rcases hy with hy|hy
  ·exact Jj hy
  ·exact absurd rfl (S.nofree _ (iC hy))
 ·exact iu (x.above y c (iC h))
 ·have hi:i<vs.length:=by
   unfold start at h2
   by_cases hi:i<vs.length
   ·exact hi
   ·rw[dI (by simpa using hi)] at h2
    rw[gm] at h2
    split at h2<;>cases h2
  have ha:vs[i]?=some v:=by
   unfold start at h2
   rw[dZ (by simpa using hi),b8] at h2
   cases e:vs[i]? with
   |none=>rw[e] at h2;cases h2
   |some a=>rw[e] at h2;cases h2;rfl
  obtain⟨u,hu,rv⟩:=r.get ha
  have hp:ps[i]?=some y:=by
   rw[←S.pre,iA (by omega)];exact h1
  have ndP:ps.Nodup:=by rw[←S.pre];exact S.nd.sublist (List.take_sublist _ _)
  refine⟨u,rv,?_⟩
  rcases S.par y (dc hp) with k|k
  ·exact .inl ⟨k,HM ndP hp hu k⟩
  ·obtain⟨c,e⟩:=Jj (n:=s.heap.objs.size+1) k
   refine .inr ⟨.inl k,c,e,?_⟩
   have q:=x.cell y c e
   rw[HN ndP hp hu (by show scope.names.lookup y≠_;rw[k];decide)] at q
   exact q
 ·exact e0.hok.fresh (iu (x.above y c (iC h)))
 ·unfold start
  show _=N.length
  rw[dH,a9,gC]
  omega
theorem YU{CX:Oi}{P:Program}{w:World}{K:a5}{mg:Str→Option Value}{base:Heap}{k:Nat}{f:Addr}{name qual:Str}{params:Arguments}{body:List Stmt}{scope:Scope}{dV kV doc pm cdv ct oc:Value}{an od:Option Addr}
  {osl:Array (Option Value)} {N ps:List Str} {sp:Sp} (lk:K.lookup f=some ⟨oc,od,.func (i7 name qual params body scope dV kV doc pm an cdv ct),osl⟩) (hcd:lL K cdv qual=true) (S:FnScope N ps scope)
  (len:∀vs H Q E,sp vs H Q E→vs.length=ps.length)
  (hbody:∀(A:dy) (outer:List Env) (s:a7) (H:Hp) (vs:List V) (Q:VK) (E:XK),Room k (A.deeper (iN qual scope s.heap.objs.size f cdv))→sp vs H Q E→
   ∃t,PSs (By CX P w K mg base N qual scope f cdv A outer s H E) body t∧t {nx:=fun _ H'=>Q .non H',rt:=Q} (start N vs) H):
  FnOk P w K mg base CX (k+1) f (i7 name qual params body scope dV kV doc pm an cdv ct) ps sp:=by
 refine⟨len,fun A outer s H args us vs Q E hr e0 hb r hsp=>?_⟩
 have hl:=len _ _ _ _ hsp
 have KX:K.In s.heap:=e0.mod.kin.keeps fun b o e=> (e0.bs b o e).1
 have lim:s.heap.NoLimit:=e0.mod.nolimit.keeps fun b o e=> (e0.bs b o e).1
 have hkind:∀y∈ps.zip us,scope.names.lookup y.1=some .local∨(scope.names.lookup y.1=some .cell∧((fX (s.heap.objs.size+1) scope.names []).lookup y.1).isSome=true):=fun⟨n,v⟩ hy=>by
  rcases S.par n (lh hy).1 with q|q
  ·exact .inl q
  ·exact .inr ⟨q,PySem.W.cellsFrom_some _ _ _ (.inl q)⟩
 refine codeAny_call_function hr.depth (KX _ _ lk) rfl S.co S.gen rfl (PySem.W.codeRec_of KX hcd) (hb _ _ _ _ ?_)
 refine wpAny_newFunctionEnv_cells S.kind hkind fun env he s1 x=>?_
 subst he
 refine⟨lim.keeps x.toInCall.keep,codeAny_func ?_⟩
 obtain⟨t,ht,hq⟩:=hbody A outer s H vs Q E (hr.deeper _) hsp
 have I:Inv (By CX P w K mg base N qual scope f cdv A outer s H E) [] (start N vs) H s1:=Nt S hr.hd e0 hl r x
 refine iM (ht [] s1 (start N vs) H _ I hq) (fun fl s' hs=>?_) fun e s' hs=>hs
 have fin:∀{σ':St} {H':Hp} {v:V} {u:Value},Inv (By CX P w K mg base N qual scope f cdv A outer s H E) [] σ' H' s'→RelV v u→Q v H'→CE outer P w H s Q u s':=
  fun{σ' H' v u} J rv q=> ⟨v,H',J.os,J.bare,J.base,J.hok,rv,q⟩
 cases fl with
 |ret u=>
  obtain⟨v,σ',H',J,rv,q⟩:=hs
  exact fin J rv q
 |next=>
  obtain⟨σ',H',J,q⟩:=hs
  exact fin (v:=V.non) (u:=jm) J rfl q
 |brk=>
  obtain⟨_,_,_,q⟩:=hs
  exact iB q
 |cont=>
  obtain⟨_,_,_,q⟩:=hs
  exact iB q
section
variable{X:Cx}{x:Str}{p pos:Pos}{e:Expr}{es:List Expr}{t:TA}{id T:String}{r:List V→Hp→VK→Prop}
def bS(r:List V→Hp→VK→Prop)(t:TA):TE:=fun σ H Q=>t σ H fun vs H1=>r vs H1 Q
theorem Fn(hc:Av X (.builtin id) r)(hg:Gl X x)(hm:X.mg x=none)(hv:eE x=some (.builtin id))(ha:PA X (e::es) t)(hn:x≠"__name__":=by decide)(hdb:(x==("__debug__" :Str))=false:=by decide)
  (he:b4 (e::es) X.env=(false,eval e X.env)::b4 es X.env:=by rfl) (hpl:(gI pos (b4 es X.env)).any (·.1)=false:=by rfl):PE X (.Call (.Name x p) (e::es) [] pos) (bS r t):=by
 intro pins s σ H Q I h
 refine jk (Eg I hg hm hv ?_ hn hdb)
 exact PyProof.Rows.callWith_builtin1 (Ar (ha pos pins s σ H _ I h) fun us s1 ⟨vs,H1,I1,r1,q1⟩=>hc pins s1 σ H1 vs us Q I1 r1 q1) he hpl
theorem BI(hc:Av X (.type T) r)(hg:Gl X x)(hm:X.mg x=none)(hv:eE x=some (.type T))(ha:PA X (e::es) t)(hn:x≠"__name__":=by decide)(hdb:(x==("__debug__" :Str))=false:=by decide)
  (he:b4 (e::es) X.env=(false,eval e X.env)::b4 es X.env:=by rfl) (hpl:(gI pos (b4 es X.env)).any (·.1)=false:=by rfl):PE X (.Call (.Name x p) (e::es) [] pos) (bS r t):=by
 intro pins s σ H Q I h
 refine jk (Eg I hg hm hv ?_ hn hdb)
 exact iU (Ar (ha pos pins s σ H _ I h) fun us s1 ⟨vs,H1,I1,r1,q1⟩=>hc pins s1 σ H1 vs us Q I1 r1 q1) he hpl
end
end L2
namespace HT
open PySem PyProof.Rows
section
open PySem.SeqAt
open PySem.AutoSeq1 (wpAny_loadPart')
open PySem.MeetsSeq PySem.MeetsSeq2 PySem.MeetsSeq3
end
section
variable{prog:Program}{w:World}{A:dy}{E:Value→a7→Prop}{s:a7}
def Jb(n d:Nat):Option Int→Nat
 |none=>d
 |some v=>if v<0 then(v+(n:Int)).toNat else min v.toNat n
end
end HT
namespace L2
open PySem PySem.Spec PyProof.Rows
abbrev TO:=St→Hp→(Option Int→Hp→Prop)→Prop
def PO(X:Cx)(e:Option Expr)(t:TO):Prop:=
 ∀(pins:List (Addr×Obj)) (s:a7) (σ:St) (H:Hp) (Q:Option Int→Hp→Prop),Inv X pins σ H s→t σ H Q→
  wpAny (model X.prog X.w) X.A (evalPart e X.env) (fun u s'=>∃o H',Inv X pins σ H' s'∧IsPart u o∧Q o H') X.xe s
def YV(t:TE):TO:=fun σ H Q=>t σ H fun x H1=>∃i,x=.int i∧Q (some i) H1
theorem Fo{ns:List Int}:∀{us:List Value},Vals (ns.map V.int) us→IntsAre us ns:=by
 induction ns with
 |nil=>intro us r;rw[jy] at r;cases r;exact .nil
 |cons n ns ih=>
  intro us r
  rw[dF] at r
  cases r with
  |cons r1 r2=>
   obtain⟨t,e⟩:=r1
   subst e
   exact .cons n t (ih r2)
section
variable{X:Cx}{e:Expr}{te:TE}{lo hi:Option Expr}{tl th:TO}{pos p2:Pos}
theorem MV(h:PE X e te):PO X (some e) (YV te):=by
 intro pins s σ H Q I hw
 rw[evalPart_some]
 refine Ar (h pins s σ H _ I hw) fun u s1 ⟨x,H1,I1,r1,q1⟩=>?_
 obtain⟨i,rfl,q⟩:=q1
 obtain⟨t,rfl⟩:=r1
 exact⟨some i,H1,I1,.int i t,q⟩
def bT(X:Cx)(r:V→Option Int→Option Int→Hp→VK→Prop):Prop:=
 ∀(pins:List (Addr×Obj)) (s:a7) (σ:St) (H:Hp) (x:V) (v vl vu:Value) (lo hi:Option Int) (sl:Addr) (Q:VK),Inv X pins σ H s→RelV x v→s.heap.IsSliceOf sl vl vu .none→IsPart vl lo→IsPart vu hi→r x lo hi H Q→
  ∃T id,typeLookup (.type T) "__getitem__" =pure (some (.builtin id))∧s.TypeIs v T∧wpAny (model X.prog X.w) X.A (getItem v (.ref sl)) (EP X pins σ Q) X.xe s
def cD(r:V→Option Int→Option Int→Hp→VK→Prop)(te:TE)(tl th:TO):TE:=fun σ H Q=>te σ H fun x H1=>tl σ H1 fun l H2=>th σ H2 fun u H3=>r x l u H3 Q
theorem PF{r:V→Option Int→Option Int→Hp→VK→Prop}(hr:bT X r)(he:PE X e te)(hl:PO X lo tl)(hu:PO X hi th):PE X (.Subscript e (.Slice lo hi none p2) pos) (cD r te tl th):=by
 intro pins s σ H Q I h
 refine Subscript_ (Ar (he pins s σ H _ I h) fun v s1 ⟨x,H1,I1,r1,q1⟩=>?_)
 refine wpAny_Slice (Ar (hl pins s1 σ H1 _ I1 q1) fun vl s2 ⟨l,H2,I2,pl,q2⟩=>Ar (hu pins s2 σ H2 _ I2 q2) fun vu s3 ⟨u,H3,I3,pu,q3⟩=>?_)
 rw[evalPart_none]
 refine b5 ?_
 have I4:Inv X pins σ H3 {s3 with heap:=s3.heap.push {cls:=.type "slice",data:=.fields #[vl,vu,.none]}}:=I3.kept (t':=s3.toks) fun b ob q=>c9 _ q
 obtain⟨T,id,hT,ht,hg⟩:=hr pins {s3 with heap:=s3.heap.push {cls:=.type "slice",data:=.fields #[vl,vu,.none]}} σ H3 x v vl vu l u s3.heap.objs.size Q I4 r1 (Heap.IsSliceOf.new ..) pl pu q3
 show wpAny (model X.prog X.w) X.A (subscriptTail e (.Slice lo hi none p2) v (.ref s3.heap.objs.size)) (EP X pins σ Q) X.xe {s3 with heap:=s3.heap.push {cls:=.type "slice",data:=.fields #[vl,vu,.none]}}
 exact tail_any (ops:=[.ref s3.heap.objs.size,v]) ht hT hg (by with_unfolding_all rfl)
def Nu(xs:List V)(lo hi:Option Int):List V:=(xs.drop (HT.Jb xs.length 0 lo)).take (HT.Jb xs.length xs.length hi-HT.Jb xs.length 0 lo)
theorem Jk(xs:List V)(lo hi:Option Int):(Nu xs lo hi).length≤xs.length:=by
 unfold Nu
 rw[eU,i9]
 omega
end
def PH(n:Nat)(i:Int):Option Nat:=if 0≤i then(if i<n then some i.toNat else none) else if-(n:Int)≤i then some (i+n).toNat else none
def atI{α:Type}(xs:List α)(i:Int):Option α:=(PH xs.length i).bind fun j=>xs[j]?
theorem MW{n:Nat}{i:Int}{j:Nat}(h:PH n i=some j):lR i n=some j∧j<n∧-(n:Int)≤i∧i<n:=by
 unfold PH at h
 by_cases h0:0≤i
 ·rw[if_pos h0] at h
  by_cases h1:i<n
  ·rw[if_pos h1] at h
   have e:i.toNat=j:=eu.inj h
   exact⟨by rw[mM h0 h1,e],by omega,by omega,h1⟩
  ·rw[if_neg h1] at h;cases h
 ·rw[if_neg h0] at h
  by_cases h1: -(n:Int)≤i
  ·rw[if_pos h1] at h
   have e:(i+n).toNat=j:=eu.inj h
   exact⟨by rw[seqIndex_neg (by omega) h1,e],by omega,h1,by omega⟩
  ·rw[if_neg h1] at h;cases h
theorem MX{α:Type}{xs:List α}{i:Int}{v:α}(h:atI xs i=some v):∃j,lR i xs.length=some j∧xs[j]?=some v∧j<xs.length∧-(xs.length:Int)≤i∧i<xs.length:=by
 unfold atI at h
 cases e:PH xs.length i with
 |none=>rw[e] at h;cases h
 |some j=>
  rw[e] at h
  obtain⟨h1,h2,h3,h4⟩:=MW e
  exact⟨j,h1,h,h2,h3,h4⟩
theorem Bd{α:Type}{xs:List α}{j:Nat}{v:α}(h:xs[j]?=some v):atI xs (j:Int)=some v:=by
 have hj:j<xs.length:=(dj.mp h).1
 have e:PH xs.length (j:Int)=some j:=by
  unfold PH
  rw[if_pos (by omega),if_pos (by omega)];simp
 unfold atI;rw[e];exact h
def DZ(b:Expr):Prop:=∀o i,subscripted b false o i=operate [o,i] (getItem o i)
def YW(X:Cx)(r:R2):Prop:=
 ∀(value slice:Expr) (pins:List (Addr×Obj)) (s:a7) (σ:St) (H:Hp) (x y:V) (v u:Value) (Q:VK),Inv X pins σ H s→RelV x v→RelV y u→r x y H Q→
  subscripted slice false v u=operate [v,u] (getItem v u)→wpAny (model X.prog X.w) X.A (subscriptTail value slice v u) (EP X pins σ Q) X.xe s
def bU(X:Cx)(id:String)(r:V→List V→Hp→VK→Prop):Prop:=
 ∀(pins:List (Addr×Obj)) (s:a7) (σ:St) (H:Hp) (x:V) (xs:List V) (v:Value) (us:List Value) (Q:VK),Inv X pins σ H s→RelV x v→Vals xs us→r x xs H Q→
  wpAny (model X.prog X.w) X.A (call (.builtin id) (v::us)) (EP X pins σ Q) X.xe s
section
variable{X:Cx}{a b:Expr}{ta tb:TE}{pos:Pos}
theorem Uc{r:R2}(hr:YW X r)(ha:PE X a ta)(hb:PE X b tb)(hs:DZ b):PE X (.Subscript a b pos) (YJ r ta tb):=by
 intro pins s σ H Q I h
 exact Subscript_ (Vb ha hb I h fun v u s2 x y H2 I2 rx ry q=>hr a b pins s2 σ H2 x y v u Q I2 rx ry q (hs _ _))
def Vj(K:a5):R2:=fun x y H Q=>∃p xs i v,x=.ref p∧y=.int i∧Dj K H p xs∧atI xs i=some v∧Q v H
def YX(K:a5):R2:=fun x y H Q=>∃p xs i v,x=.ref p∧y=.int i∧IJ K H p xs∧atI xs i=some v∧Q v H
theorem Dy:YW X (Vj X.K):=by
 intro value slice pins s σ H x y v u Q I rx ry h hs
 obtain⟨p,xs,i,z,rfl,rfl,hq,he,q⟩:=h
 cases rx
 obtain⟨t,rfl⟩:=ry
 obtain⟨its,r,pl,hz⟩:=I.list hq
 obtain⟨j,h1,h2,h3,h4,h5⟩:=MX he
 obtain⟨w,ew,rw'⟩:=r.get h2
 have hl:=r.length
 have hn:=Fm
 have fin:EP X pins σ Q w s:=⟨z,H,I,rw',q⟩
 by_cases h0:0≤i
 ·have hj:i.toNat=j:=by
   rw[mM h0 h5] at h1
   exact eu.inj h1
  exact item_listR pl.isList h0 (by omega) (by rw[hj];simpa using ew) fin hs
 ·have hj:(i+(its.toArray.size:Int)).toNat=j:=by
   rw[seqIndex_neg (by omega) h4] at h1
   rw[du,←hl]
   exact eu.inj h1
  exact subscriptTail_builtinR (x:=w) pl.isList.typeIs slot_list_getitem.lookup
   (wpAny_getItem_list_neg (Q:=fun r s'=>r=w∧EP X pins σ Q r s') pl.isList (by omega) (by rw[du]<;>omega) (by omega) (by rw[hj];simpa using ew) ⟨rfl,fin⟩) hs
theorem Vk:YW X (YX X.K):=by
 intro value slice pins s σ H x y v u Q I rx ry h hs
 obtain⟨p,xs,i,z,rfl,rfl,hq,he,q⟩:=h
 cases rx
 obtain⟨t,rfl⟩:=ry
 obtain⟨its,r,pl,hz⟩:=I.tuple hq
 obtain⟨j,h1,h2,h3,h4,h5⟩:=MX he
 obtain⟨w,ew,rw'⟩:=r.get h2
 have hl:=r.length
 have hn:=Fm
 have fin:EP X pins σ Q w s:=⟨z,H,I,rw',q⟩
 exact subscriptTail_builtinR (x:=w) pl.typeIs slot_tuple_getitem.lookup
  (getItem_tuple (j:=j) (Q:=fun r s'=>r=w∧EP X pins σ Q r s') pl (by omega) (by omega) (by rw[du,←hl];exact h1) (by simpa using ew) ⟨rfl,fin⟩) hs
theorem LG(its:List Value)(n j:Nat)(u:Value):fP (·.setIfInBounds j u) {cls:=.type "list",data:=.seq its.toArray n}={cls:=.type "list",data:=.seq (its.set j u).toArray n}:=by
 simp[fP]
theorem Inv.lst{pins:List (Addr×Obj)}{σ:St}{H:Hp}{s:a7}{p:Addr}{xs:List V}(I:Inv X pins σ H s)(h:H p=some (.lst xs)):
  ∃(its:List Value) (n:Nat),Vals xs its∧s.heap.get? p=some {cls:=.type "list",data:=.seq its.toArray n}∧xs.length≤sizeLine:=by
 obtain⟨z,its,n,r,e⟩:=I.hok p _ h
 exact⟨its,n,r,e,z⟩
theorem Inv.lstUpd{pins:List (Addr×Obj)}{σ:St}{H:Hp}{s:a7}{p:Addr}{xs ys:List V}{its its':List Value}{n n':Nat}{f:Obj→Obj}(I:Inv X pins σ H s)(h:H p=some (.lst xs))
  (ho:s.heap.get? p=some {cls:=.type "list",data:=.seq its.toArray n}) (hf:f {cls:=.type "list",data:=.seq its.toArray n}={cls:=.type "list",data:=.seq its'.toArray n'}) (r:Vals ys its') (hz:ys.length≤sizeLine) (t:Nat):
  Inv X pins σ (upd H p (.lst ys)) {s with heap:=s.heap.update p f,toks:=t}:=by
 have e:(s.heap.update p f).get? p=some {cls:=.type "list",data:=.seq its'.toArray n'}:=by
  rw[iT f ho (by rw[hf]<;>rfl),hf]
 refine I.write (x:=p) (e:=p) (by rw[h];trivial) (.inl rfl) (fun b u hb q=> (fS _ _ (Ne.symm hb)).trans q) ⟨_,e⟩ ?_
 exact⟨hz,its',n',r,e⟩
def YY:V→V→V→Hp→(Hp→Prop)→Prop:=fun o i v H Q=>∃p xs k j,o=.ref p∧i=.int k∧H p=some (.lst xs)∧PH xs.length k=some j∧Q (upd H p (.lst (xs.set j v)))
theorem PJ:YB X YY:=by
 intro pins s σ H o i v ov iv u Q I ro ri rv h
 obtain⟨p,xs,k,j,rfl,rfl,hp,hj,q⟩:=h
 cases ro
 obtain⟨t,rfl⟩:=ri
 obtain⟨its,n,r,ho,hz⟩:=I.lst hp
 obtain⟨h1,h2,h3,h4⟩:=MW hj
 have hl:=r.length
 have hn:=Fm
 have I':Inv X pins σ (upd H p (.lst (xs.set j v))) {s with heap:=s.heap.update p (fP (·.setIfInBounds j u))}:=
  I.lstUpd hp ho (LG its n j u) (r.set rv j) (by rw[hV];exact hz) s.toks
 by_cases h0:0≤k
 ·have hk:k.toNat=j:=by
   rw[mM h0 h4] at h1
   exact eu.inj h1
  exact PySem.W.ki_setAt ho h0 (by omega) (by rw[du,←hl];exact h4) (by rw[hk];exact⟨_,I',q⟩)
 ·have hk:(k+(its.toArray.size:Int)).toNat=j:=by
   rw[seqIndex_neg (by omega) h3] at h1
   rw[du,←hl]
   exact eu.inj h1
  exact PySem.W.ki_setBack ho (by omega) (by rw[du,←hl];exact h3) (by omega) (by rw[hk];exact⟨_,I',q⟩)
theorem IQ(lo hi:Option Int)(n:Nat):(jq lo hi none n).1=((HT.Jb n 0 lo:Nat):Int)∧(jq lo hi none n).2.1=((HT.Jb n n hi:Nat):Int)∧(jq lo hi none n).2.2=1:=by
 refine⟨?_,?_,rfl⟩
 ·cases lo with
  |none=>simp[jq,HT.Jb]
  |some i=>
   simp only[jq,HT.Jb,Option.getD_none,show(1:Int)>0 by decide,if_true]
   by_cases h:i<0
   ·simp only[h,if_true]<;>omega
   ·simp only[h,if_false]<;>omega
 ·cases hi with
  |none=>simp[jq,HT.Jb]
  |some i=>
   simp only[jq,HT.Jb,Option.getD_none,show(1:Int)>0 by decide,if_true]
   by_cases h:i<0
   ·simp only[h,if_true]<;>omega
   ·simp only[h,if_false]<;>omega
theorem HB(its:List Value)(lo hi:Option Int):slicePick its.toArray lo hi none=((its.drop (HT.Jb its.length 0 lo)).take (HT.Jb its.length its.length hi-HT.Jb its.length 0 lo)).toArray:=by
 obtain⟨h1,h2,h3⟩:=IQ lo hi its.toArray.size
 unfold slicePick
 rw[h1,h2,h3]
 simp only[sliceRange_one,pick_run,du]<;>rfl
def aj(K:a5):V→Option Int→Option Int→Hp→VK→Prop:=fun x lo hi H Q=>∃a xs,x=.ref a∧Dj K H a xs∧∀p,H p=none→Q (.ref p) (upd H p (.lst (Nu xs lo hi)))
theorem SX:bT X (aj X.K):=by
 intro pins s σ H x v vl vu lo hi sl Q I rx hs pl pu h
 obtain⟨a,xs,rfl,hx,q⟩:=h
 cases rx
 obtain⟨its,r,ht,hz⟩:=I.list hx
 have hlen:=r.length
 refine⟨"list",_,slot_list_getitem.lookup,ht.isList.typeIs,?_⟩
 refine wpAny_getItem_list_slice ht.isList hs pl pu .none (by simp) ?_ (by rw[du]<;>omega)
 rw[HB,←hlen]
 refine⟨.ref s.heap.objs.size,_,I.laid (t':=s.toks) (o:=.lst (Nu xs lo hi)) (fun b ob q=>c9 _ q) (de _) ?_,rfl,q _ (I.hok.fresh (de _))⟩
 exact⟨eY (Jk xs lo hi) hz,_,0,(r.drop (HT.Jb xs.length 0 lo)).take (HT.Jb xs.length xs.length hi-HT.Jb xs.length 0 lo),dN _ rfl⟩
def Fp:V→Bool
 | .non=>true
 | .bl _=>true
 | .int _=>true
 | .str _=>true
 |_=>false
def SF:V→V→Bool
 | .non,.non=>true
 | .bl a,.bl b=>a==b
 | .bl a,.int b=> (if a then 1 else 0)==b
 | .int a,.bl b=>a==(if b then 1 else 0)
 | .int a,.int b=>a==b
 | .str a,.str b=>a==b
 |_,_=>false
theorem Vl{A:dy}{s:a7}{y x:V}{u v:Value}(ry:RelV y u)(rx:RelV x v)(fy:Fp y=true)(fx:Fp x=true):fE A s u v (SF y x):=by
 cases y with
 |non=>
  cases ry
  cases x with
  |non=>cases rx;exact fE.same _
  |bl b=>cases rx;exact fE.none_bool b
  |int b=>obtain⟨t,rfl⟩:=rx;exact fE.none_int b t
  |str b=>obtain⟨t,rfl⟩:=rx;exact fE.none_str b t
  |_=>exact absurd (show false=true from fx) b6
 |bl a=>
  cases ry
  cases x with
  |non=>cases rx;exact fE.bool_none a
  |bl b=>cases rx;exact fE.bool_bool a b
  |int b=>obtain⟨t,rfl⟩:=rx;exact fE.bool_int a b t
  |str b=>obtain⟨t,rfl⟩:=rx;exact fE.bool_str a b t
  |_=>exact absurd (show false=true from fx) b6
 |int a=>
  obtain⟨t',rfl⟩:=ry
  cases x with
  |non=>cases rx;exact fE.int_none a t'
  |bl b=>cases rx;exact fE.int_bool a t' b
  |int b=>obtain⟨t,rfl⟩:=rx;exact fE.int_int a t' b t
  |str b=>obtain⟨t,rfl⟩:=rx;exact fE.int_str a t' b t
  |_=>exact absurd (show false=true from fx) b6
 |str a=>
  obtain⟨t',rfl⟩:=ry
  cases x with
  |non=>cases rx;exact fE.str_none a t'
  |bl b=>cases rx;exact fE.str_bool a t' b
  |int b=>obtain⟨t,rfl⟩:=rx;exact fE.str_int a t' b t
  |str b=>obtain⟨t,rfl⟩:=rx;exact fE.str_str a t' b t
  |_=>exact absurd (show false=true from fx) b6
 |_=>exact absurd (show false=true from fy) b6
theorem Cg:Av X (.builtin "len") (fun xs H Q=>∃p ys,xs=[.ref p]∧(Dj X.K H p ys∨IJ X.K H p ys)∧Q (.int ys.length) H):=by
 intro pins s σ H xs us Q I r h
 obtain⟨p,ys,rfl,hq,q⟩:=h
 obtain⟨u,rfl,rx⟩:=DJ r
 cases rx
 have hn:=Fm
 rcases hq with hq|hq
 ·obtain⟨its,r',pl,hz⟩:=I.list hq
  have hlen:=r'.length
  exact Calls.call_len_list pl.isList (by simp only[du]<;>omega) ⟨.int ys.length,H,I.tok _,⟨s.toks+1,by rw[du,hlen]⟩,q⟩
 ·obtain⟨its,r',pl,hz⟩:=I.tuple hq
  have hlen:=r'.length
  exact len_tuple pl (by simp only[du]<;>omega) ⟨.int ys.length,H,I.tok _,⟨s.toks+1,by rw[du,hlen]⟩,q⟩
def ak(K:a5)(T:String)(x:V)(H:Hp):Prop:=match x with
 | .str _=>T= "str"
 | .int _=>T= "int"
 | .ref p=> (T= "list"∧∃xs,Dj K H p xs)∨(T= "tuple"∧∃o,K.lookup p=some o∧o.cls=.type "tuple"∧o.dict=none)∨
   (T= "dict"∧((∃kvs,H p=some (.dK kvs))∨∃kvs,H p=some (.dT kvs)))∨(T= "set"∧∃S n,H p=some (.set S n))
 |_=>False
theorem Vm{pins:List (Addr×Obj)}{σ:St}{H:Hp}{s:a7}{T:String}{x:V}{v:Value}(I:Inv X pins σ H s)(r:RelV x v)(ty:ak X.K T x H):
  s.TypeIs v T∧∀a,v=.ref a→∃ob,s.heap.get? a=some ob∧ob.dict=none:=by
 cases x with
 |str z=>
  obtain⟨t,rfl⟩:=r
  cases(show T= "str" from ty)
  exact⟨typeIs_str s z t,fun _ e=>nomatch e⟩
 |int i=>
  obtain⟨t,rfl⟩:=r
  cases(show T= "int" from ty)
  exact⟨typeIs_int s i t,fun _ e=>nomatch e⟩
 |ref p=>
  cases r
  rcases ty with⟨rfl,xs,hq⟩| ⟨rfl,o,hk,hc,hd⟩| ⟨rfl,hk⟩| ⟨rfl,S,n,hk⟩
  ·obtain⟨its,_,pl,_⟩:=I.list hq
   refine⟨pl.isList.typeIs,fun a e=>?_⟩
   cases e
   obtain⟨o,n,e,c,hd,_⟩:=pl
   exact⟨o,e,hd⟩
  ·refine⟨⟨o,I.kIn p o hk,hc⟩,fun a e=>?_⟩
   cases e
   exact⟨o,I.kIn _ o hk,hd⟩
  ·have z:∃o,s.heap.get? p=some o∧o.ExactDict:=by
    rcases hk with⟨kvs,hk⟩| ⟨kvs,hk⟩
    ·obtain⟨_,_,_,_,o,_,_,e,ex,_⟩:=I.hok p _ hk
     exact⟨o,e,ex⟩
    ·obtain⟨_,_,_,_,o,_,_,e,ex,_⟩:=I.hok p _ hk
     exact⟨o,e,ex⟩
   obtain⟨o,e,ex⟩:=z
   refine⟨⟨o,e,ex.1⟩,fun a e2=>?_⟩
   cases e2
   exact⟨o,e,ex.2.1⟩
  ·obtain⟨o,_,_,_,e,ex,_⟩:=I.hok p _ hk
   refine⟨⟨o,e,ex.1⟩,fun a e2=>?_⟩
   cases e2
   exact⟨o,e,ex.2.1⟩
 |_=>exact iB ty
def cE(K:a5)(T:String)(r:V→List V→Hp→VK→Prop)(to:TE)(t:TA):TE:=fun σ H Q=>to σ H fun x H1=>ak K T x H1∧t σ H1 fun xs H2=>r x xs H2 Q
variable{o e:Expr}{es:List Expr}{to:TE}{t:TA}{name:Str}{apos cpos:Pos}{T id:String}{r:V→List V→Hp→VK→Prop}
theorem YZ(pa:PlainAttrs T)(slot:Slot T name id)(hty:typeOf (.builtin id)=pure (.type "method_descriptor"))(hm:bU X id r)(ho:PE X o to)(ha:PA X (e::es) t)
  (hbase:kH o name X.env (eval o X.env)=eval o X.env:=by rfl)
  (hfew:((gI cpos (b4 (e::es) X.env)).all (fun x=>!x.1)&&(mY cpos (lF [] X.env)).all (fun x=>x.1.isSome)
   &&decide ((e::es).length+([]:List kB).length+(if([]:List kB).isEmpty then 0 else 1)<30))=true:=by rfl)
  (hline:(apos.endLine==cpos.line)=true:=by rfl) (hs:b4 (e::es) X.env=(false,eval e X.env)::b4 es X.env:=by rfl) (hplain:(gI cpos (b4 es X.env)).any (·.1)=false:=by rfl):
  PE X (.Call (.Attribute o name apos) (e::es) [] cpos) (cE X.K T r to t):=by
 intro pins s σ H Q I h
 refine wpAny_Call_method_late hbase hfew hline rfl (Ar (ho pins s σ H _ I h) fun v s1 ⟨x,H1,I1,r1,ty,q1⟩=>?_)
 obtain⟨h1,h2⟩:=Vm I1 r1 ty
 refine⟨T,id,pa,slot,hty,h1,h2,?_⟩
 have hA:=ha cpos pins s1 σ H1 _ I1 q1
 rw[hs] at hA ⊢
 refine Calls.callWith_builtin (by show(false|| (gI cpos (b4 es X.env)).any (·.1))=false;rw[hplain]<;>rfl) (Calls.evalArgs_plain ?_)
 exact Ar hA fun us s2 ⟨vs,H2,I2,r2,q2⟩=>hm pins s2 σ H2 x vs v us Q I2 r1 r2 q2
end
def bV(X:Cx)(id:String)(r:V→List V→Hp→VK→Prop):Prop:=
 ∀(pins:List (Addr×Obj)) (s:a7) (σ:St) (H:Hp) (x:V) (xs:List V) (v:Value) (us:List Value) (Q:VK),Inv X pins σ H s→RelV x v→Vals xs us→r x xs H Q→
  wpAny (model X.prog X.w) X.A (call (.builtin id) (v::us)) (EP X pins σ Q) X.xe s
theorem Vals.one:∀{x:V} {us:List Value},Vals [x] us→∃u,us=[u]∧RelV x u
 |_,_,.cons r .nil=> ⟨_,rfl,r⟩
theorem Vals.eraseIdx:∀{xs:List V} {us:List Value} (i:Nat),Vals xs us→Vals (xs.eraseIdx i) (us.eraseIdx i)
 |_,_,_,.nil=> .nil
 |_,_,0,.cons _ t=>t
 |_,_,i+1,.cons r t=> .cons r (Vals.eraseIdx i t)
theorem HP{α:Type}:∀(l:List α) (i:Nat),(l.eraseIdx i).length≤l.length
 | [],_=>de _
 |_::_,0=>Nat.le_succ _
 |_::r,i+1=>Nat.succ_le_succ (HP r i)
section
variable{X:Cx}{pins:List (Addr×Obj)}{σ:St}{H:Hp}{s:a7}{l b:Addr}{xs ys zs:List V}
theorem Inv.lset{its its':List Value}{n:Nat}{f:Array Value→Array Value}{t':Nat}(I:Inv X pins σ H s)(hH:H l=some (.lst xs))
  (e:s.heap.get? l=some {cls:=.type "list",data:=.seq its.toArray n}) (hf:f its.toArray=its'.toArray) (hv:Vals ys its') (hz:ys.length≤sizeLine):
  Inv X pins σ (upd H l (.lst ys)) {s with heap:=s.heap.update l (fP f),toks:=t'}:=by
 have q:=PySem.IsL.update e f
 rw[hf] at q
 refine I.write (x:=l) (e:=l) (by rw[hH];exact trivial) (.inl rfl) (fun b' u hb hu=> (fS s.heap (fP f) (Ne.symm hb)).trans hu) ⟨_,q⟩ ?_
 exact⟨hz,its',_,hv,q⟩
theorem Inv.lnew{its:List Value}{t':Nat}(I:Inv X pins σ H s)(hv:Vals ys its)(hz:ys.length≤sizeLine):
  Inv X pins σ (upd H s.heap.objs.size (.lst ys)) {s with heap:=s.heap.push {cls:=.type "list",data:=.seq its.toArray},toks:=t'}:=
 I.laid (fun _ _ q=>c9 _ q) (de _) ⟨hz,its,0,hv,dN _ rfl⟩
theorem Inv.fresh(I:Inv X pins σ H s):H s.heap.objs.size=none:=I.hok.fresh (de _)
theorem Inv.lstM(I:Inv X pins σ H s)(hH:H l=some (.lst xs)):xs.length≤sizeLine∧∃(its:List Value) (n:Nat),Vals xs its∧xs.length=its.length∧s.heap.get? l=some {cls:=.type "list",data:=.seq its.toArray n}:=by
 obtain⟨z,its,n,r,e⟩:=I.hok l _ hH
 exact⟨z,its,n,r,r.length,e⟩
end
section
variable{X:Cx}
def MY:V→List V→Hp→VK→Prop:=fun x vs H Q=>∃l xs y,x=.ref l∧vs=[y]∧H l=some (.lst xs)∧xs.length<sizeLine∧Q .non (upd H l (.lst (xs++[y])))
theorem HQ:bV X "list.append" MY:=by
 intro pins s σ H x vs v us Q I rx rv h
 obtain⟨l,xs,y,rfl,rfl,hH,hz,q⟩:=h
 cases rx
 obtain⟨u,rfl,ru⟩:=rv.one
 obtain⟨z,its,n,r,hl,e⟩:=I.lstM hH
 refine call_meets F.slot_list_append ⟨_,e,rfl⟩ F.entry_list_append (F.args_list_append_2 _ _) (PySem.list_append l its.toArray n u (by rw[du];omega)) ⟨e,?_⟩
 refine⟨.non,_,I.lset (its':=its++[u]) hH e (by simp) (r.append (.cons ru .nil)) ?_,rfl,q⟩
 rw[dH,List.length_singleton]
 omega
def Vn:V→List V→Hp→VK→Prop:=fun x vs H Q=>∃l xs i k y,x=.ref l∧vs=[.int i]∧H l=some (.lst xs)∧-(2^63)≤i∧i<2^63∧lR i xs.length=some k∧xs[k]?=some y∧Q y (upd H l (.lst (xs.eraseIdx k)))
theorem PK:bV X "list.pop" Vn:=by
 intro pins s σ H x vs v us Q I rx rv h
 obtain⟨l,xs,i,k,y,rfl,rfl,hH,h1,h2,hk,hy,q⟩:=h
 cases rx
 obtain⟨u,rfl,ru⟩:=rv.one
 obtain⟨t,rfl⟩:=ru
 obtain⟨z,its,n,r,hl,e⟩:=I.lstM hH
 obtain⟨w,hw,rw'⟩:=r.get hy
 refine call_meets F.slot_list_pop ⟨_,e,rfl⟩ F.entry_list_pop (F.args_list_pop_2 _ _)
  (MeetsSeq.list_pop_at l its.toArray n i t k w (fitsIndex_both h1 h2) (by rw[du,←hl];exact hk) (by rw[←dQ];exact hw) (by rw[du];omega)) ⟨e,?_⟩
 refine⟨y,_,I.lset (its':=its.eraseIdx k) hH e ?_ (r.eraseIdx k) ?_,rw',q⟩
 ·show its.toArray.eraseIdxIfInBounds k=(its.eraseIdx k).toArray
  rw[List.eraseIdxIfInBounds_toArray]
 ·have:=HP xs k
  omega
def Yb:R2:=fun x y H Q=>∃l b xs zs,x=.ref l∧y=.ref b∧H l=some (.lst xs)∧H b=some (.lst zs)∧xs.length+zs.length≤sizeLine∧∀p,H p=none→Q (.ref p) (upd H p (.lst (xs++zs)))
theorem PL:DF X (jv .Add) Yb:=by
 intro pins s σ H x y v u Q I rx ry h
 obtain⟨l,b,xs,zs,rfl,rfl,hH,hB,hz,q⟩:=h
 cases rx
 cases ry
 obtain⟨z,its,n,r,hl,e⟩:=I.lstM hH
 obtain⟨z2,its2,n2,r2,hl2,e2⟩:=I.lstM hB
 refine PySem.P.add_list e e2 ?_ (by rw[du,du];omega)
 have ea:its.toArray++its2.toArray=(its++its2).toArray:=by simp
 rw[ea]
 exact⟨.ref _,_,I.lnew (t':=s.toks) (r.append r2) (by rw[dH];omega),rfl,q _ I.fresh⟩
end
section
variable{prog:Program}{w:World}{A:dy}{E:Value→a7→Prop}{s:a7}
end
section
variable{X:Cx}
end
end L2
namespace Att
open PySem PySem.W PySem.Calls PyProof.Rows
theorem FL{P:Params}{h:Heap}:∀(ns:List Int) (vs:List Value),WellAll P h vs (ns.map WData.int)→IntsAre vs ns:=by
 intro ns
 induction ns with
 |nil=>
  intro vs w
  rw[jy] at w
  cases w
  exact .nil
 |cons n ns ih=>
  intro vs w
  rw[dF] at w
  cases w with
  |cons a b=>
   cases a
   exact .cons _ _ (ih _ b)
theorem Nv{l:lg}{n:Nat}(hn:l.most=some n){P:Params}{h:Heap}{args:List WData}{vals:List Value}
  (hpre:l.row.toRowW.claim.pre args=true) (hwl:WellAll P h vals args):
  ∃a vs ns,vals=[Value.ref a]∧args=[WData.list (ns.map WData.int)]∧h.get? a=some {cls:=.type "list",data:=.seq vs.toArray}∧IntsAre vs ns∧ns.length≤n:=by
 have hsh:WShape.hasAll [] args [.list .int]=true:=(pre_splitW hpre).1
 have hc:l.pre.holds [] {args:=args}=true:=(pre_splitW hpre).2
 obtain⟨d,r,rfl,h1,h2⟩:=hasAllW_cons hsh
 obtain rfl:=hasAllW_nil h2
 obtain⟨xs,rfl,h3⟩:=hasW_list h1
 obtain⟨ns,rfl⟩:=items_int h3
 have hlen:ns.length≤n:=by
  unfold lg.pre at hc
  have h4:(WTm.not (.lt (.lit (.int (n:Int))) (.len (.arg 0)))).holds [] {args:=[.list (ns.map .int)]}=true:=by
   have h4:=(holds_andW hc).1
   rw[hn] at h4
   exact h4
  have h5:=condW_of h4 (w_not (w_lt w_lit (w_len_list (w_arg rfl))))
  rw[a9] at h5
  refine jD fun q=>?_
  have q':(n:Int)< ((ns.length:Nat):Int):=by omega
  first
   | (rw[decide_eq_true q'] at h5;exact absurd h5 (by decide))
   | (simp at h5;omega)
 cases hwl with
 |cons w1 w2=>
  cases w2
  cases w1 with
  |list ho hall=>exact⟨_,_,ns,rfl,rfl,ho,FL ns _ hall,hlen⟩
theorem Nw(l:lg)(args:List WData):l.row.toRowW.claim.post args (.bool true) args=true:=
 postW_of (r:=l.row.toRowW) (X:=(true==true))
  (show WShape.has [] (.bool true) .bool=true by first|rfl|decide|simp[WShape.has,WShape.arms,WShape.armsAll])
  (show(WTm.eq .res (.lit (.bool true))).value [] {args:=args,res:=some (.bool true),after:=args}=some (.bool (true==true)) from w_eq_bool (w_res rfl) w_lit) rfl
theorem Jl{l:lg}{n:Nat}{q:Program}{loose:List Str}{XP:(Str→Option Value)→Heap→Prop}{YP:World→Heap→Prop}{d:DefRec}
  (hn:l.most=some n) (hdf:d.params.defaults=[])
  (call:∀(w:World) (s₀ s₁:a7) (mg mb:Str→Option Value) (fa:Addr) (o:Obj) (pm cd doc:Value) (a:Addr) (vs:List Value) (ns:List Int),
   Ground q loose [] XP w s₀ mg mb s₁.heap→YP w s₁.heap→
   s₁.heap.get? fa=some o→o.data=.func (docDef d.name d.params d.body d.scope pm cd doc)→s₁.heap.CodeRec cd d.name→mg d.name=some (.ref fa)→
   s₁.heap.get? a=some {cls:=.type "list",data:=.seq vs.toArray}→IntsAre vs ns→ns.length≤n→s₁.gens= #[]→
   i6 (model l.prog w) lU (.call (.ref fa) ⟨[.ref a],[]⟩) (fun r s'=>r=.ok (.ret (.bool true))∧OldK s₁.heap s'.heap∧s'.os=s₁.os∧j0 s'.gens) s₁):
  WalkO q loose XP YP l.row.toRowW d [] (fun f vs=>PySem.call f vs):=by
 intro w s₀ s₁ mg mb G Y fa o pm cd doc dV kV ho hd hcd hD hmg hg args vals as hpre hlay hrd hwl hlo
 obtain rfl:dV=.none:=Dflts.none hD hdf
 obtain rfl:kV=.none:=Dflts.noKw hD
 obtain⟨a,vs,ns,rfl,rfl,hobj,hints,hlen⟩:=Nv hn hpre hwl
 refine enter_call (jW (call w s₀ s₁ mg mb fa o pm cd doc a vs ns G Y ho (fd_plain hd) hcd hmg hobj hints hlen hg) fun r s' hq=>?_)
 obtain⟨rfl,h2,h3,h4⟩:=hq
 exact⟨.inl ⟨.bool true,.bool true,[],rfl,fun _=>rfl,.bool true,Nw l _,fun _=> ⟨iw,fun _ hm=> (nomatch hm)⟩⟩,h2,h3,h4⟩
section
variable{prog:Program}{w:World}{A:dy}{E:Value→a7→Prop}{s:a7}{K:Frag}
end
end Att
namespace L2
open PySem PySem.Spec PyProof.Rows
theorem Ej:∀{vs:List Value} {ns:List Int},IntsAre vs ns→Vals (ns.map V.int) vs
 |_,_,.nil=> .nil
 |_,_,.cons n t h=> .cons ⟨t,rfl⟩ (Ej h)
def Vo(H:Hp):Prop:=∀b,H b=none∨∃o xs,H b=some (.frz o (.lst xs))
theorem PM{P:Program}{w:World}{K:a5}{mg mb:Str→Option Value}{CX:Oi}{k:Nat}{fa a:Addr}{fd:dM}{x:Str}{sp:Sp}{s₁:a7}{vs:List Value}{ns:List Int}
  (KX:K.In s₁.heap) (hns:s₁.heap.Ns fg mg) (hb:s₁.heap.Ns ma mb) (hbb:∀x:Str,x≠"__name__"→mb x=eE x) (hlim:s₁.heap.NoLimit) (hg:s₁.gens= #[])
  (ha:s₁.heap.get? a=some {cls:=.type "list",data:=.seq vs.toArray}) (hi:IntsAre vs ns) (hl:ns.length≤sizeLine) (hr:Room k lU)
  (F:∀base:Heap,K.In base→base.Ns fg mg→FnOk P w K mg base CX k fa fd [x] sp) (hbind:∀(s:a7) (u:Value),mH s fd ⟨[u],[]⟩ [(x,u)])
  (hsp:∀H:Hp,Vo H→Dj K H a (ns.map V.int)→sp [.ref a] H (fun v _=>v=.bl true) fun _ _ _=>False)
  (hCX:∀H e s',CX [] H s₁ (fun _ _ _=>False) e s'→False):
  i6 (model P w) lU (.call (.ref fa) ⟨[.ref a],[]⟩) (fun r s'=>r=.ok (.ret (.bool true))∧OldK s₁.heap s'.heap∧s'.os=s₁.os∧j0 s'.gens) s₁:=by
 have rv:=Ej hi
 have lenV:=hi.length
 have core:∀H:Hp,Vo H→Dj K H a (ns.map V.int)→HOk P w H s₁.heap→(∀b,H b≠none→b=a)→(H a≠none→K.lookup a=none)→
   i6 (model P w) lU (.call (.ref fa) ⟨[.ref a],[]⟩) (fun r s'=>r=.ok (.ret (.bool true))∧OldK s₁.heap s'.heap∧s'.os=s₁.os∧j0 s'.gens) s₁:=by
  intro H hO hS hok hA hK
  have base_of:∀{b:Addr} {o:Obj},s₁.heap.get? b=some o→H b=none→(IH s₁.heap H).get? b=some o:=fun e n=>Om e n
  have noA:∀{b:Addr} {o:Obj} {es:Array DictEntry} {ep:Nat},s₁.heap.get? b=some o→o.data=.dict es ep→H b=none:=fun{b o es ep} e d=>by
   cases q:H b with
   |none=>rfl
   |some u=>
    have e':b=a:=hA b (by rw[q];simp)
    subst e'
    rw[ha] at e;cases e
    have d':Data.seq vs.toArray _=Data.dict es ep:=d
    cases d'
  have nsK:∀{b:Addr} {m:Str→Option Value},s₁.heap.Ns b m→(IH s₁.heap H).Ns b m:=fun{b m} ⟨o,es,ep,e,d,r⟩=> ⟨o,es,ep,base_of e (noA e d),d,r⟩
  have hKb:K.In (IH s₁.heap H):=fun b o e=>base_of (KX b o e) (by
   cases q:H b with
   |none=>rfl
   |some u=>
    have e':b=a:=hA b (by rw[q];simp)
    subst e'
    rw[hK (by rw[q];simp)] at e;cases e)
  have hM:Mod K mg (IH s₁.heap H):=⟨hKb,nsK hns,⟨mb,nsK hb,hbb⟩,let⟨mc,h1,h2⟩:=hlim;⟨mc,nsK h1,h2⟩⟩
  have e0:Env0 P w K mg (IH s₁.heap H) lU [] s₁ H:=⟨rfl,hM,fun b o e=>SK e,Nat.le_of_eq (Ng _ _),trivial,fun b hb=>absurd (show b∈([]:List Addr) from hb) (by simp),hok,.of_eq hg⟩
  refine jW ((F _ hKb (nsK hns)).run lU [] s₁ H ⟨[.ref a],[]⟩ [.ref a] [.ref a] _ _ hr e0 (hbind s₁ (.ref a)) (.cons rfl .nil) (hsp H hO hS)) fun r s' h=>?_
  cases r with
  |error e=>exact(hCX H e s' h).elim
  |ok fl=>
   cases fl with
   |next=>exact iB h
   |brk=>exact iB h
   |cont=>exact iB h
   |ret u=>
    obtain⟨v,H',os,bare,un,hok',r',q⟩:=h
    have q':v=.bl true:=q
    subst q'
    obtain rfl:u=kb true:=r'
    refine⟨rfl,OldK.of_keep fun b o e=>?_,os,bare⟩
    cases q:H b with
    |none=>exact un.keep b o e q (by intro z;exact absurd (show b∈([]:List Addr) from z) (by simp)) (by simp)
    |some u=>
     rcases hO b with z| ⟨ob,xs,z⟩
     ·rw[q] at z;cases z
     ·have z2:=un.frzs b ob _ z
      obtain⟨e1,_⟩:=hok b _ z
      obtain⟨e2,_⟩:=hok' b _ z2
      rw[e] at e1;cases e1
      exact e2
 cases hk:K.lookup a with
 |some o=>
  have e:=KX a o hk
  rw[ha] at e
  cases e
  refine core (fun _=>none) (fun _=> .inl rfl) (.inr ⟨_,vs.toArray,_,hk,rfl,rfl,rfl,by rw[du,lenV];exact hl,by simpa using rv⟩) (fun b u z=>by have z':(none:Option HO)=some u:=z;cases z') (fun b z=>absurd rfl z) fun z=>absurd rfl z
 |none=>
  refine core (fun b=>if b=a then some (.frz {cls:=.type "list",data:=.seq vs.toArray} (.lst (ns.map V.int))) else none) (fun b=>?_) (.inl (.inr ⟨{cls:=.type "list",data:=.seq vs.toArray},if_pos rfl⟩)) (fun b u z=>?_) (fun b z=>?_) fun _=>hk
  ·by_cases hb:b=a
   ·exact .inr ⟨_,_,if_pos hb⟩
   ·exact .inl (if_neg hb)
  ·by_cases hb:b=a
   ·have z':=(if_pos hb).symm.trans z
    cases z'
    subst hb
    exact⟨ha,by rw[a9];exact hl,vs,_,rv,ha⟩
   ·have z':=(if_neg hb).symm.trans z
    cases z'
  ·by_cases hb:b=a
   ·exact hb
   ·exact absurd (if_neg hb) z
theorem SY{l:lg}{n k:Nat}{q:Program}{loose:List Str}{XP:(Str→Option Value)→Heap→Prop}{YP:World→Heap→Prop}{d:DefRec}{K:Params→a5}{CX:World→Oi}{sp:World→Sp}{x:Str}
  (hn:l.most=some n) (hn2:n≤sizeLine) (hdf:d.params.defaults=[]) (hr:Room k lU)
  (hY:∀(w:World) (h:Heap),YP w h→(K w.params).In h)
  (F:∀(w:World) (mg:Str→Option Value) (fa:Addr) (h:Heap),(K w.params).In h→h.Ns fg mg→mg d.name=some (.ref fa)→
   ∃fd:dM,(∀(s:a7) (u:Value),mH s fd ⟨[u],[]⟩ [(x,u)])∧
    ∀base:Heap,(K w.params).In base→base.Ns fg mg→FnOk l.prog w (K w.params) mg base (CX w) k fa fd [x] (sp w))
  (hsp:∀(w:World) (H:Hp) (a:Addr) (ns:List Int),ns.length≤n→Vo H→Dj (K w.params) H a (ns.map V.int)→sp w [.ref a] H (fun v _=>v=.bl true) fun _ _ _=>False)
  (hCX:∀(w:World) (H:Hp) (s:a7) (e:Value) (s':a7),CX w [] H s (fun _ _ _=>False) e s'→False):
  PySem.W.WalkO q loose XP YP l.row.toRowW d [] (fun f vs=>PySem.call f vs):=by
 refine Att.Jl hn hdf fun w s₀ s₁ mg mb fa o pm cd doc a vs ns G Y ho hd hcd hmg hobj hints hlen hg=>?_
 have KX:=hY w _ Y
 obtain⟨fd,hb,hF⟩:=F w mg fa _ KX G.T.g hmg
 exact PM KX G.T.g G.T.b G.T.builtins G.T.nolimit hg hobj hints (eY hlen hn2) hr hF hb (fun H hO hS=>hsp w H a ns hlen hO hS) fun H e s'=>hCX w H s₁ e s'
def Dz(s:Stmt):Arguments:=match s with
 | .FunctionDef _ a _ _ _ _ _ _ _ _=>a
 |_=> {posonlyargs:=[],args:=[],vararg:=none,kwonlyargs:=[],kw_defaults:=[],kwarg:=none,defaults:=[]}
def Ai(s:Stmt):List Stmt:=match s with
 | .FunctionDef _ _ b _ _ _ _ _ _ _=>b
 |_=> []
def AA(s:Stmt):Scope:=match s with
 | .FunctionDef _ _ _ _ _ _ sc _ _ _=>sc
 |_=> {kind:=.function,names:=[],isGenerator:=false,isCoroutine:=false}
abbrev E0:XK:=fun _ _ _=>False
structure Fun(K:a5)(x qual:Str)(st:Stmt)(f:Addr)(fd:dM):Prop where
 ex:∃(oc:Value) (od:Option Addr) (kV doc pm:Value) (an:Option Addr) (cdv ct:Value) (osl:Array (Option Value)),
  fd=i7 x qual (Dz st) (Ai st) (AA st) .none kV doc pm an cdv ct∧K.lookup f=some ⟨oc,od,.func fd,osl⟩∧lL K cdv qual=true
 kp:gW K (.ref f)=true
section
variable{P:Program}{w:World}{K:a5}{mg:Str→Option Value}{base:Heap}
theorem Fun.binds{x qual:Str}{st:Stmt}{f:Addr}{fd:dM}{ps:List Str}(F:Fun K x qual st f fd)
  (h:∀(kV doc pm:Value) (an:Option Addr) (cdv ct:Value) (us:List Value),us.length=ps.length→bindArgs (i7 x qual (Dz st) (Ai st) (AA st) .none kV doc pm an cdv ct) ⟨us,[]⟩=pure (ps.zip us)):Binds K fd ps []:=by
 obtain⟨oc,od,kV,doc,pm,an,cdv,ct,osl,rfl,lk,hcd⟩:=F.ex
 exact .all (h kV doc pm an cdv ct)
end
section
variable{X:Cx}
theorem pv(i:Nat){x:Str}{pos:Pos}(hN:X.N[i]?=some x:=by rfl)(hv:Xo X.env.scope x:=by first|exact kg rfl|exact ke (kg rfl)|exact ke (ke rfl))(hd:(x==("__debug__" :Str))=false:=by decide)
  (hcd:(x==("__classdict__" :Str))=false:=by decide):PE X (.Name x pos) (Xu i):=On hN hv hd hcd
end
theorem Nx{A B:Prop}(h:B):if false=true then A else B:=by
 rw[if_neg b6]
 exact h
theorem IR{A B:Prop}(h:A):if true=true then A else B:=by
 rw[if_pos rfl]
 exact h
theorem SZ{c A B:Prop} [Decidable c](h1:c→A)(h2:¬c→B):if c then A else B:=by
 by_cases h:c
 ·rw[if_pos h]
  exact h1 h
 ·rw[if_neg h]
  exact h2 h
end L2
set_option maxHeartbeats 4000000
namespace K19
open PySem L2
def kE(P:Params)(x:Str)(n:Tok)(v:Value):DictEntry:=⟨gE.keyHash P x,.str x n,v⟩
def tp(i:Nat):Stmt:=dO.main.body.getD i (.Pass ⟨0,0,0,0⟩)
def kF(x:Str)(i:Nat)(m:Str)(t:Tok)(c:Addr):Obj:=⟨.type "function",none,.func (i7 x x (Dz (tp i)) (Ai (tp i)) (AA (tp i)) .none .none .none (.str m t) none (.ref c) .none),#[]⟩
def kC(x:Str)(a b c:Tok)(vs:List Value):Obj:=⟨.type "code",none,.fields ((mJ x a::.str x b::.str "/claim/cut.py" c::vs).toArray),#[]⟩
def kD(x:Str)(a b c:Tok)(l n:Int)(r:Addr)(g:Int)(q:Addr)(z:Int)(k:Tok)(vs:List Value):Obj:=kC x a b c (.int l 0::.int n 0::.int 0 0::.int 0 0::.int 3 0::.ref r::.bool true::.int g 0::.ref q::(vs++[.int z 0,.int l 0,.str "/claim/cut.py" k]))
def Kk:Params→a5:=fun P=> (nat_lit 3,⟨(.type "dict"),none,(.dict #[kE P "__name__" 165 (.str "law_noshortring_k19_whole_fewest_places" 487),kE P "__doc__" 166 .none,kE P "__package__" 167 .none,kE P "__loader__" 168 (.builtin "__main__.__loader__#opaque"),kE P "__spec__" 169 .none,kE P "__annotations__" 170 (.ref 6),kE P "__builtins__" 171 (.ref 4),kE P "__file__" 173 (.str "/claim/cut.py" 172),kE P "__cached__" 174 .none,kE P "RingError" 206 (.ref 24),kE P "NoPlace" 222 (.ref 37),kE P "NoNumber" 238 (.ref 49),kE P "NoRing" 254 (.ref 61),kE P "NotEven" 270 (.ref 73),kE P "is_whole" 281 (.ref 82),kE P "need_number" 290 (.ref 89),kE P "least_told" 296 (.ref 94),kE P "LEAST_RING" 300 (.int 3 299),kE P "ties_of" 306 (.ref 99),kE P "is_place" 314 (.ref 106),kE P "need_place" 322 (.ref 113),kE P "nears_of" 328 (.ref 118),kE P "fars_from" 334 (.ref 123),kE P "far_of" 343 (.ref 130),kE P "even_by" 349 (.ref 135),kE P "ring_by_tie" 355 (.ref 140),kE P "shortest" 361 (.ref 145),kE P "renamed" 367 (.ref 150),kE P "LEAST_TIES" 371 (.int 2 370),kE P "MOST_TIES" 373 (.int 15 372),kE P "MOST_RING" 375 (.int 16 374),kE P "need_ties" 382 (.ref 157),kE P "need_ring" 389 (.ref 164),kE P "need_ties_and_ring" 397 (.ref 171),kE P "sum_of_powers" 408 (.ref 178),kE P "grown_places" 417 (.ref 185),kE P "least_by_growth" 425 (.ref 192),kE P "least_fit" 434 (.ref 199),kE P "has_shorter_ring" 443 (.ref 206),kE P "does_fit" 452 (.ref 213),kE P "fits" 461 (.ref 220),kE P "surplus" 470 (.ref 227),kE P "tight_by" 479 (.ref 234),kE P "tight" 486 (.ref 241),kE P "_law_cell_at" 496 (.ref 248),kE P "_law_next" 503 (.ref 255),kE P "_law_pen_of" 511 (.ref 262),kE P "_law_draw" 520 (.ref 269),kE P "_law_named" 526 (.ref 274),kE P "_law_names_by" 532 (.ref 279),kE P "_law_turned" 544 (.ref 286),kE P "_law_shape" 550 (.ref 291),kE P "_law_web_by" 562 (.ref 298),kE P "_law_fit_right" 568 (.ref 303),kE P "law" 574 (.ref 308)] 55),#[]⟩)::
  (nat_lit 23,⟨(.type "dict"),none,(.dict #[kE P "__module__" 196 (.str "noshortring.errors" 187),kE P "__firstlineno__" 200 (.int 2 199),kE P "__static_attributes__" 201 (.ref 22),kE P "__weakref__" 203 (.ref 25),kE P "__doc__" 204 .none] 3),#[]⟩)::
  (nat_lit 24,⟨(.type "type"),none,(.cls ⟨"RingError",[(.type "ValueError")],[(.ref 24),(.type "ValueError"),(.type "Exception"),(.type "BaseException"),(.type "object")],23,"RingError",true,[],[(.ref 37),(.ref 49),(.ref 61),(.ref 73)],false,none,false⟩),#[(some (.ref 15)),none,(some (.str "RingError" 189)),(some (.str "RingError" 197)),(some (.builtin "ValueError.__new__")),(some (.bool true))]⟩)::
  (nat_lit 36,⟨(.type "dict"),none,(.dict #[kE P "__module__" 214 (.str "noshortring.errors" 187),kE P "__firstlineno__" 218 (.int 4 217),kE P "__static_attributes__" 219 (.ref 35),kE P "__doc__" 220 .none] 2),#[]⟩)::
  (nat_lit 37,⟨(.type "type"),none,(.cls ⟨"NoPlace",[(.ref 24)],[(.ref 37),(.ref 24),(.type "ValueError"),(.type "Exception"),(.type "BaseException"),(.type "object")],36,"NoPlace",true,[],[],false,none,false⟩),#[(some (.ref 28)),none,(some (.str "NoPlace" 207)),(some (.str "NoPlace" 215)),(some (.builtin "ValueError.__new__")),(some (.bool true))]⟩)::
  (nat_lit 48,⟨(.type "dict"),none,(.dict #[kE P "__module__" 230 (.str "noshortring.errors" 187),kE P "__firstlineno__" 234 (.int 6 233),kE P "__static_attributes__" 235 (.ref 47),kE P "__doc__" 236 .none] 2),#[]⟩)::
  (nat_lit 49,⟨(.type "type"),none,(.cls ⟨"NoNumber",[(.ref 24)],[(.ref 49),(.ref 24),(.type "ValueError"),(.type "Exception"),(.type "BaseException"),(.type "object")],48,"NoNumber",true,[],[],false,none,false⟩),#[(some (.ref 40)),none,(some (.str "NoNumber" 223)),(some (.str "NoNumber" 231)),(some (.builtin "ValueError.__new__")),(some (.bool true))]⟩)::
  (nat_lit 60,⟨(.type "dict"),none,(.dict #[kE P "__module__" 246 (.str "noshortring.errors" 187),kE P "__firstlineno__" 250 (.int 8 249),kE P "__static_attributes__" 251 (.ref 59),kE P "__doc__" 252 .none] 2),#[]⟩)::
  (nat_lit 61,⟨(.type "type"),none,(.cls ⟨"NoRing",[(.ref 24)],[(.ref 61),(.ref 24),(.type "ValueError"),(.type "Exception"),(.type "BaseException"),(.type "object")],60,"NoRing",true,[],[],false,none,false⟩),#[(some (.ref 52)),none,(some (.str "NoRing" 239)),(some (.str "NoRing" 247)),(some (.builtin "ValueError.__new__")),(some (.bool true))]⟩)::
  (nat_lit 72,⟨(.type "dict"),none,(.dict #[kE P "__module__" 262 (.str "noshortring.errors" 187),kE P "__firstlineno__" 266 (.int 10 265),kE P "__static_attributes__" 267 (.ref 71),kE P "__doc__" 268 .none] 2),#[]⟩)::
  (nat_lit 73,⟨(.type "type"),none,(.cls ⟨"NotEven",[(.ref 24)],[(.ref 73),(.ref 24),(.type "ValueError"),(.type "Exception"),(.type "BaseException"),(.type "object")],72,"NotEven",true,[],[],false,none,false⟩),#[(some (.ref 64)),none,(some (.str "NotEven" 255)),(some (.str "NotEven" 263)),(some (.builtin "ValueError.__new__")),(some (.bool true))]⟩)::
  (nat_lit 81,kD "is_whole" 273 274 275 13 3 76 181 77 279 280 [.none,(.ref 78),(.ref 79),(.ref 80)])::
  (nat_lit 82,kF "is_whole" 7 "noshortring.common" 271 81)::
  (nat_lit 88,kD "need_number" 282 283 284 17 3 83 181 84 288 289 [.none,(.ref 85),(.ref 86),(.ref 87)])::
  (nat_lit 89,kF "need_number" 8 "noshortring.common" 271 88)::
  (nat_lit 93,kD "least_told" 291 292 293 20 1 90 181 91 294 295 [.none,.none,.none,(.ref 92)])::
  (nat_lit 94,kF "least_told" 9 "noshortring.common" 271 93)::
  (nat_lit 98,kD "ties_of" 301 302 303 24 1 95 181 96 304 305 [.none,.none,.none,(.ref 97)])::
  (nat_lit 99,kF "ties_of" 12 "noshortring.webs" 297 98)::
  (nat_lit 105,kD "is_place" 307 308 309 26 2 100 181 101 312 313 [.none,(.ref 102),(.ref 103),(.ref 104)])::
  (nat_lit 106,kF "is_place" 13 "noshortring.webs" 297 105)::
  (nat_lit 112,kD "need_place" 315 316 317 28 2 107 181 108 320 321 [.none,(.ref 109),(.ref 110),(.ref 111)])::
  (nat_lit 113,kF "need_place" 14 "noshortring.webs" 297 112)::
  (nat_lit 117,kD "nears_of" 323 324 325 31 1 114 181 115 326 327 [.none,.none,.none,(.ref 116)])::
  (nat_lit 118,kF "nears_of" 15 "noshortring.webs" 297 117)::
  (nat_lit 122,kD "fars_from" 329 330 331 37 2 119 181 120 332 333 [.none,.none,.none,(.ref 121)])::
  (nat_lit 123,kF "fars_from" 16 "noshortring.webs" 297 122)::
  (nat_lit 129,kD "far_of" 335 336 337 53 3 124 181 125 341 342 [.none,(.ref 126),(.ref 127),(.ref 128)])::
  (nat_lit 130,kF "far_of" 17 "noshortring.webs" 297 129)::
  (nat_lit 134,kD "even_by" 344 345 346 57 1 131 181 132 347 348 [.none,.none,.none,(.ref 133)])::
  (nat_lit 135,kF "even_by" 18 "noshortring.webs" 297 134)::
  (nat_lit 139,kD "ring_by_tie" 350 351 352 60 3 136 181 137 353 354 [.none,.none,.none,(.ref 138)])::
  (nat_lit 140,kF "ring_by_tie" 19 "noshortring.webs" 297 139)::
  (nat_lit 144,kD "shortest" 356 357 358 65 1 141 181 142 359 360 [.none,.none,.none,(.ref 143)])::
  (nat_lit 145,kF "shortest" 20 "noshortring.webs" 297 144)::
  (nat_lit 149,kD "renamed" 362 363 364 68 2 146 181 147 365 366 [.none,.none,.none,(.ref 148)])::
  (nat_lit 150,kF "renamed" 21 "noshortring.webs" 297 149)::
  (nat_lit 156,kD "need_ties" 376 377 378 78 1 151 181 152 380 381 [.none,(.ref 153),(.ref 154),(.ref 155)])::
  (nat_lit 157,kF "need_ties" 26 "noshortring.fewest" 368 156)::
  (nat_lit 163,kD "need_ring" 383 384 385 80 1 158 181 159 387 388 [.none,(.ref 160),(.ref 161),(.ref 162)])::
  (nat_lit 164,kF "need_ring" 27 "noshortring.fewest" 368 163)::
  (nat_lit 170,kD "need_ties_and_ring" 390 391 392 82 2 165 181 166 395 396 [.none,(.ref 167),(.ref 168),(.ref 169)])::
  (nat_lit 171,kF "need_ties_and_ring" 28 "noshortring.fewest" 368 170)::
  (nat_lit 177,kD "sum_of_powers" 398 399 400 85 2 172 181 173 406 407 [.none,(.ref 174),(.ref 175),(.ref 176)])::
  (nat_lit 178,kF "sum_of_powers" 29 "noshortring.fewest" 368 177)::
  (nat_lit 184,kD "grown_places" 409 410 411 92 2 179 181 180 415 416 [.none,(.ref 181),(.ref 182),(.ref 183)])::
  (nat_lit 185,kF "grown_places" 30 "noshortring.fewest" 368 184)::
  (nat_lit 191,kD "least_by_growth" 418 419 420 95 2 186 181 187 423 424 [.none,(.ref 188),(.ref 189),(.ref 190)])::
  (nat_lit 192,kF "least_by_growth" 31 "noshortring.fewest" 368 191)::
  (nat_lit 198,kD "least_fit" 426 427 428 98 2 193 181 194 432 433 [.none,(.ref 195),(.ref 196),(.ref 197)])::
  (nat_lit 199,kF "least_fit" 32 "noshortring.fewest" 368 198)::
  (nat_lit 205,kD "has_shorter_ring" 435 436 437 101 2 200 181 201 441 442 [.none,(.ref 202),(.ref 203),(.ref 204)])::
  (nat_lit 206,kF "has_shorter_ring" 33 "noshortring.fewest" 368 205)::
  (nat_lit 212,kD "does_fit" 444 445 446 104 3 207 181 208 450 451 [.none,(.ref 209),(.ref 210),(.ref 211)])::
  (nat_lit 213,kF "does_fit" 34 "noshortring.fewest" 368 212)::
  (nat_lit 219,kD "fits" 453 454 455 106 3 214 181 215 459 460 [.none,(.ref 216),(.ref 217),(.ref 218)])::
  (nat_lit 220,kF "fits" 35 "noshortring.fewest" 368 219)::
  (nat_lit 226,kD "surplus" 462 463 464 109 3 221 181 222 468 469 [.none,(.ref 223),(.ref 224),(.ref 225)])::
  (nat_lit 227,kF "surplus" 36 "noshortring.fewest" 368 226)::
  (nat_lit 233,kD "tight_by" 471 472 473 116 1 228 181 229 477 478 [.none,(.ref 230),(.ref 231),(.ref 232)])::
  (nat_lit 234,kF "tight_by" 37 "noshortring.fewest" 368 233)::
  (nat_lit 240,kD "tight" 480 481 482 122 1 235 181 236 484 485 [.none,(.ref 237),(.ref 238),(.ref 239)])::
  (nat_lit 241,kF "tight" 38 "noshortring.fewest" 368 240)::
  (nat_lit 247,kD "_law_cell_at" 489 490 491 125 2 242 181 243 494 495 [.none,(.ref 244),(.ref 245),(.ref 246)])::
  (nat_lit 248,kF "_law_cell_at" 40 "law_noshortring_k19_whole_fewest_places" 487 247)::
  (nat_lit 254,kD "_law_next" 497 498 499 129 1 249 181 250 501 502 [.none,(.ref 251),(.ref 252),(.ref 253)])::
  (nat_lit 255,kF "_law_next" 41 "law_noshortring_k19_whole_fewest_places" 487 254)::
  (nat_lit 261,kD "_law_pen_of" 504 505 506 132 1 256 181 257 509 510 [.none,(.ref 258),(.ref 259),(.ref 260)])::
  (nat_lit 262,kF "_law_pen_of" 42 "law_noshortring_k19_whole_fewest_places" 487 261)::
  (nat_lit 268,kD "_law_draw" 512 513 514 135 2 263 181 264 518 519 [.none,(.ref 265),(.ref 266),(.ref 267)])::
  (nat_lit 269,kF "_law_draw" 43 "law_noshortring_k19_whole_fewest_places" 487 268)::
  (nat_lit 273,kD "_law_named" 521 522 523 142 2 270 181 271 524 525 [.none,.none,.none,(.ref 272)])::
  (nat_lit 274,kF "_law_named" 44 "law_noshortring_k19_whole_fewest_places" 487 273)::
  (nat_lit 278,kD "_law_names_by" 527 528 529 145 2 275 181 276 530 531 [.none,.none,.none,(.ref 277)])::
  (nat_lit 279,kF "_law_names_by" 45 "law_noshortring_k19_whole_fewest_places" 487 278)::
  (nat_lit 285,kD "_law_turned" 533 534 535 148 2 280 181 281 542 543 [.none,(.ref 282),(.ref 283),(.ref 284)])::
  (nat_lit 286,kF "_law_turned" 46 "law_noshortring_k19_whole_fewest_places" 487 285)::
  (nat_lit 290,kD "_law_shape" 545 546 547 155 2 287 181 288 548 549 [.none,.none,.none,(.ref 289)])::
  (nat_lit 291,kF "_law_shape" 47 "law_noshortring_k19_whole_fewest_places" 487 290)::
  (nat_lit 297,kD "_law_web_by" 551 552 553 174 2 292 181 293 560 561 [.none,(.ref 294),(.ref 295),(.ref 296)])::
  (nat_lit 298,kF "_law_web_by" 48 "law_noshortring_k19_whole_fewest_places" 487 297)::
  (nat_lit 302,kD "_law_fit_right" 563 564 565 184 1 299 181 300 566 567 [.none,.none,.none,(.ref 301)])::
  (nat_lit 303,kF "_law_fit_right" 49 "law_noshortring_k19_whole_fewest_places" 487 302)::
  (nat_lit 307,kD "law" 569 570 571 198 1 304 181 305 572 573 [.none,.none,.none,(.ref 306)])::
  (nat_lit 308,kF "law" 50 "law_noshortring_k19_whole_fewest_places" 487 307)::[]
def ka:List Addr:=[3,23,24,36,37,48,49,60,61,72,73,81,82,88,89,93,94,98,99,105,106,112,113,117,118,122,123,129,130,134,135,139,140,144,145,149,150,156,157,163,164,170,171,177,178,184,185,191,192,198,199,205,206,212,213,219,220,226,227,233,234,240,241,247,248,254,255,261,262,268,269,273,274,278,279,285,286,290,291,297,298,302,303,307,308]
abbrev kq:Program:=PySem.W.view dO [1,2,3,4,5,7,8,9,11,12,13,14,15,16,17,18,19,20,21,23,24,25,26,27,28,29,30,31,32,33,34,35,36,37,38,40,41,42,43,44,45,46,47,48,49,50]
theorem ao:(fun(_:Params→a5) (_:Program)=>true) Kk dO=true:=by k_qdec
abbrev oS(s:a7):=PySem.W.openSeen kq [] (importedModules dO.main.body) (fun s=>mq kq [] s&&lY [] s) true s
abbrev oE(w:World):=PySem.W.openEnds treeTable dO w 4516
theorem Yc(w:World):(oE w).map (fun s=> ((oS s).1,(oS s).2.2.2.2.1))=some ((fc kq []).1,(fc kq []).2.2.2.2.1):=by
 delta oE oS kq
 rw[PySem.W.Fast.te4724572472744863182,fz,fG]
 delta fF fc
 dsimp only
 kernel_rfl
theorem Yd(w:World):(oE w).map (fun s=> ((oS s).2.1,(oS s).2.2.1,(oS s).2.2.2.2.2.2.1,(oS s).2.2.2.2.2.2.2.2))=some ((fc kq []).2.1,(fc kq []).2.2.1,(fc kq []).2.2.2.2.2.2.1,(fc kq []).2.2.2.2.2.2.2.2):=by
 delta oE oS kq
 rw[PySem.W.Fast.te4724572472744863182,fz,fG,PySem.W.Fast.te5923862056798008813]
 delta fF fc
 dsimp only
 kernel_rfl
theorem Ye(w:World):(oE w).map (fun s=> ((oS s).2.2.2.1))=some ((fc kq []).2.2.2.1):=by
 delta oE oS kq
 rw[PySem.W.Fast.te4724572472744863182,fz,fG]
 delta fF fc
 dsimp only
 kernel_rfl
theorem Yg(w:World):(oE w).map (fun s=> ((oS s).2.2.2.2.2.1))=some ((fc kq []).2.2.2.2.2.1):=by
 delta oE oS kq
 rw[PySem.W.Fast.te4724572472744863182,fz,fG]
 delta fF fc
 dsimp only
 kernel_rfl
theorem Yh(w:World):(oE w).map (fun s=> ((oS s).2.2.2.2.2.2.2.1,ka.map s.heap.get?))=some ((fc kq []).2.2.2.2.2.2.2.1,(Kk w.params).map fun(p:Addr×Obj)=>some p.2):=by
 delta oE oS kq
 rw[PySem.W.Fast.te1014717323638591388,PySem.W.Fast.te4724572472744863182,fz,fG]
 delta fF fc
 dsimp only
 kernel_rfl
theorem left:PySem.W.LeftO dO kq [] (fun s=>mq kq [] s&&lY [] s) (fun s=>ka.map s.heap.get?) (fun w=> (Kk w.params).map fun(p:Addr×Obj)=>some p.2) 4516:=by
 intro w
 have h0:=Yc w
 have h1:=Yd w
 have h2:=Ye w
 have h3:=Yg w
 have h4:=Yh w
 show(oE w).map (fun s=> (oS s,ka.map s.heap.get?))=_
 revert h0 h1 h2 h3 h4
 cases oE w with
 |none=>intro h;cases h
 |some s=>
  intro h0 h1 h2 h3 h4
  have h0:=eu.inj h0
  simp only[lZ] at h0
  have h1:=eu.inj h1
  simp only[lZ] at h1
  have h2:=eu.inj h2
  have h3:=eu.inj h3
  have h4:=eu.inj h4
  simp only[lZ] at h4
  exact congrArg some (fZ (fZ (h0.1) (fZ (h1.1) (fZ (h1.2.1) (fZ (h2) (fZ (h0.2) (fZ (h3) (fZ (h1.2.2.1) (fZ (h4.1) (h1.2.2.2))))))))) (h4.2))
end K19
namespace L2
open PySem PySem.Spec PyProof.Rows
theorem IS{env:Env}:∀(l:List (Str×NameKind)) (acc:List (Str×Addr)),(∀y∈l,y.2=.free→∃c,env.cells.lookup y.1=some c)→
  (∀x c,acc.lookup x=some c→env.cells.lookup x=some c)→
  ∃cl,(forIn l acc (fun(x:Str×NameKind) (r:List (Str×Addr))=> (match x with
   | (name,kind)=>if(kind==NameKind.free)=true then(do let a←cellOf env name;pure (gx ((name,a)::r))) else pure (gx r):Sem (ForInStep (List (Str×Addr))))))=(pure cl:Sem _)∧
   (∀x c,cl.lookup x=some c→env.cells.lookup x=some c)∧(∀x,(acc.lookup x).isSome=true→(cl.lookup x).isSome=true)∧∀y∈l,y.2=.free→(cl.lookup y.1).isSome=true
 | [],acc,_,ha=> ⟨acc,rfl,ha,fun _ h=>h,fun _ h=>nomatch h⟩
 | (n,k)::r,acc,h,ha=>by
  have hr:∀y∈r,y.2=.free→∃c,env.cells.lookup y.1=some c:=fun y hy=>h y (df _ hy)
  by_cases hk:k=.free
  ·subst hk
   obtain⟨c,hc⟩:=h (n,.free) dR rfl
   have hc:env.cells.lookup n=some c:=hc
   have ha':∀x c',((n,c)::acc).lookup x=some c'→env.cells.lookup x=some c':=fun x c' e=>by
    rw[eO] at e
    cases hx:x==n with
    |true=>rw[hx] at e;cases e;rw[beq_iff_eq.mp hx];exact hc
    |false=>rw[hx] at e;exact ha x c' e
   obtain⟨cl,e,h1,h2,h3⟩:=IS r ((n,c)::acc) hr ha'
   refine⟨cl,?_,h1,fun x hx=>h2 x ?_,fun y hy hf=>?_⟩
   ·rw[List.forIn_cons]
    simp only[cellOf,hc,beq_self_eq_true,if_true]
    exact e
   ·rw[eO]
    cases x==n with
    |true=>rfl
    |false=>exact hx
   ·rcases dh.mp hy with rfl|hy
    ·exact h2 n (by rw[eO,beq_self_eq_true];rfl)
    ·exact h3 y hy hf
  ·have hb:(k==NameKind.free)=false:=by simpa using hk
   obtain⟨cl,e,h1,h2,h3⟩:=IS r acc hr ha
   refine⟨cl,?_,h1,h2,fun y hy hf=>?_⟩
   ·rw[List.forIn_cons]
    simp only[hb,dJ,if_false]
    exact e
   ·rcases dh.mp hy with rfl|hy
    ·exact absurd hf hk
    ·exact h3 y hy hf
theorem Sa{env:Env}{csc:Scope}(h:∀y∈csc.names,y.2=.free→∃c,env.cells.lookup y.1=some c):
  ∃cl,closureFor csc env=pure cl∧(∀x c,cl.lookup x=some c→env.cells.lookup x=some c)∧∀y∈csc.names,y.2=.free→(cl.lookup y.1).isSome=true:=by
 obtain⟨cl,e,h1,_,h3⟩:=IS csc.names [] h (fun x c e=>by cases e)
 refine⟨cl,?_,h1,h3⟩
 unfold closureFor
 have e':=congrArg (fun m:Sem (List (Str×Addr))=>m>>=fun r=>pure r) e
 exact e'
theorem EC{env:Env}:∀{names:List (Str×NameKind)} {x:Str},names.lookup x=some .free→
  (names.map fun(n,k)=>if(k==NameKind.free&&env.scope.kind==.function&&env.kindOf n==some .cell) then(n,iS) else(n,k)).lookup x=some .cell∨
  (names.map fun(n,k)=>if(k==NameKind.free&&env.scope.kind==.function&&env.kindOf n==some .cell) then(n,iS) else(n,k)).lookup x=some .free
 | [],_,h=>by simp at h
 | (n,k)::r,x,h=>by
  have ih:=@EC env r x
  rw[dF]
  show List.lookup x ((if(k==NameKind.free&&env.scope.kind==.function&&env.kindOf n==some .cell)=true then(n,iS) else(n,k))::_)=_∨List.lookup x ((if(k==NameKind.free&&env.scope.kind==.function&&env.kindOf n==some .cell)=true then(n,iS) else(n,k))::_)=_
  cases hx:x==n with
  |true=>
   simp only[eO,hx] at h
   cases h
   split
   ·exact .inl (by rw[eO,hx])
   ·exact .inr (by rw[eO,hx])
  |false=>
   simp only[eO,hx] at h
   split
   ·simp only[eO,hx];exact ih h
   ·simp only[eO,hx];exact ih h
def MZ:Option NameKind→Bool
 |some .cell=>true
 |_=>false
theorem Jm{k:Option NameKind}(h:MZ k=true):k=some .cell:=by
 cases k with
 |none=>cases h
 |some k=>cases k<;>first|rfl|cases h
def Sd(X:Cx)(csc:Scope)(cl:List (Str×Addr))(N':List Str)(s:a7)(H:Hp)(fp:List Addr):Cx:=
 {X with N:=N',s₀:=s,H₀:=H,env:=mj csc cl s.heap.objs.size X.env,outer:=X.stack,ex:=fp,fn:=fun x=>MZ (csc.names.lookup x),pn:=[],xe:=fun _ _=>False}
structure LcCx(X:Cx)(csc:Scope)(N':List Str)(X':Cx):Prop where
 is:∃cl s H fp,X'=Sd X csc cl N' s H fp
def Bn(σ:St)(cap:List (Str×Nat)):St:=cap.map fun p=> (σ[p.2]?).join
structure LcOk(X:Cx)(csc:Scope)(nc:List Str)(cap:List (Str×Nat)):Prop where
 kind:csc.kind=.function
 cells:∀y∈csc.names,y.2=.cell→csc.names.lookup y.1=some .cell
 locals:∀y∈csc.names,y.2=.local→csc.names.lookup y.1=some .local
 free:∀y∈csc.names,y.2=.free→X.env.scope.names.lookup y.1=some .cell∨X.env.scope.names.lookup y.1=some .free
 caps:∀p∈cap,X.N[p.2]?=some p.1∧csc.names.lookup p.1=some .free
abbrev Ag(nc:List Str)(cap:List (Str×Nat)):List Str:=nc++cap.map (·.1)
abbrev HC(nc:List Str)(σ:St)(cap:List (Str×Nat)):St:=fu nc.length none++Bn σ cap
theorem Al{α:Type}:∀{l:List (Str×α)} {x:Str} {v:α},l.lookup x=some v→(x,v)∈l
 | [],_,_,h=>by simp at h
 | (n,k)::r,x,v,h=>by
  rw[eO] at h
  cases hx:x==n with
  |true=>rw[hx] at h;cases h;rw[beq_iff_eq.mp hx];exact dR
  |false=>rw[hx] at h;exact df _ (Al h)
theorem LH:∀(names:List (Str×NameKind)) (L:Nat) (a acc:List (Str×Addr)),fX L names (a++acc)=fX L names a++acc
 | [],_,_,_=>rfl
 | (n,k)::r,L,a,acc=>by
  unfold fX
  split
  ·exact LH r (L+1) ((n,L)::a) acc
  ·exact LH r L a acc
theorem Vp(names:List (Str×NameKind))(L:Nat)(acc:List (Str×Addr)):fX L names acc=fX L names []++acc:=LH names L [] acc
theorem LI:∀(names:List (Str×NameKind)) (L:Nat) (acc:List (Str×Addr)) (x:Str) (c:Addr),(x,c)∈fX L names acc→(x,.cell)∈names∨(x,c)∈acc
 | [],_,_,_,_,h=> .inr h
 | (n,k)::r,L,acc,x,c,h=>by
  unfold fX at h
  split at h
  ·rename_i hk
   rcases LI r (L+1) _ x c h with h|h
   ·exact .inl (df _ h)
   ·rcases dh.mp h with h|h
    ·cases h
     rw[eq_of_beq hk]
     exact .inl dR
    ·exact .inr h
  ·rcases LI r L _ x c h with h|h
   ·exact .inl (df _ h)
   ·exact .inr h
theorem IT:∀(names:List (Str×NameKind)) (L:Nat) (acc:List (Str×Addr)) (x:Str),((x,.cell)∈names∨(acc.lookup x).isSome=true)→((fX L names acc).lookup x).isSome=true
 | [],_,_,_,h=>h.elim (fun z=>by cases z) id
 | (n,k)::r,L,acc,x,h=>by
  unfold fX
  split
  ·refine IT r (L+1) _ x ?_
   rcases h with h|h
   ·rcases dh.mp h with h|h
    ·cases h
     exact .inr (by rw[eO,beq_self_eq_true];rfl)
    ·exact .inl h
   ·refine .inr ?_
    rw[eO]
    cases x==n with
    |true=>rfl
    |false=>exact h
  ·rename_i hk
   refine IT r L acc x ?_
   rcases h with h|h
   ·rcases dh.mp h with h|h
    ·cases h;exact absurd rfl hk
    ·exact .inl h
   ·exact .inr h
theorem Do{α:Type}:∀{l m:List (Str×α)} {x:Str},(l++m).lookup x=match l.lookup x with|some v=>some v|none=>m.lookup x
 | [],_,_=>rfl
 | (n,k)::r,m,x=>by
  rw[eZ,eO,eO]
  cases x==n with
  |true=>rfl
  |false=>exact Do
structure LcCells(X:Cx)(csc:Scope)(cs:List (Str×Addr))(s:a7)(h1:Heap):Prop where
 at_:∀x c,cs.lookup x=some c→(csc.names.lookup x=some .cell∧s.heap.objs.size≤c∧h1.IsCell c none)∨(csc.names.lookup x≠some .cell∧X.env.cells.lookup x=some c)
 has:∀x,csc.names.lookup x=some .free∨csc.names.lookup x=some .cell→∃c,cs.lookup x=some c
 inj:∀x y c,cs.lookup x=some c→cs.lookup y=some c→x=y
theorem Se{X:Cx}{csc:Scope}{cl:List (Str×Addr)}{nc:List Str}{cap:List (Str×Nat)}{pins:List (Addr×Obj)}{σ:St}{H:Hp}{s:a7}{o:Obj}
  (ok:LcOk X csc nc cap) (I:Inv X pins σ H s) (hc1:∀x c,cl.lookup x=some c→X.env.cells.lookup x=some c) (hc2:∀y∈csc.names,y.2=.free→(cl.lookup y.1).isSome=true):
  LcCells X csc (fX (s.heap.objs.size+1) csc.names cl) s (lS (s.heap.push o) csc.names):=by
 have nk:=cellsFrom_ok csc.names (s.heap.push o) (s.heap.objs.size+1) [] ⟨fun _ _ hm=> (nomatch hm),iw⟩ (by rw[gc];exact de _)
 rw[gc] at nk
 rw[Vp]
 have split:∀x c,(fX (s.heap.objs.size+1) csc.names []++cl).lookup x=some c→((x,c)∈fX (s.heap.objs.size+1) csc.names []∧csc.names.lookup x=some .cell)∨(csc.names.lookup x≠some .cell∧cl.lookup x=some c):=fun x c e=>by
  rw[Do] at e
  cases hx:(fX (s.heap.objs.size+1) csc.names []).lookup x with
  |some v=>
   rw[hx] at e
   cases e
   have m:=Al hx
   refine .inl ⟨m,?_⟩
   rcases LI _ _ _ _ _ m with z|z
   ·exact ok.cells _ z rfl
   ·cases z
  |none=>
   rw[hx] at e
   refine .inr ⟨fun z=>?_,e⟩
   have:=IT csc.names (s.heap.objs.size+1) [] x (.inl (Al z))
   rw[hx] at this
   cases this
 refine⟨fun x c e=>?_,fun x hx=>?_,fun x y c e1 e2=>?_⟩
 ·rcases split x c e with⟨m,k⟩| ⟨k,e⟩
  ·exact .inl ⟨k,ky (nk.empty x c m).2,(nk.empty x c m).1⟩
  ·exact .inr ⟨k,hc1 x c e⟩
 ·refine Option.isSome_iff_exists.mp ?_
  rw[Do]
  cases hn:(fX (s.heap.objs.size+1) csc.names []).lookup x with
  |some v=>rfl
  |none=>
   rcases hx with hx|hx
   ·exact hc2 _ (Al hx) rfl
   ·have:=IT csc.names (s.heap.objs.size+1) [] x (.inl (Al hx))
    rw[hn] at this
    cases this
 ·have old:∀z,cl.lookup z=some c→c<s.heap.objs.size:=fun z e=>by
   obtain⟨v,hv⟩:=I.cell z c (hc1 z c e)
   exact hv.lt
  rcases split x c e1 with⟨m1,_⟩| ⟨_,g1⟩<;>rcases split y c e2 with⟨m2,_⟩| ⟨_,g2⟩
  ·exact name_of_addr nk.apart m1 m2
  ·exact absurd (dG (old y g2) (ky (nk.empty x c m1).2)) (e9 _)
  ·exact absurd (dG (old x g1) (ky (nk.empty y c m2).2)) (e9 _)
  ·exact I.ok.inj x y c (hc1 x c g1) (hc1 y c g2)
section
variable{M:Model}{A:dy}{E:Value→a7→Prop}{s:a7}
theorem PN{scope:Scope}{globals:Addr}{closure:List (Str×Addr)}{qual:Str}{env:Env}{Q:Env→a7→Prop}
  (hQ:Q (newEnv scope s.heap.objs.size globals (fX (s.heap.objs.size+1) scope.names closure) qual none .none (some env) ma) {s with heap:=lS (s.heap.push {cls:=.type "dict",data:=.dict #[]}) scope.names}):
  wpAny M A (lE scope globals closure [] qual none .none (some env)) Q E s:=by
 simp only[lE,Option.isSome_some,if_true]
 refine a6 (wpAny_alloc ?_)
 refine a6 (wpAny_layCells _ (fun name kind cells=>by cases hkc:kind==iS<;>simp[hkc]) _ _ _ _ ?_)
 rw[show({s with heap:=s.heap.push {cls:=.type "dict",data:=.dict #[]}}:a7).heap.objs.size=s.heap.objs.size+1 from gc ..]
 refine a6 ?_
 rw[List.forIn_nil]
 exact b5 (b5 hQ)
end
theorem Vq{X:Cx}{csc:Scope}{cl:List (Str×Addr)}{nc:List Str}{cap:List (Str×Nat)}{pins:List (Addr×Obj)}{σ:St}{H:Hp}{s:a7}{h1:Heap}{fp:List Addr}
  (ok:LcOk X csc nc cap) (I:Inv X pins σ H s) (C:LcCells X csc cl s h1)
  (hf:∀b∈fp,HA X pins H b) (ho:∀b∈fp,∃o,s.heap.get? b=some o)
  (hn:h1.Ns s.heap.objs.size (fun _=>none)) (kept:∀b o,s.heap.get? b=some o→h1.get? b=some o):
  Inv (Sd X csc cl (Ag nc cap) s H fp) [] (HC nc σ cap) H {s with heap:=h1}:=by
 have frel:∀x,csc.names.lookup x=some .free→(mj csc cl s.heap.objs.size X.env).kindOf x=some .cell∨(mj csc cl s.heap.objs.size X.env).kindOf x=some .free:=fun x h=>EC h
 have back:∀{names:List (Str×NameKind)} {x:Str},((names.map fun(n,k)=>if(k==NameKind.free&&X.env.scope.kind==.function&&X.env.kindOf n==some .cell) then(n,iS) else(n,k)).lookup x=some .cell∨
   (names.map fun(n,k)=>if(k==NameKind.free&&X.env.scope.kind==.function&&X.env.kindOf n==some .cell) then(n,iS) else(n,k)).lookup x=some .free)→
   names.lookup x=some .free∨names.lookup x=some .cell:=by
  intro names
  induction names with
  |nil=>intro x h;simp at h
  |cons p r ih=>
   obtain⟨n,k⟩:=p
   intro x h
   rw[dF] at h
   cases hx:x==n with
   |true=>
    rw[eO,hx]
    have e:∀(kk:NameKind) (l:List (Str×NameKind)),((n,kk)::l).lookup x=some kk:=fun kk l=>by rw[eO,hx]
    by_cases hcnd:(k==NameKind.free&&X.env.scope.kind==.function&&X.env.kindOf n==some .cell)=true
    ·left
     have:(k==NameKind.free)=true:=by
      revert hcnd;cases(k==NameKind.free)<;>simp
     show some k=some .free
     rw[eq_of_beq this]
    ·simp only[if_neg hcnd] at h
     rw[e,] at h
     exact h.symm
   |false=>
    have e:∀(kk:NameKind) (l:List (Str×NameKind)),((n,kk)::l).lookup x=l.lookup x:=fun kk l=>by rw[eO,hx]
    by_cases hcnd:(k==NameKind.free&&X.env.scope.kind==.function&&X.env.kindOf n==some .cell)=true
    ·simp only[if_pos hcnd] at h
     rw[e] at h
     rw[e]
     exact ih h
    ·simp only[if_neg hcnd] at h
     rw[e] at h
     rw[e]
     exact ih h
 refine⟨⟨I.ok.mod,ok.kind,I.ok.glob,I.ok.blt,de _,C.inj,fun x hx=>C.has x (back hx),fun x c e1 e2=>?_,I.ok.hd,I.ok.frames,.inl rfl,fun b hb=> ⟨?_,fun x c e=>?_⟩,
  I.bs,eY I.ok.bsz I.sz,fun b o e hb=>?_,fun b hb z=>?_,I.stack,I.stkFree⟩,rfl,I.bare,⟨fun b o e _ _ _=>kept b o e,fun b o e _ _ _=> ⟨o.slots,kept b o e⟩,fun b o e n _=>n,fun b o e _=> ⟨o,kept b o e⟩,fun _ _ e=>e,fun _ _ _ e=>e,fun b ps e=> ⟨#[],by rw[show H b=some (HO.tbl ps) from e];simp⟩⟩,
  ⟨_,hn,fun i x v e1 e2 e3=>?_⟩,fun x c e=>?_,I.hok.fresh (de _),fun x c e=> (C.at_ x c e).elim (fun z=>I.hok.fresh z.2.1) (fun z=>I.freeC x c z.2),fun p hp=>absurd (show p∈([]:List (Addr×Obj)) from hp) (by simp),I.hok.kept kept,?_⟩
 ·rcases C.at_ x c e2 with z|z
  ·exact z.2.1
  ·exact absurd (Jm e1) z.1
 ·obtain⟨o,e⟩:=ho b hb
  exact dU (dr e)
 ·rcases C.at_ x c e with z|z
  ·obtain⟨o,e⟩:=ho b hb
   exact jY (dG (dr e) z.2.1)
  ·exact(hf b hb).2.2.2.2.1 x c z.2
 ·have h1:=(hf b hb).2.2.2.1
  rcases h1 with z|z
  ·exact I.ok.noex b o e z
  ·exact absurd (dG (dr e) (eY I.ok.bsz z)) (e9 _)
 ·have h1:=(hf b hb).2.1
  have h2:=(hf b hb).2.2.1
  exact(dh.mp (I.stkSub b z)).elim h1 h2
 ·--the names
  have hlen:nc.length≤i:=by
   by_cases hi:i<nc.length
   ·have e2':(fu nc.length (none:Option V)++Bn σ cap)[i]?=some (some v):=e2
    rw[dZ (by simpa using hi),gm] at e2'
    split at e2'<;>cases e2'
   ·omega
  have e1':(nc++cap.map (·.1))[i]?=some x:=e1
  have e2':(fu nc.length (none:Option V)++Bn σ cap)[i]?=some (some v):=e2
  rw[dI hlen,b8] at e1'
  rw[dI (by simpa using hlen)] at e2'
  simp only[gC] at e2'
  unfold Bn at e2'
  rw[b8] at e2'
  cases hp:cap[i-nc.length]? with
  |none=>rw[hp] at e1';cases e1'
  |some p=>
   rw[hp] at e1' e2'
   have e1'':p.1=x:=eu.inj e1'
   have e2'':(σ[p.2]?).join=some v:=eu.inj e2'
   subst e1''
   obtain⟨c1,c2⟩:=ok.caps p (dc hp)
   have hσ:σ[p.2]?=some (some v):=by
    cases q:σ[p.2]? with
    |none=>rw[q] at e2'';cases e2''
    |some w'=>rw[q] at e2'';exact congrArg some e2''
   have vis:X.env.scope.names.lookup p.1=some .cell∨X.env.scope.names.lookup p.1=some .free:=ok.free _ (Al c2) rfl
   obtain⟨m,_,hl⟩:=I.loc
   obtain⟨u,r,l⟩:=hl p.2 p.1 v c1 hσ (vis.elim (fun z=> .inr (.inl z)) fun z=> .inr (.inr z))
   refine⟨u,r,.inr ⟨frel p.1 c2,?_⟩⟩
   rcases l with⟨k,_⟩| ⟨_,c,e,z⟩
   ·have k:X.env.scope.names.lookup p.1=some .local:=k
    rcases vis with q|q<;> (rw[q] at k;cases k)
   ·obtain⟨c',e''⟩:=C.has p.1 (.inl c2)
    have q:X.env.cells.lookup p.1=some c':=by
     rcases C.at_ _ _ e'' with z|z
     ·rw[c2] at z;cases z.1
     ·exact z.2
    rw[e] at q;cases q
    obtain⟨o,z1,z2⟩:=z
    exact⟨c,e'',o,kept c o z1,z2⟩
 ·rcases C.at_ x c e with z|z
  ·exact⟨none,z.2.2⟩
  ·obtain⟨v,o,z1,z2⟩:=I.cell x c z.2
   exact⟨v,o,kept c o z1,z2⟩
 ·show(fu nc.length (none:Option V)++Bn σ cap).length=(nc++cap.map (·.1)).length
  unfold Bn
  simp
section
variable{prog:Program}{w:World}{A:dy}{R:mK→a7→Prop}{s:a7}
abbrev Sf:Value→a7→Prop:=fun _ _=>False
theorem DL{elt target iter:Expr}{ifs:List Expr}{scope:Scope}{pos:Pos}{it acc:Value}{env:Env}(I:Nat→a7→Prop)
  (turn:∀n s,I n s→wpAny (model prog w) A (j8 it) (fun r s₁=>match r with
   |none=>R (.ok .next) s₁
   |some v=>wpAny (model prog w) A (jO target it v) (fun _ s₂=>wpAny (model prog w) A (assign target env v) (fun _ s₃=>
     wpAny (model prog w) A (forIn ifs true fun c r=>if r=true then do let ok←isTrue c env (eval c env);pure (gx ok) else pure (gx r)) (fun ok s₄=>
      if ok=true then wpAny (model prog w) A (eval elt env) (fun x s₅=>
       wpAny (model prog w) A (call (.builtin "list.append") [acc,x]) (fun _ s₆=>∃m,m<n∧I m s₆) Sf s₅) Sf s₄
      else∃m,m<n∧I m s₄) Sf s₃) Sf s₂) Sf s₁) Sf s)
  (n:Nat) (h:I n s):
  i6 (model prog w) A (.compLoop (.ListComp elt [⟨target,iter,ifs,0⟩] scope pos) 0 it acc env) R s:=by
 refine codeAny_loop rfl I (fun n s hI=>?_) n h
 show wpAny _ A ((compTurn (.ListComp elt [⟨target,iter,ifs,0⟩] scope pos) 0 it acc env).onRaise (fun x=>do noteFrame x env;theTreesLotGoes x)) _ _ s
 refine wpAny_noted (wpAny_noRaise ?_)
 rw[compTurn_list]
 refine a6 (jd (a6 (Ar (turn n s hI) fun r s₁ h₁=>?_)))
 cases r with
 |none=>exact b5 h₁
 |some v=>
  refine a6 (Ar h₁ fun _ s₂ h₂=>a6 (Ar h₂ fun _ s₃ h₃=>a6 (Ar h₃ fun ok s₄ h₄=>?_)))
  cases ok with
  |true=>
   rw[if_pos rfl] at h₄ ⊢
   exact a6 (a6 (Ar h₄ fun x s₅ h₅=>a6 (Ar h₅ fun _ s₆ h₆=>b5 (b5 ⟨rfl,h₆⟩))))
  |false=>
   rw[if_neg b6] at h₄ ⊢
   exact a6 (b5 (b5 ⟨rfl,h₄⟩))
end
def Vr(X:Cx)(ifs:List Expr)(t:TT):Prop:=
 ∀(pins:List (Addr×Obj)) (s:a7) (σ:St) (H:Hp) (Q:Bool→Hp→Prop),Inv X pins σ H s→t σ H Q→
  wpAny (model X.prog X.w) X.A (forIn ifs true fun c r=>if r=true then do let ok←isTrue c X.env (eval c X.env);pure (gx ok) else pure (gx r)) (TP X pins σ Q) X.xe s
def Yi:TT:=fun _ H Q=>Q true H
theorem Sg{X:Cx}:Vr X [] Yi:=fun _ _ _ H _ I h=>wpAny_tests_nil ⟨H,I,h⟩
theorem Sh{X:Cx}{c:Expr}{t:TT}(h:PT X c t):Vr X [c] t:=fun pins s σ H Q I q=>wpAny_tests_one (h pins s σ H Q I q)
def Ud(nc:List Str)(cap:List (Str×Nat))(g:TG)(tt:TT)(te:TE)(σ:St)(J:It)(p:Addr)(H:Hp)(Q:Hp→Prop):Prop:=
 ∃W:Nat→Nat→Hp→Prop,(∃m,W 0 m (upd H p (.lst [])))∧∀i m H2,W i m H2→
  (J.stop i H2∧Q H2)∨(J.go i H2∧∃N:Hp→Prop,(∀H',N H'→∃m',m'<m∧W (i+1) m' H')∧∀x H3,J.yld i H2 x H3→g x (HC nc σ cap) H3 fun σ4 H4=> (∃pre:St,pre.length=nc.length∧σ4=pre++Bn σ cap)∧tt σ4 H4 fun b H5=>
   if b=true then te σ4 H5 fun y H6=>∃ys,H6 p=some (.lst ys)∧ys.length<sizeLine∧N (upd H6 p (.lst (ys++[y])))
   else N H5)
def aD(wi:TI)(nc:List Str)(cap:List (Str×Nat))(g:TG)(tt:TT)(te:TE):TE:=fun σ H Q=>wi σ H fun J H1=>∀p,H1 p=none→Ud nc cap g tt te σ J p H1 (Q (.ref p))
section
variable{X:Cx}{elt tg iter:Expr}{ifs:List Expr}{csc:Scope}{nc:List Str}{cap:List (Str×Nat)}{wi:TI}{g:TG}{tt:TT}{te:TE}{pos:Pos}
theorem Jn{pins:List (Addr×Obj)}{σ:St}{s2:a7}{H2:Hp}{it:Addr}{fp:List Addr}{tn:Nat→Heap→Prop}{J:It}{cl:List (Str×Addr)}{Q:Hp→Prop}{RR:Value→Addr→mK→a7→Prop}{E:Value→a7→Prop}
  (hc:X.calm=true) (ok:LcOk X csc nc cap) (hg:∀X',LcCx X csc (Ag nc cap) X'→PG X' tg g) (ht:∀X',LcCx X csc (Ag nc cap) X'→Vr X' ifs tt) (he:∀X',LcCx X csc (Ag nc cap) X'→PE X' elt te)
  (hc1:∀x c,cl.lookup x=some c→X.env.cells.lookup x=some c) (hc2:∀y∈csc.names,y.2=.free→(cl.lookup y.1).isSome=true)
  (I2:Inv X pins σ H2 s2) (T:Turn X.prog X.w X.K tg J fp it tn) (st2:tn 0 s2.heap) (f2:∀b∈fp,HA X pins H2 b) (run:Ud nc cap g tt te σ J s2.heap.objs.size H2 Q)
  (out:∀(C:Addr) (H':Hp) (s':a7),Inv X pins σ H' s'→(∃m,s'.heap.Ns C m)→H' C=none→C≠X.env.locals→X.s₀.heap.objs.size≤C→(∀x c,X.env.cells.lookup x=some c→c≠C)→(∀p∈X.pn++pins,p.1≠C)→Q H'→RR (.ref s2.heap.objs.size) C (.ok .next) s'):
  wpAny (model X.prog X.w) X.A (newList []) (fun acc s₃=>wpAny (model X.prog X.w) X.A (lE csc X.env.globals cl [] X.env.qual none .none (some X.env)) (fun cenv s₄=>
   i6 (model X.prog X.w) X.A (.compStart (.ListComp elt [⟨tg,iter,ifs,0⟩] csc pos) 0 (.ref it) acc {cenv with scope:=relabel csc X.env}) (RR acc cenv.locals) s₄) E s₃) E s2:=by
 refine il ?_
 have hp:H2 s2.heap.objs.size=none:=I2.hok.fresh (de _)
 have I3:Inv X pins σ (upd H2 s2.heap.objs.size (.lst [])) {s2 with heap:=s2.heap.push {cls:=.type "list",dict:=none,data:=.seq ([]:List Value).toArray}}:=
  I2.laid (t':=s2.toks) (fun b u e=>c9 _ e) (de _) ⟨fj _,[],0,.nil,dN _ rfl⟩
 generalize hs3:({s2 with heap:=s2.heap.push {cls:=.type "list",dict:=none,data:=.seq ([]:List Value).toArray}}:a7)=s3 at I3
 have hk3:∀b o,s2.heap.get? b=some o→s3.heap.get? b=some o:=fun b o e=>by rw[←hs3];exact c9 _ e
 generalize hp0:s2.heap.objs.size=p at*
 have hlt:∀b∈fp,b<p:=fun b hb=>by
  obtain⟨o,e,_⟩:=T.obj 0 _ st2 b hb
  rw[←hp0];exact dr e
 have f3:∀b∈fp,HA X pins (upd H2 p (.lst [])) b:=fun b hb=> ⟨by rw[Ab (dU (hlt b hb))];exact(f2 b hb).1,(f2 b hb).2⟩
 have st3:tn 0 s3.heap:=T.keep 0 _ _ st2 fun b _ o e=>hk3 b o e
 refine PN ?_
 have LC:=Se (o:={cls:=.type "dict",data:=.dict #[]}) ok I3 hc1 hc2
 have hns:(lS (s3.heap.push {cls:=.type "dict",data:=.dict #[]}) csc.names).Ns s3.heap.objs.size (fun _=>none):=(Heap.Ns.new s3.heap (.type "dict")).keeps (pushCells_keeps _ _)
 have kept4:∀b o,s3.heap.get? b=some o→(lS (s3.heap.push {cls:=.type "dict",data:=.dict #[]}) csc.names).get? b=some o:=fun b o e=>pushCells_keeps _ _ b o (c9 _ e)
 generalize hcs:fX (s3.heap.objs.size+1) csc.names cl=cs at LC ⊢
 generalize hh1:lS (s3.heap.push {cls:=.type "dict",data:=.dict #[]}) csc.names=h₁ at LC hns kept4 ⊢
 have hcc:∀x c,cs.lookup x=some c→X.env.cells.lookup x=some c∨s3.heap.objs.size≤c:=fun x c e=> (LC.at_ x c e).elim (fun z=> .inr z.2.1) (fun z=> .inl z.2)
 have I4:Inv (Sd X csc cs (Ag nc cap) s3 (upd H2 p (.lst [])) fp) [] (HC nc σ cap) (upd H2 p (.lst [])) {s3 with heap:=h₁}:=
  Vq ok I3 LC f3 (fun b hb=> (T.obj 0 _ st3 b hb).imp fun o q=>q.1) hns kept4
 have st4:tn 0 h₁:=T.keep 0 _ _ st3 fun b _ o e=>kept4 b o e
 generalize hX':Sd X csc cs (Ag nc cap) s3 (upd H2 p (.lst [])) fp=X' at I4
 have is':LcCx X csc (Ag nc cap) X':=⟨_,_,_,_,hX'.symm⟩
 have hP:X'.prog=X.prog:=by rw[←hX'];rfl
 have hw:X'.w=X.w:=by rw[←hX'];rfl
 have hK:X'.K=X.K:=by rw[←hX'];rfl
 have hA:X'.A=X.A:=by rw[←hX'];rfl
 have hcal:X'.calm=true:=by rw[←hX'];exact hc
 have hE:X'.env=mj csc cs s3.heap.objs.size X.env:=by rw[←hX'];rfl
 have hxe:X'.xe=Sf:=by rw[←hX'];rfl
 have hfs:X'.fs=Gz X.stack:=by rw[←hX'];rfl
 have hex:X'.ex=fp:=by rw[←hX'];rfl
 have hs0:X'.s₀=s3:=by rw[←hX'];rfl
 have hH0:X'.H₀=upd H2 p (.lst []):=by rw[←hX'];rfl
 have hpn:X'.pn=[]:=by rw[←hX'];rfl
 have stat:∀{H':Hp},(∀b∈fp,H' b=none)→∀b∈fp,HA X' [] H' b:=fun{H'} hn b hb=>by
  obtain⟨_,q2,q3,q4,q5,q6⟩:=f3 b hb
  obtain⟨o,e,_⟩:=T.obj 0 _ st3 b hb
  refine⟨hn b hb,?_,?_,?_,?_,?_⟩
  ·rw[hE];exact dU (dr e)
  ·rw[hfs];exact fun z=> (dh.mp (I3.stkSub b z)).elim q2 q3
  ·rw[hex];exact .inl hb
  ·rw[hE];exact fun x c e'=> (hcc x c e').elim (fun z=>q5 x c z) fun z=>jY (dG (dr e) z)
  ·rw[hpn];intro p hp;simp at hp
 obtain⟨W,⟨m0,w0⟩,turn⟩:=run
 have loop:∀s4:a7,s4={s3 with heap:=h₁}→i6 (model X.prog X.w) X.A (.compLoop (.ListComp elt [⟨tg,iter,ifs,0⟩] csc pos) 0 (.ref it) (.ref p) (mj csc cs s3.heap.objs.size X.env)) (RR (.ref p) s3.heap.objs.size) s4:=by
  rintro s4 rfl
  refine DL (fun n s'=>∃i H',Inv X' [] (HC nc σ cap) H' s'∧tn i s'.heap∧(∀b∈fp,H' b=none)∧W i n H') ?_ m0 ⟨0,_,I4,st4,fun b hb=> (f3 b hb).1,w0⟩
  rintro n s5 ⟨i,H5,I5,st5,fr5,w5⟩
  rcases turn i n H5 w5 with⟨stop,qn⟩| ⟨go,N,hN,step⟩
  ·have q:=T.done X' hP hw hK hcal i [] s5 (HC nc σ cap) H5 Sf I5 (stat fr5) st5 stop
   rw[hA] at q
   refine Ar q fun r s6 ⟨hr,I6⟩=>?_
   subst hr
   have B:=I6.base
   rw[hfs,hex,hs0,hH0] at B
   have I7:Inv X pins σ H5 s6:=by
    refine I3.call' (ch:=fp) (by rw[I6.os,hs0]) B (by have:=I6.hok;rw[hP,hw] at this;exact this) I6.bare fun b hb=>?_
    obtain⟨_,q2,q3,q4,q5,q6⟩:=f3 b hb
    exact⟨q4,q2,q5,q6⟩
   obtain⟨m,hm,_⟩:=I6.loc
   have hCf:=I6.free
   rw[hE] at hm hCf
   refine out _ H5 s6 I7 ⟨m,hm⟩ hCf (jY I3.lt) I3.sz (fun x c e z=>?_) (fun p hp z=>?_) qn
   ·obtain⟨v,hv⟩:=I3.cell x c e
    exact absurd hv.lt (by rw[z];exact e9 _)
   ·exact absurd (dr (I3.pin p hp).1) (by rw[z];exact e9 _)
  ·have q:=T.item X' hP hw hK hcal i [] s5 (HC nc σ cap) H5 Sf I5 (stat fr5) st5 go
   rw[hA] at q
   refine Ar q fun r s6 ⟨u,hr,h6⟩=>?_
   subst hr
   refine Ar h6 fun _ s7 ⟨x,H7,I7,r7,y7,st7,fr7⟩=>?_
   have I7':=I7.pinned (stat fr7) (T.obj _ _ st7)
   have q8:=hg X' is' _ s7 _ H7 x u _ I7' r7 (step x H7 y7)
   rw[hP,hw,hA,hE,hxe] at q8
   refine Ar q8 fun _ s8 ⟨σ8,H8,I8,⟨pre,hpl,hσ8⟩,q8⟩=>?_
   have q9:=ht X' is' _ s8 σ8 H8 _ I8 q8
   rw[hP,hw,hA,hE,hxe] at q9
   have wk:∀{s':a7} {H':Hp} {pl:List (Addr×Obj)},Inv X' pl σ8 H' s'→Inv X' pl (HC nc σ cap) H' s':=fun{s' H' pl} J'=>by
    refine J'.weak (by rw[J'.len,I4.len]) fun j v e=>?_
    rw[hσ8]
    by_cases hj:j<nc.length
    ·have e:(fu nc.length (none:Option V)++Bn σ cap)[j]?=some (some v):=e
     rw[dZ (by simpa using hj),gm] at e
     split at e<;>cases e
    ·have e:(fu nc.length (none:Option V)++Bn σ cap)[j]?=some (some v):=e
     rw[dI (by simpa using hj)] at e
     rw[dI (by omega),hpl]
     simpa using e
   have again:∀{s':a7} {H':Hp} {m':Nat},Inv X' ([]++Fk fp s7.heap) σ8 H' s'→m'<n→W (i+1) m' H'→
     ∃m,m<n∧∃i H',Inv X' [] (HC nc σ cap) H' s'∧tn i s'.heap∧(∀b∈fp,H' b=none)∧W i m H':=fun{s' H' m'} J' hm hW=>by
    refine⟨m',hm,i+1,H',wk J'.unpinned,T.keep _ _ _ st7 fun b hb o e=> (J'.pin (b,o) (eS _ (eS _ (Cf hb e)))).1,fun b hb=>?_,hW⟩
    obtain⟨o,e,d⟩:=T.obj _ _ st7 b hb
    exact(J'.pin (b,o) (eS _ (eS _ (Cf hb e)))).2.1
   refine Ar q9 fun b s9 ⟨H9,I9,q9⟩=>?_
   cases b with
   |false=>
    rw[if_neg b6] at q9 ⊢
    obtain⟨m',hm,hW⟩:=hN _ q9
    exact again I9 hm hW
   |true=>
    rw[if_pos rfl] at q9 ⊢
    have qe:=he X' is' _ s9 σ8 H9 _ I9 q9
    rw[hP,hw,hA,hE,hxe] at qe
    refine Ar qe fun u s10 ⟨y,H10,I10,ry,ys,hys,hlen,hNn⟩=>?_
    obtain⟨m',hm,hW⟩:=hN _ hNn
    have qa:=HQ (X:=X') _ s10 σ8 H10 (.ref p) [y] (.ref p) [u] (fun _ H'=>H'=upd H10 p (.lst (ys++[y]))) I10 rfl (.cons ry .nil) ⟨p,ys,y,rfl,rfl,hys,hlen,rfl⟩
    rw[hP,hw,hA,hxe] at qa
    refine Ar qa fun _ s11 ⟨_,H11,I11,_,e11⟩=>?_
    subst e11
    exact again I11 hm hW
 have st5:=loop _ rfl
 exact codeAny_compStart_list (loop _ rfl) (T.self X.A 0 _ _ _ st4 (loop _ rfl))
end
section
variable{X:Cx}{elt tg iter:Expr}{ifs:List Expr}{csc:Scope}{nc:List Str}{cap:List (Str×Nat)}{wi:TI}{g:TG}{tt:TT}{te:TE}{pos:Pos}
theorem LcOk.clos{pins:List (Addr×Obj)}{σ:St}{H:Hp}{s:a7}(ok:LcOk X csc nc cap)(I:Inv X pins σ H s):
  ∃cl,closureFor csc X.env=pure cl∧(∀x c,cl.lookup x=some c→X.env.cells.lookup x=some c)∧∀y∈csc.names,y.2=.free→(cl.lookup y.1).isSome=true:=
 Sa fun y hy hf=>I.ok.has y.1 (ok.free y hy hf)
theorem Yj(hc:X.calm=true)(ok:LcOk X csc nc cap)(hi:PI X tg iter wi)(hg:∀X',LcCx X csc (Ag nc cap) X'→PG X' tg g)(ht:∀X',LcCx X csc (Ag nc cap) X'→Vr X' ifs tt)(he:∀X',LcCx X csc (Ag nc cap) X'→PE X' elt te)
  (hs:∀x,fL iter X.env x=pure x:=by intro _;rfl):PE X (.ListComp elt [⟨tg,iter,ifs,0⟩] csc pos) (aD wi nc cap g tt te):=by
 intro pins s σ H Q I h
 obtain⟨cl,hcl,hc1,hc2⟩:=ok.clos I
 rw[eval_ListComp]
 refine wpAny_comprehension_free (use:=none) rfl hs hcl ok.kind ok.locals (Ar (hi pins s σ H _ I h) fun v s1 h1=>Ar h1 fun itv s2 h2=>?_)
 obtain⟨it,fp,tn,J,H2,e,I2,T,st2,f2,run⟩:=h2
 subst e
 refine Jn (RR:=fun acc C=>compPost (model X.prog X.w) X.A X.xe none (EP X pins σ Q) acc C) hc ok hg ht he hc1 hc2 I2 T st2 f2 (run _ (I2.hok.fresh (de _))) ?_
 intro C H' s' I' hn h1 h2 h3 h4 h5 q
 obtain⟨m,hn⟩:=hn
 refine⟨m,hn,fun h' sb=> ⟨.ref s2.heap.objs.size,H',?_,rfl,q⟩⟩
 exact I'.turned (t':=s'.toks) (fun b o hb e=> (sb.2 b hb).trans e) h1 h2 (.inr h3) h4 h5
def Vs(i:Nat)(te:TE):TS:=fun D σ H=>te σ H fun v H1=>D.nx (σ.set i (some v)) H1
theorem Jo{i:Nat}{x:Str}{px spos:Pos}(hN:X.N.Nodup)(hx:X.N[i]?=some x)(hk:X.env.scope.names.lookup x=some .local)(hsw:jC (.ListComp elt [⟨tg,iter,ifs,0⟩] csc pos) (some (.Name x px)) spos.line X.env=pure true)
  (hc:X.calm=true) (ok:LcOk X csc nc cap) (hi:PI X tg iter wi) (hg:∀X',LcCx X csc (Ag nc cap) X'→PG X' tg g) (ht:∀X',LcCx X csc (Ag nc cap) X'→Vr X' ifs tt) (he:∀X',LcCx X csc (Ag nc cap) X'→PE X' elt te)
  (hs:∀x,fL iter X.env x=pure x:=by intro _;rfl):PS X (.Assign [.Name x px] (.ListComp elt [⟨tg,iter,ifs,0⟩] csc pos) spos) (Vs i (aD wi nc cap g tt te)):=by
 intro pins s σ H D I h
 obtain⟨cl,hcl,hc1,hc2⟩:=ok.clos I
 rw[exec_Assign_Name_used _ _ _ _ hsw]
 refine a6 (jd (a6 ?_))
 show wpAny _ X.A (do let _←comprehension (.ListComp elt [⟨tg,iter,ifs,0⟩] csc pos) csc X.env _ (newList []) false (eval iter X.env) (some (assign (.Name x px) X.env))) _ _ s
 refine a6 (Ar (wpAny_comprehension_free (use:=some (assign (.Name x px) X.env)) (Q:=fun _ s'=>SP X pins D .next s') rfl hs hcl ok.kind ok.locals
  (Ar (hi pins s σ H _ I h) fun v s1 h1=>Ar h1 fun itv s2 h2=>?_)) fun _ s' hq=>b5 (b5 hq))
 obtain⟨it,fp,tn,J,H2,e,I2,T,st2,f2,run⟩:=h2
 subst e
 refine Jn (RR:=fun acc C=>compPost (model X.prog X.w) X.A X.xe (some (assign (.Name x px) X.env)) (fun _ s'=>SP X pins D .next s') acc C) hc ok hg ht he hc1 hc2 I2 T st2 f2 (run _ (I2.hok.fresh (de _))) ?_
 intro C H' s' I' hn h1 h2 h3 h4 h5 q
 obtain⟨m,hn⟩:=hn
 show wpAny _ X.A (assign (.Name x px) X.env (.ref s2.heap.objs.size)) _ _ _
 refine wpAny_assign_Name (HJ I' hN hx (.inl hk) (v:=.ref s2.heap.objs.size) rfl (fun s'' I'' ha=>?_) (.inr hk))
 obtain⟨a,sb,ha⟩:=ha
 have hCa:C≠a:=by
  rcases ha with ha|ha
  ·rw[ha];exact h2
  ·exact fun z=>h4 x a ha z.symm
 refine⟨m,hn.sameBut sb hCa,fun h' sb'=> ⟨_,H',?_,q⟩⟩
 exact I''.turned (t':=s''.toks) (fun b o hb e=> (sb'.2 b hb).trans e) h1 h2 (.inr h3) h4 h5
end
section
variable{K:a5}{nc:List Str}{cap:List (Str×Nat)}{g:TG}{tt:TT}{te:TE}{σ:St}{p a:Addr}{H:Hp}{Q:Hp→Prop}
end
def DK(h h':Heap):Prop:=h.objs.size≤h'.objs.size∧∀e,e<h.objs.size→(h'.objs[e]?).map (·.dict)=(h.objs[e]?).map (·.dict)
theorem DK.refl(h:Heap):DK h h:=⟨de _,fun _ _=>rfl⟩
theorem DK.trans{a b c:Heap}(x:DK a b)(y:DK b c):DK a c:=⟨eY x.1 y.1,fun e he=> (y.2 e (dG he x.1)).trans (x.2 e he)⟩
theorem DK.push{h:Heap}{o:Obj}:DK h (h.push o):=by
 refine⟨by rw[gc];omega,fun e he=>?_⟩
 show((h.objs.push o)[e]?).map _=_
 rw[Array.getElem?_push,if_neg (by omega)]
theorem DK.upd{h:Heap}{a:Addr}{f:Obj→Obj}(hf:∀o,(f o).dict=o.dict):DK h (h.update a f):=by
 obtain⟨objs,l⟩:=h
 refine⟨by show objs.size≤(objs.modify a f).size;simp,fun e he=>?_⟩
 show((objs.modify a f)[e]?).map _=_
 rw[Array.getElem?_modify]
 split
 ·cases objs[e]? with
  |none=>rfl
  |some o=>exact congrArg some (hf o)
 ·rfl
theorem Ma{h:Heap}{e:Addr}{o:Obj}(q:h.get? e=some o):h.objs[e]?=some o:=by
 unfold Heap.get? at q
 split at q
 ·cases q
 ·exact q
theorem DK.at_{h h':Heap}{e:Addr}{o o':Obj}(x:DK h h')(q:h.get? e=some o)(q':h'.get? e=some o'):o'.dict=o.dict:=by
 have z:=x.2 e (dr q)
 rw[Ma q,Ma q'] at z
 exact eu.inj z
inductive KD{α:Type}:Sem α→Prop
 |pure (a:α):KD (.pure a)
 |raise (e:Value):KD (.raise e)
 |unsup (x:String):KD (.unsupported x)
 |load {a:Addr} {p:Option Value} {k:Obj→Sem α}:(∀o,KD (k o))→KD (.load a p k)
 |upd {a:Addr} {p:Option Value} {f:Obj→Obj} {k:Unit→Sem α}:(∀o,(f o).dict=o.dict)→KD (k ())→KD (.update a p f k)
 |alloc {o:Obj} {k:Addr→Sem α}:(∀a,KD (k a))→KD (.alloc o k)
 |stack {k:List (Code×Pos)→Sem α}:(∀l,KD (k l))→KD (.stack k)
theorem KD.bind{α β:Type}{m:Sem α}{f:α→Sem β}(h:KD m)(hf:∀a,KD (f a)):KD (m>>=f):=by
 show KD (Sem.bind m f)
 induction h with
 |pure a=>exact hf a
 |raise e=>exact .raise e
 |unsup x=>exact .unsup x
 |load _ ih=>exact .load ih
 |upd q _ ih=>exact .upd q ih
 |alloc _ ih=>exact .alloc ih
 |stack _ ih=>exact .stack ih
theorem KD.wp{α:Type}{M:Model}{Γ:PySem.Ctx}{Q:α→Pos→a7→Prop}{E:Value→Pos→a7→Prop}{h0:Heap}{t:Sem α}(h:KD t):∀{p:Pos} {s:a7},DK h0 s.heap→Sem.wp M Γ t Q E p s→Sem.wp M Γ t (fun a p' s'=>Q a p' s'∧DK h0 s'.heap) E p s:=by
 induction h with
 |pure a=>intro p s d q;exact⟨q,d⟩
 |raise e=>intro p s d q;exact q
 |unsup x=>intro p s d q;exact q
 |load _ ih=>intro p s d q;obtain⟨o,e,q⟩:=q;exact⟨o,e,ih o d q⟩
 |upd hf _ ih=>intro p s d q;exact⟨q.1,ih (d.trans (.upd hf)) q.2⟩
 |alloc _ ih=>intro p s d q;exact ih _ (d.trans .push) q
 |stack _ ih=>intro p s d q;exact ih _ d q
theorem KD.any{α:Type}{M:Model}{A:dy}{Q:α→a7→Prop}{E:Value→a7→Prop}{s:a7}{t:Sem α}(h:KD t)(q:wpAny M A t Q E s):wpAny M A t (fun a s'=>Q a s'∧DK s.heap s'.heap) E s:=
 fun Γ p g=>h.wp (.refl _) (q Γ p g)
theorem KD.ite{α:Type}{c:Prop} [Decidable c]{a b:Sem α}(ha:KD a)(hb:KD b):KD (if c then a else b):=by split<;>assumption
theorem Jp(v:Value):KD (fieldsOf v):=by
 unfold fieldsOf
 split
 ·refine KD.bind (.load fun o=> .pure o) fun o=>?_
  split
  ·exact .pure _
  ·exact .unsup _
 ·exact .unsup _
theorem ED(v:Value)(i:Nat):KD (field v i):=by
 unfold field
 refine(Jp v).bind fun vs=>?_
 split
 ·exact .pure _
 ·exact .unsup _
theorem Fq(f:Array Value→Array Value)(o:Obj):(Obj.mapFields f o).dict=o.dict:=by
 unfold Obj.mapFields;split<;>rfl
theorem DM(v:Value)(i:Nat)(x:Value):KD (setField v i x):=by
 unfold setField
 split
 ·unfold updateField
  refine KD.bind (.load fun o=> .pure o) fun o=>?_
  split
  ·exact .ite (.upd (Fq _) (.pure _)) (.unsup _)
  ·exact .unsup _
 ·exact .unsup _
theorem IU(e:Value)(f:Option Addr):KD (setFlight e f):=by
 unfold setFlight
 exact(ED e 1).bind fun tb=> .ite (DM _ _ _) (.pure _)
theorem Jq:∀(l:List Env),KD (readyFrames l)
 | []=> .pure _
 |env::outer=>by
  unfold readyFrames
  split
  ·refine KD.bind (.load fun o=> .pure o) fun o=>?_
   refine .ite (.pure _) ?_
   refine KD.bind ?_ fun im=>?_
   ·unfold behindIsImport
    exact .ite (.pure _) (.ite (.pure _) ((ED _ _).bind fun _=> .pure _))
   refine KD.bind ?_ fun bk=>?_
   ·unfold keptBack
    split
    ·refine .ite (.pure _) (KD.bind ?_ fun _=> .pure _)
     unfold underTheClaimsCaller
     exact KD.bind (.stack fun _=> .pure _) fun _=> .pure _
    ·exact .pure _
   exact KD.bind (.upd (fun _=>rfl) (.pure _)) fun _=>Jq outer
  ·exact .unsup _
theorem LJ(env:Env):KD (lX env):=by
 unfold lX
 refine KD.bind ?_ fun es=>?_
 ·unfold frameEnvs
  exact KD.bind (.stack fun _=> .pure _) fun _=> .pure _
 refine KD.bind ?_ fun r=>?_
 ·cases es.dropWhile (·.frame !=env.frame) with
  |nil=>exact .pure _
  |cons a b=>unfold frameObject;exact(Jq _).bind fun _=> .pure _
 split
 ·exact .pure _
 ·exact .unsup _
theorem PP(f:Addr)(b:Bool):KD (mi f b):=by
 unfold mi
 refine KD.bind (.stack fun _=> .pure _) fun _=>?_
 split<;>exact .pure _
theorem PQ(h a l f i:Value)(pl:List Value):KD (jV h a l f i pl):=by
 have z:∀d,KD (newObjAsIs (.type "traceback") d):=fun d=> .alloc fun a=> .pure _
 unfold jV newFields newObj
 dsimp only
 exact .ite (KD.bind (.unsup _) fun _=>z _) (z _)
theorem Si(e:Value)(env:Env):KD (noteFrame e env):=by
 unfold noteFrame
 split
 ·rename_i f hf
  refine(ED e 1).bind fun head=>?_
  have fin:KD (do setField e 1 (←jV head (←lX env) .none (kT f) .none (←mi f (head !=.none)))):=
   (LJ env).bind fun a=> (PP _ _).bind fun pl=> (PQ _ _ _ _ _ _).bind fun b=>DM _ _ _
  refine .ite ?_ fin
  exact(ED _ _).bind fun x=> .ite (.pure _) ((DM _ _ _).bind fun _=>fin)
 ·exact .unsup _
theorem Fs(env:Env)(e:Value):KD (leaving env e):=(Si e env).bind fun _=>IU e none
theorem ObjOk.obj{P:Program}{w:World}{H:Hp}{h:Heap}{a:Addr}{o:HO}(x:ObjOk P w H h a o):∃ob,h.get? a=some ob:=by
 cases o with
 |lst xs=>obtain⟨_,_,_,_,e⟩:=x;exact⟨_,e⟩
 |tup xs=>obtain⟨_,_,_,o,e,_⟩:=x;exact⟨_,e⟩
 |dK kvs=>obtain⟨_,_,_,_,o,_,_,e,_⟩:=x;exact⟨_,e⟩
 |dT kvs=>obtain⟨_,_,_,_,o,_,_,e,_⟩:=x;exact⟨_,e⟩
 |set S n=>obtain⟨o,_,_,_,e,_⟩:=x;exact⟨_,e⟩
 |ins C dx fs=>obtain⟨_,_,_,e,_⟩:=x;exact⟨_,e⟩
 |own y=>obtain⟨_,e⟩:=x;exact⟨_,e⟩
 |xd fs=>obtain⟨_,⟨_,_,_,e,_⟩,_⟩:=x;exact⟨_,e⟩
 |rng lo hi=>obtain⟨_,_,_,e⟩:=x;exact⟨_,e⟩
 |frz ob u=>obtain⟨e,_⟩:=x;exact⟨_,e⟩
 |tbl ps=>exact⟨_,(show h.get? a=some _ from x)⟩
 |met f y=>exact⟨_,(show h.get? a=some _ from x)⟩
 |ext φ=>obtain⟨_,⟨_,e⟩,_⟩:=x;exact⟨_,e⟩
theorem HOk.none_of{P:Program}{w:World}{H:Hp}{h:Heap}{a:Addr}(x:HOk P w H h)(e:h.get? a=none):H a=none:=by
 cases q:H a with
 |none=>rfl
 |some u=>
  obtain⟨ob,e'⟩:=(x a u q).obj
  rw[e] at e';cases e'
def aE(n:Nat):Int:=if n%2=0 then((n/2:Nat):Int) else-((n/2:Nat):Int)
def cF:List Nat→List (Str×V)
 |0::n::_=> [("number",.int (aE n))]
 |1::n::_=> [("row",.int (aE n))]
 |2::n::m::_=> [("many",.int (aE n)),("most",.int (aE m))]
 |_=> []
def bW(x:Str):List (Str×V):=cF x.cps.toList
def PR:Value→Value
 | .str _ C=> .ref C
 |v=>v
def aq(dx:Addr)(fs:List (Str×V))(h:Heap):Prop:=∃mA,h.Ns1 dx mA∧(∀f,SJ (fs.lookup f) (mA f))∧mn mA (fs.map (·.1))
def bX(dx:Addr)(fs:List (Str×V)):HO:=.ext (aq dx fs)
def DicX(cls:Value)(x:Addr)(H:Hp)(h:Heap):Prop:=∀fs C,cls=.str fs C→∃ox dx,h.get? x=some ox∧ox.dict=some dx∧H dx=some (bX dx (bW fs))
theorem DicX.ref{C x:Addr}{H:Hp}{h:Heap}:DicX (.ref C) x H h:=fun _ _ e=>nomatch e
theorem DicX.dk{cls:Value}{x:Addr}{H:Hp}{h h':Heap}(q:DicX cls x H h)(d:DK h h')(e:∃o',h'.get? x=some o'):DicX cls x H h':=fun fs C z=>by
 obtain⟨ox,dx,e1,e2,e3⟩:=q fs C z
 obtain⟨o',e'⟩:=e
 exact⟨o',dx,e',(d.at_ e1 e').trans e2,e3⟩
structure Fly(P:Program)(w:World)(outer:List Env)(H:Hp)(s:a7)(H':Hp)(x:Addr)(cls:Value)(s':a7):Prop where
 os:s'.os=s.os
 bare:j0 s'.gens
 un:Un (Gz outer) [] H H' s.heap s'.heap
 hok:HOk P w H' s'.heap
 fr:H' x=none
 fly:∃B t,(∀b,H' b≠none→∃o,B.get? b=some o)∧(∀b o,s.heap.get? b=some o→b∉Gz outer→∃o',B.get? b=some o')∧mF B outer x (PR cls) (.ref t) s'.heap
 dic:DicX cls x H' s'.heap
def CXe(P:Program)(w:World):Oi:=fun outer H s E e s'=>∃x cls H',e=.ref x∧Fly P w outer H s H' x cls s'∧E cls none H'
theorem CXe.never{P:Program}{w:World}{outer:List Env}{H:Hp}{s s':a7}{e:Value}(h:CXe P w outer H s E0 e s'):False:=by
 obtain⟨_,_,_,_,_,q⟩:=h
 exact q
structure XFly(X:Cx)(W:St→XK):Prop where
 fly:∀(pins:List (Addr×Obj)) (σ:St) (H:Hp) (s:a7) (e:Value) (s':a7),Inv X pins σ H s→CXe X.prog X.w X.stack H s (W σ) e s'→X.xe e s'
structure XOk(X:Cx)(W:St→XK):Prop where
 made:∀(pins:List (Addr×Obj)) (σ:St) (H:Hp) (s:a7) (h':Heap) (x C:Addr),Inv X pins σ H s→Heap.MadeExcOf s.heap h' x (.ref C) []→W σ (.ref C) none H→X.xe (.ref x) {s with heap:=h'}
 fly:∀(pins:List (Addr×Obj)) (σ:St) (H:Hp) (s:a7) (e:Value) (s':a7),Inv X pins σ H s→CXe X.prog X.w X.stack H s (W σ) e s'→X.xe e s'
 own:j5 (model X.prog X.w) X.A X.env X.xe
 madeF:∀(pins:List (Addr×Obj)) (σ:St) (H:Hp) (s:a7) (x C t dx:Addr) (fs:Str),Inv X pins σ H s→H x=none→X.s₀.heap.get? x=none→s.heap.get? x=some ⟨.ref C,some dx,.fields #[.ref t,.none,.none,.none,.bool false,.none],#[]⟩→H dx=some (bX dx (bW fs))→W σ (.str fs C) none H→X.xe (.ref x) s
theorem HOk.by_keep{P:Program}{w:World}{H:Hp}{h h':Heap}(x:HOk P w H h)(k:∀b o,H b≠none→h.get? b=some o→h'.get? b=some o):HOk P w H h':=fun a o e=>
 (x a o e).stay (fun b u hb q=>k b u (by
  rcases hb with rfl|hb
  ·rw[e];exact fun z=>nomatch z
  ·rw[hb];exact fun z=>nomatch z) q) (fun _ q=>q) fun _ _ q=>q
section
variable{P:Program}{w:World}{K:a5}{mg:Str→Option Value}{base:Heap}{N:List Str}{qual:Str}{scope:Scope}{f:Addr}{cd:Value}{A:dy}{outer:List Env}{s:a7}{H:Hp}{E:XK}
theorem IV{X:Cx}{pins:List (Addr×Obj)}{σ:St}{H1:Hp}{s2:a7}{h':Heap}{x:Addr}{cls:Value}{B:Heap}{t:Addr}(hst:X.stack=X.env::X.outer)(hex:X.ex=[])(hfr:X.env.frame=some X.env.locals)(I:Inv X pins σ H1 s2)
  (hB1:∀b,H1 b≠none→∃o,B.get? b=some o) (hB2:∀b o,X.s₀.heap.get? b=some o→b∉Gz X.outer→∃o',B.get? b=some o') (hx:H1 x=none) (hs2:B.StaysIn s2.heap) (fl:mF B X.outer x (PR cls) (.ref t) h') (up:s2.heap.UpToSlots h') (dq:DicX cls x H1 h'):
  Fly X.prog X.w X.outer X.H₀ X.s₀ H1 x cls {s2 with heap:=h'}:=by
 have fsm:∀b o,b∈X.fs→s2.heap.get? b=some o→∃sl,h'.get? b=some {o with slots:=sl}:=fun b o hb e=>by
  obtain⟨_,o',e',hd⟩:=I.funs.mem hb
  rw[e] at e';cases e'
  exact up b o e hd
 have same:∀b o o',B.get? b=some o'→s2.heap.get? b=some o→h'.get? b=some o:=fun b o o' e1 e2=>by
  have q:=hs2 b o' e1
  rw[e2] at q;cases q
  exact fl.1 b o e1
 refine⟨I.os,I.bare,⟨fun b o e n hb _=>?_,fun b o e n hb _=>?_,fun b o e n _=>?_,fun b o e _=>?_,I.base.tups,I.base.frzs,I.base.tbls⟩,I.hok.by_keep fun b o hb e=>?_,hx,⟨B,t,hB1,hB2,fl⟩,dq⟩
 ·obtain⟨o',e'⟩:=hB2 b o e hb
  exact same b o o' e' (I.base.keep b o e n hb (by rw[hex];simp))
 ·obtain⟨sl,e1⟩:=I.base.slot b o e n hb (by rw[hex];simp)
  obtain⟨sl',e2⟩:=fsm b _ hb e1
  exact⟨sl',e2⟩
 ·exact I.base.free b o e n (by rw[hex];simp)
 ·obtain⟨o1,e1⟩:=I.base.there b o e (by rw[hex];simp)
  by_cases hb:b∈X.fs
  ·obtain⟨sl,e2⟩:=fsm b o1 hb e1
   exact⟨_,e2⟩
  ·obtain⟨o',e'⟩:=hB2 b o e hb
   exact⟨o',fl.1 b o' e'⟩
 ·obtain⟨o',e'⟩:=hB1 b hb
  exact same b o o' e' e
theorem Aw:XOk (By (CXe P w) P w K mg base N qual scope f cd A outer s H E) (fun _=>E) where
 made:=by
  intro pins σ H1 s1 h' x C I hx q
  have hin:∀env∈(By (CXe P w) P w K mg base N qual scope f cd A outer s H E).stack,∀b,env.frame=some b→b∈Gz (By (CXe P w) P w K mg base N qual scope f cd A outer s H E).stack:=fun env he b hb=>gF.mpr ⟨env,he,hb⟩
  have hxn:H1 x=none:=I.hok.none_of hx.new
  have I':Inv (By (CXe P w) P w K mg base N qual scope f cd A outer s H E) pins σ H1 {s1 with heap:=h'}:=I.kept (t':=s1.toks) hx.keeps
  refine wpAny_leaves_madeW (base:=jh s1.heap (Gz (By (CXe P w) P w K mg base N qual scope f cd A outer s H E).stack)) (h:=s1.heap) I.ok.frames rfl (fun b o q=>jn _ q) (PySem.W.funFrames_hide I.stack hin) hx fun h2 t x1 x2 x3 x4=>?_
  refine⟨x,.ref C,H1,rfl,?_,q⟩
  refine IV (X:=By (CXe P w) P w K mg base N qual scope f cd A outer s H E) rfl rfl rfl I' (fun b hb=>?_) (fun b o e hb=>?_) hxn (fun b o e=>hx.keeps b o (jn _ e)) x1 x4 .ref
  ·cases e:H1 b with
   |none=>exact absurd e hb
   |some u=>
    obtain⟨o,eo⟩:=(I.hok b u e).obj
    exact⟨o,iD _ eo fun z=>hb (I.stkFree b z)⟩
  ·obtain⟨o1,e1⟩:=I.base.there b o e (fun z=>nomatch z)
   refine⟨o1,iD _ e1 fun z=>?_⟩
   rcases dh.mp (I.stkSub b z) with z|z
   ·exact absurd z (dU (dG (dr e) I.ok.above))
   ·exact hb z
 fly:=by
  rintro pins σ H1 s1 e s2 I ⟨x,cls,H2,rfl,F,q⟩
  obtain⟨B,t,b1,b2,fl⟩:=F.fly
  have I2:Inv (By (CXe P w) P w K mg base N qual scope f cd A outer s H E) pins σ H2 s2:=I.call' (ch:=[]) F.os F.un F.hok F.bare (fun b z=>absurd z (by simp))
  refine iM (KD.any (Fs _ _) (wpAny_leaves_onW (E:=fun _ _=>False) (Q:=fun _ s3=>mF B outer x (PR cls) (.ref t) s3.heap∧s2.heap.UpToSlots s3.heap∧s3={s2 with heap:=s3.heap}) I.ok.frames rfl fl fun h' x1 x2=> ⟨x1,x2,rfl⟩)) ?_ fun _ _ z=>iB z
  rintro _ s3 ⟨⟨x1,x2,e3⟩,dk⟩
  refine⟨x,cls,H2,rfl,?_,q⟩
  rw[e3]
  refine IV (X:=By (CXe P w) P w K mg base N qual scope f cd A outer s H E) rfl rfl rfl I2 b1 (fun b o e hb=>?_) F.fr fl.1 x1 x2 (F.dic.dk dk (let⟨o,e,_⟩:=x1.there;⟨o,e⟩))
  obtain⟨o1,e1⟩:=I.base.there b o e (fun z=>nomatch z)
  refine b2 b o1 e1 fun z=>?_
  rcases dh.mp (I.stkSub b z) with z|z
  ·exact absurd z (dU (dG (dr e) I.ok.above))
  ·exact hb z
 own:=j5.leaving
 madeF:=by
  intro pins σ H1 s1 x C t dx fs I hxn hs0 ex hdx q
  have hin:∀env∈(By (CXe P w) P w K mg base N qual scope f cd A outer s H E).stack,∀b,env.frame=some b→b∈x::Gz (By (CXe P w) P w K mg base N qual scope f cd A outer s H E).stack:=fun env he b hb=>df _ (gF.mpr ⟨env,he,hb⟩)
  have hkb:Heap.StaysIn (jh s1.heap (x::Gz (By (CXe P w) P w K mg base N qual scope f cd A outer s H E).stack)) s1.heap:=fun b o q=>jn _ q
  have hen:(jh s1.heap (x::Gz (By (CXe P w) P w K mg base N qual scope f cd A outer s H E).stack)).get? x=none:=by
   exact PySem.W.hideAll_none _ (dR ..)
  refine iM (KD.any (Fs _ _) (wpAny_leaving_firstW (E:=fun _ _=>False) (Q:=fun _ s3=>Heap.LeftW (jh s1.heap (x::Gz (By (CXe P w) P w K mg base N qual scope f cd A outer s H E).stack)) _ x (.ref C) (.ref t) s1.heap s3.heap∧s3={s1 with heap:=s3.heap}) I.ok.frames (PySem.W.funFrames_hide I.stack hin) rfl ex hkb hen rfl rfl rfl fun h' hL=> ⟨hL,rfl⟩)) ?_ fun _ _ z=>iB z
  rintro _ s3 ⟨⟨⟨x1,⟨_,_,x2⟩,x3,x4⟩,e3⟩,dk⟩
  refine⟨x,.str fs C,H1,rfl,?_,q⟩
  rw[e3]
  have hth:∃o,s3.heap.get? x=some o:=by
   obtain⟨oe,_,_,_,_,he,_⟩:=x3
   exact⟨oe,he⟩
  refine IV (X:=By (CXe P w) P w K mg base N qual scope f cd A outer s H E) rfl rfl rfl I (fun b hb=>?_) (fun b o e hb=>?_) hxn hkb ⟨x1,hen,x2,x3⟩ x4 ?_
  ·cases e:H1 b with
   |none=>exact absurd e hb
   |some u=>
    obtain⟨o,eo⟩:=(I.hok b u e).obj
    refine⟨o,iD _ eo fun z=>?_⟩
    rcases dh.mp z with z|z
    ·rw[z] at e;rw[hxn] at e;cases e
    ·exact hb (I.stkFree b z)
  ·obtain⟨o1,e1⟩:=I.base.there b o e (fun z=>nomatch z)
   refine⟨o1,iD _ e1 fun z=>?_⟩
   rcases dh.mp z with z|z
   ·rw[z] at e;rw[hs0] at e;cases e
   rcases dh.mp (I.stkSub b z) with z|z
   ·exact absurd z (dU (dG (dr e) I.ok.above))
   ·exact hb z
  ·exact DicX.dk (h:=s1.heap) (fun fs' C' z=>by cases z;exact⟨_,dx,ex,rfl,hdx⟩) dk hth
end
section
variable{X:Cx}{W:St→XK}
def Vt(W:St→XK)(C:Addr):TS:=fun _ σ H=>W σ (.ref C) none H
def Vu(sp:Sp)(W:St→XK)(t:TA):TE:=fun σ H Q=>t σ H fun vs H1=>sp vs H1 Q (W σ)
theorem XOk.f(x:XOk X W):XFly X W:=⟨x.fly⟩
theorem Jr{k:Nat}{f:Addr}{fd:dM}{ps:List Str}{sp:Sp}{x:Str}{p pos:Pos}{e:Expr}{es:List Expr}{t:TA}(xo:XFly X W)(F:FnOk X.prog X.w X.K X.mg X.base (CXe X.prog X.w) k f fd ps sp)(hr:Room k X.A)(hg:Gl X x)(hm:X.mg x=some (.ref f))(hk:gW X.K (.ref f)=true)(hb:Binds X.K fd ps [])
  (ha:PA X (e::es) t) (hdb:(x==("__debug__" :Str))=false:=by decide) (he:b4 (e::es) X.env=(false,eval e X.env)::b4 es X.env:=by rfl) (hpl:(gI pos (b4 es X.env)).any (·.1)=false:=by rfl):
  PE X (.Call (.Name x p) (e::es) [] pos) (Vu sp W t):=by
 intro pins s σ H Q I h
 refine jk (II I hg hm ?_ hdb)
 refine PySem.W.callWith_K (h₀:=X.base) I.ok.mod.kin hk (Ar (ha pos pins s σ H _ I h) fun us s1 ⟨vs,H1,I1,r,q⟩=> ⟨I1.kIn,?_⟩) he hpl
 have r2:Vals vs (us++[]):=by rw[ic];exact r
 have hl:(us++[]).length=ps.length:=by rw[←r2.length];exact F.len _ _ _ _ q
 refine kS (jW (F.run X.A X.stack s1 H1 ⟨us,[]⟩ (us++[]) vs Q (W σ) hr I1.env0 (hb s1 us I1.kIn hl) r2 q) fun r s' hq=>?_)
 cases r with
 |error e=>exact xo.fly pins σ H1 s1 e s' I1 hq
 |ok fl=>
  cases fl with
  |ret u=>exact I1.after hq
  |next=>exact iB hq
  |brk=>exact iB hq
  |cont=>exact iB hq
end
open PySem.Calls
section
variable{prog:Program}{w:World}{A:dy}{E:Value→a7→Prop}{s:a7}{K:a5}{x D:Addr}{ox:Obj}{od:Option Obj}{name:Str}
structure ExcCls(K:a5)(D:Addr):Prop where
 ga:jw K (.ref D) "__getattribute__" =some (some (.builtin "BaseException.__getattribute__"))
 gn:jw K (.ref D) "__getattr__" =some none
 be:kI K D (.type "BaseException")=some true
 ob:kI K D (.type "object")=some true
 cl:jw K (.ref D) "__class__" =some (some (.builtin "object.__class__"))
 gt:PySem.W.specialIn K (.builtin "object.__class__") "__get__" =some (some (.builtin "getset_descriptor.__get__"))
 tk:PySem.W.takesIn K (.builtin "object.__class__")=some true
def TyAt(D x:Addr)(h:Heap):Prop:=∃ox,h.get? x=some ox∧ox.cls=.ref D
theorem TyAt.looks{M:Model}{h:Heap}(p:TyAt D x h):iR M h (typeOf (.ref x)) (.ref D):=by
 obtain⟨o,h1,h2⟩:=p
 exact h2▸(iR.ld h1).andThen .now
open PySem.W Builtin Builtin.ObjectAttr Builtin.Getset_descriptor in
theorem LK {R:mK→a7→Prop} {tp:Value} (X:K.In s.heap) (I:TyAt D x s.heap) (hm:kI K D (.type "object")=some true) (h:R (.ok (.ret (.ref D))) s):
  i6 (model prog w) A (.call (.builtin "getset_descriptor.__get__") ⟨[.builtin "object.__class__",.ref x,tp],[]⟩) R s:=by
 obtain⟨hh,gg,dd,tt,oo⟩:=s
 have L0:=I.looks (M:=model prog w)
 have L1:=PySem.W.looks_mroIn (M:=model prog w) X hm
 refine iX
  KF.slot_gs.plain KF.entry_gs (KF.slot_gs.check _ _ _ _ _ _ _ _
   KF.type_class (KF.args_gs _ _ _) ?_)
 unfold Builtin.«getset_descriptor.__get__»
  descrGet
 rw[dga_obj]
 refine a6 (b5 ?_)
 unfold descrGetter descrCheckInstance
  descrNameAndClass isInstance
 simp only[KF.owner_class]
 repeat lk
 refine⟨Code.quiet_builtin _
  (by decide+kernel),gM KF.entry_class ?_⟩
 unfold Builtin.«object.__class__» shownTypeOf
 repeat lk
 exact h
theorem ExcCls.find{M:Model}{h:Heap}(c:ExcCls K D)(X:K.In h):iR M h (Builtin.ObjectAttr.find (.ref x) (.ref D) "__class__") (.bind (.builtin "getset_descriptor.__get__") (.builtin "object.__class__")):=by
 have L1:=jL (M:=M) X c.cl
 have L2:iR M h (Builtin.ObjectAttr.getOf (some (.builtin "object.__class__"))) (some (.builtin "getset_descriptor.__get__")):=PySem.W.looks_specialIn X c.gt
 have L3:=PySem.W.looks_takesIn (M:=M) X c.tk
 refine L1.andThen (L2.andThen ?_)
 exact(show iR M h (Builtin.ObjectAttr.dataDescriptor? (some (.builtin "object.__class__")) (some (.builtin "getset_descriptor.__get__"))) (some (.builtin "getset_descriptor.__get__",.builtin "object.__class__"))
  from L3.andThen .now).andThen (iR.tag .now)
theorem Ny{Q:Option Value→a7→Prop}(c:ExcCls K D)(X:K.In s.heap)(I:TyAt D x s.heap)(h:Q (some (.ref D)) {s with toks:=s.toks+1}):wpAny (model prog w) A (getAttr? (.ref x) "__class__") Q E s:=by
 obtain⟨hh,g,d,t,os⟩:=s
 have L0:=I.looks (M:=model prog w)
 have L1:=jL (M:=model prog w) X c.ga
 have L2:=jL (M:=model prog w) X c.gn
 have L3:=PySem.W.looks_mroIn (M:=model prog w) X c.be
 have L4:=c.find (x:=x) (M:=model prog w) X
 have hb:bindSpecial (.builtin "BaseException.__getattribute__") (.ref x)=pure (.builtin "BaseException.__getattribute__",[.ref x]):=PySem.F.excAttr_ValueError.ga.bind _
 have hk:builtinKind "BaseException.__getattribute__" =some .slot:=by decide+kernel
 have hsplit:splitId "BaseException.__getattribute__" =some ("BaseException","__getattribute__"):=by decide+kernel
 have hx2:(Value.builtin "BaseException.__getattribute__" ==Value.builtin "object.__getattribute__")=false:=by decide+kernel
 unfold getAttr? getAttrBy? getAttrBy
 refine a6 (wpAny_mkText (a6 (je (eW (a6 (L0.at (a6 (L1.at ?_))))))))
 dsimp only
 rw[hx2,lP,if_neg b6]
 unfold getAttrByItsOwn hookBefore
 refine a6 (L2.at ?_)
 refine a6 (je (eW ?_))
 unfold callGetattribute boundAndCalled
 rw[hb]
 show wpAny _ _ (call (.builtin "BaseException.__getattribute__") [.ref x,.str "__class__" t]) _ _ _
 refine kS (iX PySem.F.excAttr_ValueError.ga.plain PySem.F.entry_bexc_ga ?_)
 have ha:=PySem.F.args_bexc_ga (.ref x) (.str "__class__" t)
 simp only[kM,hk,hsplit]
 refine a6 ?_
 unfold isInstance
 refine a6 (L0.at (L3.at ?_))
 rw[if_neg (by decide)]
 refine kr ha ?_
 show wpAny _ _ (typeOf (.ref x)>>=fun tp=>Builtin.ObjectAttr.find (.ref x) tp "__class__" >>=_) _ _ _
 refine a6 (L0.at (a6 (L4.at ?_)))
 show wpAny _ _ ((holding [.builtin "object.__class__"] (call (.builtin "getset_descriptor.__get__") [.builtin "object.__class__",.ref x,.ref D]))>>=ret) _ _ _
 refine a6 (eW (kS (LK (s:=⟨hh,g,d,t+1,os⟩) X I c.ob ?_)))
 exact b5 (b5 (b5 h))
theorem ExcCls.isTy{M:Model}{h:Heap}(c:ExcCls K D)(X:K.In h):iR M h (isType (.ref D)) true:=by
 obtain⟨cd,hc,_⟩:=Option.bind_eq_some_iff.mp (show(kJ K D).bind _=some true from c.be)
 unfold kJ at hc
 split at hc
 ·rename_i c' d' cd' sl' ho
  intro A' Q' E' s' k q
  unfold isType loadHead
  exact a6 (wpAny_loadPart (k _ _ (X _ _ ho)) (b5 q))
 ·cases hc
theorem PU(c:ExcCls K D):PySem.W.KitX K (.ref x) (.ref D) (TyAt D x) where
 ty:=fun _ _ _ I=>I.looks
 it:=fun _ _ X _=>c.isTy X
 ne:=fun h tp dd its n sl X htp=>by
  refine Bool.eq_false_iff.mpr fun q=>?_
  have e:D=tp:=Value.ref.inj (beq_iff_eq.mp q)
  subst e
  obtain⟨cd,hc,_⟩:=Option.bind_eq_some_iff.mp (show(kJ K D).bind _=some true from c.be)
  unfold kJ at hc
  split at hc
  ·rename_i c' d' cd' sl' ho
   have z:=(X _ _ ho).symm.trans htp
   cases z
  ·cases hc
 ca:=fun X I k=>Ny c X I k
end
def Vv(D x:Addr):HO:=.ext (TyAt D x)
theorem LL{X:Cx}{pins:List (Addr×Obj)}{σ:St}{H:Hp}{s:a7}{A:dy}{E:Value→a7→Prop}{Q:Value→a7→Prop}{c:Value}{b:Bool}{D x:Addr}(I:Inv X pins σ H s)(hx:Rd H x (Vv D x))(k:ExcCls X.K D)
  (e:dP X.K (.ref D) c=some b) (h:∀tk,Q (.bool b) {s with toks:=tk}):wpAny (model X.prog X.w) A (call (.builtin "isinstance") [.ref x,c]) Q E s:=by
 obtain⟨p,_,_⟩:=(show ObjOk X.prog X.w H s.heap x (Vv D x) from hx.ok I.hok)
 exact fH (PU k) I.kIn p e (fun z=>nomatch z) h
abbrev Ft:List Value:=[.type "ValueError",.type "Exception",.type "BaseException",.type "object"]
theorem Sj{K:a5}{h:Heap}{C:Addr}{bmB:List Value}{newId:String}(X:K.In h)(q:fQ K C bmB newId=true):
  ∃bm N nm qn bs hdct sn sub ab col dd k0 k1 k2 k3 k5 mN,h.get? C=some (excClassObj nm qn C N bs bm hdct sn sub ab col dd k0 k1 k2 k3 k5 newId)∧h.Ns N mN∧mN "__init__" =none∧OwnTail h bmB bm:=by
 unfold fQ at q
 split at q
 ·rename_i dd cd sl ho
  split at q
  ·rename_i C' bm k0 k1 k2 k3 n k5 hm hs
   simp only[dS,beq_iff_eq,
    fO] at q
   obtain⟨⟨⟨⟨⟨e1,e2⟩,hdel⟩,ht⟩,hok⟩,hni⟩:=q
   subst e1 e2
   obtain⟨nm,bs,mro,ns,qn,hd,sn,sub,ab,col,del⟩:=cd
   dsimp only at hm hdel hok hni
   subst hm hdel
   have hsl:sl= #[k0,k1,k2,k3,some (.builtin n),k5]:=by
    obtain⟨l⟩:=sl
    simp only at hs
    rw[hs]
   subst hsl
   exact⟨bm,ns,nm,qn,bs,hd,sn,sub,ab,col,dd,k0,k1,k2,k3,k5,_,X _ _ ho,
    .of_isNs (PySem.W.isNs_of_in X hok),PySem.W.nsMap_none_of_in X hok hni,PySem.W.tail_of_in X ht⟩
  ·cases q
 ·cases q
theorem Nz{X:Cx}{W:St→XK}{x:Str}{C:Addr}{np cpos pos:Pos}(xo:XOk X W)(hc:X.calm=true)(hg:Gl X x)(hm:X.mg x=some (.ref C))(q:fQ X.K C Ft "ValueError.__new__" =true)
  (hd:(x==("__debug__" :Str))=false:=by decide):PS X (.Raise (some (.Call (.Name x np) [] [] cpos)) none pos) (Vt W C):=by
 intro pins s σ H D I h
 obtain⟨bm,N,nm,qn,bs,hdct,sn,sub,ab,col,dd,k0,k1,k2,k3,k5,mN,hC,hN,hni,T⟩:=Sj I.kIn q
 refine wpAny_Raise_call_subT (C:=C) (nm:=nm) (q:=qn) (N:=N) (bs:=bs) (bm:=bm) (hdct:=hdct) (sn:=sn) (sub:=sub) (ab:=ab) (col:=col) (dd:=dd) (k0:=k0) (k1:=k1) (k2:=k2) (k3:=k3) (k5:=k5)
  PySem.F.excBase_ValueError (mN:=mN) (T.hasType PySem.F.excBase_ValueError.hasBase) (I.ok.hd hc) rfl hni (II I hg hm ⟨rfl,?_⟩ hd)
 exact evalArgs_empty ⟨rfl,fj _,hC,hN,T,fun h' e hx=>xo.made pins σ H s h' e C I hx h⟩
section
variable{X:Cx}{pins:List (Addr×Obj)}{σ:St}{H:Hp}{s:a7}
end
section
variable{X:Cx}{pins pins':List (Addr×Obj)}{σ:St}{H:Hp}{s:a7}{E':Value→a7→Prop}{x:Addr}
end
theorem Fun.okX{P:Program}{w:World}{K:a5}{mg:Str→Option Value}{base:Heap}{x qual:Str}{st:Stmt}{f:Addr}{fd:dM}{N ps:List Str}{k:Nat}{sp:Sp}(F:Fun K x qual st f fd)(S:FnScope N ps (AA st))(len:∀vs H Q E,sp vs H Q E→vs.length=ps.length)
  (hbody:∀(cdv:Value) (A:dy) (outer:List Env) (s:a7) (H:Hp) (vs:List V) (Q:VK) (E:XK),Room k (A.deeper (iN qual (AA st) s.heap.objs.size f cdv))→sp vs H Q E→
   ∃t,PSs (By (CXe P w) P w K mg base N qual (AA st) f cdv A outer s H E) (Ai st) t∧t {nx:=fun _ H'=>Q .non H',rt:=Q} (start N vs) H):FnOk P w K mg base (CXe P w) (k+1) f fd ps sp:=by
 obtain⟨oc,od,kV,doc,pm,an,cdv,ct,osl,rfl,lk,hcd⟩:=F.ex
 exact YU lk hcd S len fun A outer s H vs Q E hr hsp=>hbody cdv A outer s H vs Q E hr hsp
section
variable{X:Cx}
def cG(K:a5)(H:Hp)(x:V)(t:Value):Prop:=TyOf K H x t∨∃a D,x=.ref a∧t=.ref D∧Rd H a (Vv D a)∧ExcCls K D
def Yk(K:a5):List V→Hp→VK→Prop:=fun vs H Q=>∃x c t cv b,vs=[x,c]∧RelV c cv∧cG K H x t∧dP K t cv=some b∧Q (.bl b) H
theorem PV:Av X (.builtin "isinstance") (Yk X.K):=by
 intro pins s σ H xs us Q I r h
 obtain⟨x,c,t,cv,b,rfl,rc,ty,e,q⟩:=h
 obtain⟨u,w',rfl,rx,rw'⟩:=MU r
 have e2:w'=cv:=by
  cases c with
  |ty n=>exact(show w'=jl n from rw').trans (show cv=jl n from rc).symm
  |ref a=>exact(show w'=Value.ref a from rw').trans (show cv=Value.ref a from rc).symm
  |non=>exact(show w'=jm from rw').trans (show cv=jm from rc).symm
  |bl b=>exact(show w'=kb b from rw').trans (show cv=kb b from rc).symm
  |int i=>exact absurd e (by obtain⟨k,rfl⟩:=rc;unfold dP;rcases ty with ty| ⟨_,_,_,rfl,_⟩<;>first| (cases ty<;> (intro z;simp[gU] at z))| (intro z;simp[gU] at z))
  |str i=>exact absurd e (by obtain⟨k,rfl⟩:=rc;unfold dP;rcases ty with ty| ⟨_,_,_,rfl,_⟩<;>first| (cases ty<;> (intro z;simp[gU] at z))| (intro z;simp[gU] at z))
  |byt i=>exact absurd e (by obtain⟨k,rfl⟩:=rc;unfold dP;rcases ty with ty| ⟨_,_,_,rfl,_⟩<;>first| (cases ty<;> (intro z;simp[gU] at z))| (intro z;simp[gU] at z))
  |flt i=>exact absurd e (by obtain⟨k,rfl⟩:=rc;unfold dP;rcases ty with ty| ⟨_,_,_,rfl,_⟩<;>first| (cases ty<;> (intro z;simp[gU] at z))| (intro z;simp[gU] at z))
 subst e2
 rcases ty with ty| ⟨a,D,rfl,rfl,hx,k⟩
 ·exact Nq I rx ty e fun tk=> ⟨.bl b,H,I.tok tk,rfl,q⟩
 ·cases(show u=Value.ref a from rx)
  exact LL I hx k e fun tk=> ⟨.bl b,H,I.tok tk,rfl,q⟩
theorem Vw:aB X .Mult (fun x y H Q=>∃i j,x=.int i∧y=.int j∧CMul i j∧Q (.int (i*j)) H):=by
 intro pins s σ H x y v u Q I r1 r2 h
 obtain⟨i,j,e1,e2,hc,q⟩:=h
 subst e1;subst e2
 obtain⟨t,rfl⟩:=r1
 obtain⟨t',rfl⟩:=r2
 exact PyProof.Rows.imul_int ⟨.int _,H,I.tok _,⟨_,rfl⟩,q⟩ hc.ok
def LM:List V→List V→Bool
 | [],[]=>true
 |x::xs,y::ys=>SF x y&&LM xs ys
 |_,_=>false
theorem Fu:∀{xs ys:List V},xs.length=ys.length→(dv xs.length).all (fun j=>SF (xs.getD j .non) (ys.getD j .non))=LM xs ys
 | [],[],_=>rfl
 |x::xs,y::ys,h=>by
  have ih:=Fu (xs:=xs) (ys:=ys) (by simpa using h)
  rw[dm,List.range_succ_eq_map,List.all_cons,List.all_map]
  show(SF x y&&_)=(SF x y&&LM xs ys)
  rw[←ih]
  rfl
 | [],_::_,h=>by simp at h
 |_::_,[],h=>by simp at h
def ar(K:a5):R2:=fun x y H Q=>∃a b xs ys,x=.ref a∧y=.ref b∧Dj K H a xs∧Dj K H b ys∧xs.all Fp=true∧ys.all Fp=true∧xs.length=ys.length∧Q (.bl (!LM xs ys)) H
theorem Vx(hu:X.A.units<cLine):DF X (fm .NotEq) (ar X.K):=by
 intro pins s σ H x y v u Q I rx ry h
 obtain⟨a,b,xs,ys,rfl,rfl,ha,hb,fx,fy,hl,q⟩:=h
 cases rx;cases ry
 obtain⟨its,r1,p1,z1⟩:=I.list ha
 obtain⟨its2,r2,p2,z2⟩:=I.list hb
 have l1:=r1.length
 have l2:=r2.length
 refine kZ.lists (e:=fun j=>SF (xs.getD j .non) (ys.getD j .non)) p1.isList p2.isList (by simp only[du];omega) hu (fun j h1 h2=>?_) _ _ _ _ ?_
 ·have j1:j<xs.length:=by simp only[du] at h1;omega
  have j2:j<ys.length:=by omega
  obtain⟨u1,e1,q1⟩:=r1.get (i:=j) (x:=xs[j]) (by simp[j1])
  obtain⟨u2,e2,q2⟩:=r2.get (i:=j) (x:=ys[j]) (by simp[j2])
  have f1:Fp xs[j]=true:=e6.mp fx _ (fI _)
  have f2:Fp ys[j]=true:=e6.mp fy _ (fI _)
  have d1:xs.getD j .non=xs[j]:=by simp[hZ,j1]
  have d2:ys.getD j .non=ys[j]:=by simp[hZ,j2]
  show fE _ _ its.toArray[j] its2.toArray[j] (SF (xs.getD j .non) (ys.getD j .non))
  rw[d1,d2]
  have g1:its.toArray[j]=u1:=by
   have:its[j]'(by omega)=u1:=eu.inj (by rw[←e1];simp)
   simpa using this
  have g2:its2.toArray[j]=u2:=by
   have:its2[j]'(by omega)=u2:=eu.inj (by rw[←e2];simp)
   simpa using this
  rw[g1,g2]
  exact Vl q1 q2 f1 f2
 ·refine⟨.bl _,H,I,rfl,?_⟩
  have e:(dv its.toArray.size).all (fun j=>SF (xs.getD j .non) (ys.getD j .non))=LM xs ys:=by
   rw[du,←l1];exact Fu hl
  rw[e]
  exact q
end
end L2
namespace StT
local macro_rules | `(tactic| omega) => `(tactic| first | lia | omega)
open PySem PySem.SetTable
theorem LN:∀(m:Nat) (l:List Nat),(∀e,e<m→e∈l)→m≤l.length
 |0,_,_=>fj _
 |m+1,l,h=>by
  have hm:m∈l:=h m (iH m)
  have ih:=LN m (l.erase m) fun e he=>by
   rw[List.mem_erase_of_ne (dU he)]
   exact h e (gq he)
  rw[List.length_erase_of_mem hm] at ih
  have:0<l.length:=jz hm
  omega
theorem CQ:∀(n:Nat) (l:List Nat),l.Nodup→(∀x∈l,x<n)→l.length≤n
 |0,[],_,_=>de _
 |0,x::_,_,h=>absurd (h x dR) (ji _)
 |n+1,l,nd,h=>by
  have ih:=CQ n (l.erase n) (nd.erase n) fun x hx=>by
   have h1:=h x (List.mem_of_mem_erase hx)
   have h2:x≠n:=fun e=>by
    subst e
    exact absurd hx (List.Nodup.not_mem_erase nd)
   omega
  by_cases hn:n∈l
  ·rw[List.length_erase_of_mem hn] at ih
   omega
  ·rw[List.erase_of_not_mem hn] at ih
   omega
def PX(xs:Array Nat):Prop:=xs.toList.Pairwise (· < ·)
theorem Fv{xs:Array Nat}(r:PX xs){i j:Nat}{x y:Nat}(hi:xs[i]?=some x)(hj:xs[j]?=some y)(h:i<j):x<y:=by
 obtain⟨h1,rfl⟩:=eX.mp hi
 obtain⟨h2,rfl⟩:=eX.mp hj
 have:=e7.mp r i j (by simpa using h1) (by simpa using h2) h
 simpa using this
theorem IW{xs:Array Nat}{j:Nat}:∀(fuel lo hi:Nat),hi-lo≤fuel→lo≤hi→hi≤xs.size→(∀i x,i<lo→xs[i]?=some x→x<j)→(∀i x,hi≤i→xs[i]?=some x→j≤x)→PX xs→
  (mX xs j fuel lo hi≤xs.size)∧(∀i x,i<mX xs j fuel lo hi→xs[i]?=some x→x<j)∧∀i x,mX xs j fuel lo hi≤i→xs[i]?=some x→j≤x
 |0,lo,hi,hf,hlo,hhi,h1,h2,r=>by
  have:lo=hi:=by omega
  subst this
  exact⟨hhi,h1,h2⟩
 |fuel+1,lo,hi,hf,hlo,hhi,h1,h2,r=>by
  unfold mX
  by_cases hl:lo<hi
  ·rw[if_pos hl]
   have hm:(lo+hi)/2<xs.size:=by omega
   have em:xs[(lo+hi)/2]?=some xs[(lo+hi)/2]:=by simp[hm]
   have eg:xs.getD ((lo+hi)/2) j=xs[(lo+hi)/2]:=by simp[km,hm]
   dsimp only
   rw[eg]
   by_cases hc:xs[(lo+hi)/2]<j
   ·rw[if_pos hc]
    refine IW fuel _ _ (by omega) (by omega) hhi (fun i x hi' e=>?_) h2 r
    by_cases hx:i=(lo+hi)/2
    ·subst hx
     rw[em] at e;cases e
     exact hc
    ·exact mz (Fv r e em (by omega)) hc
   ·rw[if_neg hc]
    refine IW fuel _ _ (by omega) (by omega) (by omega) h1 (fun i x hi' e=>?_) r
    by_cases hx:i=(lo+hi)/2
    ·subst hx
     rw[em] at e;cases e
     omega
    ·have:=Fv r em e (by omega)
     omega
  ·rw[if_neg hl]
   have:lo=hi:=by omega
   subst this
   exact⟨hhi,h1,h2⟩
theorem Ci{xs:Array Nat}{j:Nat}(r:PX xs):(below xs j≤xs.size)∧(∀i x,i<below xs j→xs[i]?=some x→x<j)∧∀i x,below xs j≤i→xs[i]?=some x→j≤x:=
 IW _ _ _ (by omega) (by omega) (de _) (fun i x h=>absurd h (ji _)) (fun i x h e=>by
  have:=(eX.mp e).1
  omega) r
theorem Bf{xs:Array Nat}{i j:Nat}(r:PX xs)(h:xs[i]?=some j):below xs j=i:=by
 obtain⟨b1,b2,b3⟩:=Ci (j:=j) r
 have hi:i<xs.size:=(eX.mp h).1
 apply Nat.le_antisymm
 ·apply jD
  intro hc
  exact absurd (b2 i j hc h) (e9 _)
 ·apply jD
  intro hc
  have e:xs[below xs j]?=some xs[below xs j]:=by simp[mz hc hi]
  have h1:=b3 _ _ (de _) e
  have h2:=Fv r e h hc
  omega
theorem BF{α:Type}(xs:Array α)(p:Nat)(x:α):(gz xs p x).toList=xs.toList.take p++x::xs.toList.drop p:=by
 unfold gz
 simp
 rw[List.take_of_length_le (by simp)]
theorem getElem?_insertAt{α:Type}(xs:Array α)(p:Nat)(x:α)(hp:p≤xs.size)(i:Nat):(gz xs p x)[i]?=if i<p then xs[i]? else if i=p then some x else xs[i-1]?:=by
 have e:(gz xs p x)[i]?=(gz xs p x).toList[i]?:=by simp
 rw[e,BF]
 have hl:(xs.toList.take p).length=p:=by simp[hp]
 by_cases h1:i<p
 ·rw[if_pos h1,dZ (by omega),iA h1]
  simp
 ·rw[if_neg h1,dI (by omega),hl]
  by_cases h2:i=p
  ·subst h2
   simp
  ·rw[if_neg h2]
   have:i-p=(i-p-1)+1:=by omega
   rw[this,iJ,gh]
   have:p+(i-p-1)=i-1:=by omega
   rw[this]
   simp
theorem Dl{α:Type}(xs:Array α)(p:Nat)(x:α)(hp:p≤xs.size):(gz xs p x).size=xs.size+1:=by
 rw[←dg,BF]
 simp
 omega
theorem LO{xs:Array Nat}{j:Nat}(r:PX xs)(hj:∀i:Nat,xs[i]?≠some j):PX (gz xs (below xs j) j):=by
 obtain⟨b1,b2,b3⟩:=Ci (j:=j) r
 unfold PX
 rw[BF]
 have lt:∀y∈xs.toList.take (below xs j),y<j:=fun y hy=>by
  obtain⟨i,hi⟩:=eD hy
  have hlt:i<below xs j:=by
   have:=(dj.mp hi).1
   simp at this;omega
  rw[iA hlt] at hi
  exact b2 i y hlt (by simpa using hi)
 have gt:∀y∈xs.toList.drop (below xs j),j<y:=fun y hy=>by
  obtain⟨i,hi⟩:=eD hy
  rw[gh] at hi
  have hi':xs[below xs j+i]?=some y:=by simpa using hi
  have h1:=b3 _ y (Nat.le_add_right _ _) hi'
  have h2:y≠j:=fun e=>hj _ (e▸hi')
  omega
 refine jM.mpr ⟨dX.sublist (List.take_sublist _ _) r,iO.mpr ⟨gt,dX.sublist (List.drop_sublist _ _) r⟩,fun a ha b hb=>?_⟩
 rcases dh.mp hb with rfl|hb
 ·exact lt a ha
 ·exact mz (lt a ha) (gt b hb)
def adv(m:Nat)(p:Probe):Probe:=(fh.mk m #[] #[] 0 false 0 false).advance p
theorem Fw(t:fh)(p:Probe):t.advance p=adv t.mask p:=rfl
theorem Fy{m:Nat}{p:Probe}(h:0<p.more):adv m p=⟨p.j+1,p.more-1,p.i,p.perturb,p.dummy⟩:=by
 unfold adv advance
 exact if_pos h
theorem Fz{m:Nat}{p:Probe}(h:¬0<p.more):adv m p=⟨(leap m p.i p.perturb).1,iW m (leap m p.i p.perturb).1- (leap m p.i p.perturb).1,(leap m p.i p.perturb).1,(leap m p.i p.perturb).2,p.dummy⟩:=by
 unfold adv advance
 exact if_neg h
def advN(m:Nat):Nat→Probe→Probe
 |0,p=>p
 |n+1,p=>advN m n (adv m p)
theorem Bg(m:Nat):∀(a b:Nat) (p:Probe),advN m (a+b) p=advN m b (advN m a p)
 |0,b,p=>by rw[ip];rfl
 |a+1,b,p=>by
  rw[mw]
  exact Bg m a b (adv m p)
theorem HR(m n:Nat)(p:Probe):advN m (n+1) p=adv m (advN m n p):=Bg m n 1 p
def st(m:Nat)(x:Nat×Nat)(d:Option Nat):Probe:={j:=x.1,more:=iW m x.1-x.1,i:=x.1,perturb:=x.2,dummy:=d}
theorem PY(t:fh)(h:Int):t.probeStart h=st t.mask (bits h%(t.mask+1),bits h) none:=rfl
def LP(m:Nat):Nat→Nat×Nat→Nat×Nat
 |0,x=>x
 |n+1,x=>LP m n (leap m x.1 x.2)
theorem Ek(m i:Nat)(h:i≤m):i+(iW m i-i)≤m∧iW m i-i≤9:=by
 unfold iW
 split<;>omega
theorem IX(m:Nat):∀(k:Nat) (p:Probe),k≤p.more→advN m k p={p with j:=p.j+k,more:=p.more-k}
 |0,p,_=>rfl
 |k+1,p,h=>by
  show advN m k (adv m p)=_
  have e:adv m p={p with j:=p.j+1,more:=p.more-1}:=Fy (by omega)
  rw[e,IX m k _ (by show k≤p.more-1;omega)]
  show({p with j:=p.j+1+k,more:=p.more-1-k}:Probe)={p with j:=p.j+(k+1),more:=p.more- (k+1)}
  rw[show p.j+1+k=p.j+(k+1) by omega,show p.more-1-k=p.more- (k+1) by omega]
theorem GA(m:Nat)(p:Probe):advN m (p.more+1) p=st m (leap m p.i p.perturb) p.dummy:=by
 rw[HR,IX m p.more p (de _)]
 rw[Fz (by show¬0<p.more-p.more;omega)]
 rfl
theorem GB(m:Nat):∀(L:Nat) (x:Nat×Nat),x.1≤m→(LP m L x).1≤m
 |0,_,h=>h
 |L+1,x,_=>GB m L _ (by show(x.1*5+1+x.2/32)%(m+1)≤m;have:=md (x.1*5+1+x.2/32) (show 0<m+1 by omega);omega)
theorem PZ(m:Nat):∀(L:Nat) (x:Nat×Nat) (d:Option Nat),x.1≤m→∃n,n≤10*L∧advN m n (st m x d)=st m (LP m L x) d
 |0,x,d,_=> ⟨0,by omega,rfl⟩
 |L+1,x,d,h=>by
  have hl:(leap m x.1 x.2).1≤m:=GB m 1 x h
  obtain⟨n,hn,e⟩:=PZ m L (leap m x.1 x.2) d hl
  have h9:=(Ek m x.1 h).2
  refine⟨(st m x d).more+1+n,?_,?_⟩
  ·show iW m x.1-x.1+1+n≤_;omega
  ·rw[Bg,GA]
   exact e
theorem Mb(m:Nat):∀(a b:Nat) (x:Nat×Nat),LP m (a+b) x=LP m b (LP m a x)
 |0,b,x=>by rw[ip];rfl
 |a+1,b,x=>by rw[mw];exact Mb m a b _
theorem Mc(m:Nat):∀(L:Nat) (x:Nat×Nat),(LP m L x).2=x.2/32^L
 |0,x=>by simp[LP]
 |L+1,x=>by
  show(LP m L (leap m x.1 x.2)).2=_
  rw[Mc m L]
  show x.2/32/32^L=x.2/32^(L+1)
  rw[Nat.div_div_eq_div_mul,mx,my]
def Xp(m:Nat):Nat→Nat→List Nat
 |0,_=> []
 |n+1,i=>i::Xp m n ((i*5+1)%(m+1))
def fN(m:Nat):Nat→Nat→Nat
 |0,i=>i
 |n+1,i=>fN m n ((i*5+1)%(m+1))
theorem Yl(m:Nat):∀(L i:Nat),LP m L (i,0)=(fN m L i,0)
 |0,_=>rfl
 |L+1,i=>by
  show LP m L ((i*5+1+0/32)%(m+1),0/32)=_
  rw[Nat.zero_div,Nat.add_zero]
  exact Yl m L _
theorem IY(m:Nat):∀(a b x:Nat),fN m (a+b) x=fN m b (fN m a x)
 |0,b,x=>by rw[ip];rfl
 |a+1,b,x=>by rw[mw];exact IY m a b _
theorem IZ(m:Nat):∀(n i e:Nat),e∈Xp m n i→∃k,k<n∧fN m k i=e
 |0,_,_,h=>by simp[Xp] at h
 |n+1,i,e,h=>by
  rcases dh.mp h with rfl|h
  ·exact⟨0,jX _,rfl⟩
  ·obtain⟨k,hk,hf⟩:=IZ m n _ e h
   exact⟨k+1,by omega,hf⟩
def Bh(m:Nat):Prop:=m=7∨m=31∨m=127∨m=511
theorem au{m:Nat}(h:Bh m):fN m (m+1) 0=0∧∀e,e≤m→e∈Xp m (m+1) 0:=by
 have all:∀k,((dv (k+1)).all fun e=> (Xp k (k+1) 0).contains e)=true→∀e,e≤k→e∈Xp k (k+1) 0:=fun k hk e he=>by
  have:=e6.mp hk e (dW.mpr (Nat.lt_succ_of_le he))
  exact List.contains_iff_mem.mp this
 rcases h with rfl|rfl|rfl|rfl
 ·exact⟨by decide+kernel,all 7 (by decide+kernel)⟩
 ·exact⟨by decide+kernel,all 31 (by decide+kernel)⟩
 ·exact⟨by decide+kernel,all 127 (by decide+kernel)⟩
 ·exact⟨by decide+kernel,all 511 (by decide+kernel)⟩
theorem cH{m:Nat}(h:Bh m){i e:Nat}(hi:i≤m)(he:e≤m):∃k,k≤m∧fN m k i=e:=by
 obtain⟨c0,call⟩:=au h
 obtain⟨a,ha,ea⟩:=IZ m _ _ _ (call i hi)
 obtain⟨b,hb,eb⟩:=IZ m _ _ _ (call e he)
 by_cases hab:a≤b
 ·refine⟨b-a,by omega,?_⟩
  rw[←ea,←IY,show a+(b-a)=b by omega]
  exact eb
 ·refine⟨m+1-a+b,by omega,?_⟩
  rw[←ea,←IY,show a+(m+1-a+b)=(m+1)+b by omega,IY,c0]
  exact eb
structure Pr(m:Nat)(p:Probe):Prop where
 ij:p.j+p.more≤m
 more:p.more≤9
 i:p.i≤m
 pert:p.perturb<2^64
theorem Pr.st{m:Nat}{x:Nat×Nat}{d:Option Nat}(h1:x.1≤m)(h2:x.2<2^64):Pr m (st m x d):=⟨(Ek m x.1 h1).1,(Ek m x.1 h1).2,h1,h2⟩
theorem Pr.adv{m:Nat}{p:Probe}(h:Pr m p):Pr m (adv m p):=by
 by_cases hm:0<p.more
 ·rw[Fy hm]
  exact⟨by have:=h.ij;show p.j+1+(p.more-1)≤m;omega,by have:=h.more;show p.more-1≤9;omega,h.i,h.pert⟩
 ·rw[Fz hm]
  have hl:(leap m p.i p.perturb).1≤m:=GB m 1 (p.i,p.perturb) h.i
  exact⟨(Ek m _ hl).1,(Ek m _ hl).2,hl,ki (Nat.div_le_self _ _) h.pert⟩
theorem Pr.advN{m:Nat}:∀{n:Nat} {p:Probe},Pr m p→Pr m (advN m n p)
 |0,_,h=>h
 |n+1,_,h=>Pr.advN (n:=n) h.adv
theorem Pr.j{m:Nat}{p:Probe}(h:Pr m p):p.j≤m:=by have:=h.ij;omega
theorem Md(h:Int):bits h<2^64:=by
 unfold bits
 have h1:=ig h (show(2^64:Int)≠0 by decide)
 have h2:=gG h (show(0:Int)<2^64 by decide)
 have h3:((2:Nat)^64:Nat)=18446744073709551616:=by decide
 omega
def start(m:Nat)(h:Int):Probe:=st m (bits h%(m+1),bits h) none
theorem Pr.start(m:Nat)(h:Int):Pr m (start m h):=Pr.st (by show bits h%(m+1)≤m;have:=md (bits h) (show 0<m+1 by omega);omega) (Md h)
theorem Ym{q:Nat}(h:q<2^64):q/32^13=0:=Nat.div_eq_of_lt (dG h (by decide))
theorem Ue{m:Nat}(hm:Bh m){x:Nat×Nat}(h1:x.1≤m)(h2:x.2<2^64){e:Nat}(he:e≤m):∃L,L≤m+13∧(LP m L x).1=e:=by
 have e13:LP m 13 x=((LP m 13 x).1,0):=by
  have:=Mc m 13 x
  rw[Ym h2] at this
  rw[←this]
 obtain⟨k,hk,ek⟩:=cH hm (GB m 13 x h1) he
 refine⟨13+k,by omega,?_⟩
 rw[Mb,e13,Yl]
 exact ek
theorem Ug{m:Nat}(hm:Bh m){p:Probe}(h:Pr m p){e:Nat}(he:e≤m):∃n,n<10*(m+15)∧(advN m n p).j=e:=by
 have hl:(leap m p.i p.perturb).1≤m:=GB m 1 (p.i,p.perturb) h.i
 obtain⟨L,hL,eL⟩:=Ue hm (x:=leap m p.i p.perturb) hl (ki (Nat.div_le_self _ _) h.pert) he
 obtain⟨n,hn,en⟩:=PZ m L (leap m p.i p.perturb) p.dummy hl
 refine⟨p.more+1+n,by have:=h.more;omega,?_⟩
 rw[Bg,GA,en]
 exact eL
theorem OA(m:Nat)(p:Probe):(adv m p).dummy=p.dummy:=by
 by_cases h:0<p.more
 ·rw[Fy h]
 ·rw[Fz h]
theorem Dp(m:Nat):∀(n:Nat) (p:Probe),(advN m n p).dummy=p.dummy
 |0,_=>rfl
 |n+1,p=> (Dp m n _).trans (OA m p)
end StT
namespace StT
local macro_rules | `(tactic| omega) => `(tactic| first | lia | omega)
open PySem PySem.SetTable
def Js(t:fh)(j:Nat):Prop:=∃i:Nat,t.place[i]?=some j
structure Tb(t:fh)(hs:List Int):Prop where
 mask:Bh t.mask
 dum:t.dummies= #[]
 ris:PX t.place
 le:∀i j:Nat,t.place[i]?=some j→j≤t.mask
 size:t.place.size=hs.length
 fnd:∀(i j:Nat) (h:Int),t.place[i]?=some j→hs[i]?=some h→∃n,(advN t.mask n (start t.mask h)).j=j∧∀k,k<n→Js t (advN t.mask k (start t.mask h)).j
section
variable{t:fh}{hs:List Int}
theorem Tb.odd(T:Tb t hs):t.mask%2=1:=by rcases T.mask with h|h|h|h<;>rw[h]
theorem Tb.low(T:Tb t hs):7≤t.mask:=by rcases T.mask with h|h|h|h<;>omega
theorem Tb.live(T:Tb t hs){i j:Nat}(h:t.place[i]?=some j):t.slot j=.live i:=by
 unfold slot
 rw[Bf T.ris h]
 simp only[h,beq_self_eq_true,if_true]
theorem Tb.empty(T:Tb t hs){j:Nat}(h:¬Js t j):t.slot j=.empty:=by
 unfold slot
 have h1:(t.place[below t.place j]?==some j)=false:=by
  rw[beq_eq_false_iff_ne]
  exact fun e=>h ⟨_,e⟩
 have h2:has t.dummies j=false:=by
  unfold has
  rw[T.dum]
  rfl
 simp only[h1,h2,dJ,if_false]
theorem Tb.room(T:Tb t hs)(h:hs.length≤t.mask):∃e,e≤t.mask∧¬Js t e:=by
 apply fU
 intro hn
 have:=LN (t.mask+1) t.place.toList fun e he=>by
  have:Js t e:=fU fun hc=>hn ⟨e,by omega,hc⟩
  obtain⟨i,hi⟩:=this
  exact dc (i:=i) (by simpa using hi)
 rw[dg,T.size] at this
 omega
theorem Sk(T:Tb t hs){hashAt:Nat→Int}{h:Int}{p:Probe}{i:Nat}(fuel:Nat)(h1:t.place[i]?=some p.j)(h2:hashAt i≠h):jK t hashAt h (fuel+1) p=jK t hashAt h fuel (adv t.mask p):=by
 rw[jK,T.live h1]
 simp only[beq_iff_eq,if_neg h2,Fw]
theorem Jt(T:Tb t hs){hashAt:Nat→Int}{h:Int}:∀(n fuel:Nat) (p:Probe),(∀k,k<n→∃i,t.place[i]?=some (advN t.mask k p).j∧hashAt i≠h)→jK t hashAt h (fuel+n) p=jK t hashAt h fuel (advN t.mask n p)
 |0,_,_,_=>rfl
 |n+1,fuel,p,hk=>by
  obtain⟨i,h1,h2⟩:=hk 0 (jX _)
  have h1:t.place[i]?=some p.j:=h1
  rw[←l0,Sk T _ h1 h2]
  exact Jt T n fuel _ fun k hk'=>hk (k+1) (Nat.succ_lt_succ hk')
theorem Pa(T:Tb t hs){hashAt:Nat→Int}{h:Int}{p:Probe}{fuel:Nat}(h1:¬Js t p.j):jK t hashAt h (fuel+1) p=some (.empty p.j p.dummy):=by
 rw[jK,T.empty h1]
theorem Vy(T:Tb t hs){hashAt:Nat→Int}{h:Int}{p:Probe}{fuel i:Nat}(h1:t.place[i]?=some p.j)(h2:hashAt i=h):jK t hashAt h (fuel+1) p=some (.candidate p.j i (adv t.mask p)):=by
 rw[jK,T.live h1]
 simp only[beq_iff_eq,if_pos h2,Fw]
theorem least{S:Nat→Prop}:∀(n:Nat),S n→∃m,m≤n∧S m∧∀k,k<m→¬S k:=by
 intro n
 induction n using Nat.strongRecOn with
 |ind n ih=>
  intro hn
  by_cases h:∃k,k<n∧S k
  ·obtain⟨k,hk,sk⟩:=h
   obtain⟨m,h1,h2,h3⟩:=ih k hk sk
   exact⟨m,by omega,h2,h3⟩
  ·exact⟨n,de _,hn,fun k hk sk=>h ⟨k,hk,sk⟩⟩
theorem Ju(T:Tb t hs)(hl:hs.length≤t.mask){p:Probe}(pr:Pr t.mask p)(hashAt:Nat→Int)(h:Int):∃n,(∀k,k<n→∃i,t.place[i]?=some (advN t.mask k p).j∧hashAt i≠h)∧
  ((¬Js t (advN t.mask n p).j∧t.probe hashAt h p=some (.empty (advN t.mask n p).j p.dummy))∨∃i,t.place[i]?=some (advN t.mask n p).j∧hashAt i=h∧t.probe hashAt h p=some (.candidate (advN t.mask n p).j i (advN t.mask (n+1) p))):=by
 obtain⟨e,he,hne⟩:=T.room hl
 obtain⟨n0,hn0,en0⟩:=Ug T.mask pr he
 obtain⟨n,hn,sn,ln⟩:=least (S:=fun n=>¬Js t (advN t.mask n p).j∨∃i,t.place[i]?=some (advN t.mask n p).j∧hashAt i=h) n0 (.inl (by rw[en0];exact hne))
 have pre:∀k,k<n→∃i,t.place[i]?=some (advN t.mask k p).j∧hashAt i≠h:=fun k hk=>by
  have:=ln k hk
  have ho:Js t (advN t.mask k p).j:=fU fun hc=>this (.inl hc)
  obtain⟨i,hi⟩:=ho
  exact⟨i,hi,fun z=>this (.inr ⟨i,hi,z⟩)⟩
 have hfuel:10*turns t.mask=(10*(t.mask+15)-n-1+1)+n:=by unfold turns;omega
 refine⟨n,pre,?_⟩
 unfold probe
 rw[hfuel,Jt T n _ p pre]
 rcases sn with sn| ⟨i,h1,h2⟩
 ·exact .inl ⟨sn,by rw[Pa T sn,Dp]⟩
 ·exact .inr ⟨i,h1,h2,by rw[Vy T h1 h2,HR]⟩
theorem Tb.put(T:Tb t hs){h:Int}{n:Nat}(hfree:¬Js t (advN t.mask n (start t.mask h)).j)(hway:∀k,k<n→Js t (advN t.mask k (start t.mask h)).j):
  Tb (t.put (advN t.mask n (start t.mask h)).j).1 (hs.take (t.put (advN t.mask n (start t.mask h)).j).2++h::hs.drop (t.put (advN t.mask n (start t.mask h)).j).2)∧(t.put (advN t.mask n (start t.mask h)).j).2≤hs.length∧
   (t.put (advN t.mask n (start t.mask h)).j).1.mask=t.mask∧(t.put (advN t.mask n (start t.mask h)).j).1.plain=t.plain∧(t.put (advN t.mask n (start t.mask h)).j).1.led=t.led∧(t.put (advN t.mask n (start t.mask h)).j).1.moves=t.moves:=by
 have hj:(advN t.mask n (start t.mask h)).j≤t.mask:=(Pr.start t.mask h).advN.j
 generalize hJ:(advN t.mask n (start t.mask h)).j=J at*
 have hd:has t.dummies J=false:=by
  unfold has
  rw[T.dum]
  rfl
 have hnot:∀i:Nat,t.place[i]?≠some J:=fun i e=>hfree ⟨i,e⟩
 have hb:=(Ci (j:=J) T.ris).1
 have e1:(t.put J).1={t with place:=gz t.place (below t.place J) J}:=by
  unfold fh.put
  simp only[hd,dJ,if_false]
 have e2:(t.put J).2=below t.place J:=rfl
 rw[e1,e2]
 have ix:=getElem?_insertAt t.place (below t.place J) J hb
 have hl:(hs.take (below t.place J)).length=below t.place J:=by rw[eU,←T.size];omega
 have ih:∀i:Nat,(hs.take (below t.place J)++h::hs.drop (below t.place J))[i]?=if i<below t.place J then hs[i]? else if i=below t.place J then some h else hs[i-1]?:=fun i=>by
  by_cases h1:i<below t.place J
  ·rw[if_pos h1,dZ (by omega),iA h1]
  ·rw[if_neg h1,dI (by omega),hl]
   by_cases h2:i=below t.place J
   ·subst h2;simp
   ·rw[if_neg h2,show i-below t.place J=(i-below t.place J-1)+1 by omega,iJ,gh]
    rw[show below t.place J+(i-below t.place J-1)=i-1 by omega]
 have occ:∀x,Js t x→Js {t with place:=gz t.place (below t.place J) J} x:=fun x ⟨i,hi⟩=>by
  by_cases h1:i<below t.place J
  ·exact⟨i,by show(gz t.place (below t.place J) J)[i]?=some x;rw[ix,if_pos h1];exact hi⟩
  ·exact⟨i+1,by show(gz t.place (below t.place J) J)[i+1]?=some x;rw[ix,if_neg (by omega),if_neg (by omega)];exact hi⟩
 refine⟨⟨T.mask,T.dum,LO T.ris hnot,fun i j e=>?_,?_,fun i j h' e eh=>?_⟩,by rw[←T.size];exact hb,rfl,rfl,rfl,rfl⟩
 ·have e:(gz t.place (below t.place J) J)[i]?=some j:=e
  rw[ix] at e
  by_cases h1:i<below t.place J
  ·rw[if_pos h1] at e;exact T.le i j e
  ·rw[if_neg h1] at e
   by_cases h2:i=below t.place J
   ·rw[if_pos h2] at e;cases e;exact hj
   ·rw[if_neg h2] at e;exact T.le _ j e
 ·show(gz t.place (below t.place J) J).size=_
  rw[Dl _ _ _ hb,T.size]
  have hb':below t.place J≤hs.length:=by rw[←T.size];exact hb
  rw[dH,hl,dm,i9]
  omega
 ·have e:(gz t.place (below t.place J) J)[i]?=some j:=e
  rw[ix] at e
  rw[ih] at eh
  by_cases h1:i<below t.place J
  ·rw[if_pos h1] at e eh
   obtain⟨k,ek,wk⟩:=T.fnd i j h' e eh
   exact⟨k,ek,fun k' hk=>occ _ (wk k' hk)⟩
  ·rw[if_neg h1] at e eh
   by_cases h2:i=below t.place J
   ·rw[if_pos h2] at e eh
    cases e;cases eh
    exact⟨n,hJ,fun k hk=>occ _ (hway k hk)⟩
   ·rw[if_neg h2] at e eh
    obtain⟨k,ek,wk⟩:=T.fnd _ j h' e eh
    exact⟨k,ek,fun k' hk=>occ _ (wk k' hk)⟩
theorem Tb.fresh(f mv:Nat)(led:Bool):Tb (fh.fresh f mv led) []:=by
 refine⟨.inl rfl,rfl,iw,fun i j e=>?_,rfl,fun i j h e=>?_⟩
 ·have e:(#[]:Array Nat)[i]?=some j:=e
  simp at e
 ·have e:(#[]:Array Nat)[i]?=some j:=e
  simp at e
end
end StT
namespace StT
local macro_rules | `(tactic| omega) => `(tactic| first | lia | omega)
open PySem PySem.SetTable
structure LC(m:Nat)(owner:Array (Option Nat))(hs:List Int):Prop where
 size:owner.size=m+1
 put:∀(r:Nat) (h:Int),hs[r]?=some h→∃j,j≤m∧owner[j]?=some (some r)∧∃n,(advN m n (start m h)).j=j∧∀k,k<n→∃r',owner[(advN m k (start m h)).j]?=some (some r')
 lt:∀j r:Nat,owner[j]?=some (some r)→r<hs.length
 inj:∀j j' r:Nat,owner[j]?=some (some r)→owner[j']?=some (some r)→j=j'
section
variable{m:Nat}{owner:Array (Option Nat)}{hs:List Int}
theorem Ia(hz:owner.size=m+1){x:Nat}(hx:x≤m):owner.getD x (some 0)=owner[x]'(by omega)∧owner[x]?=some (owner[x]'(by omega)):=by
 have hx':x<owner.size:=by omega
 exact⟨by simp[km,hx'],by simp[hx']⟩
theorem Uh(hz:owner.size=m+1){x:Nat}(hx:x≤m)(h:(owner.getD x (some 0)).isNone=false):∃r,owner[x]?=some (some r):=by
 obtain⟨h1,h2⟩:=Ia hz hx
 rw[h1] at h
 cases e:owner[x]'(by omega) with
 |none=>rw[e] at h;cases h
 |some r=>exact⟨r,by rw[h2,e]⟩
theorem Sl(hz:owner.size=m+1){x:Nat}(hx:x≤m)(h:(owner.getD x (some 0)).isNone=true):owner[x]?=some none:=by
 obtain⟨h1,h2⟩:=Ia hz hx
 rw[h1] at h
 cases e:owner[x]'(by omega) with
 |none=>rw[h2,e]
 |some r=>rw[e] at h;cases h
theorem LQ{i q k:Nat}(hk:k≤iW m i-i):(advN m k (st m (i,q) none)).j=i+k:=by
 rw[IX m k _ hk]
 rfl
theorem HU(m i:Nat):i≤iW m i:=by
 unfold iW
 split<;>omega
theorem HV(hz:owner.size=m+1){j:Nat}:∀(fuel i q:Nat),i≤m→layClean.free m owner fuel i q=some j→
  ∃n,(advN m n (st m (i,q) none)).j=j∧(∀k,k<n→∃r,owner[(advN m k (st m (i,q) none)).j]?=some (some r))∧owner[j]?=some none∧j≤m
 |0,i,q,_,e=>by simp[layClean.free] at e
 |fuel+1,i,q,hi,e=>by
  have hr:=Ek m i hi
  have hge:=HU m i
  rw[layClean.free] at e
  cases hf:(dv (iW m i+1-i)).find? fun k=> (owner.getD (i+k) (some 0)).isNone with
  |some k=>
   rw[hf] at e
   cases e
   have hk1:(owner.getD (i+k) (some 0)).isNone=true:=by simpa using List.find?_some hf
   have hkm:k<iW m i+1-i:=dW.mp (List.mem_of_find?_eq_some hf)
   refine⟨k,LQ (by omega),fun k' hk'=>?_,Sl hz (by omega) hk1,by omega⟩
   rw[LQ (by omega)]
   refine Uh hz (by omega) ?_
   have:=List.find?_range_eq_some.mp hf
   have h3:=this.2.2 k' hk'
   simpa using h3
  |none=>
   rw[hf] at e
   have hl:(leap m i q).1≤m:=GB m 1 (i,q) hi
   obtain⟨n,h1,h2,h3⟩:=HV hz fuel _ _ hl e
   have all:∀k,k≤iW m i-i→∃r,owner[(advN m k (st m (i,q) none)).j]?=some (some r):=fun k hk=>by
    rw[LQ hk]
    refine Uh hz (by omega) ?_
    have:=List.find?_eq_none.mp hf k (dW.mpr (by omega))
    exact Bool.eq_false_iff.mpr this
   have hleap:advN m (iW m i-i+1) (st m (i,q) none)=st m (leap m i q) none:=GA m (st m (i,q) none)
   refine⟨(iW m i-i+1)+n,?_,fun k hk=>?_,h3⟩
   ·rw[Bg,hleap]
    exact h1
   ·by_cases hk':k≤iW m i-i
    ·exact all k hk'
    ·have e2:k=(iW m i-i+1)+(k- (iW m i-i+1)):=by omega
     rw[e2,Bg,hleap]
     exact h2 _ (by omega)
theorem HW(hz:owner.size=m+1){e:Nat}(he:owner[e]?=some none)(hem:e≤m):∀(fuel L i q:Nat),i≤m→L<fuel→(LP m L (i,q)).1=e→layClean.free m owner fuel i q≠none
 |0,L,_,_,_,h,_=>absurd h (ji _)
 |fuel+1,L,i,q,hi,hL,eL=>by
  rw[layClean.free]
  have hge:=HU m i
  cases hf:(dv (iW m i+1-i)).find? fun k=> (owner.getD (i+k) (some 0)).isNone with
  |some k=>simp
  |none=>
   cases L with
   |zero=>
    have eL:i=e:=eL
    subst eL
    have:=List.find?_eq_none.mp hf 0 (dW.mpr (by omega))
    obtain⟨h1,h2⟩:=Ia hz hem
    rw[he] at h2
    have h2:=eu.inj h2
    rw[Nat.add_zero,h1,←h2] at this
    exact absurd rfl this
   |succ L=>
    exact HW hz he hem fuel L _ _ (GB m 1 (i,q) hi) (by omega) eL
def EE(m:Nat)(acc:Option (Array (Option Nat)×Nat))(h:Int):Option (Array (Option Nat)×Nat):=do
 let(owner,k)←acc
 let j←layClean.free m owner (turns m) (bits h%(m+1)) (bits h)
 pure (owner.setIfInBounds j (some k),k+1)
theorem Jv(m:Nat)(hs:Array Int):layClean m hs=(hs.toList.foldl (EE m) (some (lA (m+1) none,0))).map (·.1):=by
 unfold layClean
 rw[Array.foldl_toList]
 rfl
theorem LC.room(c:LC m owner hs)(h:hs.length≤m):∃e,e≤m∧owner[e]?=some none:=by
 apply fU
 intro hn
 have all:∀e,e≤m→∃r,owner[e]?=some (some r):=fun e he=>by
  have hz:=c.size
  cases q:owner[e]'(by omega) with
  |none=>exact absurd ⟨e,he,by rw[←q];simp[show e<owner.size by omega]⟩ hn
  |some r=>exact⟨r,by rw[←q];simp[show e<owner.size by omega]⟩
 have hf:∀e,∃r,e≤m→owner[e]?=some (some r):=fun e=>by
  by_cases he:e≤m
  ·obtain⟨r,hr⟩:=all e he;exact⟨r,fun _=>hr⟩
  ·exact⟨0,fun z=>absurd z he⟩
 obtain⟨f,hf⟩:=Classical.axiomOfChoice hf
 have hl:=CQ hs.length ((dv (m+1)).map f) (by
  refine kA f (R:=fun a b=>a≠b∧a≤m∧b≤m) (fun a b hab e=>?_) ?_
  ·have h1:=hf a hab.2.1
   have h2:=hf b hab.2.2
   rw[e] at h1
   exact hab.1 (c.inj a b _ h1 h2)
  ·refine fJ (fun{a b} ha hb h=> ⟨dU h,?_,?_⟩) (gw (n:=m+1))
   ·have:=dW.mp ha;omega
   ·have:=dW.mp hb;omega) (fun x hx=>by
  obtain⟨e,he,rfl⟩:=di.mp hx
  exact c.lt e _ (hf e (by have:=dW.mp he;omega)))
 rw[a9,fk] at hl
 omega
theorem LC.step(hm:Bh m)(c:LC m owner hs)(hl:hs.length≤m)(h:Int):∃o',EE m (some (owner,hs.length)) h=some (o',hs.length+1)∧LC m o' (hs++[h]):=by
 obtain⟨e,he,hne⟩:=c.room hl
 have hb:bits h%(m+1)≤m:=by have:=md (bits h) (show 0<m+1 by omega);omega
 obtain⟨L,hL,eL⟩:=Ue hm (x:=(bits h%(m+1),bits h)) hb (Md h) he
 have hs':=HW c.size hne he (turns m) L _ _ hb (by unfold turns;omega) eL
 cases hf:layClean.free m owner (turns m) (bits h%(m+1)) (bits h) with
 |none=>exact absurd hf hs'
 |some j=>
  obtain⟨n,h1,h2,h3,h4⟩:=HV c.size _ _ _ hb hf
  have hj:j<owner.size:=by rw[c.size];omega
  refine⟨owner.setIfInBounds j (some hs.length),?_,?_⟩
  ·unfold EE
   show(layClean.free m owner (turns m) (bits h%(m+1)) (bits h)>>=_)=_
   rw[hf]
   rfl
  ·have at_:∀x:Nat,(owner.setIfInBounds j (some hs.length))[x]?=if x=j then some (some hs.length) else owner[x]?:=fun x=>by
    rw[Array.getElem?_setIfInBounds]
    by_cases hx:x=j
    ·subst hx;simp[hj]
    ·rw[if_neg (Ne.symm hx),if_neg hx]
   have occ:∀x r:Nat,owner[x]?=some (some r)→∃r',(owner.setIfInBounds j (some hs.length))[x]?=some (some r'):=fun x r hr=>by
    rw[at_]
    by_cases hx:x=j
    ·exact⟨_,if_pos hx⟩
    ·exact⟨r,by rw[if_neg hx];exact hr⟩
   refine⟨by simpa using c.size,fun r h' e'=>?_,fun x r hr=>?_,fun x y r hx hy=>?_⟩
   ·by_cases hr:r<hs.length
    ·rw[dZ hr] at e'
     obtain⟨x,q1,q2,n',q3,q4⟩:=c.put r h' e'
     refine⟨x,q1,?_,n',q3,fun k hk=>?_⟩
     ·rw[at_,if_neg];exact q2
      rintro rfl
      rw[h3] at q2;cases q2
     ·obtain⟨r',hr'⟩:=q4 k hk
      exact occ _ r' hr'
    ·rw[dI (by omega)] at e'
     have hr0:r-hs.length=0:=by
      have:=(dj.mp e').1
      simp at this;omega
     rw[hr0] at e'
     cases e'
     have:r=hs.length:=by omega
     subst this
     refine⟨j,h4,by rw[at_,if_pos rfl],n,h1,fun k hk=>?_⟩
     obtain⟨r',hr'⟩:=h2 k hk
     exact occ _ r' hr'
   ·rw[at_] at hr
    rw[dH]
    by_cases hx:x=j
    ·rw[if_pos hx] at hr;cases hr;simp
    ·rw[if_neg hx] at hr
     have:=c.lt x r hr
     omega
   ·rw[at_] at hx hy
    by_cases h1:x=j
    ·rw[if_pos h1] at hx
     cases hx
     by_cases h2:y=j
     ·rw[h1,h2]
     ·rw[if_neg h2] at hy
      exact absurd (c.lt y _ hy) (e9 _)
    ·rw[if_neg h1] at hx
     by_cases h2:y=j
     ·rw[if_pos h2] at hy
      cases hy
      exact absurd (c.lt x _ hx) (e9 _)
     ·rw[if_neg h2] at hy
      exact c.inj x y r hx hy
theorem LC.steps(hm:Bh m):∀(rest hs:List Int) (owner:Array (Option Nat)),LC m owner hs→hs.length+rest.length≤m+1→∃o',rest.foldl (EE m) (some (owner,hs.length))=some (o',hs.length+rest.length)∧LC m o' (hs++rest)
 | [],hs,owner,c,_=> ⟨owner,rfl,by rw[ic];exact c⟩
 |h::rest,hs,owner,c,hl=>by
  simp only[dm] at hl
  obtain⟨o1,e1,c1⟩:=c.step hm (by omega) h
  obtain⟨o2,e2,c2⟩:=LC.steps hm rest (hs++[h]) o1 c1 (by rw[dH];simp;omega)
  refine⟨o2,?_,by rw[fM] at c2;exact c2⟩
  rw[List.foldl_cons,e1]
  have:(hs++[h]).length=hs.length+1:=by simp
  rw[this] at e2
  rw[e2]
  simp only[dm]
  congr 2
  omega
theorem Jw(hm:Bh m)(hs:Array Int)(hl:hs.size≤m+1):∃owner,layClean m hs=some owner∧LC m owner hs.toList:=by
 have c0:LC m (lA (m+1) none) []:=⟨by simp,fun r h e=>by simp at e,fun j r e=>by
  rw[Array.getElem?_replicate] at e;split at e<;>simp at e,fun j j' r e=>by
  rw[Array.getElem?_replicate] at e;split at e<;>simp at e⟩
 obtain⟨o,e,c⟩:=LC.steps hm hs.toList [] _ c0 (by simpa using hl)
 refine⟨o,?_,by simpa using c⟩
 rw[Jv]
 have e':hs.toList.foldl (EE m) (some (lA (m+1) none,0))=_:=e
 rw[e']
 rfl
end
end StT
namespace StT
open PySem PySem.SetTable
section
variable{m:Nat}
theorem Sm(hm:Bh m)(hs:Array Int)(hl:hs.size≤m+1)(f mv:Nat)(led plain:Bool):∃t' order,laid m f mv led plain hs=some (t',order)∧t'.mask=m∧t'.led=led∧t'.plain=plain∧t'.moves=mv∧order.size=hs.size∧
  (∀i r:Nat,order[i]?=some r→r<hs.size)∧(∀i i' r:Nat,order[i]?=some r→order[i']?=some r→i=i')∧(∀r,r<hs.size→∃i:Nat,order[i]?=some r)∧Tb t' (order.toList.map fun r=>hs.getD r 0):=by
 obtain⟨owner,e,c⟩:=Jw hm hs hl
 generalize hlive:(dv (m+1)).filterMap (fun j=> (owner.getD j none).map (j,·))=live
 have mem:∀j r,(j,r)∈live↔j≤m∧owner[j]?=some (some r):=fun j r=>by
  rw[←hlive,gF]
  constructor
  ·rintro⟨x,hx,ex⟩
   have hx:=dW.mp hx
   have hxo:x<owner.size:=by rw[c.size];exact hx
   have eg:owner.getD x none=owner[x]:=by simp[km,hxo]
   rw[eg] at ex
   cases q:owner[x] with
   |none=>rw[q] at ex;cases ex
   |some r'=>
    rw[q] at ex
    cases ex
    exact⟨by omega,by rw[←q];simp[hxo]⟩
  ·rintro⟨h1,h2⟩
   obtain⟨hxo,q⟩:=eX.mp h2
   refine⟨j,dW.mpr (by omega),?_⟩
   have eg:owner.getD j none=owner[j]:=by simp[km,hxo]
   rw[eg,q]
   rfl
 have pw:live.Pairwise fun a b=>a.1<b.1:=by
  rw[←hlive,List.pairwise_filterMap]
  refine dX.imp (fun{a b} h x hx y hy=>?_) (gw (n:=m+1))
  cases q1:owner.getD a none with
  |none=>rw[q1] at hx;cases hx
  |some r1=>
   cases q2:owner.getD b none with
   |none=>rw[q2] at hy;cases hy
   |some r2=>
    rw[q1] at hx;rw[q2] at hy
    cases hx;cases hy
    exact h
 have lt:∀j r,(j,r)∈live→r<hs.size:=fun j r h=>by have:=c.lt j r ((mem j r).mp h).2;simpa using this
 have pwr:live.Pairwise fun a b=>a.2≠b.2:=by
  refine fJ (fun{a b} ha hb h e=>?_) pw
  obtain⟨a1,a2⟩:=a
  obtain⟨b1,b2⟩:=b
  have h1:=(mem _ _).mp ha
  have h2:=(mem _ _).mp hb
  have e:a2=b2:=e
  subst e
  have:=c.inj _ _ _ h1.2 h2.2
  have h:a1<b1:=h
  omega
 have nd:(live.map (·.2)).Nodup:=kA _ (fun _ _ h=>h) pwr
 have all:∀r,r<hs.size→∃j,(j,r)∈live:=fun r hr=>by
  obtain⟨j,h1,h2,_⟩:=c.put r (hs[r]) (by simp[hr])
  exact⟨j,(mem j r).mpr ⟨h1,h2⟩⟩
 have len:live.length=hs.size:=by
  apply Nat.le_antisymm
  ·have:=CQ hs.size (live.map (·.2)) nd fun x hx=>by
    obtain⟨⟨j,r⟩,h1,rfl⟩:=di.mp hx
    exact lt j r h1
   simpa using this
  ·have:=LN hs.size (live.map (·.2)) fun r hr=>by
    obtain⟨j,hj⟩:=all r hr
    exact di.mpr ⟨_,hj,rfl⟩
   simpa using this
 refine⟨{mask:=m,place:=(live.map (·.1)).toArray,dummies:=#[],finger:=f,led:=led,moves:=mv,plain:=plain},(live.map (·.2)).toArray,?_,rfl,rfl,rfl,rfl,by simpa using len,fun i r h=>?_,fun i i' r h h'=>?_,fun r hr=>?_,?_⟩
 ·unfold laid
  rw[e]
  show some _=some _
  rw[hlive]
 ·have h:(live.map (·.2))[i]?=some r:=by simpa using h
  rw[b8] at h
  cases q:live[i]? with
  |none=>rw[q] at h;cases h
  |some x=>rw[q] at h;cases h;exact lt x.1 x.2 (dc q)
 ·have h:(live.map (·.2))[i]?=some r:=by simpa using h
  have h':(live.map (·.2))[i']?=some r:=by simpa using h'
  obtain⟨l1,e1⟩:=dj.mp h
  obtain⟨l2,e2⟩:=dj.mp h'
  rcases iq i i' with hlt|heq|hgt
  ·exact absurd (e1.trans e2.symm) (e7.mp nd i i' l1 l2 hlt)
  ·exact heq
  ·exact absurd (e2.trans e1.symm) (e7.mp nd i' i l2 l1 hgt)
 ·obtain⟨j,hj⟩:=all r hr
  obtain⟨i,hi⟩:=eD hj
  exact⟨i,by simp[hi]⟩
 ·have at_:∀i j:Nat,(live.map (·.1)).toArray[i]?=some j→∃r,live[i]?=some (j,r):=fun i j h=>by
   have h:(live.map (·.1))[i]?=some j:=by simpa using h
   rw[b8] at h
   cases q:live[i]? with
   |none=>rw[q] at h;cases h
   |some x=>
    rw[q] at h
    cases h
    exact⟨x.2,rfl⟩
  refine⟨hm,rfl,?_,fun i j h=>?_,by simp,fun i j h e1 e2=>?_⟩
  ·show(live.map (·.1)).toArray.toList.Pairwise (· < ·)
   exact kA _ (fun _ _ h=>h) pw
  ·obtain⟨r,hr⟩:=at_ i j h
   exact((mem j r).mp (dc hr)).1
  ·obtain⟨r,hr⟩:=at_ i j e1
   have hrlt:=lt j r (dc hr)
   have e2:((live.map (·.2)).map fun r=>hs.getD r 0)[i]?=some h:=by simpa using e2
   rw[b8,b8,hr] at e2
   have e2:hs.getD r 0=h:=eu.inj e2
   have eh:hs.toList[r]?=some h:=by
    rw[←e2]
    simp[km,hrlt]
   obtain⟨j2,q1,q2,n,q3,q4⟩:=c.put r h eh
   have ej:=c.inj j2 j r q2 ((mem j r).mp (dc hr)).2
   subst ej
   refine⟨n,q3,fun k hk=>?_⟩
   obtain⟨r',hr'⟩:=q4 k hk
   have hk':(advN m k (start m h)).j≤m:=(Pr.start m h).advN.j
   obtain⟨i',hi'⟩:=eD ((mem _ r').mpr ⟨hk',hr'⟩)
   refine⟨i',?_⟩
   show(live.map (·.1)).toArray[i']?=_
   simp[hi']
theorem OB{n:Nat}(h:Bh m)(h1:n*5<m*3)(h2:m*3≤(n+1)*5)(h3:n<300):Bh (lQ (grown (n+1))-1)∧n+1≤lQ (grown (n+1))-1∧(n+1)*5< (lQ (grown (n+1))-1)*3∧lQ (grown (n+1))≤512:=by
 rcases h with rfl|rfl|rfl|rfl
 ·have:n=4:=by omega
  subst this
  refine⟨.inr (.inl (by decide)),by decide,by decide,by decide⟩
 ·have:n=18:=by omega
  subst this
  refine⟨.inr (.inr (.inl (by decide))),by decide,by decide,by decide⟩
 ·have:n=76:=by omega
  subst this
  refine⟨.inr (.inr (.inr (by decide))),by decide,by decide,by decide⟩
 ·omega
theorem Cj{α:Type}(es:Array α):∀(l:List Nat),(∀r∈l,r<es.size)→∀i:Nat,(l.filterMap fun r=>es[r]?)[i]?=(l[i]?).bind fun r=>es[r]?
 | [],_,i=>by simp
 |r::l,h,i=>by
  have hr:=h r dR
  have e:es[r]?=some es[r]:=by simp[hr]
  rw[fq,e]
  cases i with
  |zero=>simp
  |succ i=>
   simp only[iJ]
   exact Cj es l (fun x hx=>h x (df _ hx)) i
theorem Bz{α:Type}(es:Array α):∀(l:List Nat),(∀r∈l,r<es.size)→(l.filterMap fun r=>es[r]?).length=l.length
 | [],_=>rfl
 |r::l,h=>by
  have hr:=h r dR
  have e:es[r]?=some es[r]:=by simp[hr]
  rw[fq,e]
  simp[Bz es l (fun x hx=>h x (df _ hx))]
end
open PyProof.Rows
section
variable{prog:Program}{w:World}{A:dy}{E:Value→a7→Prop}{s:a7}
abbrev IK(prog:Program)(w:World)(h:Heap)(k:List Int)(a:Addr):Prop:=IsTupleKey (intKind prog w) h k a
abbrev tk(prog:Program)(w:World):HeapKind prog w (List Int):=tupleKind (intKind prog w)
theorem El{n:Int}{v:Value}(h:(intKind prog w).is n v=true):∃t,v=.int n t:=by
 cases v with
 |int m t=>
  have h2:(intKind prog w).is m (.int m t)=true:=intKind_is _ _ _ _
  have e:=(intKind prog w).inj _ _ _ h h2
  subst e
  exact⟨t,rfl⟩
 |_=>exact absurd h (by simp[intKind,Value.isInt])
theorem GC{ks:List Int}{vs:List Value}(h:ItemsAre (intKind prog w) ks vs):∀v∈vs,∃n t,v=.int n t:=by
 induction h with
 |nil=>intro v hv;simp at hv
 |cons h1 _ ih=>
  intro v hv
  rcases dh.mp hv with rfl|hv
  ·obtain⟨t,e⟩:=El h1
   exact⟨_,t,e⟩
  ·exact ih v hv
theorem Yn{k:List Int}{a:Addr}{Q:Bool→a7→Prop}(hk:IK prog w s.heap k a)(h:Q true s):wpAny (model prog w) A (hashByValue 8 (.ref a)) Q E s:=by
 have hT:=hk.typeIs
 obtain⟨o,items,n,ho,_,hd,hi⟩:=hk
 have hints:=GC hi
 unfold hashByValue
 refine a6 (wpAny_specialOf hT PySem.F.slot_tuple_hash.lookup ?_)
 dsimp only
 refine a6 (ju ho hd ?_)
 show wpAny _ _ ((forIn items _ _)>>=_) _ _ s
 rw[←Array.forIn_toList]
 refine a6 (kL _ (fun rest r s'=>r.1=none∧s'=s∧∀v∈rest,∃n t,v=jr n t) _ ?_ ?_ _ _ ⟨rfl,rfl,hints⟩)
 ·rintro v rest r s' ⟨hr,rfl,hall⟩
  obtain⟨n,t,rfl⟩:=hall v dR
  refine a6 (b5 ?_)
  simp only[jf,dJ,if_false]
  exact b5 ⟨rfl,rfl,fun u hu'=>hall u (df _ hu')⟩
 ·rintro⟨r1,r2⟩ s' ⟨hr,rfl,_⟩
  simp only at hr
  subst hr
  exact b5 h
theorem Me{k:List Int}{a:Addr}{Q:Bool→a7→Prop}(hk:IK prog w s.heap k a)(h:Q false s):wpAny (model prog w) A (ku 8 (.ref a)) Q E s:=by
 have hT:=hk.typeIs
 obtain⟨o,items,n,ho,hc,hd,hi⟩:=hk
 have hints:=GC hi
 unfold ku
 refine a6 (wpAny_typeOf hT ?_)
 dsimp only
 rw[if_pos (by decide)]
 refine a6 (b5 ?_)
 simp only[jf,dJ,if_false]
 refine a6 (ju ho hd ?_)
 show wpAny _ _ ((forIn items _ _)>>=_) _ _ s
 rw[←Array.forIn_toList]
 refine a6 (kL _ (fun rest r s'=>r.1=none∧s'=s∧∀v∈rest,∃n t,v=jr n t) _ ?_ ?_ _ _ ⟨rfl,rfl,hints⟩)
 ·rintro v rest r s' ⟨hr,rfl,hall⟩
  obtain⟨n,t,rfl⟩:=hall v dR
  unfold ku
  refine a6 (b5 ?_)
  simp only[dJ,if_false]
  exact b5 ⟨rfl,rfl,fun u hu'=>hall u (df _ hu')⟩
 ·rintro⟨r1,r2⟩ s' ⟨hr,rfl,_⟩
  simp only at hr
  subst hr
  exact b5 h
theorem Sn{k:List Int}{a:Addr}{Q:Bool→a7→Prop}{l:List Value}(hk:IK prog w s.heap k a)(hl:∀v∈l,∃k' b,v=.ref b∧IK prog w s.heap k' b)(h:Q false s):wpAny (model prog w) A (searchCouldBeSeen (.ref a) l) Q E s:=by
 unfold searchCouldBeSeen
 refine a6 (kL _ (fun rest r s'=>r.1=none∧s'=s∧∀v∈rest,∃k' b,v=Value.ref b∧IK prog w s.heap k' b) _ ?_ ?_ _ _ ⟨rfl,rfl,hl⟩)
 ·rintro v rest r s' ⟨hr,rfl,hall⟩
  obtain⟨k',b,rfl,hb⟩:=hall v dR
  have go:∀u∈rest,∃k' b,u=Value.ref b∧IK prog w s'.heap k' b:=fun u hu'=>hall u (df _ hu')
  dsimp only
  split
  ·exact b5 ⟨rfl,rfl,go⟩
  ·refine a6 (wpAny_eqIsQuiet_tuple hk ?_)
   simp only[jf,dJ,if_false]
   refine a6 (wpAny_eqIsQuiet_tuple hb ?_)
   simp only[jf,dJ,if_false]
   refine a6 (Me hk ?_)
   simp only[dJ,if_false]
   refine a6 (Me hb ?_)
   simp only[dJ,if_false]
   exact b5 ⟨rfl,rfl,go⟩
 ·rintro⟨r1,r2⟩ s' ⟨hr,rfl,_⟩
  simp only at hr
  subst hr
  exact b5 h
end
local macro_rules | `(tactic| omega) => `(tactic| first | lia | omega)
open PySem PySem.SetTable PyProof.Rows
section
variable{prog:Program}{w:World}{A:dy}{E:Value→a7→Prop}{s:a7}
def OC(xs:List (List Int×Addr))(prog:Program)(w:World):List (Int×Value):=xs.map fun p=> ((tk prog w).hash p.1,Value.ref p.2)
structure SetD(prog:Program)(w:World)(h:Heap)(a:Addr)(xs:List (List Int×Addr))(o:Obj)(es:Array (Int×Value))(ep:Nat)(t:fh):Prop where
 get:h.get? a=some o
 ex:o.ExactSet
 dat:o.data=.set es ep t
 es:es.toList=OC xs prog w
 key:∀(i:Nat) (k:List Int) (x:Addr),xs[i]?=some (k,x)→IK prog w h k x
 nd:(xs.map (·.1)).Nodup
 tb:Tb t (xs.map fun p=> (tk prog w).hash p.1)
 pl:t.plain=true
 room:xs.length*5<t.mask*3
 led:t.led=!w.params.followText "set-order"
variable{a:Addr}{xs:List (List Int×Addr)}{o:Obj}{es:Array (Int×Value)}{ep:Nat}{t:fh}
theorem SetD.size(S:SetD prog w s.heap a xs o es ep t):es.size=xs.length:=by
 rw[←dg,S.es];simp[OC]
theorem SetD.fits(S:SetD prog w s.heap a xs o es ep t):t.fits es.size=true:=by
 have h1:=S.tb.size
 have h2:=S.room
 have h3:t.fill=t.place.size:=by unfold lW;rw[S.tb.dum];rfl
 rw[a9] at h1
 unfold fh.fits
 rw[h3,S.size,h1]
 simp only[beq_self_eq_true,l7,decide_eq_true_eq]
 omega
theorem SetD.len(S:SetD prog w s.heap a xs o es ep t):(xs.map fun p=> (tk prog w).hash p.1).length≤t.mask:=by
 have:=S.room
 rw[a9];omega
theorem SetD.at(S:SetD prog w s.heap a xs o es ep t){i:Nat}{k:List Int}{x:Addr}(h:xs[i]?=some (k,x)):es[i]?=some ((tk prog w).hash k,.ref x):=by
 have:es[i]?=es.toList[i]?:=by simp
 rw[this,S.es,OC,b8,h]
 rfl
theorem SetD.of_at(S:SetD prog w s.heap a xs o es ep t){i:Nat}(h:i<xs.length):∃k x,xs[i]?=some (k,x):=⟨_,_,by simp[h];rfl⟩
abbrev FQ:Array (Int×Value)→Nat→Int:=PySem.W.hashAt
theorem SetD.hash(S:SetD prog w s.heap a xs o es ep t){i:Nat}{k:List Int}{x:Addr}(h:xs[i]?=some (k,x)):FQ es i=(tk prog w).hash k:=by
 show((es[i]?).map gi).getD 0=_
 rw[S.at h]
 rfl
theorem Jx(S:SetD prog w s.heap a xs o es ep t)(hu:A.units<cLine){k:List Int}{x:Addr}(hk:IK prog w s.heap k x){Q:SetFound→a7→Prop}
  (hT:∀(i:Nat) (y:Addr),xs[i]?=some (k,y)→Q (.there none) s)
  (hF:(∀(i:Nat) (y:Addr),xs[i]?≠some (k,y))→∀n,¬Js t (advN t.mask n (start t.mask ((tk prog w).hash k))).j→(∀c,c<n→Js t (advN t.mask c (start t.mask ((tk prog w).hash k))).j)→Q (.free (advN t.mask n (start t.mask ((tk prog w).hash k))).j false) s):
  ∀(fuel c:Nat) (stand:Option Probe),stand.getD (t.probeStart ((tk prog w).hash k))=advN t.mask c (start t.mask ((tk prog w).hash k))→
   (∀c',c'<c→Js t (advN t.mask c' (start t.mask ((tk prog w).hash k))).j∧∀(i:Nat) (y:Addr),t.place[i]?=some (advN t.mask c' (start t.mask ((tk prog w).hash k))).j→xs[i]?≠some (k,y))→
   (∃N,c≤N∧¬Js t (advN t.mask N (start t.mask ((tk prog w).hash k))).j∧N-c<fuel)→
   wpAny (model prog w) A (setSearchFrom a (.ref x) ((tk prog w).hash k) true fuel stand) Q E s:=by
 intro fuel
 induction fuel with
 |zero=>rintro c stand _ _ ⟨N,_,_,h⟩;exact absurd h (ji _)
 |succ fuel ih=>
  rintro c stand hst hpre ⟨N,hcN,hN,hfu⟩
  have hsz:t.place.size=xs.length:=by have:=S.tb.size;rwa[a9] at this
  unfold setSearchFrom
  refine a6 (fK S.get S.dat S.fits ?_)
  dsimp only
  have hgw:t.gaveWay=false:=by unfold fh.gaveWay;rw[S.tb.odd];rfl
  rw[hgw]
  simp only[dJ,if_false]
  obtain⟨n,hn,hstop⟩:=Ju S.tb S.len (p:=advN t.mask c (start t.mask ((tk prog w).hash k))) (Pr.start _ _).advN (FQ es) ((tk prog w).hash k)
  rw[hst]
  have hadd:∀m,advN t.mask m (advN t.mask c (start t.mask ((tk prog w).hash k)))=advN t.mask (c+m) (start t.mask ((tk prog w).hash k)):=fun m=> (Bg _ _ _ _).symm
  have pre2:∀c',c'<c+n→Js t (advN t.mask c' (start t.mask ((tk prog w).hash k))).j∧∀(i:Nat) (y:Addr),t.place[i]?=some (advN t.mask c' (start t.mask ((tk prog w).hash k))).j→xs[i]?≠some (k,y):=fun c' hc'=>by
   by_cases hlt:c'<c
   ·exact hpre c' hlt
   ·obtain⟨i,h1,h2⟩:=hn (c'-c) (by omega)
    rw[hadd,show c+(c'-c)=c' by omega] at h1
    refine⟨⟨i,h1⟩,fun i' y h1' e=>?_⟩
    have:i'=i:=by
     rw[←Bf S.tb.ris h1',←Bf S.tb.ris h1]
    subst this
    exact h2 (S.hash e)
  obtain⟨met,hmet⟩:∃met,t.probe (FQ es) ((tk prog w).hash k) (advN t.mask c (start t.mask ((tk prog w).hash k)))=some met:=by
   rcases hstop with⟨_,hp⟩| ⟨_,_,_,hp⟩<;>exact⟨_,hp⟩
  split
  case h_2 heq=>exact absurd hmet (heq met)
  rename_i met' heq
  have heq:t.probe (FQ es) ((tk prog w).hash k) (advN t.mask c (start t.mask ((tk prog w).hash k)))=some met':=heq
  rcases hstop with⟨hf,hp⟩| ⟨i,h1,h2,hp⟩
  ·rw[hp] at heq
   cases heq
   dsimp only
   rw[Dp]
   show wpAny _ _ (pure _) _ _ s
   rw[hadd] at hf ⊢
   refine b5 (hF (fun i y e=>?_) (c+n) hf fun c' hc'=> (pre2 c' hc').1)
   have hi:i<xs.length:=(dj.mp e).1
   have hpl:t.place[i]?=some (t.place[i]'(by omega)):=by simp[show i<t.place.size by omega]
   obtain⟨n',e1,w1⟩:=S.tb.fnd i _ ((tk prog w).hash k) hpl (by rw[b8,e];rfl)
   by_cases hlt:n'<c+n
   ·exact(pre2 n' hlt).2 i y (by rw[e1];exact hpl) e
   ·by_cases heq:n'=c+n
    ·subst heq
     exact hf ⟨i,by rw[e1];exact hpl⟩
    ·exact hf (w1 (c+n) (by omega))
  ·rw[hp] at heq
   cases heq
   dsimp only
   rw[hadd] at h1
   have hi:i<xs.length:=by rw[←hsz];exact(eX.mp h1).1
   obtain⟨k',y,ek⟩:=S.of_at hi
   have hky:=S.key i k' y ek
   have seen:∀v,v∈(es.filter fun e=>e.1==(tk prog w).hash k).toList.map (·.2)→∃k' b,v=Value.ref b∧IK prog w s.heap k' b:=fun v hv=>by
    obtain⟨⟨h',v'⟩,hm,rfl⟩:=di.mp hv
    have hm:(h',v')∈es.toList:=by
     have:=hm
     simp only[Array.toList_filter] at this
     exact(et.mp this).1
    rw[S.es,OC] at hm
    obtain⟨⟨k2,b⟩,hb,eb⟩:=di.mp hm
    cases eb
    obtain⟨j,hj⟩:=eD hb
    exact⟨k2,b,rfl,S.key j k2 b hj⟩
   cases hled:t.led with
   |true=>
    simp only[jf,dJ,if_false]
    rw[S.at ek]
    dsimp only
    refine a6 (eW (wpAny_eqBool_tuple hu hky hk ?_))
    refine a6 (fK S.get S.dat S.fits ?_)
    dsimp only
    by_cases hkk:k'=k
    ·subst hkk
     rw[decide_eq_true rfl]
     exact b5 (hT i y ek)
    ·rw[decide_eq_false hkk]
     have hsm:t.sameMemory t.moves t.mask=some true:=by unfold fh.sameMemory;rw[if_pos (by simp)]
     rw[hsm]
     simp only[lP,dJ,if_false,if_true]
     rw[hadd,S.tb.live h1]
     dsimp only
     rw[S.at ek]
     dsimp only
     have hss:isSame (Value.ref y) (Value.ref y)=pure true:=by
      show(if(y==y)=true then _ else _)=_
      rw[if_pos (beq_self_eq_true y)]
     rw[hss]
     refine a6 (b5 ?_)
     simp only[if_true]
     refine a6 (b5 ?_)
     dsimp only
     rw[hadd]
     refine ih (c+n+1) _ rfl (fun c' hc'=>?_) ?_
     ·by_cases hlt:c'<c+n
      ·exact pre2 c' hlt
      ·have:c'=c+n:=by omega
       subst this
       refine⟨⟨i,h1⟩,fun i' y' h1' e=>?_⟩
       have:i'=i:=by
        rw[←Bf S.tb.ris h1',←Bf S.tb.ris h1]
       subst this
       rw[ek] at e
       exact hkk (congrArg gi (eu.inj e))
     ·have hle:c+n<N:=by
       rcases iq (c+n) N with hlt|heq|hgt
       ·exact hlt
       ·exact absurd ⟨i,by rw[←heq];exact h1⟩ hN
       ·exact absurd (pre2 N hgt).1 hN
      exact⟨N,by omega,hN,by omega⟩
   |false=>
    simp only[lO,if_true]
    refine a6 (Sn hk seen ?_)
    simp only[dJ,if_false]
    rw[S.at ek]
    dsimp only
    refine a6 (eW (wpAny_eqBool_tuple hu hky hk ?_))
    refine a6 (fK S.get S.dat S.fits ?_)
    dsimp only
    by_cases hkk:k'=k
    ·subst hkk
     rw[decide_eq_true rfl]
     exact b5 (hT i y ek)
    ·rw[decide_eq_false hkk]
     have hsm:t.sameMemory t.moves t.mask=some true:=by unfold fh.sameMemory;rw[if_pos (by simp)]
     rw[hsm]
     simp only[lP,dJ,if_false,if_true]
     rw[hadd,S.tb.live h1]
     dsimp only
     rw[S.at ek]
     dsimp only
     have hss:isSame (Value.ref y) (Value.ref y)=pure true:=by
      show(if(y==y)=true then _ else _)=_
      rw[if_pos (beq_self_eq_true y)]
     rw[hss]
     refine a6 (b5 ?_)
     simp only[if_true]
     refine a6 (b5 ?_)
     dsimp only
     rw[hadd]
     refine ih (c+n+1) _ rfl (fun c' hc'=>?_) ?_
     ·by_cases hlt:c'<c+n
      ·exact pre2 c' hlt
      ·have:c'=c+n:=by omega
       subst this
       refine⟨⟨i,h1⟩,fun i' y' h1' e=>?_⟩
       have:i'=i:=by
        rw[←Bf S.tb.ris h1',←Bf S.tb.ris h1]
       subst this
       rw[ek] at e
       exact hkk (congrArg gi (eu.inj e))
     ·have hle:c+n<N:=by
       rcases iq (c+n) N with hlt|heq|hgt
       ·exact hlt
       ·exact absurd ⟨i,by rw[←heq];exact h1⟩ hN
       ·exact absurd (pre2 N hgt).1 hN
      exact⟨N,by omega,hN,by omega⟩
end
end StT
namespace StT
local macro_rules | `(tactic| omega) => `(tactic| first | lia | omega)
open PySem PySem.SetTable PyProof.Rows
section
variable{prog:Program}{w:World}{A:dy}{E:Value→a7→Prop}{s:a7}
variable{a:Addr}{xs:List (List Int×Addr)}{o:Obj}{es:Array (Int×Value)}{ep:Nat}{t:fh}
def SetX(prog:Program)(w:World)(h:Heap)(a:Addr)(xs:List (List Int×Addr)):Prop:=∃o es ep t,SetD prog w h a xs o es ep t
theorem Pb{h:Heap}{k:List Int}{x:Addr}(hk:IK prog w h k x)(hg:h.get? a=some o)(he:o.ExactSet):x≠a:=by
 rintro rfl
 obtain⟨o',items,n,ho,hc,_⟩:=hk
 rw[hg] at ho
 cases ho
 rw[he.1] at hc
 exact absurd hc (by decide)
theorem Ck{h h':Heap}{k:List Int}{x:Addr}(hk:IK prog w h k x)(hs:∀u,h.get? x=some u→h'.get? x=some u):IK prog w h' k x:=by
 obtain⟨o',items,n,ho,hc,hd,hi⟩:=hk
 exact⟨o',items,n,hs _ ho,hc,hd,hi⟩
theorem HX(hg:s.heap.get? a=some o)(hd:o.data=.set es ep t)(es':Array (Int×Value))(t':fh):(s.heap.update a (kh es' t')).get? a=some {o with data:=.set es' (ep+1) t'}:=by
 have:=iT (kh es' t') hg (by rw[putSet_of es' t' hd];rfl)
 rw[putSet_of es' t' hd] at this;exact this
theorem LR:(OC xs prog w).length=xs.length:=by simp[OC]
theorem Pc{n:Nat}(hg:s.heap.get? a=some o)(he:o.ExactSet)(hd:o.data=.set es ep t)(hes:es.toList=OC xs prog w)(hkey:∀(i:Nat) (k:List Int) (x:Addr),xs[i]?=some (k,x)→IK prog w s.heap k x)
  (hnd:(xs.map (·.1)).Nodup) (htb:Tb t (xs.map fun p=> (tk prog w).hash p.1)) (hpl:t.plain=true) (hled:t.led=!w.params.followText "set-order") (hn:xs.length=n+1) (h1:n*5<t.mask*3) (h2:t.mask*3≤(n+1)*5) (h3:n<300) {Q:Unit→a7→Prop}
  (h:∀h' xs',iP a s.heap h'→SetX prog w h' a xs'→(∀p,p∈xs'↔p∈xs)→xs'.length=xs.length→Q () {s with heap:=h'}):wpAny (model prog w) A (setRelay a (grown (n+1))) Q E s:=by
 obtain⟨m1,m2,m3,m4⟩:=OB htb.mask h1 h2 h3
 have hsz:es.size=n+1:=by rw[←dg,hes,LR,hn]
 have hfill:t.fill=t.place.size:=by unfold lW;rw[htb.dum];rfl
 have hps:t.place.size=n+1:=by have:=htb.size;rw[a9,hn] at this;exact this
 have hlow:=htb.low
 have hfit:t.fits es.size=true:=by
  unfold fh.fits
  rw[hfill,hsz,hps]
  simp only[beq_self_eq_true,l7,decide_eq_true_eq]
  omega
 unfold setRelay
 refine a6 (fK hg hd hfit ?_)
 dsimp only
 rw[if_neg (by rw[e8];omega)]
 refine a6 ?_
 obtain⟨t',order,el,q1,q2,q3,q4,q5,q6,q7,q8,q9⟩:=Sm m1 (es.map (·.1)) (by rw[Array.size_map,hsz];omega) t.finger (t.movedTo (lQ (grown (n+1))-1)) t.led t.plain
 rw[Array.size_map] at q5 q6 q8
 have el':t.relaid (es.map (·.1)) (grown (n+1))=some (t',order):=el
 rw[el']
 have hfm:(order.filterMap (es[·]?)).toList=order.toList.filterMap fun r=>es[r]?:=by simp
 have hmem:∀r∈order.toList,r<es.size:=fun r hr=>by
  obtain⟨i,hi⟩:=eD hr
  exact q6 i r (by simpa using hi)
 have hes':(order.filterMap (es[·]?)).size=es.size:=by
  rw[←dg,hfm,Bz es _ hmem,dg,q5]
 show wpAny _ _ (if((order.filterMap fun r=>es[r]?).size !=es.size)=true then _ else pure (order.filterMap fun r=>es[r]?,t')) _ _ s
 rw[if_neg (by rw[hes'];simp)]
 refine b5 ?_
 dsimp only
 refine wpAny_storeSet_of hg hd ?_ (by rw[hes',hsz,e8];omega)
 generalize hE:order.filterMap (es[·]?)=es' at*
 have hxs:∀r,r<es.size→∃p,xs[r]?=some p:=fun r hr=> ⟨_,by simp[show r<xs.length by rw[hn];omega];rfl⟩
 have hfx:(order.toList.filterMap fun r=>xs[r]?).length=es.size:=by
  have:=Bz xs.toArray order.toList (fun r hr=>by rw[du,hn];have:=hmem r hr;omega)
  simp only[List.getElem?_toArray] at this
  rw[this,dg,q5]
 have at_:∀i:Nat,(order.toList.filterMap fun r=>xs[r]?)[i]?=(order.toList[i]?).bind fun r=>xs[r]?:=fun i=>by
  have:=Cj xs.toArray order.toList (fun r hr=>by rw[du,hn];have:=hmem r hr;omega) i
  simpa only[List.getElem?_toArray] using this
 have mem:∀p,p∈(order.toList.filterMap fun r=>xs[r]?)↔p∈xs:=fun p=>by
  rw[gF]
  constructor
  ·rintro⟨r,_,e⟩;exact dc e
  ·intro hp
   obtain⟨r,hr⟩:=eD hp
   have hrl:r<es.size:=by rw[hsz,←hn];exact(dj.mp hr).1
   obtain⟨i,hi⟩:=q8 r hrl
   exact⟨r,dc (i:=i) (by simpa using hi),hr⟩
 have hesx:∀i:Nat,es[i]?=(xs[i]?).map fun p=> ((tk prog w).hash p.1,Value.ref p.2):=fun i=>by
  have:es[i]?=es.toList[i]?:=by simp
  rw[this,hes,OC,b8]
 refine h _ (order.toList.filterMap fun r=>xs[r]?) (jU ..) ⟨_,es',ep+1,t',⟨HX hg hd es' t',he,rfl,?_,fun i k x e=>?_,?_,?_,?_,?_,?_⟩⟩ mem (by rw[hfx,hsz,hn])
 ·apply fA
  intro i
  rw[hfm,Cj es _ hmem,OC,b8,at_]
  cases order.toList[i]? with
  |none=>rfl
  |some r=>exact hesx r
 ·have hp:(k,x)∈xs:=(mem _).mp (dc e)
  obtain⟨r,hr⟩:=eD hp
  have ik:=hkey r k x hr
  exact Ck ik fun u hu=> ((jU s.heap a (kh es' t')).2 x (Pb ik hg he)).trans hu
 ·rw[fw]
  refine e7.mpr fun i j hi hj hij e=>?_
  rw[a9] at hi hj
  have e1:=at_ i
  have e2:=at_ j
  rw[b9 hi] at e1
  rw[b9 hj] at e2
  rw[jE,jE] at e
  cases r1:order.toList[i]? with
  |none=>rw[r1] at e1;cases e1
  |some r=>
   cases r2:order.toList[j]? with
   |none=>rw[r2] at e2;cases e2
   |some r'=>
    rw[r1] at e1
    rw[r2] at e2
    have e1:xs[r]?=some _:=e1.symm
    have e2:xs[r']?=some _:=e2.symm
    obtain⟨l1,g1⟩:=dj.mp e1
    obtain⟨l2,g2⟩:=dj.mp e2
    have ee:(xs.map (·.1))[r]'(by simpa using l1)=(xs.map (·.1))[r']'(by simpa using l2):=by rw[jE,jE,g1,g2];exact e
    have nd:=fw.mp hnd
    have:r=r':=by
     rcases iq r r' with hlt|heq|hgt
     ·exact absurd ee (e7.mp nd r r' _ _ hlt)
     ·exact heq
     ·exact absurd ee.symm (e7.mp nd r' r _ _ hgt)
    subst this
    have:=q7 i j r (by simpa using r1) (by simpa using r2)
    omega
 ·have:(order.toList.filterMap fun r=>xs[r]?).map (fun p=> (tk prog w).hash p.1)=order.toList.map fun r=> (es.map (·.1)).getD r 0:=by
   apply fA
   intro i
   rw[b8,at_,b8]
   cases hr:order.toList[i]? with
   |none=>rfl
   |some r=>
    have hrl:=hmem r (dc hr)
    obtain⟨p,hp⟩:=hxs r hrl
    show(xs[r]?).map _=some ((es.map (·.1)).getD r 0)
    rw[hp]
    have e3:=hesx r
    rw[hp] at e3
    obtain⟨l,g⟩:=eX.mp e3
    simp[km,hrl,g]
  rw[this]
  exact q9
 ·rw[q3];exact hpl
 ·rw[hfx,hsz,q1];exact m3
 ·rw[q2];exact hled
end
end StT
namespace StT
local macro_rules | `(tactic| omega) => `(tactic| first | lia | omega)
open PySem PySem.SetTable PyProof.Rows
section
variable{prog:Program}{w:World}{A:dy}{E:Value→a7→Prop}{s:a7}
variable{a:Addr}{xs:List (List Int×Addr)}{o:Obj}{es:Array (Int×Value)}{ep:Nat}{t:fh}
theorem Vz(S:SetX prog w s.heap a xs)(hu:A.units<cLine){k:List Int}{x:Addr}(hk:IK prog w s.heap k x)(hl:xs.length<300){Q:Bool→a7→Prop}
  (hT:∀y,(k,y)∈xs→Q false s)
  (hF:(∀y,(k,y)∉xs)→∀h' xs',iP a s.heap h'→SetX prog w h' a xs'→(∀p,p∈xs'↔p∈xs∨p=(k,x))→xs'.length=xs.length+1→Q true {s with heap:=h'}):
  wpAny (model prog w) A (setAddHashed a (.ref x) ((tk prog w).hash k)) Q E s:=by
 obtain⟨o,es,ep,t,S⟩:=S
 unfold setAddHashed setAddHashedIn
 refine eW (a6 (fK S.get S.dat S.fits ?_))
 dsimp only
 have hbs:byScan (.ref x) es=false:=rfl
 rw[hbs]
 simp only[dJ,if_false]
 obtain⟨e,he,hne⟩:=S.tb.room S.len
 obtain⟨N,hN,eN⟩:=Ug S.tb.mask (Pr.start t.mask ((tk prog w).hash k)) he
 have hm511:t.mask≤511:=by rcases S.tb.mask with h|h|h|h<;>omega
 refine a6 (Jx S hu hk (fun i y e=>?_) (fun hno n hf hw=>?_) 100000 0 none (PY t _) (fun c hc=>absurd hc (ji _)) ⟨N,fj _,by rw[eN];exact hne,by omega⟩)
 ·dsimp only
  exact b5 (hT y (dc e))
 ·dsimp only
  refine a6 (fK S.get S.dat S.fits ?_)
  dsimp only
  obtain⟨p1,p2,p3,p4,p5,p6⟩:=S.tb.put hf hw
  generalize hJ:(advN t.mask n (start t.mask ((tk prog w).hash k))).j=J at*
  generalize hput:t.put J=tp at*
  obtain⟨t1,q⟩:=tp
  dsimp only at p1 p2 p3 p4 p5 p6 ⊢
  rw[a9] at p2
  rw[p4,S.pl]
  simp only[if_true]
  refine a6 (Yn hk ?_)
  simp only[if_true]
  refine a6 (wpAny_storeSet_of S.get S.dat ?_ (by
   rw[Dl _ _ _ (by rw[S.size];exact p2),S.size,e8];omega))
  have hes1:(gz es q ((tk prog w).hash k,.ref x)).toList=OC (xs.take q++(k,x)::xs.drop q) prog w:=by
   rw[BF,S.es]
   simp[OC]
  have hmem:∀p,p∈xs.take q++(k,x)::xs.drop q↔p∈xs∨p=(k,x):=fun p=>by
   rw[dw,dh]
   constructor
   ·rintro(h|h|h)
    ·exact .inl (List.mem_of_mem_take h)
    ·exact .inr h
    ·exact .inl (List.mem_of_mem_drop h)
   ·rintro(h|h)
    ·rw[←fY q xs] at h
     rcases dw.mp h with h|h
     ·exact .inl h
     ·exact .inr (.inr h)
    ·exact .inr (.inl h)
  have hlen:(xs.take q++(k,x)::xs.drop q).length=xs.length+1:=by
   rw[dH,dm,eU,i9];omega
  have hnod:((xs.take q++(k,x)::xs.drop q).map (·.1)).Nodup:=by
   have hxs:(xs.take q).map (·.1)++(xs.drop q).map (·.1)=xs.map (·.1):=by rw[←eG,fY]
   have nd:=S.nd
   rw[←hxs] at nd
   rw[eG,dF]
   have hkn:k∉(xs.take q).map (·.1)++(xs.drop q).map (·.1):=by
    rw[hxs]
    intro hm
    obtain⟨⟨k',y⟩,hp,rfl⟩:=di.mp hm
    obtain⟨i,hi⟩:=eD hp
    exact hno i y hi
   rw[dw,not_or] at hkn
   obtain⟨n1,n2,n3⟩:=eH.mp nd
   refine eH.mpr ⟨n1,dE.mpr ⟨hkn.2,n2⟩,fun b hb c hc=>?_⟩
   rcases dh.mp hc with rfl|hc
   ·rintro rfl;exact hkn.1 hb
   ·exact n3 b hb c hc
  have hsb:=jU s.heap a (kh (gz es q ((tk prog w).hash k,.ref x)) t1)
  have hg1:=HX (s:=s) S.get S.dat (gz es q ((tk prog w).hash k,.ref x)) t1
  have hkey1:∀(i:Nat) (k':List Int) (x':Addr),(xs.take q++(k,x)::xs.drop q)[i]?=some (k',x')→IK prog w (s.heap.update a (kh (gz es q ((tk prog w).hash k,.ref x)) t1)) k' x':=fun i k' x' e=>by
   have ik:IK prog w s.heap k' x':=by
    rcases(hmem _).mp (dc e) with h|h
    ·obtain⟨j,hj⟩:=eD h
     exact S.key j k' x' hj
    ·cases h;exact hk
   exact Ck ik fun u hu=> (hsb.2 x' (Pb ik S.get S.ex)).trans hu
  have htb1:Tb t1 ((xs.take q++(k,x)::xs.drop q).map fun p=> (tk prog w).hash p.1):=by
   simpa using p1
  have hno':∀y,(k,y)∉xs:=fun y hy=>by
   obtain⟨i,hi⟩:=eD hy
   exact hno i y hi
  have hfill:t1.fill=xs.length+1:=by
   unfold lW
   rw[htb1.dum]
   have:=htb1.size
   rw[a9,hlen] at this
   rw[this];rfl
  have hroom:=S.room
  simp only[lO,l7]
  cases htf:t1.tooFull with
  |true=>
   simp only[if_true]
   have htf':t1.mask*3≤(xs.length+1)*5:=by
    unfold fh.tooFull at htf
    rw[hfill] at htf
    simpa using htf
   rw[S.size]
   refine a6 (Pc (s:={s with heap:=s.heap.update a (kh (gz es q ((tk prog w).hash k,.ref x)) t1)}) hg1 S.ex rfl hes1 hkey1 hnod htb1 (by rw[p4];exact S.pl) (by rw[p5];exact S.led) hlen (by rw[p3];exact hroom) htf' hl fun h' xs' sb sx mm ll=>?_)
   refine b5 (hF hno' h' xs' (hsb.trans sb) sx (fun p=> (mm p).trans (hmem p)) (ll.trans hlen))
  |false=>
   simp only[dJ,if_false]
   refine b5 (hF hno' _ _ hsb ⟨_,_,_,t1,hg1,S.ex,rfl,hes1,hkey1,hnod,htb1,by rw[p4];exact S.pl,?_,by rw[p5];exact S.led⟩ hmem hlen)
   unfold fh.tooFull at htf
   rw[hfill] at htf
   rw[hlen]
   simpa using htf
def Ib(ks:List (List Int×Addr))(xs:List (List Int×Addr)):Prop:=(∀p,p∈xs→p∈ks)∧(∀k y,(k,y)∈ks→∃y',(k,y')∈xs)∧xs.length≤ks.length
theorem SetX.keep'{h h':Heap}(S:SetX prog w h a xs)(ha:∀u,h.get? a=some u→h'.get? a=some u)(hk:∀k x,(k,x)∈xs→∀u,h.get? x=some u→h'.get? x=some u):SetX prog w h' a xs:=by
 obtain⟨o,es,ep,t,S⟩:=S
 exact⟨o,es,ep,t,ha _ S.get,S.ex,S.dat,S.es,fun i k x e=>Ck (S.key i k x e) (hk k x (dc e)),S.nd,S.tb,S.pl,S.room,S.led⟩
theorem So{I l:Addr}{items:Array Value}{ps:List (List Int×Addr)}(hh:A.in1.handled=none)(hne:l≠I)(hI:a≠I)(hla:a≠l)(hps:items.toList=ps.map fun p=>Value.ref p.2)(hz:ps.length≤300)(hu:A.units+1<cLine)
  {R:mK→a7→Prop}:∀(n i:Nat) (s:a7) (xs:List (List Int×Addr)),n=ps.length-i→i≤ps.length→s.heap.IsListIter I l i→s.heap.IsList l items→(∀k x,(k,x)∈ps→IK prog w s.heap k x∧x≠I)→SetX prog w s.heap a xs→Ib (ps.take i) xs→
   (∀h' tk' xs',(∀b u,b≠a→b≠I→s.heap.get? b=some u→h'.get? b=some u)→SetX prog w h' a xs'→Ib ps xs'→R (.ok (.ret .none)) {s with heap:=h',toks:=tk'})→
   i6 (model prog w) A (.builtin "set.update.loop" ⟨[.ref a,.ref I],[]⟩) R s:=by
 have W:=Walks.list (A:=A.in1) (prog:=prog) (w:=w) hh I l hne items
 have hsz:items.size=ps.length:=by rw[←dg,hps,a9]
 intro n
 induction n with
 |zero=>
  intro i s xs hn hi hit hl hp hX hS hR
  have:i=ps.length:=by omega
  subst this
  rw[fR] at hS
  refine gM PyProof.Rows.F.entry_set_update_loop ?_
  rw[gK fV _]
  show wpAny _ A.in1 (j8 (.ref I)>>=_) _ _ s
  refine a6 (wpAny_pyNext_list_end hh hit hl (by simp[hsz]) fun h' hk=>?_)
  show wpAny _ A.in1 (ret jm) _ _ _
  refine b5 (hR h' s.toks xs (fun b u _ hb e=>hk b u hb e) (hX.keep' (fun u e=>hk a u hI e) fun k x hx u e=>hk x u (hp k x (hS.1 _ hx)).2 e) hS)
 |succ n ih=>
  intro i s xs hn hi hit hl hp hX hS hR
  have hlt:i<ps.length:=by omega
  obtain⟨⟨k,x⟩,hkx⟩:∃p,ps[i]?=some p:=⟨_,by simp[hlt];rfl⟩
  have hitem:items[i]?=some (.ref x):=by
   have:items[i]?=items.toList[i]?:=by simp
   rw[this,hps,b8,hkx];rfl
  refine gM PyProof.Rows.F.entry_set_update_loop ?_
  rw[gK fV _]
  show wpAny _ A.in1 (j8 (.ref I)>>=_) _ _ s
  refine a6 (wpAny_pyNext_list_item hit hl hitem fun h1 hit1 sb1=>?_)
  have hk1:∀b u,b≠I→s.heap.get? b=some u→h1.get? b=some u:=fun b u hb e=> (sb1.2 b hb).trans e
  have kx:=hp k x (dc hkx)
  have hX1:SetX prog w h1 a xs:=hX.keep' (fun u e=>hk1 a u hI e) fun k x hx u e=>hk1 x u (hp k x (List.mem_of_mem_take (hS.1 _ hx))).2 e
  have ik1:∀k x,(k,x)∈ps→IK prog w h1 k x∧x≠I:=fun k x hx=> ⟨Ck (hp k x hx).1 fun u e=>hk1 x u (hp k x hx).2 e,(hp k x hx).2⟩
  have hl1:h1.IsList l items:=hl.at fun o e=>hk1 l o hne e
  show wpAny _ A.in1 (holding [Value.ref x] (setAdd a (.ref x))>>=_) _ _ _
  refine a6 (eW ?_)
  unfold setAdd
  refine eW ?_
  refine a6 ((tk prog w).pyHash (s:={s with heap:=h1}) hu (ik1 k x (dc hkx)).1 ?_)
  have htake:ps.take (i+1)=ps.take i++[(k,x)]:=by rw[fW,hkx];rfl
  have hlen:xs.length≤i:=by have:=hS.2.2;rw[eU] at this;omega
  refine Vz (s:={s with heap:=h1,toks:=s.toks+(tk prog w).draws k}) hX1 hu (ik1 k x (dc hkx)).1 (by omega) (fun y hy=>?_) (fun hno h2 xs' sb sx mm ll=>?_)
  ·refine b5 ⟨iQ fV _,ih (i+1) _ xs (by omega) (by omega) hit1 hl1 ik1 hX1 ⟨fun p hp'=>by rw[htake];exact gk _ (hS.1 p hp'),fun k' y' hm=>?_,by rw[htake,dH];have:=hS.2.2;omega⟩ fun h' tk' xs' kp sx so=>hR h' tk' xs' (fun b u h1' h2' e=>kp b u h1' h2' (hk1 b u h2' e)) sx so⟩
   rw[htake] at hm
   rcases dw.mp hm with hm|hm
   ·exact hS.2.1 k' y' hm
   ·cases a8.mp hm
    exact⟨y,hy⟩
  ·have keep2:∀b u,b≠a→h1.get? b=some u→h2.get? b=some u:=fun b u hb e=> (sb.2 b hb).trans e
   have nea:∀k x,(k,x)∈ps→x≠a:=fun k x hx=>by
    obtain⟨o,es,ep,t,S⟩:=hX1
    exact Pb (ik1 k x hx).1 S.get S.ex
   refine b5 ⟨iQ fV _,ih (i+1) {s with heap:=h2,toks:=s.toks+(tk prog w).draws k} xs' (by omega) (by omega) (hit1.at fun o e=>keep2 I o (Ne.symm hI) e) (hl1.at fun o e=>keep2 l o (Ne.symm hla) e)
    (fun k x hx=> ⟨Ck (ik1 k x hx).1 fun u e=>keep2 x u (nea k x hx) e,(hp k x hx).2⟩) sx ⟨fun p hp'=>?_,fun k' y' hm=>?_,by rw[htake,dH,ll];have:=hS.2.2;simp;omega⟩ fun h' tk' xs2 kp sx so=>hR h' tk' xs2 (fun b u h1' h2' e=>kp b u h1' h2' (keep2 b u h1' (hk1 b u h2' e))) sx so⟩
   ·rw[htake]
    rcases(mm p).mp hp' with h|h
    ·exact gk _ (hS.1 p h)
    ·exact eS _ (a8.mpr h)
   ·rw[htake] at hm
    rcases dw.mp hm with hm|hm
    ·obtain⟨y2,hy2⟩:=hS.2.1 k' y' hm
     exact⟨y2,(mm _).mpr (.inl hy2)⟩
    ·cases a8.mp hm
     exact⟨x,(mm _).mpr (.inr rfl)⟩
end
end StT
namespace StT
open PySem PySem.SetTable PyProof.Rows
theorem Aj:Slot "set_iterator" "__next__" "set_iterator.__next__" :=
 .of (owner:="set_iterator") (n:="__next__") (by rw[typeLookup_type,builtinLookup_eq_fast];kernel_rfl) (by decide+kernel) (by decide+kernel) (by decide+kernel)
  (by first|exact .inl (by decide+kernel)|exact .inr (by decide+kernel)) (by rw[lG];kernel_rfl)
theorem DG:Slot "set_iterator" "__iter__" "set_iterator.__iter__" :=
 .of (owner:="set_iterator") (n:="__iter__") (by rw[typeLookup_type,builtinLookup_eq_fast];kernel_rfl) (by decide+kernel) (by decide+kernel) (by decide+kernel)
  (by first|exact .inl (by decide+kernel)|exact .inr (by decide+kernel)) (by rw[lG];kernel_rfl)
theorem CS:entryFor table "set_iterator.__next__" =some Builtin.«set_iterator.__next__»:=entryFor_of_tree (by kernel_rfl)
theorem Em:entryFor table "set_iterator.__iter__" =some Builtin.«dict_keyiterator.__iter__»:=
 entryFor_alias (id':="dict_keyiterator.__iter__") (by kernel_rfl) (by first|rfl|decide+kernel| (unfold String.splitOn;simp+decide [String.splitOnAux])) (by decide+kernel) (by kernel_rfl)
theorem GD:entryFor table "set.__iter__" =some Builtin.«frozenset.__iter__»:=
 entryFor_alias (id':="frozenset.__iter__") (by kernel_rfl) (by first|rfl|decide+kernel| (unfold String.splitOn;simp+decide [String.splitOnAux])) (by decide+kernel) (by kernel_rfl)
theorem FF:Manifest.owners.lookup (String.ofList ['r','o','t','a','r','e','t','i','_','t','e','s'].reverse)=some Manifest.sig_set_iterator:=by kernel_rfl
theorem DH(a:Value):argsOk "set_iterator.__next__" ⟨[a],[]⟩:=by
 unfold argsOk;rw[signature?_of (id:="set_iterator.__next__") (n:=['_','_','t','x','e','n','_','_']) (o:=['r','o','t','a','r','e','t','i','_','t','e','s']) (by kernel_rfl) FF];kernel_rfl
theorem FM(a:Value):argsOk "set_iterator.__iter__" ⟨[a],[]⟩:=by
 unfold argsOk;rw[signature?_of (id:="set_iterator.__iter__") (n:=['_','_','r','e','t','i','_','_']) (o:=['r','o','t','a','r','e','t','i','_','t','e','s']) (by kernel_rfl) FF];kernel_rfl
theorem Mf{α:Type}:∀(l:List α) (i:Nat) (h:i<l.length),(l[i]::l.eraseIdx i).Perm l
 |x::l,0,_=>ie.refl _
 |x::l,i+1,h=>by
  have ih:=Mf l i (by simpa using h)
  simp only[List.getElem_cons_succ,List.eraseIdx_cons_succ]
  exact(ie.swap _ _ _).trans (ih.cons x)
theorem Mh{α:Type}(next:Nat→Nat):∀(n k:Nat) (left:List α) (out:Array α),left.length=n→(mf next n k left out).toList.Perm (out.toList++left)
 |0,k,left,out,h=>by
  have:left=[]:=List.length_eq_zero_iff.mp h
  subst this
  simp[mf]
 |n+1,k,left,out,h=>by
  have hlt:next k%left.length<left.length:=md _ (by omega)
  have e:left[next k%left.length]?=some left[next k%left.length]:=by simp[hlt]
  rw[mf,e]
  have ih:=Mh next n (k+1) (left.eraseIdx (next k%left.length)) (out.push left[next k%left.length]) (by rw[List.length_eraseIdx_of_lt hlt];omega)
  refine ih.trans ?_
  rw[iy,fM]
  exact ie.append_left _ (Mf left _ hlt)
theorem OD{α:Type}(next:Nat→Nat)(xs:Array α):(j4 next xs).toList.Perm xs.toList:=by
 have:=Mh next xs.size 0 xs.toList #[] (by simp)
 simp only[List.nil_append] at this
 exact this
def Dq(w:World)(a:Addr)(ep:Nat)(es:Array (Int×Value)):Array (Int×Value):=if w.params.followText "set-order" =true then j4 (w.params.setOrder a ep) es else es
theorem HY(w:World)(a:Addr)(ep:Nat)(es:Array (Int×Value)):(Dq w a ep es).toList.Perm es.toList:=by
 unfold Dq
 split
 ·exact OD _ _
 ·exact ie.refl _
theorem En(w:World)(a:Addr)(ep:Nat)(es:Array (Int×Value)):(Dq w a ep es).size=es.size:=by
 rw[←dg,←dg];exact(HY w a ep es).length_eq
theorem LS{xs:Array Nat}(r:PX xs){i:Nat}(hi:i≤xs.size){slot:Nat}(hs:(i=0∧slot=0)∨(0<i∧∃j,xs[i-1]?=some j∧slot=j+1)):below xs slot=i:=by
 obtain⟨b1,b2,b3⟩:=Ci (j:=slot) r
 rcases hs with⟨rfl,rfl⟩| ⟨h0,j,hj,rfl⟩
 ·apply fU
  intro hne
  have h0:0<xs.size:=by omega
  have:=b2 0 xs[0] (by omega) (by simp[h0])
  omega
 ·have hlt:i-1<xs.size:=(eX.mp hj).1
  rcases iq (below xs (j+1)) i with hl|he|hg
  ·have hx:xs[below xs (j+1)]?=some xs[below xs (j+1)]:=by simp[show below xs (j+1)<xs.size by omega]
   have h1:=b3 _ _ (de _) hx
   by_cases hq:below xs (j+1)=i-1
   ·have hx2:xs[below xs (j+1)]?=some j:=by rw[hq];exact hj
    have:=eu.inj (hx.symm.trans hx2)
    omega
   ·have:=Fv r hx hj (by omega)
    omega
  ·exact he
  ·have hx:xs[i]?=some xs[i]:=by simp[show i<xs.size by omega]
   have h1:=b2 i _ hg hx
   have:=Fv r hj hx (by omega)
   omega
section
variable{prog:Program}{w:World}{A:dy}{E:Value→a7→Prop}{s:a7}
variable{a:Addr}{xs:List (List Int×Addr)}{o:Obj}{es:Array (Int×Value)}{ep:Nat}{t:fh}
def CU(w:World)(h:Heap)(I a:Addr)(t:fh)(ep n i:Nat):Prop:=∃slot:Nat,h.get? I=some {cls:=.type "set_iterator",dict:=none,data:=.fields #[kT slot,kT i,.ref a,kT n,kT ep],slots:=#[]}∧
 (w.params.followText "set-order" =false→(i=0∧slot=0)∨(0<i∧∃j,t.place[i-1]?=some j∧slot=j+1))
theorem GE(hg:s.heap.get? a=some o)(hd:o.data=.set es ep t)(hf:t.fits es.size=true)(hr:PX t.place)(hpl:t.plain=true)(hled:t.led=!w.params.followText "set-order"){i slot:Nat}(hi:i≤es.size)
  (hs:w.params.followText "set-order" =false→(i=0∧slot=0)∨(0<i∧∃j,t.place[i-1]?=some j∧slot=j+1)) {Q:Option (Value×Nat)→a7→Prop}
  (hsome:∀e slot',(Dq w a ep es)[i]?=some e→(w.params.followText "set-order" =false→∃j,t.place[i]?=some j∧slot'=j+1)→Q (some (e.2,slot')) s) (hnone:i=es.size→Q none s):wpAny (model prog w) A (setNext a slot i ep) Q E s:=by
 have hps:t.place.size=es.size:=by
  simp only[fh.fits,dS,beq_iff_eq] at hf
  exact hf.1
 have ask:∀{R:Bool→a7→Prop},R (w.params.followText "set-order") s→wpAny (model prog w) A setsByText R E s:=fun h=>a6 (jB (b5 h))
 unfold setNext
 refine a6 (fK hg hd hf ?_)
 dsimp only
 refine a6 (ask ?_)
 cases hb:w.params.followText "set-order" with
 |true=>
  simp only[if_true]
  rw[if_neg (by simp)]
  refine a6 ?_
  unfold setWalk
  refine a6 (fK hg hd hf ?_)
  dsimp only
  refine a6 (ask ?_)
  rw[hb]
  simp only[if_true]
  refine a6 (jB (b5 ?_))
  refine b5 ?_
  have ho:Dq w a ep es=j4 (w.params.setOrder a ep) es:=by unfold Dq;rw[if_pos hb]
  show Q (((j4 (w.params.setOrder a ep) es)[i]?).map fun e=> (e.2,slot)) s
  rw[←ho]
  cases he:(Dq w a ep es)[i]? with
  |some e=>exact hsome e slot he fun z=>by rw[hb] at z;cases z
  |none=>
   refine hnone ?_
   have:=Array.getElem?_eq_none_iff.mp he
   rw[En] at this
   omega
 |false=>
  rw[hb] at hled
  simp only[dJ,if_false]
  have hdr:(!t.plain&&decide (es.size>1))=false:=by rw[hpl];rfl
  show wpAny _ _ (if(!t.plain&&decide (es.size>1))=true then _ else _) _ _ s
  rw[hdr]
  simp only[dJ,if_false]
  refine a6 ?_
  show wpAny _ _ (if(!t.led&&!es.isEmpty)=true then _ else pure ()) _ _ s
  rw[hled]
  simp only[lO,jf,Bool.false_and,dJ,if_false]
  refine b5 ?_
  rw[LS hr (by omega) (hs hb)]
  have ho:Dq w a ep es=es:=by unfold Dq;rw[if_neg (by rw[hb];decide)]
  by_cases hlt:i<es.size
  ·have e1:es[i]?=some es[i]:=by simp[hlt]
   have e2:t.place[i]?=some (t.place[i]'(by omega)):=by simp[show i<t.place.size by omega]
   rw[e1,e2]
   exact b5 (hsome es[i] _ (by rw[ho];exact e1) fun _=> ⟨_,e2,rfl⟩)
  ·have e1:es[i]?=none:=by simp;omega
   rw[e1]
   exact b5 (hnone (by omega))
end
section
variable{prog:Program}{w:World}{A:dy}{E:Value→a7→Prop}{s:a7}
variable{a I:Addr}{xs:List (List Int×Addr)}{o:Obj}{es:Array (Int×Value)}{ep:Nat}{t:fh}
structure Wk(w:World)(o:Obj)(es:Array (Int×Value))(ep:Nat)(t:fh):Prop where
 cls:o.cls=.type "set"
 dat:o.data=.set es ep t
 fits:t.fits es.size=true
 ris:PX t.place
 pl:t.plain=true
 led:t.led=!w.params.followText "set-order"
theorem SetD.wk(S:SetD prog w s.heap a xs o es ep t):Wk w o es ep t:=⟨S.ex.1,S.dat,S.fits,S.tb.ris,S.pl,S.led⟩
theorem CA(K:Wk w o es ep t)(hg:s.heap.get? a=some o){Q:Array (Int×Value)→a7→Prop}(h:Q es s):wpAny (model prog w) A (l8 a) Q E s:=by
 unfold l8
 exact a6 (fK hg K.dat K.fits (b5 h))
theorem OE(K:Wk w o es ep t)(hg:s.heap.get? a=some o)(hne:a≠I){i:Nat}(hi:i<es.size)(it:CU w s.heap I a t ep es.size i){Q:Option Value→a7→Prop}
  (hQ:∀e h',(Dq w a ep es)[i]?=some e→CU w h' I a t ep es.size (i+1)→iP I s.heap h'→Q (some e.2) {s with heap:=h'}):wpAny (model prog w) A (j8 (.ref I)) Q E s:=by
 obtain⟨slot,ho,hsl⟩:=it
 have hT:s.TypeIs (.ref I) "set_iterator":=⟨_,ho,rfl⟩
 unfold j8
 refine a6 (je (wpAny_callSpecial?_slot (name:=Str.ofString "__next__") hT Aj (gS Aj hT CS ?_ (DH _))))
 refine a6 (b5 ?_)
 refine a6 (wpAny_fieldsOf ho rfl ?_)
 show wpAny _ _ (l8 a>>=_) _ _ s
 refine a6 (CA K hg ?_)
 rw[if_neg (by simp)]
 show wpAny _ _ (setNext a ((slot:Int).toNat) ((i:Int).toNat) ((ep:Int).toNat)>>=_) _ _ s
 simp only[dY]
 refine a6 (GE hg K.dat K.fits K.ris K.pl K.led (iu hi) hsl (fun e slot' he hs'=>?_) fun z=>by omega)
 dsimp only
 refine a6 (j6 ho (by simp) fun h1 ho1 hs1=>?_)
 refine a6 (j6 (s:={s with heap:=h1}) ho1 (by simp) fun h2 ho2 hs2=>?_)
 refine b5 ⟨_,rfl,b5 (hQ e h2 he ⟨slot',?_,fun hb=> .inr ⟨jX _,?_⟩⟩ (hs1.trans hs2))⟩
 ·simpa using ho2
 ·simpa using hs' hb
theorem Pd(K:Wk w o es ep t)(hh:A.handled=none)(hg:s.heap.get? a=some o)(hne:a≠I)(it:CU w s.heap I a t ep es.size es.size){Q:Option Value→a7→Prop}
  (hQ:∀h',Heap.ExtBut I s.heap h'→Q none {s with heap:=h'}):wpAny (model prog w) A (j8 (.ref I)) Q E s:=by
 obtain⟨slot,ho,hsl⟩:=it
 have hT:s.TypeIs (.ref I) "set_iterator":=⟨_,ho,rfl⟩
 unfold j8
 refine a6 (je (wpAny_callSpecial?_slot (name:=Str.ofString "__next__") hT Aj (gS Aj hT CS ?_ (DH _))))
 refine a6 (b5 ?_)
 refine a6 (wpAny_fieldsOf ho rfl ?_)
 show wpAny _ _ (l8 a>>=_) _ _ s
 refine a6 (CA K hg ?_)
 rw[if_neg (by simp)]
 show wpAny _ _ (setNext a ((slot:Int).toNat) ((es.size:Int).toNat) ((ep:Int).toNat)>>=_) _ _ s
 simp only[dY]
 refine a6 (GE hg K.dat K.fits K.ris K.pl K.led (de _) hsl (fun e slot' he hs'=>?_) fun z=>?_)
 ·have:=(eX.mp he).1
  rw[En] at this
  omega
 dsimp only
 refine a6 (j6 ho (by simp) fun h1 ho1 hs1=>?_)
 show wpAny _ _ (newExc (.type "StopIteration") []>>=_) _ _ _
 refine a6 ?_
 simp only[newExc,newTuple]
 refine a6 (il ?_ (by size_fits))
 refine a6 (m:=firstArgMember _ _) (kr (a:=jm) (by first|rfl| (simp only[firstArgMember];rfl)) ?_)
 refine il ?_ (by size_fits)
 simp only[raiseNew]
 refine a6 (wpAny_handled ?_)
 rw[show A.in1.handled=none from hh]
 refine a6 (b5 (wpAny_throw ?_))
 refine a6 (wpAny_isInstance (T:="StopIteration") (b:=true) ⟨_,dN _ rfl,rfl⟩ isSubtype_stop ?_)
 exact b5 (hQ _ ((hs1.extBut.push _).push _))
theorem OF{n i:Nat}(it:CU w s.heap I a t ep n i){Q:Value→a7→Prop}(h:Q (.ref I) s):wpAny (model prog w) A (l9 (.ref I)) Q E s:=by
 obtain⟨slot,ho,_⟩:=it
 have hT:s.TypeIs (.ref I) "set_iterator":=⟨_,ho,rfl⟩
 refine wpAny_pyIter_slot hT DG (gS DG hT Em ?_ (FM _))
 show wpAny _ _ (ret (.ref I)) _ _ s
 exact b5 ⟨_,rfl,"set_iterator",_,hT,Aj.lookup,h⟩
theorem Pe(K:Wk w o es ep t)(hg:s.heap.get? a=some o){Q:Value→a7→Prop}
  (h:Q (.ref s.heap.objs.size) {s with heap:=s.heap.push {cls:=.type "set_iterator",data:=.fields #[kT 0,kT 0,.ref a,kT es.size,kT ep]}}):wpAny (model prog w) A (l9 (.ref a)) Q E s:=by
 have hT:s.TypeIs (.ref a) "set":=⟨_,hg,K.cls⟩
 have ask:∀{A:dy} {E:Value→a7→Prop} {R:Bool→a7→Prop},R (w.params.followText "set-order") s→wpAny (model prog w) A setsByText R E s:=fun h=>a6 (jB (b5 h))
 refine wpAny_pyIter_slot hT PySem.F.slot_set_iter (gS PySem.F.slot_set_iter hT GD ?_ (PySem.F.args_set_iter_1 _))
 unfold Builtin.«frozenset.__iter__»
 refine a6 (a6 (b5 (b5 ?_)))
 refine a6 (a6 (CA K hg (b5 ?_)))
 refine a6 ?_
 unfold setDrawn
 refine a6 (fK hg K.dat K.fits ?_)
 dsimp only
 refine a6 (ask (b5 ?_))
 have hdr:(!w.params.followText "set-order" &&(!t.plain&&decide (es.size>1)))=false:=by rw[K.pl];simp
 show wpAny _ _ (if(!w.params.followText "set-order" &&(!t.plain&&decide (es.size>1)))=true then _ else _) _ _ s
 rw[hdr]
 simp only[dJ,if_false]
 refine a6 (b5 ?_)
 refine a6 (wpAny_setEpoch_of hg K.dat K.fits ?_)
 refine a6 ?_
 unfold newFields
 refine il ?_
 refine b5 ⟨_,rfl,"set_iterator",_,⟨_,dN _ rfl,rfl⟩,Aj.lookup,h⟩
theorem OG(K:Wk w o es ep t)(hh:A.handled=none)(hne:a≠I):Walks prog w A I [I,a] [I] es.size (fun i v=>∃h,(Dq w a ep es)[i]?=some (h,v)) (fun i h=>CU w h I a t ep es.size i∧h.get? a=some o) where
 sub:=fun b hb=>by simp at hb;simp[hb]
 frame:=fun i h h' st hk=>by
  obtain⟨⟨slot,h1,h2⟩,h3⟩:=st
  exact⟨⟨slot,hk I (by simp) _ h1,h2⟩,hk a (by simp) _ h3⟩
 item:=fun i s Q E hi st hQ=>OE K st.2 hne hi st.1 fun e h' he it' sb=>hQ e.2 h' s.toks ⟨e.1,he⟩ ⟨it',(sb.2 a hne).trans st.2⟩ fun b o hb e=> (sb.2 b (fun z=>hb (by simp[z]))).trans e
 done:=fun s Q E st hQ=>Pd K hh st.2 hne st.1 fun h' he=>hQ h' s.toks fun b o hb e=>he b o (fun z=>hb (by simp[z])) e
 self:=fun i s Q E st hQ=>OF st.1 hQ
theorem Pf{r:Addr}{Q:Bool→a7→Prop}(hT:s.TypeIs (.ref r) "set")(h:Q false s):wpAny (model prog w) A (Builtin.List.listLengthHint (.ref r)) Q E s:=by
 unfold Builtin.List.listLengthHint
 refine a6 (wpAny_specialOf hT PySem.F.slot_set_len.lookup ?_)
 generalize hid:("set.__len__" :String)=id0
 wp_delta
 rw[show splitId id0=some ("set","__len__") from by subst hid;decide+kernel]
 subst hid
 refine a6 (wpAny_isInstance (T:="set") (b:=true) hT (by rw[lG];kernel_rfl) ?_)
 refine wpAny_ite_split (fun hab=>absurd hab (by decide)) (fun _=>?_)
 refine wpAny_ite_split (fun _=>?_) (fun hab=>absurd (by decide+kernel) hab)
 refine a6 (wpAny_typeOf hT ?_)
 exact b5 h
theorem Sq(K:Wk w o es ep t):PySem.W.KdlSrc prog w "set" a a es.size (fun i v=>∃h,(Dq w a ep es)[i]?=some (h,v)) (fun h=>h.get? a=some o) where
 type:=fun _ hm=> ⟨_,hm,K.cls⟩
 there:=fun _ hm=> ⟨dr hm,dr hm⟩
 keep:=fun _ _ hm hk=>hk a (.inl rfl) _ hm
 notList:=by decide
 notTuple:=by decide
 hint:=fun _ _ _ _ hm hq=>Pf ⟨_,hm,K.cls⟩ hq
 iter:=fun A s hh hm=> ⟨_,_,(fun _ _ hq=>Pe K hm hq),OG K hh (dU (dr hm)),⟨⟨0,dN _ rfl,fun _=> .inl ⟨rfl,rfl⟩⟩,c9 _ hm⟩⟩
end
end StT
namespace SrtG
open PySem PyProof.Rows
def Mi:Bool→Keyed→Array Keyed→Nat→Nat→Nat→StateT SortSt Sem (Option Nat):=sortPriv%PySem.Builtin.gallop
def BC(left:Bool)(key:Keyed)(arr:Array Keyed)(base i:Nat):StateT eF Sem (Option Bool):=do
 let x←elem' arr (base+i)
 if left then lt' x key else return(←lt' key x).map (!·)
section
variable{prog:Program}{w:World}{A:dy}{E:Value→a7→Prop}{s:a7}
def Oj(prog:Program)(w:World)(A:dy)(E:Value→a7→Prop)(s:a7)(kd:iY)(U:Keyed→Prop)(rk:Keyed→Int):Prop:=
 ∀(st:eF) (x y:Keyed) (Q:Option Bool→eF→Prop),kindOf st=kd→U x→U y→Q (some (decide (rk x<rk y))) st→wpS (model prog w) A E s (lt' x y) Q st
variable{kd:iY}{U:Keyed→Prop}{rk:Keyed→Int}
def RK(rk:Keyed→Int)(xs:Array Keyed)(i:Nat):Int:=match xs[i]? with
 |some p=>rk p
 |none=>0
def AllU(U:Keyed→Prop)(xs:Array Keyed):Prop:=∀(i:Nat) (p:Keyed),xs[i]?=some p→U p
def bt(left:Bool)(rk:Keyed→Int)(key:Keyed)(arr:Array Keyed)(base i:Nat):Bool:=if left then decide (RK rk arr (base+i)<rk key) else !decide (rk key<RK rk arr (base+i))
theorem Sr{left:Bool}{key:Keyed}{arr:Array Keyed}{base i:Nat}{st:eF}{Q:Option Bool→eF→Prop}(C:Oj prog w A E s kd U rk)(hk:kindOf st=kd)(hK:U key)(hU:AllU U arr)(hi:base+i<arr.size)
  (h:Q (some (bt left rk key arr base i)) st):wpS (model prog w) A E s (BC left key arr base i) Q st:=by
 unfold BC
 have e:arr[base+i]?=some arr[base+i]:=getElem?_pos arr (base+i) hi
 rw[elem'_eq,e]
 refine b7 (da ?_)
 have eR:RK rk arr (base+i)=rk arr[base+i]:=by unfold RK;rw[e]
 unfold bt at h
 rw[eR] at h
 cases left with
 |true=>
  rw[if_pos rfl] at h ⊢
  exact C st _ _ _ hk (hU _ _ e) hK h
 |false=>
  rw[if_neg b6] at h ⊢
  exact b7 (C st _ _ _ hk hK (hU _ _ e) (da h))
def Ui(P:Nat→Bool)(n r:Nat):Prop:=r≤n∧(∀i,i<r→P i=true)∧∀i,r≤i→i<n→P i=false
theorem Pg{α:Type}{P:Nat→Bool}{b:Nat→StateT eF Sem (Option Bool)}{n l h:Nat}{st:eF}(hb:∀i (Q:Option Bool→eF→Prop),i<n→Q (some (P i)) st→wpS (model prog w) A E s (b i) Q st)
  (mono:∀i j,i≤j→j<n→P j=true→P i=true) (hl:l≤h) (hn:h≤n) (h1:∀i,i<l→P i=true) (h2:∀i,h≤i→i<n→P i=false):
  wpS (model prog w) A E s (forIn [:n] ((none:Option (Option Nat)),l,h) fun x __s=>
   if __s.snd.fst≥__s.snd.snd then pure (ForInStep.done (none,__s.snd.fst,__s.snd.snd))
   else do
    let __x←b (__s.snd.fst+(__s.snd.snd-__s.snd.fst)/2)
    match __x with
     |some mr=>
      if mr=true then pure (gx (none,__s.snd.fst+(__s.snd.snd-__s.snd.fst)/2+1,__s.snd.snd))
      else pure (gx (none,__s.snd.fst,__s.snd.fst+(__s.snd.snd-__s.snd.fst)/2))
     |x=>pure (ForInStep.done (some none,__s.snd.fst,__s.snd.snd))) (fun c st'=>st'=st∧c.1=none∧Ui P n c.2.2) st:=by
 refine eV (I:=fun x c st'=>st'=st∧∃l h,c=(none,l,h)∧l≤h∧h≤n∧(∀i,i<l→P i=true)∧(∀i,h≤i→i<n→P i=false)∧h-l≤n-x) ?_ ?_ ⟨rfl,l,h,rfl,hl,hn,h1,h2,by omega⟩
 ·rintro x c st' _ hx ⟨rfl,l,h,rfl,hl,hn,h1,h2,hm⟩
  dsimp only
  by_cases hlh:l≥h
  ·rw[if_pos hlh]
   have e:l=h:=by omega
   subst e
   exact da ⟨rfl,rfl,hn,h1,h2⟩
  ·rw[if_neg hlh]
   refine b7 (hb _ _ (by omega) ?_)
   dsimp only
   cases hP:P (l+(h-l)/2) with
   |true=>
    rw[if_pos rfl]
    exact da ⟨rfl,_,_,rfl,by omega,hn,fun i hi=>mono i _ (by omega) (by omega) hP,h2,by omega⟩
   |false=>
    rw[if_neg b6]
    refine da ⟨rfl,_,_,rfl,by omega,by omega,h1,fun i hi hin=>?_,by omega⟩
    cases q:P i with
    |false=>rfl
    |true=>rw[mono _ i hi hin q] at hP;cases hP
 ·rintro c st' ⟨rfl,l,h,rfl,hl,hn,h1,h2,hm⟩
  have e:l=h:=by
   have:max 0 n=n:=by omega
   rw[this] at hm
   omega
  subst e
  exact⟨rfl,rfl,hn,h1,h2⟩
theorem Ax {left : Bool} {key : Keyed} {arr : Array Keyed} {base n hint : Nat} {st : eF} {Q : Option Nat → eF → Prop} (C : Oj prog w A E s kd U rk) (hk : kindOf st = kd) (hK : U key) (hU : AllU U arr) (hb : base + n ≤ arr.size) (hh : hint < n)
    (mono : ∀ i j, i ≤ j → j < n → bt left rk key arr base j = true → bt left rk key arr base i = true)
    (h : ∀ r, Ui (bt left rk key arr base) n r → Q (some r) st) : wpS (model prog w) A E s (Mi left key arr base n hint) Q st := by
  delta Mi
  have hbey : ∀ i (Q : Option Bool → eF → Prop), i < n → Q (some (bt left rk key arr base i)) st → wpS (model prog w) A E s (BC left key arr base i) Q st := fun i Q hi q => Sr C hk hK hU (by omega) q
  have fals : ∀ i j, i ≤ j → j < n → bt left rk key arr base i = false → bt left rk key arr base j = false := fun i j hij hj e => by
    cases q : bt left rk key arr base j with
    | false => rfl
    | true => rw [mono i j hij hj q] at e; cases e
  refine b7 (hbey _ _ hh ?_)
  dsimp only
  cases hP : bt left rk key arr base hint with
  | true =>
    rw [if_pos rfl]
    refine b7 (fT (eV (I := fun x c st' => st' = st ∧ ∃ la o, c = (none, la, o) ∧ la < o ∧ x + 1 ≤ o ∧ hint + la < n ∧ bt left rk key arr base (hint + la) = true)
      (Q := fun c st' => st' = st ∧ ∃ la o, c = (none, la, o) ∧ la < o ∧ hint + la < n ∧ bt left rk key arr base (hint + la) = true ∧ (n - hint ≤ o ∨ bt left rk key arr base (hint + o) = false)) ?_ ?_ ⟨rfl, 0, 1, rfl, by omega, by omega, hh, hP⟩) ?_)
    · rintro x c st' _ hx ⟨rfl, la, o, rfl, h1, h2, h3, h4⟩
      dsimp only
      by_cases ho : o ≥ n - hint
      · rw [if_pos ho]
        exact da ⟨rfl, la, o, rfl, h1, h3, h4, .inl ho⟩
      · rw [if_neg ho]
        refine b7 (hbey _ _ (by omega) ?_)
        dsimp only
        cases hq : bt left rk key arr base (hint + o) with
        | false =>
          rw [if_pos (by decide)]
          exact da ⟨rfl, la, o, rfl, h1, h3, h4, .inr hq⟩
        | true =>
          rw [if_neg (by decide)]
          exact da ⟨rfl, o, _, rfl, by omega, by omega, by omega, hq⟩
    · rintro c st' ⟨rfl, la, o, rfl, h1, h2, h3, h4⟩
      exact ⟨rfl, la, o, rfl, h1, h3, h4, .inl (by have : max 0 n = n := by omega
                                                   omega)⟩
    · rintro c st' ⟨rfl, la, o, rfl, h1, h3, h4, h5⟩
      dsimp only
      refine b7 (fT (Pg (α := Unit) hbey mono (by omega) (by omega) (fun i hi => mono i (hint + la) (by omega) h3 h4) (fun i hi hin => ?_)) ?_)
      · rcases h5 with h5 | h5
        · omega
        · exact fals (hint + o) i (by omega) hin h5
      · rintro ⟨c1, c2, c3⟩ st'' ⟨rfl, e, pt⟩
        cases e
        exact da (h _ pt)
  | false =>
    rw [if_neg b6]
    refine b7 (fT (eV (I := fun x c st' => st' = st ∧ ∃ la o, c = (none, la, o) ∧ la < o ∧ x + 1 ≤ o ∧ la ≤ hint ∧ bt left rk key arr base (hint - la) = false)
      (Q := fun c st' => st' = st ∧ ∃ la o, c = (none, la, o) ∧ la < o ∧ la ≤ hint ∧ bt left rk key arr base (hint - la) = false ∧ (hint + 1 ≤ o ∨ bt left rk key arr base (hint - o) = true)) ?_ ?_ ⟨rfl, 0, 1, rfl, by omega, by omega, by omega, hP⟩) ?_)
    · rintro x c st' _ hx ⟨rfl, la, o, rfl, h1, h2, h3, h4⟩
      dsimp only
      by_cases ho : o ≥ hint + 1
      · rw [if_pos ho]
        exact da ⟨rfl, la, o, rfl, h1, h3, h4, .inl ho⟩
      · rw [if_neg ho]
        refine b7 (hbey _ _ (by omega) ?_)
        dsimp only
        cases hq : bt left rk key arr base (hint - o) with
        | true =>
          rw [if_pos rfl]
          exact da ⟨rfl, la, o, rfl, h1, h3, h4, .inr hq⟩
        | false =>
          rw [if_neg b6]
          exact da ⟨rfl, o, _, rfl, by omega, by omega, by omega, hq⟩
    · rintro c st' ⟨rfl, la, o, rfl, h1, h2, h3, h4⟩
      exact ⟨rfl, la, o, rfl, h1, h3, h4, .inl (by have : max 0 n = n := by omega
                                                   omega)⟩
    · rintro c st' ⟨rfl, la, o, rfl, h1, h3, h4, h5⟩
      dsimp only
      refine b7 (fT (Pg (α := Unit) hbey mono (by omega) (by omega) (fun i hi => ?_) (fun i hi hin => fals (hint - la) i hi hin h4)) ?_)
      · rcases h5 with h5 | h5
        · omega
        · exact mono i (hint - o) (by omega) (by omega) h5
      · rintro ⟨c1, c2, c3⟩ st'' ⟨rfl, e, pt⟩
        cases e
        exact da (h _ pt)
end
local macro_rules | `(tactic| omega) => `(tactic| first | lia | omega)
open PySem PyProof.Rows
variable{rk:Keyed→Int}
def Eo(rk:Keyed→Int)(a:Array Keyed):Prop:=∀i j,i≤j→j<a.size→RK rk a i≤RK rk a j
structure Mrg(rk:Keyed→Int)(a b out:Array Keyed)(i j:Nat):Prop where
 hi:i≤a.size
 hj:j≤b.size
 perm:out.toList.Perm (a.toList.take i++b.toList.take j)
 srt:out.toList.Pairwise fun x y=>rk x≤rk y
 ha:∀x,x∈out.toList→∀y,i≤y→y<a.size→rk x≤RK rk a y
 hb:∀x,x∈out.toList→∀y,j≤y→y<b.size→rk x≤RK rk b y
structure Fin2(rk:Keyed→Int)(a b r:Array Keyed):Prop where
 perm:r.toList.Perm (a.toList++b.toList)
 srt:r.toList.Pairwise fun x y=>rk x≤rk y
theorem An{a:Array Keyed}{i:Nat}(h:i<a.size):RK rk a i=rk a[i]:=by
 unfold RK
 rw[getElem?_pos a i h]
theorem Mrg.sym{a b out:Array Keyed}{i j:Nat}(m:Mrg rk a b out i j):Mrg rk b a out j i:=
 ⟨m.hj,m.hi,m.perm.trans gB,m.srt,m.hb,m.ha⟩
theorem Mrg.pushA{a b out:Array Keyed}{i j:Nat}(m:Mrg rk a b out i j)(sa:Eo rk a)(h:i<a.size)(hb:∀y,j≤y→y<b.size→rk a[i]≤RK rk b y):Mrg rk a b (out.push a[i]) (i+1) j:=by
 have e:(out.push a[i]).toList=out.toList++[a[i]]:=iy ..
 have t:a.toList.take (i+1)=a.toList.take i++[a[i]]:=by
  rw[List.take_succ]
  have:a.toList[i]?=some a[i]:=by rw[dQ];exact getElem?_pos a i h
  rw[this];rfl
 refine⟨h,m.hj,?_,?_,?_,?_⟩
 ·rw[e,t]
  have p1:=m.perm.append_right [a[i]]
  refine p1.trans ?_
  rw[fM,fM]
  exact ie.append_left _ gB
 ·rw[e,jM]
  refine⟨m.srt,iI _ _,fun x hx y hy=>?_⟩
  cases a8.mp hy
  have:=m.ha x hx i (de _) h
  rwa[An h] at this
 ·intro x hx y hy hys
  rw[e] at hx
  rcases dw.mp hx with hx|hx
  ·exact m.ha x hx y (by omega) hys
  ·cases a8.mp hx
   have:=sa i y (by omega) hys
   rwa[An h] at this
 ·intro x hx y hy hys
  rw[e] at hx
  rcases dw.mp hx with hx|hx
  ·exact m.hb x hx y hy hys
  ·cases a8.mp hx
   exact hb y hy hys
theorem Mrg.pushB{a b out:Array Keyed}{i j:Nat}(m:Mrg rk a b out i j)(sb:Eo rk b)(h:j<b.size)(ha:∀y,i≤y→y<a.size→rk b[j]≤RK rk a y):Mrg rk a b (out.push b[j]) i (j+1):=(m.sym.pushA sb h ha).sym
theorem Ic(a:Array Keyed)(i k:Nat)(h:i+k<a.size):a.extract i (i+(k+1))=(a.extract i (i+k)).push a[i+k]:=by
 apply jo
 rw[iy,fb,fb,eC,eC]
 have e1:i+(k+1)-i=k+1:=by omega
 have e2:i+k-i=k:=by omega
 rw[e1,e2,List.take_succ,gh,dQ,getElem?_pos a (i+k) h]
 rfl
theorem Mrg.appA{a b:Array Keyed}{i j:Nat}:∀(k:Nat) {out:Array Keyed},Mrg rk a b out i j→Eo rk a→i+k≤a.size→(∀x,x<k→∀y,j≤y→y<b.size→RK rk a (i+x)≤RK rk b y)→Mrg rk a b (out++a.extract i (i+k)) (i+k) j
 |0,out,m,_,_,_=>by
  have:out++a.extract i (i+0)=out:=by
   apply jo
   rw[gO,fb,eC]
   have:i+0-i=0:=by omega
   rw[this,lN,ic]
  rw[this];exact m
 |k+1,out,m,sa,h,hb=>by
  have m':=Mrg.appA k m sa (by omega) fun x hx=>hb x (by omega)
  have hk:i+k<a.size:=by omega
  rw[Ic a i k hk,Array.append_push]
  exact m'.pushA sa hk fun y h1 h2=>by
   have:=hb k (by omega) y h1 h2
   rwa[An hk] at this
theorem Mrg.appB{a b:Array Keyed}{i j:Nat}(k:Nat){out:Array Keyed}(m:Mrg rk a b out i j)(sb:Eo rk b)(h:j+k≤b.size)(ha:∀x,x<k→∀y,i≤y→y<a.size→RK rk b (j+x)≤RK rk a y):Mrg rk a b (out++b.extract j (j+k)) i (j+k):=(Mrg.appA k m.sym sb h ha).sym
theorem Mrg.fin{a b out:Array Keyed}(m:Mrg rk a b out a.size b.size):Fin2 rk a b out:=by
 have p:=m.perm
 rw[←dg,←dg,fR,fR] at p
 exact⟨p,m.srt⟩
theorem Mrg.restAB{a b out:Array Keyed}{i j:Nat}(m:Mrg rk a b out i j)(sa:Eo rk a)(sb:Eo rk b)(h:∀x y,i≤x→x<a.size→j≤y→y<b.size→RK rk a x≤RK rk b y):Fin2 rk a b (out++a.extract i a.size++b.extract j b.size):=by
 have hi:=m.hi
 have hj:=m.hj
 have m1:=m.appA (a.size-i) sa (by omega) fun x hx y h1 h2=>h _ _ (by omega) (by omega) h1 h2
 have e1:i+(a.size-i)=a.size:=by omega
 rw[e1] at m1
 have m2:=m1.appB (b.size-j) sb (by omega) fun x hx y h1 h2=>by omega
 have e2:j+(b.size-j)=b.size:=by omega
 rw[e2] at m2
 exact m2.fin
theorem Mrg.restBA{a b out:Array Keyed}{i j:Nat}(m:Mrg rk a b out i j)(sa:Eo rk a)(sb:Eo rk b)(h:∀x y,i≤x→x<a.size→j≤y→y<b.size→RK rk b y≤RK rk a x):Fin2 rk a b (out++b.extract j b.size++a.extract i a.size):=by
 have f:=m.sym.restAB sb sa fun x y h1 h2 h3 h4=>h y x h3 h4 h1 h2
 exact⟨f.perm.trans gB,f.srt⟩
end SrtG
namespace SrtG
local macro_rules | `(tactic| omega) => `(tactic| first | lia | omega)
open PySem PyProof.Rows
def Jy:Array Keyed→Array Keyed→StateT SortSt Sem (Array Keyed):=sortPriv%PySem.Builtin.mergeLo
def Mj:Nat→StateT SortSt Sem Unit:=sortPriv%PySem.Builtin.setMinGallop
theorem LU(g:Nat):Mj g=modify fun s=>kc (kindOf s) (arrOf s) (pendingOf s) g (iG s):=rfl
abbrev dn(a b out:Array Keyed)(ia ib:Nat):Array Keyed:=out++a.extract ia a.size++b.extract ib b.size
abbrev la(a b out:Array Keyed)(ia ib:Nat):Array Keyed:=out++b.extract ib b.size++a.extract ia a.size
section
variable{prog:Program}{w:World}{A:dy}{E:Value→a7→Prop}{s:a7}{kd:iY}{U:Keyed→Prop}{rk:Keyed→Int}
structure Like(st st':eF):Prop where
 kd:kindOf st'=kindOf st
 arr:arrOf st'=arrOf st
 pd:pendingOf st'=pendingOf st
 fl:iG st'=iG st
theorem Like.refl(st:eF):Like st st:=⟨rfl,rfl,rfl,rfl⟩
theorem Cm{g:Nat}{st0 st:eF}{Q:Unit→eF→Prop}(l:Like st0 st)(h:∀st',Like st0 st'→Q () st'):wpS (model prog w) A E s (Mj g) Q st:=by
 rw[LU]
 exact iL (h _ ⟨l.kd,l.arr,l.pd,l.fl⟩)
theorem AK{arr:Array Keyed}{i:Nat}{st:eF}{Q:Keyed→eF→Prop}(hi:i<arr.size)(h:Q arr[i] st):wpS (model prog w) A E s (elem' arr i) Q st:=by
 rw[elem'_eq,getElem?_pos arr i hi]
 exact da h
structure Hd(rk:Keyed→Int)(a b out:Array Keyed)(i j n:Nat):Prop where
 m:Mrg rk a b out i j
 hi:i+1<a.size
 hj:j<b.size
 hn:n≤i+j
theorem Jz{a b:Array Keyed}{st:eF}{Q:Array Keyed→eF→Prop}(C:Oj prog w A E s kd U rk)(hk:kindOf st=kd)(uA:AllU U a)(uB:AllU U b)(sa:Eo rk a)(sb:Eo rk b)(ha0:0<a.size)(hb0:0<b.size)
  (hfst:RK rk b 0≤RK rk a 0) (hlst:RK rk b (b.size-1)≤RK rk a (a.size-1))
  (h:∀r st',Like st st'→Fin2 rk a b r→Q r st'):wpS (model prog w) A E s (Jy a b) Q st:=by
 have Udn:∀{out i j},Mrg rk a b out i j→i=a.size∨j=b.size→Fin2 rk a b (dn a b out i j):=fun m hh=>m.restAB sa sb fun x y _ _ _ _=>by omega
 have Ula:∀{out i j},Mrg rk a b out i j→i+1=a.size→Fin2 rk a b (la a b out i j):=fun{out i j} m hh=>m.restBA sa sb fun x y h1 h2 h3 h4=>by
  have e1:=sb y (b.size-1) (by omega) (by omega)
  have e:x=a.size-1:=by omega
  subst e
  omega
 have uAt:∀{i} (hi:i<a.size),U a[i]:=fun hi=>uA _ _ (getElem?_pos a _ hi)
 have uBt:∀{i} (hi:i<b.size),U b[i]:=fun hi=>uB _ _ (getElem?_pos b _ hi)
 delta Jy
 refine b7 (jJ (iV ⟨rfl,?_⟩))
 refine b7 (AK hb0 ?_)
 have m0:Mrg rk a b #[] 0 0:=⟨by omega,by omega,ie.nil,iw,(fun x hx=>by cases hx),(fun x hx=>by cases hx)⟩
 have m1:Mrg rk a b #[b[0]] 0 1:=m0.pushB sb hb0 fun y _ hy=>by
  have e1:=sa 0 y (by omega) hy
  rw[←An (rk:=rk) hb0]
  omega
 dsimp only
 by_cases c1:1=b.size
 ·rw[if_pos (beq_iff_eq.mpr c1)]
  exact da (h _ _ (Like.refl _) (Udn m1 (.inr c1)))
 rw[if_neg (fun q=>c1 (beq_iff_eq.mp q))]
 by_cases c2:0+1=a.size
 ·rw[if_pos (beq_iff_eq.mpr c2)]
  exact da (h _ _ (Like.refl _) (Ula m1 c2))
 rw[if_neg (fun q=>c2 (beq_iff_eq.mp q))]
 refine b7 (jg ?_)
 refine b7 (fT (eV (I:=fun x c st'=>Like st st'∧∃out i j mg,c=(none,out,i,j,mg)∧Hd rk a b out i j (x+1))
  (Q:=fun c st'=>Like st st'∧∃r,c.1=some r∧Fin2 rk a b r) ?_ ?_ ⟨Like.refl _,_,_,_,_,rfl,m1,by omega,by omega,by omega⟩) ?_)
 ·rintro x c st1 _ hx ⟨lk,out,i,j,mg,rfl,hd⟩
  dsimp only
  refine b7 (fT (eV (I:=fun _ c st'=>Like st st'∧∃out i j ac bc,c=(none,out,i,j,ac,bc)∧Hd rk a b out i j (x+1))
   (Q:=fun c st'=>Like st st'∧((∃r,c.1=some r∧Fin2 rk a b r)∨∃out i j ac bc,c=(none,out,i,j,ac,bc)∧Hd rk a b out i j (x+1))) ?_ ?_ ⟨lk,_,_,_,_,_,rfl,hd⟩) ?_)
  ·rintro x1 c st2 _ hx1 ⟨lk,out,i,j,ac,bc,rfl,hd⟩
   have hia:i<a.size:=by have:=hd.hi;omega
   have hjb:=hd.hj
   have hin:=hd.hn
   dsimp only
   refine b7 (AK hd.hj ?_)
   refine b7 (AK hia ?_)
   refine b7 (C _ _ _ _ (lk.kd.trans hk) (uBt hd.hj) (uAt hia) ?_)
   dsimp only
   by_cases hlt:rk b[j]<rk a[i]
   ·rw[if_pos (by exact decide_eq_true hlt)]
    have m:=hd.m.pushB sb hd.hj fun y h1 h2=>by
     have:=sa i y h1 h2
     rw[An hia] at this
     omega
    refine b7 (AK hd.hj ?_)
    by_cases c3:j+1=b.size
    ·rw[if_pos (beq_iff_eq.mpr c3)]
     exact da ⟨lk,.inl ⟨_,rfl,Udn m (.inr c3)⟩⟩
    rw[if_neg (fun q=>c3 (beq_iff_eq.mp q))]
    have hd':Hd rk a b (out.push b[j]) i (j+1) (x+1):=⟨m,hd.hi,by have:=hd.hj;omega,by omega⟩
    split
    ·exact da ⟨lk,.inr ⟨_,_,_,_,_,rfl,hd'⟩⟩
    ·exact da ⟨lk,_,_,_,_,_,rfl,hd'⟩
   ·rw[if_neg (fun q=>hlt (of_decide_eq_true q))]
    have m:=hd.m.pushA sa hia fun y h1 h2=>by
     have:=sb j y h1 h2
     rw[An hd.hj] at this
     omega
    refine b7 (AK hia ?_)
    by_cases c3:i+1+1=a.size
    ·rw[if_pos (beq_iff_eq.mpr c3)]
     exact da ⟨lk,.inl ⟨_,rfl,Ula m c3⟩⟩
    rw[if_neg (fun q=>c3 (beq_iff_eq.mp q))]
    have hd':Hd rk a b (out.push a[i]) (i+1) j (x+1):=⟨m,by have:=hd.hi;omega,hd.hj,by omega⟩
    split
    ·exact da ⟨lk,.inr ⟨_,_,_,_,_,rfl,hd'⟩⟩
    ·exact da ⟨lk,_,_,_,_,_,rfl,hd'⟩
  ·rintro c st2 ⟨lk,hh⟩
   exact⟨lk,.inr hh⟩
  rintro c st2 ⟨lk,⟨r,e,f⟩| ⟨out,i,j,ac,bc,rfl,hd⟩⟩
  ·obtain⟨c1,c2⟩:=c
   cases e
   exact da ⟨lk,_,rfl,f⟩
  dsimp only
  refine b7 (jJ (iV ⟨rfl,?_⟩))
  refine b7 (fT (eV (I:=fun y c st'=>Like st st'∧∃out i j mg ac bc,c=(none,out,i,j,mg,ac,bc)∧Hd rk a b out i j (x+1+y))
   (Q:=fun c st'=>Like st st'∧((∃r,c.1=some r∧Fin2 rk a b r)∨∃out i j mg ac bc,c=(none,out,i,j,mg,ac,bc)∧Hd rk a b out i j (x+1+1))) ?_ ?_ ⟨lk,_,_,_,_,_,_,rfl,hd⟩) ?_)
  ·rintro x1 c st2 _ hx1 ⟨lk,out,i,j,mg,ac,bc,rfl,hd⟩
   have hia:i<a.size:=by have:=hd.hi;omega
   have hjb:=hd.hj
   have hin:=hd.hn
   dsimp only
   refine dite (mg>1) (fun hmg=>?_) (fun hmg=>?_)
   all_goals first|rw[if_pos hmg]|rw[if_neg hmg]
   all_goals
    refine b7 (Cm lk fun st3 lk=>?_)
    refine b7 (AK hjb ?_)
    refine b7 (Ax C (lk.kd.trans hk) (uBt hjb) uA (by omega) (by omega) ?_ ?_)
    ·intro p q hpq hq e
     unfold bt at e ⊢
     rw[if_neg b6] at e ⊢
     have e':=of_decide_eq_false (fO _|>.mp e)
     have:=sa (i+p) (i+q) (by omega) (by omega)
     exact(fO _).mpr (decide_eq_false (by omega))
    rintro k ⟨kn,kt,kf⟩
    have kt':∀x,x<k→RK rk a (i+x)≤RK rk b j:=fun x hx=>by
     have e:=kt x hx
     unfold bt at e
     rw[if_neg b6] at e
     have e':=of_decide_eq_false (fO _|>.mp e)
     rw[An hjb]
     omega
    have kf':∀y,i+k≤y→y<a.size→rk b[j]≤RK rk a y:=fun y h1 h2=>by
     have e:=kf (y-i) (by omega) (by omega)
     unfold bt at e
     rw[if_neg b6] at e
     have e':=of_decide_eq_true (kl _|>.mp e)
     have ey:i+(y-i)=y:=by omega
     rw[ey] at e'
     omega
    have m:=hd.m.appA k sa (by omega) fun x hx y h1 h2=>by
     have:=sb j y h1 h2
     have:=kt' x hx
     omega
    dsimp only
    by_cases k0:k>0
    ·rw[if_pos k0]
     by_cases c3:i+k+1=a.size
     ·rw[if_pos (beq_iff_eq.mpr c3)]
      exact da ⟨lk,.inl ⟨_,rfl,Ula m c3⟩⟩
     rw[if_neg (fun q=>c3 (beq_iff_eq.mp q))]
     by_cases c4:i+k=a.size
     ·rw[if_pos (beq_iff_eq.mpr c4)]
      exact da ⟨lk,.inl ⟨_,rfl,Udn m (.inl c4)⟩⟩
     rw[if_neg (fun q=>c4 (beq_iff_eq.mp q))]
     have hi':i+k<a.size:=by omega
     have hi2:i+k+1<a.size:=by omega
     have hn':x+1+x1≤i+k+j:=by omega
     refine b7 (AK hjb ?_)
     have m2:=m.pushB sb hjb kf'
     by_cases c5:j+1=b.size
     ·rw[if_pos (beq_iff_eq.mpr c5)]
      exact da ⟨lk,.inl ⟨_,rfl,Udn m2 (.inr c5)⟩⟩
     rw[if_neg (fun q=>c5 (beq_iff_eq.mp q))]
     refine b7 (AK hi' ?_)
     refine b7 (Ax C (lk.kd.trans hk) (uAt hi') uB (by omega) (by omega) ?_ ?_)
     ·intro p q hpq hq e
      unfold bt at e ⊢
      rw[if_pos rfl] at e ⊢
      have e':=of_decide_eq_true e
      have:=sb (j+1+p) (j+1+q) (by omega) (by omega)
      exact decide_eq_true (by omega)
     rintro k2 ⟨k2n,k2t,k2f⟩
     have k2t':∀x,x<k2→∀y,_≤y→y<a.size→RK rk b (j+1+x)≤RK rk a y:=fun x hx y h1 h2=>by
      have e:=k2t x hx
      unfold bt at e
      rw[if_pos rfl] at e
      have e':=of_decide_eq_true e
      have:=sa _ y h1 h2
      rw[An hi'] at this
      omega
     have k2f':∀y,j+1+k2≤y→y<b.size→rk (a[i+k]'hi')≤RK rk b y:=fun y h1 h2=>by
      have e:=k2f (y- (j+1)) (by omega) (by omega)
      unfold bt at e
      rw[if_pos rfl] at e
      have e':=of_decide_eq_false e
      have ey:j+1+(y- (j+1))=y:=by omega
      rw[ey] at e'
      omega
     dsimp only
     by_cases k20:k2>0
     ·rw[if_pos k20]
      have m3:=m2.appB k2 sb (by omega) k2t'
      by_cases c6:j+1+k2=b.size
      ·rw[if_pos (beq_iff_eq.mpr c6)]
       exact da ⟨lk,.inl ⟨_,rfl,Udn m3 (.inr c6)⟩⟩
      rw[if_neg (fun q=>c6 (beq_iff_eq.mp q))]
      have m4:=m3.pushA sa hi' k2f'
      refine b7 (AK hi' ?_)
      split
      ·rename_i c7
       exact da ⟨lk,.inl ⟨_,rfl,Ula m4 (beq_iff_eq.mp c7)⟩⟩
      ·rename_i c7
       have c7':¬_=_:=fun q=>c7 (beq_iff_eq.mpr q)
       split
       ·exact da ⟨lk,.inr ⟨_,_,_,_,_,_,rfl,m4,by omega,by omega,by omega⟩⟩
       ·exact da ⟨lk,_,_,_,_,_,_,rfl,m4,by omega,by omega,by omega⟩
     ·rw[if_neg k20]
      have e2:j+1+k2=j+1:=by omega
      rw[e2] at k2f'
      have m4:=m2.pushA sa hi' k2f'
      refine b7 (AK hi' ?_)
      split
      ·rename_i c7
       exact da ⟨lk,.inl ⟨_,rfl,Ula m4 (beq_iff_eq.mp c7)⟩⟩
      ·rename_i c7
       have c7':¬_=_:=fun q=>c7 (beq_iff_eq.mpr q)
       split
       ·exact da ⟨lk,.inr ⟨_,_,_,_,_,_,rfl,m4,by omega,by omega,by omega⟩⟩
       ·exact da ⟨lk,_,_,_,_,_,_,rfl,m4,by omega,by omega,by omega⟩
    ·rw[if_neg k0]
     have e0:i+k=i:=by omega
     rw[e0] at kf'
     clear m
     have m:=hd.m
     have hi2:=hd.hi
     have hi':=hia
     have hn':=hin
     refine b7 (AK hjb ?_)
     have m2:=m.pushB sb hjb kf'
     by_cases c5:j+1=b.size
     ·rw[if_pos (beq_iff_eq.mpr c5)]
      exact da ⟨lk,.inl ⟨_,rfl,Udn m2 (.inr c5)⟩⟩
     rw[if_neg (fun q=>c5 (beq_iff_eq.mp q))]
     refine b7 (AK hi' ?_)
     refine b7 (Ax C (lk.kd.trans hk) (uAt hi') uB (by omega) (by omega) ?_ ?_)
     ·intro p q hpq hq e
      unfold bt at e ⊢
      rw[if_pos rfl] at e ⊢
      have e':=of_decide_eq_true e
      have:=sb (j+1+p) (j+1+q) (by omega) (by omega)
      exact decide_eq_true (by omega)
     rintro k2 ⟨k2n,k2t,k2f⟩
     have k2t':∀x,x<k2→∀y,_≤y→y<a.size→RK rk b (j+1+x)≤RK rk a y:=fun x hx y h1 h2=>by
      have e:=k2t x hx
      unfold bt at e
      rw[if_pos rfl] at e
      have e':=of_decide_eq_true e
      have:=sa _ y h1 h2
      rw[An hi'] at this
      omega
     have k2f':∀y,j+1+k2≤y→y<b.size→rk (a[i]'hi')≤RK rk b y:=fun y h1 h2=>by
      have e:=k2f (y- (j+1)) (by omega) (by omega)
      unfold bt at e
      rw[if_pos rfl] at e
      have e':=of_decide_eq_false e
      have ey:j+1+(y- (j+1))=y:=by omega
      rw[ey] at e'
      omega
     dsimp only
     by_cases k20:k2>0
     ·rw[if_pos k20]
      have m3:=m2.appB k2 sb (by omega) k2t'
      by_cases c6:j+1+k2=b.size
      ·rw[if_pos (beq_iff_eq.mpr c6)]
       exact da ⟨lk,.inl ⟨_,rfl,Udn m3 (.inr c6)⟩⟩
      rw[if_neg (fun q=>c6 (beq_iff_eq.mp q))]
      have m4:=m3.pushA sa hi' k2f'
      refine b7 (AK hi' ?_)
      split
      ·rename_i c7
       exact da ⟨lk,.inl ⟨_,rfl,Ula m4 (beq_iff_eq.mp c7)⟩⟩
      ·rename_i c7
       have c7':¬_=_:=fun q=>c7 (beq_iff_eq.mpr q)
       split
       ·exact da ⟨lk,.inr ⟨_,_,_,_,_,_,rfl,m4,by omega,by omega,by omega⟩⟩
       ·exact da ⟨lk,_,_,_,_,_,_,rfl,m4,by omega,by omega,by omega⟩
     ·rw[if_neg k20]
      have e2:j+1+k2=j+1:=by omega
      rw[e2] at k2f'
      have m4:=m2.pushA sa hi' k2f'
      refine b7 (AK hi' ?_)
      split
      ·rename_i c7
       exact da ⟨lk,.inl ⟨_,rfl,Ula m4 (beq_iff_eq.mp c7)⟩⟩
      ·rename_i c7
       have c7':¬_=_:=fun q=>c7 (beq_iff_eq.mpr q)
       split
       ·exact da ⟨lk,.inr ⟨_,_,_,_,_,_,rfl,m4,by omega,by omega,by omega⟩⟩
       ·exact da ⟨lk,_,_,_,_,_,_,rfl,m4,by omega,by omega,by omega⟩
  ·rintro c st2 ⟨lk,out,i,j,mg,ac,bc,rfl,hd⟩
   have e:max 0 (a.size+b.size)=a.size+b.size:=by omega
   rw[e] at hd
   exact⟨lk,.inr ⟨_,_,_,_,_,_,rfl,hd.m,hd.hi,hd.hj,by have:=hd.hn;omega⟩⟩
  rintro c st2 ⟨lk,⟨r,e,f⟩| ⟨out,i,j,mg,ac,bc,rfl,hd⟩⟩
  ·obtain⟨c1,c2⟩:=c
   cases e
   exact da ⟨lk,_,rfl,f⟩
  dsimp only
  refine b7 (Cm lk fun st3 lk=>?_)
  exact da ⟨lk,_,_,_,_,rfl,hd⟩
 ·rintro c st1 ⟨lk,out,i,j,mg,rfl,hd⟩
  have e:max 0 (a.size+b.size)=a.size+b.size:=by omega
  rw[e] at hd
  have:=hd.hn
  have:=hd.hi
  have:=hd.hj
  omega
 ·rintro c st1 ⟨lk,r,e,f⟩
  obtain⟨c1,c2⟩:=c
  cases e
  exact da (h _ _ lk f)
end
end SrtG
namespace SrtG
local macro_rules | `(tactic| omega) => `(tactic| first | lia | omega)
open PySem PyProof.Rows
variable{rk:Keyed→Int}
structure Mrh(rk:Keyed→Int)(a b out:Array Keyed)(i j:Nat):Prop where
 hi:i≤a.size
 hj:j≤b.size
 perm:out.toList.Perm (a.toList.drop i++b.toList.drop j)
 srt:out.toList.Pairwise fun x y=>rk y≤rk x
 ha:∀x,x∈out.toList→∀y,y<i→RK rk a y≤rk x
 hb:∀x,x∈out.toList→∀y,y<j→RK rk b y≤rk x
theorem Mrh.sym{a b out:Array Keyed}{i j:Nat}(m:Mrh rk a b out i j):Mrh rk b a out j i:=
 ⟨m.hj,m.hi,m.perm.trans gB,m.srt,m.hb,m.ha⟩
theorem Mrh.pushA{a b out:Array Keyed}{i j:Nat}(m:Mrh rk a b out (i+1) j)(sa:Eo rk a)(h:i<a.size)(hb:∀y,y<j→RK rk b y≤rk a[i]):Mrh rk a b (out.push a[i]) i j:=by
 have e:(out.push a[i]).toList=out.toList++[a[i]]:=iy ..
 have t:a.toList.drop i=a[i]::a.toList.drop (i+1):=by
  have hl:i<a.toList.length:=by rw[dg];exact h
  rw[gY hl]
  rfl
 refine⟨by omega,m.hj,?_,?_,?_,?_⟩
 ·rw[e,t]
  exact gB.trans (m.perm.cons a[i])
 ·rw[e,jM]
  refine⟨m.srt,iI _ _,fun x hx y hy=>?_⟩
  cases a8.mp hy
  have:=m.ha x hx i (iH _)
  rwa[An h] at this
 ·intro x hx y hy
  rw[e] at hx
  rcases dw.mp hx with hx|hx
  ·exact m.ha x hx y (by omega)
  ·cases a8.mp hx
   have:=sa y i (by omega) h
   rwa[An h] at this
 ·intro x hx y hy
  rw[e] at hx
  rcases dw.mp hx with hx|hx
  ·exact m.hb x hx y hy
  ·cases a8.mp hx
   exact hb y hy
theorem Mrh.pushB{a b out:Array Keyed}{i j:Nat}(m:Mrh rk a b out i (j+1))(sb:Eo rk b)(h:j<b.size)(ha:∀y,y<i→RK rk a y≤rk b[j]):Mrh rk a b (out.push b[j]) i j:=(m.sym.pushA sb h ha).sym
theorem Ie(a:Array Keyed)(l h:Nat)(hl:l<h)(hh:h≤a.size):(a.extract l h).reverse=(a.extract (l+1) h).reverse.push (a[l]'(by omega)):=by
 apply jo
 rw[iy,fB,fB,fb,fb,eC,eC]
 have hln:l<a.toList.length:=by rw[dg];omega
 have e1:h-l=(h- (l+1))+1:=by omega
 rw[gY hln,e1,List.take_succ_cons,jx]
 rfl
theorem Mrh.appA{a b:Array Keyed}{i j:Nat}:∀(k:Nat) {out:Array Keyed},Mrh rk a b out i j→Eo rk a→k≤i→(∀x,i-k≤x→x<i→∀y,y<j→RK rk b y≤RK rk a x)→Mrh rk a b (out++(a.extract (i-k) i).reverse) (i-k) j
 |0,out,m,_,_,_=>by
  have:out++(a.extract (i-0) i).reverse=out:=by
   apply jo
   rw[gO,fB,fb,eC]
   have:i- (i-0)=0:=by omega
   rw[this,lN,List.reverse_nil,ic]
  rw[this];exact m
 |k+1,out,m,sa,h,hb=>by
  have hi:=m.hi
  have m':=Mrh.appA k m sa (by omega) fun x hx=>hb x (by omega)
  have hk:i- (k+1)<a.size:=by omega
  have e:i- (k+1)+1=i-k:=by omega
  rw[Ie a (i- (k+1)) i (by omega) hi,Array.append_push,e]
  rw[←e] at m'
  have q:=m'.pushA sa hk fun y h1=>by
   have:=hb (i- (k+1)) (by omega) (by omega) y h1
   rwa[An hk] at this
  rw[e] at q
  exact q
theorem Mrh.appA'{a b out:Array Keyed}{i j l:Nat}(m:Mrh rk a b out i j)(sa:Eo rk a)(h:l≤i)(hb:∀x,l≤x→x<i→∀y,y<j→RK rk b y≤RK rk a x):Mrh rk a b (out++(a.extract l i).reverse) l j:=by
 have e:i- (i-l)=l:=by omega
 have q:=m.appA (i-l) sa (by omega) (by rw[e];exact hb)
 rwa[e] at q
theorem Mrh.appB'{a b out:Array Keyed}{i j l:Nat}(m:Mrh rk a b out i j)(sb:Eo rk b)(h:l≤j)(ha:∀x,l≤x→x<j→∀y,y<i→RK rk a y≤RK rk b x):Mrh rk a b (out++(b.extract l j).reverse) i l:=(m.sym.appA' sb h ha).sym
theorem Mrh.fin{a b out:Array Keyed}(m:Mrh rk a b out 0 0):Fin2 rk a b out.reverse:=by
 have p:=m.perm
 rw[List.drop_zero,List.drop_zero] at p
 constructor
 ·rw[fB]
  exact(List.reverse_perm _).trans p
 ·rw[fB,List.pairwise_reverse]
  exact m.srt
theorem Mrh.restAB{a b out:Array Keyed}{i j:Nat}(m:Mrh rk a b out i j)(sa:Eo rk a)(sb:Eo rk b)(h:∀x y,x<i→y<j→RK rk a x≤RK rk b y):Fin2 rk a b (a.extract 0 i++b.extract 0 j++out.reverse):=by
 have m1:=m.appB' (l:=0) sb (by omega) fun x _ hx y hy=>h y x hy hx
 have m2:=m1.appA' (l:=0) sa (by omega) fun x _ _ y hy=>by omega
 have f:=m2.fin
 have e:(out++(b.extract 0 j).reverse++(a.extract 0 i).reverse).reverse=a.extract 0 i++b.extract 0 j++out.reverse:=by
  apply jo
  rw[fB,gO,gO,gO,gO,fB,fB,fB,jS,jS,List.reverse_reverse,List.reverse_reverse,fM]
 rwa[e] at f
theorem Mrh.restBA{a b out:Array Keyed}{i j:Nat}(m:Mrh rk a b out i j)(sa:Eo rk a)(sb:Eo rk b)(h:∀x y,x<i→y<j→RK rk b y≤RK rk a x):Fin2 rk a b (b.extract 0 j++a.extract 0 i++out.reverse):=by
 have f:=m.sym.restAB sb sa fun x y h1 h2=>h y x h2 h1
 exact⟨f.perm.trans gB,f.srt⟩
def KA:Array Keyed→Array Keyed→StateT SortSt Sem (Array Keyed):=sortPriv%PySem.Builtin.mergeHi
abbrev cI(a b out:Array Keyed)(i j:Nat):Array Keyed:=a.extract 0 i++b.extract 0 j++out.reverse
abbrev cJ(a b out:Array Keyed)(i j:Nat):Array Keyed:=b.extract 0 j++a.extract 0 i++out.reverse
end SrtG
namespace SrtG
local macro_rules | `(tactic| omega) => `(tactic| first | lia | omega)
open PySem PyProof.Rows
variable{prog:Program}{w:World}{A:dy}{E:Value→a7→Prop}{s:a7}{kd:iY}{U:Keyed→Prop}{rk:Keyed→Int}
theorem Mrh.pushA1{a b out:Array Keyed}{i j:Nat}(m:Mrh rk a b out i j)(sa:Eo rk a)(h0:0<i)(h:i-1<a.size)(hb:∀y,y<j→RK rk b y≤rk a[i-1]):Mrh rk a b (out.push a[i-1]) (i-1) j:=by
 cases i with
 |zero=>omega
 |succ i=>exact m.pushA sa h hb
structure Hh(rk:Keyed→Int)(a b out:Array Keyed)(i j n:Nat):Prop where
 m:Mrh rk a b out i j
 hi:0<i
 hj:1<j
 hn:i+j+n≤a.size+b.size
theorem KB{a b:Array Keyed}{st:eF}{Q:Array Keyed→eF→Prop}(C:Oj prog w A E s kd U rk)(hk:kindOf st=kd)(uA:AllU U a)(uB:AllU U b)(sa:Eo rk a)(sb:Eo rk b)(ha0:0<a.size)(hb0:0<b.size)
  (hfst:RK rk b 0≤RK rk a 0) (hlst:RK rk b (b.size-1)≤RK rk a (a.size-1))
  (h:∀r st',Like st st'→Fin2 rk a b r→Q r st'):wpS (model prog w) A E s (KA a b) Q st:=by
 have Udn:∀{out i j},Mrh rk a b out i j→i=0∨j=0→Fin2 rk a b (cI a b out i j):=fun m hh=>m.restAB sa sb fun x y _ _=>by omega
 have Ula:∀{out i j},Mrh rk a b out i j→j=1→Fin2 rk a b (cJ a b out i j):=fun{out i j} m hh=>m.restBA sa sb fun x y h1 h2=>by
  have hi:=m.hi
  have e1:=sa 0 x (by omega) (by omega)
  have e:y=0:=by omega
  subst e
  omega
 have uAt:∀{i} (hi:i<a.size),U a[i]:=fun hi=>uA _ _ (getElem?_pos a _ hi)
 have uBt:∀{i} (hi:i<b.size),U b[i]:=fun hi=>uB _ _ (getElem?_pos b _ hi)
 have hal:a.size-1<a.size:=by omega
 delta KA
 refine b7 (jJ (iV ⟨rfl,?_⟩))
 refine b7 (AK hal ?_)
 have m0:Mrh rk a b #[] (a.size-1+1) b.size:=by
  have e:a.size-1+1=a.size:=by omega
  rw[e]
  refine⟨by omega,by omega,?_,iw,(fun x hx=>by cases hx),(fun x hx=>by cases hx)⟩
  rw[←dg,←dg,List.drop_length,List.drop_length]
  exact ie.nil
 have m1:Mrh rk a b #[a[a.size-1]] (a.size-1) b.size:=m0.pushA sa hal fun y hy=>by
  have e1:=sb y (b.size-1) (by omega) (by omega)
  rw[←An (rk:=rk) hal]
  omega
 dsimp only
 by_cases c1:a.size-1=0
 ·rw[if_pos (beq_iff_eq.mpr c1)]
  exact da (h _ _ (Like.refl _) (Udn m1 (.inl c1)))
 rw[if_neg (fun q=>c1 (beq_iff_eq.mp q))]
 by_cases c2:b.size=1
 ·rw[if_pos (beq_iff_eq.mpr c2)]
  exact da (h _ _ (Like.refl _) (Ula m1 c2))
 rw[if_neg (fun q=>c2 (beq_iff_eq.mp q))]
 refine b7 (jg ?_)
 refine b7 (fT (eV (I:=fun x c st'=>Like st st'∧∃out i j mg,c=(none,i,j,out,mg)∧Hh rk a b out i j (x+1))
  (Q:=fun c st'=>Like st st'∧∃r,c.1=some r∧Fin2 rk a b r) ?_ ?_ ⟨Like.refl _,_,_,_,_,rfl,m1,by omega,by omega,by omega⟩) ?_)
 ·rintro x c st1 _ hx ⟨lk,out,i,j,mg,rfl,hd⟩
  dsimp only
  refine b7 (fT (eV (I:=fun _ c st'=>Like st st'∧∃out i j ac bc,c=(none,i,j,out,ac,bc)∧Hh rk a b out i j (x+1))
   (Q:=fun c st'=>Like st st'∧((∃r,c.1=some r∧Fin2 rk a b r)∨∃out i j ac bc,c=(none,i,j,out,ac,bc)∧Hh rk a b out i j (x+1))) ?_ ?_ ⟨lk,_,_,_,_,_,rfl,hd⟩) ?_)
  ·rintro x1 c st2 _ hx1 ⟨lk,out,i,j,ac,bc,rfl,hd⟩
   have hi0:=hd.hi
   have hj0:=hd.hj
   have hin:=hd.hn
   have hia:i-1<a.size:=by have:=hd.m.hi;omega
   have hjb:j-1<b.size:=by have:=hd.m.hj;omega
   have ei:i-1+1=i:=by omega
   have ej:j-1+1=j:=by omega
   have m:=hd.m
   dsimp only
   refine b7 (AK hjb ?_)
   refine b7 (AK hia ?_)
   refine b7 (C _ _ _ _ (lk.kd.trans hk) (uBt hjb) (uAt hia) ?_)
   dsimp only
   by_cases hlt:rk b[j-1]<rk a[i-1]
   ·rw[if_pos (by exact decide_eq_true hlt)]
    rw[←ei] at m
    have m:=m.pushA sa hia fun y h1=>by
     have:=sb y (j-1) (by omega) hjb
     rw[An hjb] at this
     omega
    refine b7 (AK hia ?_)
    by_cases c3:i-1=0
    ·rw[if_pos (beq_iff_eq.mpr c3)]
     exact da ⟨lk,.inl ⟨_,rfl,Udn m (.inl c3)⟩⟩
    rw[if_neg (fun q=>c3 (beq_iff_eq.mp q))]
    have hd':Hh rk a b (out.push a[i-1]) (i-1) j (x+1):=⟨m,by omega,by omega,by omega⟩
    split
    ·exact da ⟨lk,.inr ⟨_,_,_,_,_,rfl,hd'⟩⟩
    ·exact da ⟨lk,_,_,_,_,_,rfl,hd'⟩
   ·rw[if_neg (fun q=>hlt (of_decide_eq_true q))]
    rw[←ej] at m
    have m:=m.pushB sb hjb fun y h1=>by
     have:=sa y (i-1) (by omega) hia
     rw[An hia] at this
     omega
    refine b7 (AK hjb ?_)
    by_cases c3:j-1=1
    ·rw[if_pos (beq_iff_eq.mpr c3)]
     exact da ⟨lk,.inl ⟨_,rfl,Ula m c3⟩⟩
    rw[if_neg (fun q=>c3 (beq_iff_eq.mp q))]
    have hd':Hh rk a b (out.push b[j-1]) i (j-1) (x+1):=⟨m,by omega,by omega,by omega⟩
    split
    ·exact da ⟨lk,.inr ⟨_,_,_,_,_,rfl,hd'⟩⟩
    ·exact da ⟨lk,_,_,_,_,_,rfl,hd'⟩
  ·rintro c st2 ⟨lk,hh⟩
   exact⟨lk,.inr hh⟩
  rintro c st2 ⟨lk,⟨r,e,f⟩| ⟨out,i,j,ac,bc,rfl,hd⟩⟩
  ·obtain⟨c1,c2⟩:=c
   cases e
   exact da ⟨lk,_,rfl,f⟩
  dsimp only
  refine b7 (jJ (iV ⟨rfl,?_⟩))
  refine b7 (fT (eV (I:=fun y c st'=>Like st st'∧∃out i j mg ac bc,c=(none,i,j,out,mg,ac,bc)∧Hh rk a b out i j (x+1+y))
   (Q:=fun c st'=>Like st st'∧((∃r,c.1=some r∧Fin2 rk a b r)∨∃out i j mg ac bc,c=(none,i,j,out,mg,ac,bc)∧Hh rk a b out i j (x+1+1))) ?_ ?_ ⟨lk,_,_,_,_,_,_,rfl,hd⟩) ?_)
  ·rintro x1 c st2 _ hx1 ⟨lk,out,i,j,mg,ac,bc,rfl,hd⟩
   have hi0:=hd.hi
   have hj0:=hd.hj
   have hin:=hd.hn
   have hia:=hd.m.hi
   have hjl:=hd.m.hj
   have hjb:j-1<b.size:=by omega
   dsimp only
   refine dite (mg>1) (fun hmg=>?_) (fun hmg=>?_)
   all_goals first|rw[if_pos hmg]|rw[if_neg hmg]
   all_goals
    refine b7 (Cm lk fun st3 lk=>?_)
    refine b7 (AK hjb ?_)
    refine b7 (Ax C (lk.kd.trans hk) (uBt hjb) uA (by omega) (by omega) ?_ ?_)
    ·intro p q hpq hq e
     unfold bt at e ⊢
     rw[if_neg b6] at e ⊢
     have e':=of_decide_eq_false (fO _|>.mp e)
     have:=sa (0+p) (0+q) (by omega) (by omega)
     exact(fO _).mpr (decide_eq_false (by omega))
    rintro p ⟨kn,kt,kf⟩
    have kf':∀y,y<p→RK rk a y≤rk b[j-1]:=fun y hy=>by
     have e:=kt y hy
     unfold bt at e
     rw[if_neg b6] at e
     have e':=of_decide_eq_false (fO _|>.mp e)
     rw[ip] at e'
     omega
    have kt':∀x,p≤x→x<i→∀y,y<j→RK rk b y≤RK rk a x:=fun x h1 h2 y h3=>by
     have e:=kf x h1 h2
     unfold bt at e
     rw[if_neg b6] at e
     have e':=of_decide_eq_true (kl _|>.mp e)
     rw[ip] at e'
     have:=sb y (j-1) (by omega) hjb
     rw[An hjb] at this
     omega
    have m:=hd.m.appA' sa kn kt'
    dsimp only
    by_cases k0:i-p>0
    ·rw[if_pos k0]
     by_cases c3:p=0
     ·rw[if_pos (beq_iff_eq.mpr c3)]
      exact da ⟨lk,.inl ⟨_,rfl,Udn m (.inl c3)⟩⟩
     rw[if_neg (fun q=>c3 (beq_iff_eq.mp q))]
     have hI:0<p:=by omega
     have ej:j-1+1=j:=by omega
     rw[←ej] at m
     have m2:=m.pushB sb hjb kf'
     refine b7 (AK hjb ?_)
     by_cases c5:j-1=1
     ·rw[if_pos (beq_iff_eq.mpr c5)]
      exact da ⟨lk,.inl ⟨_,rfl,Ula m2 (by omega)⟩⟩
     rw[if_neg (fun q=>c5 (beq_iff_eq.mp q))]
     have hI1:p-1<a.size:=by omega
     refine b7 (AK hI1 ?_)
     refine b7 (Ax C (lk.kd.trans hk) (uAt hI1) uB (by omega) (by omega) ?_ ?_)
     ·intro p q hpq hq e
      unfold bt at e ⊢
      rw[if_pos rfl] at e ⊢
      have e':=of_decide_eq_true e
      have:=sb (0+p) (0+q) (by omega) (by omega)
      exact decide_eq_true (by omega)
     rintro q ⟨k2n,k2t,k2f⟩
     have k2t':∀y,y<q→RK rk b y≤rk (a[p-1]'hI1):=fun y hx=>by
      have e:=k2t y hx
      unfold bt at e
      rw[if_pos rfl] at e
      have e':=of_decide_eq_true e
      rw[ip] at e'
      omega
     have k2f':∀x,q≤x→x<j-1→∀y,y<p→RK rk a y≤RK rk b x:=fun x h1 h2 y h3=>by
      have e:=k2f x h1 h2
      unfold bt at e
      rw[if_pos rfl] at e
      have e':=of_decide_eq_false e
      rw[ip] at e'
      have:=sa y (p-1) (by omega) hI1
      rw[An hI1] at this
      omega
     have eI:p-1+1=p:=by omega
     dsimp only
     by_cases k20:j-1-q>0
     ·rw[if_pos k20]
      have m3:=m2.appB' sb k2n k2f'
      by_cases c6:q=1
      ·rw[if_pos (beq_iff_eq.mpr c6)]
       exact da ⟨lk,.inl ⟨_,rfl,Ula m3 (by omega)⟩⟩
      rw[if_neg (fun q=>c6 (beq_iff_eq.mp q))]
      by_cases c8:q=0
      ·rw[if_pos (beq_iff_eq.mpr c8)]
       exact da ⟨lk,.inl ⟨_,rfl,Udn m3 (.inr c8)⟩⟩
      rw[if_neg (fun q=>c8 (beq_iff_eq.mp q))]
      have m4:=m3.pushA1 sa hI hI1 k2t'
      refine b7 (AK hI1 ?_)
      by_cases c7:p-1=0
      ·rw[if_pos (beq_iff_eq.mpr c7)]
       exact da ⟨lk,.inl ⟨_,rfl,Udn m4 (.inl c7)⟩⟩
      rw[if_neg (fun q=>c7 (beq_iff_eq.mp q))]
      split
      ·exact da ⟨lk,.inr ⟨_,_,_,_,_,_,rfl,m4,by omega,by omega,by omega⟩⟩
      ·exact da ⟨lk,_,_,_,_,_,_,rfl,m4,by omega,by omega,by omega⟩
     ·rw[if_neg k20]
      have e2:q=j-1:=by omega
      rw[e2] at k2t'
      have m4:=m2.pushA1 sa hI hI1 k2t'
      refine b7 (AK hI1 ?_)
      by_cases c7:p-1=0
      ·rw[if_pos (beq_iff_eq.mpr c7)]
       exact da ⟨lk,.inl ⟨_,rfl,Udn m4 (.inl c7)⟩⟩
      rw[if_neg (fun q=>c7 (beq_iff_eq.mp q))]
      split
      ·exact da ⟨lk,.inr ⟨_,_,_,_,_,_,rfl,m4,by omega,by omega,by omega⟩⟩
      ·exact da ⟨lk,_,_,_,_,_,_,rfl,m4,by omega,by omega,by omega⟩
    ·rw[if_neg k0]
     have e0:p=i:=by omega
     rw[e0] at kf'
     clear m
     have m:=hd.m
     have hI:=hi0
     have ej:j-1+1=j:=by omega
     rw[←ej] at m
     have m2:=m.pushB sb hjb kf'
     refine b7 (AK hjb ?_)
     by_cases c5:j-1=1
     ·rw[if_pos (beq_iff_eq.mpr c5)]
      exact da ⟨lk,.inl ⟨_,rfl,Ula m2 (by omega)⟩⟩
     rw[if_neg (fun q=>c5 (beq_iff_eq.mp q))]
     have hI1:i-1<a.size:=by omega
     refine b7 (AK hI1 ?_)
     refine b7 (Ax C (lk.kd.trans hk) (uAt hI1) uB (by omega) (by omega) ?_ ?_)
     ·intro p q hpq hq e
      unfold bt at e ⊢
      rw[if_pos rfl] at e ⊢
      have e':=of_decide_eq_true e
      have:=sb (0+p) (0+q) (by omega) (by omega)
      exact decide_eq_true (by omega)
     rintro q ⟨k2n,k2t,k2f⟩
     have k2t':∀y,y<q→RK rk b y≤rk (a[i-1]'hI1):=fun y hx=>by
      have e:=k2t y hx
      unfold bt at e
      rw[if_pos rfl] at e
      have e':=of_decide_eq_true e
      rw[ip] at e'
      omega
     have k2f':∀x,q≤x→x<j-1→∀y,y<i→RK rk a y≤RK rk b x:=fun x h1 h2 y h3=>by
      have e:=k2f x h1 h2
      unfold bt at e
      rw[if_pos rfl] at e
      have e':=of_decide_eq_false e
      rw[ip] at e'
      have:=sa y (i-1) (by omega) hI1
      rw[An hI1] at this
      omega
     have eI:i-1+1=i:=by omega
     dsimp only
     by_cases k20:j-1-q>0
     ·rw[if_pos k20]
      have m3:=m2.appB' sb k2n k2f'
      by_cases c6:q=1
      ·rw[if_pos (beq_iff_eq.mpr c6)]
       exact da ⟨lk,.inl ⟨_,rfl,Ula m3 (by omega)⟩⟩
      rw[if_neg (fun q=>c6 (beq_iff_eq.mp q))]
      by_cases c8:q=0
      ·rw[if_pos (beq_iff_eq.mpr c8)]
       exact da ⟨lk,.inl ⟨_,rfl,Udn m3 (.inr c8)⟩⟩
      rw[if_neg (fun q=>c8 (beq_iff_eq.mp q))]
      have m4:=m3.pushA1 sa hI hI1 k2t'
      refine b7 (AK hI1 ?_)
      by_cases c7:i-1=0
      ·rw[if_pos (beq_iff_eq.mpr c7)]
       exact da ⟨lk,.inl ⟨_,rfl,Udn m4 (.inl c7)⟩⟩
      rw[if_neg (fun q=>c7 (beq_iff_eq.mp q))]
      split
      ·exact da ⟨lk,.inr ⟨_,_,_,_,_,_,rfl,m4,by omega,by omega,by omega⟩⟩
      ·exact da ⟨lk,_,_,_,_,_,_,rfl,m4,by omega,by omega,by omega⟩
     ·rw[if_neg k20]
      have e2:q=j-1:=by omega
      rw[e2] at k2t'
      have m4:=m2.pushA1 sa hI hI1 k2t'
      refine b7 (AK hI1 ?_)
      by_cases c7:i-1=0
      ·rw[if_pos (beq_iff_eq.mpr c7)]
       exact da ⟨lk,.inl ⟨_,rfl,Udn m4 (.inl c7)⟩⟩
      rw[if_neg (fun q=>c7 (beq_iff_eq.mp q))]
      split
      ·exact da ⟨lk,.inr ⟨_,_,_,_,_,_,rfl,m4,by omega,by omega,by omega⟩⟩
      ·exact da ⟨lk,_,_,_,_,_,_,rfl,m4,by omega,by omega,by omega⟩
  ·rintro c st2 ⟨lk,out,i,j,mg,ac,bc,rfl,hd⟩
   have e:max 0 (a.size+b.size)=a.size+b.size:=by omega
   rw[e] at hd
   exact⟨lk,.inr ⟨_,_,_,_,_,_,rfl,hd.m,hd.hi,hd.hj,by have:=hd.hn;omega⟩⟩
  rintro c st2 ⟨lk,⟨r,e,f⟩| ⟨out,i,j,mg,ac,bc,rfl,hd⟩⟩
  ·obtain⟨c1,c2⟩:=c
   cases e
   exact da ⟨lk,_,rfl,f⟩
  dsimp only
  refine b7 (Cm lk fun st3 lk=>?_)
  exact da ⟨lk,_,_,_,_,rfl,hd⟩
 ·rintro c st1 ⟨lk,out,i,j,mg,rfl,hd⟩
  have e:max 0 (a.size+b.size)=a.size+b.size:=by omega
  rw[e] at hd
  have:=hd.hn
  have:=hd.hi
  have:=hd.hj
  omega
 ·rintro c st1 ⟨lk,r,e,f⟩
  obtain⟨c1,c2⟩:=c
  cases e
  exact da (h _ _ lk f)
end SrtG
namespace SrtG
local macro_rules | `(tactic| omega) => `(tactic| first | lia | omega)
open PySem PyProof.Rows
variable{rk:Keyed→Int}
def Seg(rk:Keyed→Int)(arr:Array Keyed)(lo hi:Nat):Prop:=∀x y,lo≤x→x≤y→y<hi→RK rk arr x≤RK rk arr y
structure Upd(rk:Keyed→Int)(arr arr':Array Keyed)(lo hi:Nat):Prop where
 perm:arr'.toList.Perm arr.toList
 out:∀x,x<lo∨hi≤x→arr'[x]?=arr[x]?
 seg:Seg rk arr' lo hi
theorem CB{arr arr':Array Keyed}{x:Nat}(h:arr'[x]?=arr[x]?):RK rk arr' x=RK rk arr x:=by unfold RK;rw[h]
abbrev back(l:List (Keyed×Nat))(lo:Nat)(arr:Array Keyed):Array Keyed:=l.foldl (fun a (p,j)=>a.setIfInBounds (lo+j) p) arr
theorem GF(lo:Nat):∀(l:List Keyed) (n:Nat) (arr:Array Keyed),lo+n+l.length≤arr.size→∀x,(back (l.zipIdx n) lo arr)[x]?=if lo+n≤x∧x<lo+n+l.length then l[x- (lo+n)]? else arr[x]?
 | [],n,arr,_,x=>by
  rw[if_neg (by rintro⟨h1,h2⟩;simp only[gN] at h2;omega)]
  rfl
 |p::l,n,arr,h,x=>by
  rw[dm] at h
  have e:back ((p::l).zipIdx n) lo arr=back (l.zipIdx (n+1)) lo (arr.setIfInBounds (lo+n) p):=by rw[List.zipIdx_cons];rfl
  rw[e,GF lo l (n+1) _ (by rw[Array.size_setIfInBounds];omega) x,dm]
  by_cases c:lo+(n+1)≤x∧x<lo+(n+1)+l.length
  ·rw[if_pos c,if_pos (by omega)]
   have e2:x- (lo+n)=(x- (lo+(n+1)))+1:=by omega
   rw[e2,iJ]
  ·rw[if_neg c,Array.getElem?_setIfInBounds]
   by_cases c2:lo+n=x
   ·rw[if_pos c2,if_pos (by omega),if_pos (by omega)]
    have e2:x- (lo+n)=0:=by omega
    rw[e2];rfl
   ·rw[if_neg c2,if_neg (by omega)]
theorem OH{arr:Array Keyed}{l:List Keyed}{lo:Nat}(h:lo+l.length≤arr.size):(back l.zipIdx lo arr).toList=arr.toList.take lo++l++arr.toList.drop (lo+l.length):=by
 apply fA
 intro x
 rw[dQ,GF lo l 0 arr (by omega) x]
 have hlen:arr.toList.length=arr.size:=dg
 by_cases c1:x<lo
 ·rw[if_neg (by omega),fM,dZ (by rw[eU];omega),kj,if_pos c1,dQ]
 ·by_cases c2:x<lo+l.length
  ·rw[if_pos (by omega),dZ (by rw[dH,eU];omega),dI (by rw[eU];omega),eU]
   have e:min lo arr.toList.length=lo:=by omega
   rw[e]
   rfl
  ·rw[if_neg (by omega),dI (by rw[dH,eU];omega),gh,dH,eU]
   have e:lo+l.length+(x- (min lo arr.toList.length+l.length))=x:=by omega
   rw[e,dQ]
theorem Ph{arr merged:Array Keyed}{lo hi s0 e0:Nat}(hhi:lo≤hi)(hs:s0≤lo)(he:hi≤e0)(hz:e0≤arr.size)(perm:merged.toList.Perm (arr.extract lo hi).toList)(srt:merged.toList.Pairwise fun x y=>rk x≤rk y)
  (hL:∀x z,s0≤x→x<lo→x≤z→z<e0→RK rk arr x≤RK rk arr z) (hR:∀z y,s0≤z→z≤y→hi≤y→y<e0→RK rk arr z≤RK rk arr y):Upd rk arr (back merged.toList.zipIdx lo arr) s0 e0:=by
 have hx:(arr.extract lo hi).toList=(arr.toList.drop lo).take (hi-lo):=by rw[fb,eC]
 have hlenA:arr.toList.length=arr.size:=dg
 have hlen:merged.toList.length=hi-lo:=by
  rw[perm.length_eq,hx,eU,i9]
  omega
 have hfit:lo+merged.toList.length≤arr.size:=by omega
 have hget:=GF lo merged.toList 0 arr (by omega)
 have hmid:∀m,m∈merged.toList→∃z,lo≤z∧z<hi∧rk m=RK rk arr z:=fun m hm=>by
  have hm':=perm.mem_iff.mp hm
  rw[hx] at hm'
  obtain⟨i,hi'⟩:=List.mem_iff_getElem?.mp hm'
  rw[kj] at hi'
  split at hi'
  ·rename_i hlt
   rw[gh,dQ] at hi'
   exact⟨lo+i,by omega,by omega,by unfold RK;rw[hi']⟩
  ·cases hi'
 have hRK:∀x,lo≤x→x<hi→∃m,m∈merged.toList∧merged.toList[x-lo]?=some m∧RK rk (back merged.toList.zipIdx lo arr) x=rk m:=fun x h1 h2=>by
  have hl:x-lo<merged.toList.length:=by omega
  refine⟨_,fI hl,b9 hl,?_⟩
  unfold RK
  rw[hget x,if_pos (by omega)]
  have e:x- (lo+0)=x-lo:=by omega
  rw[e,b9 hl]
 have hout:∀x,x<lo∨hi≤x→(back merged.toList.zipIdx lo arr)[x]?=arr[x]?:=fun x h=>by
  rw[hget x,if_neg (by omega)]
 refine⟨?_,fun x h=>hout x (by omega),?_⟩
 ·rw[OH hfit]
  have e:arr.toList=arr.toList.take lo++((arr.toList.drop lo).take (hi-lo))++arr.toList.drop (lo+merged.toList.length):=by
   rw[fM]
   have e2:lo+merged.toList.length=lo+(hi-lo):=by omega
   rw[e2,←List.drop_drop,fY,fY]
  rw[hx] at perm
  have:=(perm.append_left (arr.toList.take lo)).append_right (arr.toList.drop (lo+merged.toList.length))
  rw[←e] at this
  exact this
 ·intro x y h1 h2 h3
  by_cases cx:x<lo
  ·rw[CB (hout x (.inl cx))]
   by_cases cy:lo≤y∧y<hi
   ·obtain⟨m,hm,_,e⟩:=hRK y cy.1 cy.2
    obtain⟨z,z1,z2,ez⟩:=hmid m hm
    rw[e,ez]
    exact hL x z h1 cx (by omega) (by omega)
   ·rw[CB (hout y (by omega))]
    exact hL x y h1 cx h2 h3
  ·by_cases cx2:x<hi
   ·obtain⟨m,hm,hm2,e⟩:=hRK x (by omega) cx2
    rw[e]
    by_cases cy:y<hi
    ·obtain⟨m',hm',hm2',e'⟩:=hRK y (by omega) cy
     rw[e']
     by_cases exy:x=y
     ·subst exy
      rw[hm2] at hm2'
      cases hm2'
      exact gR _
     ·have hl:y-lo<merged.toList.length:=by omega
      have hl':x-lo<merged.toList.length:=by omega
      have:=e7.mp srt (x-lo) (y-lo) hl' hl (by omega)
      rw[b9 hl'] at hm2
      rw[b9 hl] at hm2'
      cases hm2
      cases hm2'
      exact this
    ·rw[CB (hout y (by omega))]
     obtain⟨z,z1,z2,ez⟩:=hmid m hm
     rw[ez]
     exact hR z y (by omega) (by omega) (by omega) h3
   ·rw[CB (hout x (by omega)),CB (hout y (by omega))]
    exact hR x y h1 h2 (by omega) h3
end SrtG
namespace SrtG
local macro_rules | `(tactic| omega) => `(tactic| first | lia | omega)
open PySem PyProof.Rows
variable{rk:Keyed→Int}
theorem FR{arr:Array Keyed}{l h:Nat}(hh:h≤arr.size):(arr.extract l h).size=h-l:=by rw[Array.size_extract];omega
theorem Pi{arr:Array Keyed}{l h x:Nat}(hx:x<h-l)(hh:h≤arr.size):(arr.extract l h)[x]?=arr[l+x]?:=by
 rw[←dQ,fb,eC,kj,if_pos hx,gh,dQ]
theorem HZ{arr:Array Keyed}{l h x:Nat}(hx:x<h-l)(hh:h≤arr.size):RK rk (arr.extract l h) x=RK rk arr (l+x):=by unfold RK;rw[Pi hx hh]
theorem AllU.ex{U:Keyed→Prop}{arr:Array Keyed}{l h:Nat}(u:AllU U arr)(hh:h≤arr.size):AllU U (arr.extract l h):=fun i p e=>by
 have hi:i< (arr.extract l h).size:=by
  apply fU
  intro hn
  rw[Array.getElem?_eq_none (jD hn)] at e
  cases e
 rw[FR hh] at hi
 rw[Pi hi hh] at e
 exact u _ _ e
theorem Seg.ex{arr:Array Keyed}{l h:Nat}(sg:Seg rk arr l h)(hh:h≤arr.size):Eo rk (arr.extract l h):=fun i j hij hj=>by
 rw[FR hh] at hj
 rw[HZ (by omega) hh,HZ hj hh]
 exact sg _ _ (by omega) (by omega) (by omega)
section
variable{prog:Program}{w:World}{A:dy}{E:Value→a7→Prop}{s:a7}{kd:iY}{U:Keyed→Prop}
theorem Ss{st st':eF}{Q:PUnit→eF→Prop}(h:Q ⟨⟩ st'):wpS (model prog w) A E s (set st':StateT eF Sem PUnit) Q st:=by
 unfold wpS;rw[StateT.run_set];exact b5 ⟨rfl,h⟩
theorem KC{i sa na pa sb nb pb:Nat}{st:eF}{Q:Bool→eF→Prop}(C:Oj prog w A E s kd U rk)(hk:kindOf st=kd)(hU:AllU U (arrOf st))(hf:iG st=none)
  (h1:(pendingOf st)[i]?=some (sa,na,pa)) (h2:(pendingOf st)[i+1]?=some (sb,nb,pb)) (hsb:sb=sa+na) (hna:0<na) (hnb:0<nb) (hsz:sb+nb≤(arrOf st).size) (S1:Seg rk (arrOf st) sa sb) (S2:Seg rk (arrOf st) sb (sb+nb))
  (h:∀st',kindOf st'=kd→iG st'=none→pendingOf st'=((pendingOf st).setIfInBounds i (sa,na+nb,pa)).eraseIdxIfInBounds (i+1)→Upd rk (arrOf st) (arrOf st') sa (sb+nb)→Q true st'):
  wpS (model prog w) A E s (mergeAt' i) Q st:=by
 delta mergeAt'
 refine b7 (jg ?_)
 rw[h1,h2]
 dsimp only
 refine b7 (Ss ?_)
 have hsbz:sb< (arrOf st).size:=by omega
 have uAt:∀{i} (hi:i< (arrOf st).size),U (arrOf st)[i]:=fun hi=>hU _ _ (getElem?_pos (arrOf st) _ hi)
 refine b7 (AK (arr:=arrOf st) hsbz ?_)
 refine b7 (Ax (arr:=arrOf st) C hk (uAt hsbz) hU (by omega) hna ?_ ?_)
 ·intro p q hpq hq e
  unfold bt at e ⊢
  rw[if_neg b6] at e ⊢
  have e':=of_decide_eq_false (fO _|>.mp e)
  have:=S1 (sa+p) (sa+q) (by omega) (by omega) (by omega)
  exact(fO _).mpr (decide_eq_false (by omega))
 rintro k ⟨kn,kt,kf⟩
 have kt':∀x,sa≤x→x<sa+k→RK rk (arrOf st) x≤RK rk (arrOf st) sb:=fun x hx1 hx=>by
  have e:=kt (x-sa) (by omega)
  unfold bt at e
  rw[if_neg b6] at e
  have e':=of_decide_eq_false (fO _|>.mp e)
  have ex:sa+(x-sa)=x:=by omega
  rw[ex] at e'
  rw[An hsbz]
  omega
 have kf':∀x,sa+k≤x→x<sb→RK rk (arrOf st) sb<RK rk (arrOf st) x:=fun x hx1 hx=>by
  have e:=kf (x-sa) (by omega) (by omega)
  unfold bt at e
  rw[if_neg b6] at e
  have e':=of_decide_eq_true (kl _|>.mp e)
  have ex:sa+(x-sa)=x:=by omega
  rw[ex] at e'
  rw[An hsbz]
  omega
 dsimp only
 by_cases c1:na-k=0
 ·rw[if_pos (beq_iff_eq.mpr c1)]
  refine da (h _ hk hf rfl ⟨ie.refl _,fun _ _=>rfl,fun x y hx1 hx2 hx3=>?_⟩)
  by_cases cy:y<sb
  ·exact S1 x y hx1 hx2 cy
  ·by_cases cx:x<sb
   ·have e1:=kt' x hx1 (by omega)
    have e2:=S2 sb y (by omega) (by omega) hx3
    exact gQ e1 e2
   ·exact S2 x y (by omega) hx2 hx3
 rw[if_neg (fun q=>c1 (beq_iff_eq.mp q))]
 have el:sa+k+(na-k)-1=sb-1:=by omega
 rw[el]
 have hlz:sb-1< (arrOf st).size:=by omega
 refine b7 (AK (arr:=arrOf st) hlz ?_)
 refine b7 (Ax (arr:=arrOf st) C hk (uAt hlz) hU (by omega) (by omega) ?_ ?_)
 ·intro p q hpq hq e
  unfold bt at e ⊢
  rw[if_pos rfl] at e ⊢
  have e':=of_decide_eq_true e
  have:=S2 (sb+p) (sb+q) (by omega) (by omega) (by omega)
  exact decide_eq_true (by omega)
 rintro n2 ⟨nn,nt,nf⟩
 have nt':∀x,sb≤x→x<sb+n2→RK rk (arrOf st) x<RK rk (arrOf st) (sb-1):=fun x hx1 hx=>by
  have e:=nt (x-sb) (by omega)
  unfold bt at e
  rw[if_pos rfl] at e
  have e':=of_decide_eq_true e
  have ex:sb+(x-sb)=x:=by omega
  rw[ex] at e'
  rw[An hlz]
  omega
 have nf':∀x,sb+n2≤x→x<sb+nb→RK rk (arrOf st) (sb-1)≤RK rk (arrOf st) x:=fun x hx1 hx=>by
  have e:=nf (x-sb) (by omega) (by omega)
  unfold bt at e
  rw[if_pos rfl] at e
  have e':=of_decide_eq_false e
  have ex:sb+(x-sb)=x:=by omega
  rw[ex] at e'
  rw[An hlz]
  omega
 dsimp only
 have hlast:=kf' (sb-1) (by omega) (by omega)
 by_cases c2:n2=0
 ·have:=nf' sb (by omega) (by omega)
  omega
 rw[if_neg (fun q=>c2 (beq_iff_eq.mp q))]
 have hy:sb+n2≤(arrOf st).size:=by omega
 have hx':sb≤(arrOf st).size:=by omega
 have sA:Eo rk ((arrOf st).extract (sa+k) sb):=Seg.ex (fun x y q1 q2 q3=>S1 x y (by omega) q2 q3) hx'
 have sB:Eo rk ((arrOf st).extract sb (sb+n2)):=Seg.ex (fun x y q1 q2 q3=>S2 x y q1 q2 (by omega)) hy
 have zA:((arrOf st).extract (sa+k) sb).size=sb- (sa+k):=FR hx'
 have zB:((arrOf st).extract sb (sb+n2)).size=sb+n2-sb:=FR hy
 have q0:RK rk ((arrOf st).extract sb (sb+n2)) 0≤RK rk ((arrOf st).extract (sa+k) sb) 0:=by
  rw[HZ (by omega) hy,HZ (by omega) hx']
  have:=kf' (sa+k+0) (by omega) (by omega)
  exact gH this
 have q1:RK rk ((arrOf st).extract sb (sb+n2)) (((arrOf st).extract sb (sb+n2)).size-1)≤RK rk ((arrOf st).extract (sa+k) sb) (((arrOf st).extract (sa+k) sb).size-1):=by
  rw[zA,zB,HZ (by omega) hy,HZ (by omega) hx']
  have:=nt' (sb+(sb+n2-sb-1)) (by omega) (by omega)
  have e:sa+k+(sb- (sa+k)-1)=sb-1:=by omega
  rw[e]
  exact gH this
 have fin:∀r (st':eF),Like (j7 st (((pendingOf st).setIfInBounds i (sa,na+nb,pa)).eraseIdxIfInBounds (i+1))) st'→Fin2 rk ((arrOf st).extract (sa+k) sb) ((arrOf st).extract sb (sb+n2)) r→
   wpS (model prog w) A E s (do
    modify fun z=>setArr z (back r.toList.zipIdx (sa+k) (arrOf z))
    return(iG (←get)).isNone) Q st':=fun r st' lk f=>by
  refine b7 (iL ?_)
  refine b7 (jg ?_)
  have e:(iG st').isNone=true:=by rw[lk.fl];show(iG st).isNone=true;rw[hf];rfl
  show wpS _ _ _ _ (pure ((iG st').isNone)) _ _
  rw[e]
  refine da (h _ (lk.kd.trans hk) (lk.fl.trans hf) lk.pd ?_)
  have ea:arrOf st'=arrOf st:=lk.arr
  show Upd rk (arrOf st) (back r.toList.zipIdx (sa+k) (arrOf st')) sa (sb+nb)
  rw[ea]
  refine Ph (hi:=sb+n2) (by omega) (by omega) (by omega) hsz ?_ f.srt ?_ ?_
  ·have e2:((arrOf st).extract (sa+k) (sb+n2)).toList=((arrOf st).extract (sa+k) sb).toList++((arrOf st).extract sb (sb+n2)).toList:=by
    rw[fb,fb,fb,eC,eC,eC]
    have e3:sb+n2- (sa+k)=(sb- (sa+k))+(sb+n2-sb):=by omega
    rw[e3,List.take_add,List.drop_drop]
    have e4:sa+k+(sb- (sa+k))=sb:=by omega
    rw[e4]
   rw[e2]
   exact f.perm
  ·intro x z hx1 hx2 hx3 hx4
   by_cases cz:z<sb
   ·exact S1 x z hx1 hx3 cz
   ·have e1:=kt' x hx1 hx2
    have e2:=S2 sb z (by omega) (by omega) hx4
    exact gQ e1 e2
  ·intro z y hx1 hx2 hx3 hx4
   by_cases cz:z<sb
   ·have e1:=S1 z (sb-1) hx1 (by omega) (by omega)
    exact gQ e1 (nf' y hx3 hx4)
   ·exact S2 z y (by omega) hx2 hx4
 by_cases c3:na-k≤n2
 ·rw[if_pos c3]
  exact b7 (Jz (a:=(arrOf st).extract (sa+k) sb) (b:=(arrOf st).extract sb (sb+n2)) C hk (hU.ex hx') (hU.ex hy) sA sB (by omega) (by omega) q0 q1 fin)
 ·rw[if_neg c3]
  exact b7 (KB (a:=(arrOf st).extract (sa+k) sb) (b:=(arrOf st).extract sb (sb+n2)) C hk (hU.ex hx') (hU.ex hy) sA sB (by omega) (by omega) q0 q1 fin)
end
end SrtG
namespace SrtG
open PySem PyProof.Rows
variable{rk:Keyed→Int}
structure Kp(st0 st:eF)(lo hi:Nat):Prop where
 kd:kindOf st=kindOf st0
 pd:pendingOf st=pendingOf st0
 fl:iG st=iG st0
 perm:(arrOf st).toList.Perm (arrOf st0).toList
 out:∀x,x<lo∨hi≤x→(arrOf st)[x]?=(arrOf st0)[x]?
theorem Kp.refl(st:eF)(lo hi:Nat):Kp st st lo hi:=⟨rfl,rfl,rfl,ie.refl _,fun _ _=>rfl⟩
theorem Kp.size{st0 st:eF}{lo hi:Nat}(k:Kp st0 st lo hi):(arrOf st).size=(arrOf st0).size:=by
 rw[←dg,←dg];exact k.perm.length_eq
theorem AllU.of_perm{U:Keyed→Prop}{a b:Array Keyed}(u:AllU U a)(p:b.toList.Perm a.toList):AllU U b:=fun i q e=>by
 have hm:q∈b.toList:=by rw[←dQ] at e;exact dc e
 have hm':=p.mem_iff.mp hm
 obtain⟨j,hj⟩:=List.mem_iff_getElem?.mp hm'
 rw[dQ] at hj
 exact u j q hj
theorem Kp.setA{st0 st:eF}{lo hi:Nat}(k:Kp st0 st lo hi){xs:Array Keyed}(hp:xs.toList.Perm (arrOf st).toList)(ho:∀x,x<lo∨hi≤x→xs[x]?=(arrOf st)[x]?):Kp st0 (setArr st xs) lo hi:=
 ⟨k.kd,k.pd,k.fl,hp.trans k.perm,fun x hx=> (ho x hx).trans (k.out x hx)⟩
theorem DN{xs ys:Array Keyed}{i j:Nat}(h:xs[i]?=ys[j]?):RK rk xs i=RK rk ys j:=by unfold RK;rw[h]
theorem Ha{xs:Array Keyed}{src d:Nat}(hs:src<xs.size)(hd:d≤src)(k:Nat):RK rk (bubble xs src d) k=if k=src-d then RK rk xs src else if src-d<k∧k≤src then RK rk xs (k-1) else RK rk xs k:=by
 have e:=getElem?_bubble hs d hd k
 by_cases c1:k=src-d
 ·rw[if_pos c1] at e ⊢;exact DN e
 ·rw[if_neg c1] at e ⊢
  by_cases c2:src-d<k∧k≤src
  ·rw[if_pos c2] at e ⊢;exact DN e
  ·rw[if_neg c2] at e ⊢;exact DN e
section
variable{prog:Program}{w:World}{A:dy}{E:Value→a7→Prop}{s:a7}{kd:iY}{U:Keyed→Prop}
theorem BK{st:eF}{i j:Nat}{Q:Option Bool→eF→Prop}(C:Oj prog w A E s kd U rk)(hk:kindOf st=kd)(hU:AllU U (arrOf st))(hi:i< (arrOf st).size)(hj:j< (arrOf st).size)
  (h:Q (some (decide (RK rk (arrOf st) i<RK rk (arrOf st) j))) st):wpS (model prog w) A E s (ltAt' i j) Q st:=by
 rw[ltAt'_eq]
 refine b7 (jg ?_)
 refine b7 (AK hi ?_)
 refine b7 (AK hj ?_)
 rw[An hi,An hj] at h
 exact C _ _ _ _ hk (hU _ _ (getElem?_pos (arrOf st) _ hi)) (hU _ _ (getElem?_pos (arrOf st) _ hj)) h
theorem LW{st:eF}{lo n ok:Nat}{Q:Bool→eF→Prop}(C:Oj prog w A E s kd U rk)(hk:kindOf st=kd)(hU:AllU U (arrOf st))(hn:lo+n≤(arrOf st).size)(hok:ok≤n)(hs:Seg rk (arrOf st) lo (lo+ok))
  (h:∀st',Kp st st' lo (lo+n)→Seg rk (arrOf st') lo (lo+n)→Q true st'):wpS (model prog w) A E s (binarySort' lo n ok) Q st:=by
 rw[binarySort'_eq]
 refine b7 (fT (eV (I:=fun k c st'=>c=(none,())∧Kp st st' lo (lo+n)∧Seg rk (arrOf st') lo (lo+min k n))
  (Q:=fun c st'=>c=(none,())∧Kp st st' lo (lo+n)∧Seg rk (arrOf st') lo (lo+n)) ?step ?fin ?init) ?post)
 case post=>
  rintro c st' ⟨rfl,hB',hs'⟩
  exact da (h st' hB' hs')
 case init=>
  refine⟨rfl,Kp.refl _ _ _,fun i j hi hij hj=>?_⟩
  by_cases c1:ok=0
  ·have:i=j:=by omega
   subst this;exact gR _
  ·exact hs i j hi hij (by omega)
 case fin=>
  rintro c st' ⟨hc,hB',hs'⟩
  refine⟨hc,hB',?_⟩
  have e:min (max (max ok 1) n) n=n:=by omega
  rwa[e] at hs'
 case step=>
  rintro k c st' hak hkn ⟨rfl,hB',hs'⟩
  have e:min k n=k:=by omega
  rw[e] at hs'
  have hz:=hB'.size
  have hks:lo+k< (arrOf st').size:=by omega
  have hU':=hU.of_perm hB'.perm
  refine b7 (fT (eV (I:=fun x c st''=>st''=st'∧∃l r,c=(none,l,r)∧l≤r∧r≤k∧r-l≤k-x∧
    (∀i,i<l→RK rk (arrOf st') (lo+i)≤RK rk (arrOf st') (lo+k))∧(∀i,r≤i→i<k→RK rk (arrOf st') (lo+k)<RK rk (arrOf st') (lo+i)))
   (Q:=fun c st''=>st''=st'∧∃l r,c=(none,l,r)∧l≤k∧
    (∀i,i<l→RK rk (arrOf st') (lo+i)≤RK rk (arrOf st') (lo+k))∧(∀i,l≤i→i<k→RK rk (arrOf st') (lo+k)<RK rk (arrOf st') (lo+i))) ?istep ?ifin ?iinit) ?ipost)
  case iinit=>exact⟨rfl,0,k,rfl,by omega,by omega,by omega,fun i hi=>by omega,fun i h1 h2=>by omega⟩
  case ifin=>
   rintro c st'' ⟨rfl,l,r,rfl,hlr,hrk,hm,hlo,hhi⟩
   have:l=r:=by omega
   subst this
   exact⟨rfl,l,l,rfl,hrk,hlo,hhi⟩
  case istep=>
   rintro x c st'' _ hxk ⟨rfl,l,r,rfl,hlr,hrk,hm,hlo,hhi⟩
   dsimp only
   by_cases hge:l≥r
   ·rw[if_pos hge]
    have:l=r:=by omega
    subst this
    exact da ⟨rfl,l,l,rfl,hrk,hlo,hhi⟩
   ·rw[if_neg hge]
    refine b7 (BK C (hB'.kd.trans hk) hU' hks (by omega) ?_)
    dsimp only
    by_cases hless:RK rk (arrOf st'') (lo+k)<RK rk (arrOf st'') (lo+(l+r)/2)
    ·rw[if_pos (decide_eq_true hless)]
     refine da ⟨rfl,l,(l+r)/2,rfl,by omega,by omega,by omega,hlo,fun i q1 q2=>?_⟩
     exact Int.lt_of_lt_of_le hless (hs' _ _ (by omega) (by omega) (by omega))
    ·rw[if_neg (fun q=>hless (of_decide_eq_true q))]
     refine da ⟨rfl,(l+r)/2+1,r,rfl,by omega,by omega,by omega,fun i q1=>?_,hhi⟩
     exact gQ (hs' (lo+i) (lo+(l+r)/2) (by omega) (by omega) (by omega)) (Int.not_lt.mp hless)
  case ipost=>
   rintro c st'' ⟨rfl,l,r,rfl,hlk,hlo,hhi⟩
   show wpS _ _ _ _ (do moveDown' (lo+k) (lo+l);pure (gx (none,()))) _ _
   rw[moveDown'_eq]
   have ed:lo+k- (lo+l)=k-l:=by omega
   refine b7 (iL (da ⟨rfl,hB'.setA (Array.perm_iff_toList_perm.mp (bubble_perm _ _ _)) ?_,?_⟩))
   ·intro x hx
    rw[ed,getElem?_bubble hks _ (by omega),if_neg (by omega),if_neg (by omega)]
   have e2:lo+min (k+1) n=lo+k+1:=by omega
   rw[e2]
   intro i j hi hij hj
   show RK rk (bubble (arrOf st'') (lo+k) (lo+k- (lo+l))) i≤RK rk (bubble (arrOf st'') (lo+k) (lo+k- (lo+l))) j
   rw[ed,Ha hks (by omega),Ha hks (by omega)]
   have e3:lo+k- (k-l)=lo+l:=by omega
   rw[e3]
   have hlo':∀i,lo≤i→i<lo+l→RK rk (arrOf st'') i≤RK rk (arrOf st'') (lo+k):=fun i q1 q2=>by
    have:=hlo (i-lo) (by omega)
    have e4:lo+(i-lo)=i:=by omega
    rwa[e4] at this
   have hhi':∀i,lo+l≤i→i<lo+k→RK rk (arrOf st'') (lo+k)≤RK rk (arrOf st'') i:=fun i q1 q2=>by
    have:=hhi (i-lo) (by omega) (by omega)
    have e4:lo+(i-lo)=i:=by omega
    rw[e4] at this
    exact gH this
   repeat' split
   all_goals first
    | (exfalso;omega)
    |exact gR _
    |exact hlo' _ (by omega) (by omega)
    |exact hhi' _ (by omega) (by omega)
    |exact hs' _ _ (by omega) (by omega) (by omega)
end
local macro_rules | `(tactic| omega) => `(tactic| first | lia | omega)
open PySem PyProof.Rows
variable{rk:Keyed→Int}
def Dsc(rk:Keyed→Int)(arr:Array Keyed)(lo hi:Nat):Prop:=∀x y,lo≤x→x≤y→y<hi→RK rk arr y≤RK rk arr x
theorem OI{xs:Array Keyed}{i j:Nat}(hj:j≤xs.size)(k:Nat):RK rk (mirror xs i j ((j-i)/2)) k=if i≤k∧k<j then RK rk xs (i+j-1-k) else RK rk xs k:=by
 have e:=getElem?_mirror_all (i:=i) hj k
 by_cases c1:i≤k∧k<j
 ·rw[if_pos c1] at e ⊢;exact DN e
 ·rw[if_neg c1] at e ⊢;exact DN e
section
variable{prog:Program}{w:World}{A:dy}{E:Value→a7→Prop}{s:a7}{kd:iY}{U:Keyed→Prop}
theorem EF{st0 st:eF}{lo hi i j:Nat}{Q:Unit→eF→Prop}(k:Kp st0 st lo hi)(h1:lo≤i)(h2:j≤hi)(hj:j≤(arrOf st).size)
  (h:∀st',Kp st0 st' lo hi→(∀k,RK rk (arrOf st') k=if i≤k∧k<j then RK rk (arrOf st) (i+j-1-k) else RK rk (arrOf st) k)→Q () st'):wpS (model prog w) A E s (reverseSlice' i j) Q st:=by
 rw[reverseSlice'_eq]
 refine iL (h _ (k.setA (Array.perm_iff_toList_perm.mp (mirror_perm _ _ _ _)) fun x hx=>?_) fun k=>OI hj k)
 rw[getElem?_mirror_all hj,if_neg (by omega)]
theorem DO{st0 st:eF}{lo hi i j:Nat}{Q:Unit→eF→Prop}(k:Kp st0 st lo hi)(h1:lo≤i)(h2:j≤hi)(hj:j≤(arrOf st).size)(heq:∀k,i≤k→k<j→RK rk (arrOf st) k=RK rk (arrOf st) (j-1))
  (h:∀st',Kp st0 st' lo hi→(∀k,RK rk (arrOf st') k=RK rk (arrOf st) k)→Q () st'):wpS (model prog w) A E s (reverseSlice' i j) Q st:=by
 refine EF (rk:=rk) k h1 h2 hj fun st' k' e=>h st' k' fun x=>?_
 rw[e x]
 split
 ·rw[heq _ (by omega) (by omega),heq x (by omega) (by omega)]
 ·rfl
theorem Seg.up{arr:Array Keyed}{lo n:Nat}(sg:Seg rk arr lo (lo+n))(h1:1≤n)(hx:¬RK rk arr (lo+n)<RK rk arr (lo+n-1)):Seg rk arr lo (lo+(n+1)):=fun i j hi hij hj=>by
 by_cases c:j<lo+n
 ·exact sg i j hi hij c
 ·have e:j=lo+n:=by omega
  subst e
  by_cases c2:i=lo+n
  ·subst c2;exact gR _
  ·exact gQ (sg i (lo+n-1) hi (by omega) (by omega)) (Int.not_lt.mp hx)
theorem Dsc.up{arr arr':Array Keyed}{lo n:Nat}(sg:Dsc rk arr lo (lo+n))(h1:1≤n)(hx:RK rk arr (lo+n)≤RK rk arr (lo+n-1))(he:∀k,RK rk arr' k=RK rk arr k):Dsc rk arr' lo (lo+(n+1)):=fun i j hi hij hj=>by
 rw[he,he]
 by_cases c:j<lo+n
 ·exact sg i j hi hij c
 ·have e:j=lo+n:=by omega
  subst e
  by_cases c2:i=lo+n
  ·subst c2;exact gR _
  ·exact gQ hx (sg i (lo+n-1) hi (by omega) (by omega))
theorem LX{st:eF}{lo nrem:Nat}{Q:Option Nat→eF→Prop}(C:Oj prog w A E s kd U rk)(hk:kindOf st=kd)(hU:AllU U (arrOf st))(hn:lo+nrem≤(arrOf st).size)(h1:1≤nrem)
  (h:∀m st',Kp st st' lo (lo+nrem)→1≤m→m≤nrem→Seg rk (arrOf st') lo (lo+m)→Q (some m) st'):
  wpS (model prog w) A E s (countRun' lo nrem) Q st:=by
 rw[countRun'_eq]
 refine b7 (fT (eV (I:=fun x c st'=>st'=st∧c=(none,x)∧Seg rk (arrOf st) lo (lo+x))
  (Q:=fun c st'=>st'=st∧∃n,c=(none,n)∧1≤n∧n≤nrem∧Seg rk (arrOf st) lo (lo+n)∧(n=nrem∨RK rk (arrOf st) (lo+n)<RK rk (arrOf st) (lo+n-1))) ?step ?fin ⟨rfl,rfl,fun i j hi hij hj=>by have:i=j:=(by omega);subst this;exact gR _⟩) ?post)
 case fin=>
  rintro c st' ⟨rfl,rfl,hs'⟩
  have e:max 1 nrem=nrem:=by omega
  rw[e] at hs' ⊢
  exact⟨rfl,nrem,rfl,h1,de _,hs',.inl rfl⟩
 case step=>
  rintro x c st' hax hxn ⟨rfl,rfl,hs'⟩
  dsimp only
  refine b7 (BK C hk hU (by omega) (by omega) ?_)
  dsimp only
  by_cases hless:RK rk (arrOf st') (lo+x)<RK rk (arrOf st') (lo+x-1)
  ·rw[if_pos (decide_eq_true hless)]
   exact da ⟨rfl,x,rfl,hax,by omega,hs',.inr hless⟩
  ·rw[if_neg (fun q=>hless (of_decide_eq_true q))]
   exact da ⟨rfl,rfl,hs'.up hax hless⟩
 case post=>
  rintro c st' ⟨rfl,n,rfl,hn1,hn2,hsn,hor⟩
  dsimp only
  by_cases hnn:n=nrem
  ·rw[if_pos (beq_iff_eq.mpr hnn)]
   exact da (h n _ (Kp.refl _ _ _) hn1 hn2 hsn)
  rw[if_neg (fun q=>hnn (beq_iff_eq.mp q))]
  have hlt:=hor.resolve_left hnn
  by_cases hgt:n>1
  ·rw[if_pos hgt]
   refine b7 (BK C hk hU (by omega) (by omega) ?_)
   dsimp only
   by_cases hrose:RK rk (arrOf st') lo<RK rk (arrOf st') (lo+n-1)
   ·rw[if_pos (decide_eq_true hrose)]
    exact da (h n _ (Kp.refl _ _ _) hn1 hn2 hsn)
   rw[if_neg (fun q=>hrose (of_decide_eq_true q))]
   have hall:∀k,lo≤k→k<lo+n→RK rk (arrOf st') k=RK rk (arrOf st') (lo+n-1):=fun k q1 q2=>by
    have a1:=hsn lo k (by omega) q1 q2
    have a2:=hsn k (lo+n-1) q1 (by omega) (by omega)
    omega
   refine b7 (DO (rk:=rk) (Kp.refl st' lo (lo+nrem)) (de _) (by omega) (by omega) hall fun st2 kp hRK=>?_)
   have hd:Dsc rk (arrOf st2) lo (lo+(n+1)):=Dsc.up (arr:=arrOf st') (fun i j q1 q2 q3=>by rw[hall i q1 (by omega),hall j (by omega) q3];exact gR _) hn1 (gH hlt) hRK
   refine b7 (jJ (iV ⟨rfl,?_⟩))
   refine b7 (fT (eV (I:=fun x c st3=>∃neq,c=(none,x,neq)∧Kp st' st3 lo (lo+nrem)∧Dsc rk (arrOf st3) lo (lo+x)∧neq+1≤x∧(∀i,lo+x- (neq+1)≤i→i<lo+x→RK rk (arrOf st3) i=RK rk (arrOf st3) (lo+x-1)))
    (Q:=fun c st3=>∃m neq,c=(none,m,neq)∧Kp st' st3 lo (lo+nrem)∧n+1≤m∧m≤nrem∧Dsc rk (arrOf st3) lo (lo+m)∧neq+1≤m∧(∀i,lo+m- (neq+1)≤i→i<lo+m→RK rk (arrOf st3) i=RK rk (arrOf st3) (lo+m-1))) ?_ ?_ ⟨0,rfl,kp,hd,by omega,fun i q1 q2=>by congr 1;omega⟩) ?_)
   ·rintro x c st3 hax hxn ⟨neq,rfl,kp,hd,hq,he⟩
    have hz:=kp.size
    have hU3:=hU.of_perm kp.perm
    dsimp only
    refine b7 (BK C (kp.kd.trans hk) hU3 (by omega) (by omega) ?_)
    dsimp only
    by_cases hless:RK rk (arrOf st3) (lo+x)<RK rk (arrOf st3) (lo+x-1)
    ·rw[if_pos (decide_eq_true hless)]
     by_cases hneq:neq>0
     ·rw[if_pos hneq]
      refine b7 (DO (rk:=rk) kp (by omega) (by omega) (by omega) he fun st4 kp4 hRK=>?_)
      exact da ⟨0,rfl,kp4,hd.up (by omega) (gH hless) hRK,by omega,fun i q1 q2=>by congr 1;omega⟩
     ·rw[if_neg hneq]
      exact da ⟨0,rfl,kp,hd.up (by omega) (gH hless) fun _=>rfl,by omega,fun i q1 q2=>by congr 1;omega⟩
    ·rw[if_neg (fun q=>hless (of_decide_eq_true q))]
     refine b7 (BK C (kp.kd.trans hk) hU3 (by omega) (by omega) ?_)
     dsimp only
     by_cases hlarger:RK rk (arrOf st3) (lo+x-1)<RK rk (arrOf st3) (lo+x)
     ·rw[if_pos (decide_eq_true hlarger)]
      exact da ⟨x,neq,rfl,kp,hax,by omega,hd,hq,he⟩
     ·rw[if_neg (fun q=>hlarger (of_decide_eq_true q))]
      have heqx:RK rk (arrOf st3) (lo+x)=RK rk (arrOf st3) (lo+x-1):=by omega
      refine da ⟨neq+1,rfl,kp,hd.up (by omega) (by omega) fun _=>rfl,by omega,fun i q1 q2=>?_⟩
      have e1:lo+(x+1)-1=lo+x:=by omega
      rw[e1]
      by_cases hix:i=lo+x
      ·rw[hix]
      ·rw[heqx];exact he i (by omega) (by omega)
   ·rintro c st3 ⟨neq,rfl,kp,hd,hq,he⟩
    have e:max (n+1) nrem=nrem:=by omega
    rw[e] at hd hq he ⊢
    exact⟨nrem,neq,rfl,kp,by omega,de _,hd,hq,he⟩
   rintro c st3 ⟨m,neq,rfl,kp,hm1,hm2,hd,hq,he⟩
   have hz:=kp.size
   dsimp only
   have rest:∀(st4:eF),Kp st' st4 lo (lo+nrem)→Dsc rk (arrOf st4) lo (lo+m)→∀st5,Kp st' st5 lo (lo+nrem)→(∀k,RK rk (arrOf st5) k=if lo≤k∧k<lo+m then RK rk (arrOf st4) (lo+(lo+m)-1-k) else RK rk (arrOf st4) k)→Seg rk (arrOf st5) lo (lo+m):=fun st4 _ d4 st5 _ e5 i j q1 q2 q3=>by
    rw[e5,e5,if_pos (by omega),if_pos (by omega)]
    exact d4 _ _ (by omega) (by omega) (by omega)
   by_cases hneq:neq>0
   ·rw[if_pos hneq]
    refine b7 (DO (rk:=rk) kp (by omega) (by omega) (by omega) he fun st4 kp4 hRK=>?_)
    have d4:Dsc rk (arrOf st4) lo (lo+m):=fun i j q1 q2 q3=>by rw[hRK,hRK];exact hd i j q1 q2 q3
    have hz4:=kp4.size
    refine b7 (EF (rk:=rk) kp4 (de _) (by omega) (by omega) fun st5 kp5 e5=>?_)
    have s5:=rest _ kp4 d4 st5 kp5 e5
    have hz5:=kp5.size
    have hU5:=hU.of_perm kp5.perm
    refine b7 (fT (eV (I:=fun x c st6=>st6=st5∧c=(none,x)∧Seg rk (arrOf st5) lo (lo+x))
     (Q:=fun c st6=>st6=st5∧∃n,c=(none,n)∧1≤n∧n≤nrem∧Seg rk (arrOf st5) lo (lo+n)) ?_ ?_ ⟨rfl,rfl,s5⟩) ?_)
    ·rintro x c st6 hax hxn ⟨rfl,rfl,hs'⟩
     dsimp only
     refine b7 (BK C (kp5.kd.trans hk) hU5 (by omega) (by omega) ?_)
     dsimp only
     by_cases hless:RK rk (arrOf st6) (lo+x)<RK rk (arrOf st6) (lo+x-1)
     ·rw[if_pos (decide_eq_true hless)]
      exact da ⟨rfl,x,rfl,by omega,by omega,hs'⟩
     ·rw[if_neg (fun q=>hless (of_decide_eq_true q))]
      exact da ⟨rfl,rfl,hs'.up (by omega) hless⟩
    ·rintro c st6 ⟨rfl,rfl,hs'⟩
     have e:max m nrem=nrem:=by omega
     rw[e] at hs' ⊢
     exact⟨rfl,nrem,rfl,h1,de _,hs'⟩
    rintro c st6 ⟨rfl,n5,rfl,q1,q2,q3⟩
    exact da (h n5 _ kp5 q1 q2 q3)
   ·rw[if_neg hneq]
    have kp4:=kp
    have d4:=hd
    have hz4:=hz
    refine b7 (EF (rk:=rk) kp4 (de _) (by omega) (by omega) fun st5 kp5 e5=>?_)
    have s5:=rest _ kp4 d4 st5 kp5 e5
    have hz5:=kp5.size
    have hU5:=hU.of_perm kp5.perm
    refine b7 (fT (eV (I:=fun x c st6=>st6=st5∧c=(none,x)∧Seg rk (arrOf st5) lo (lo+x))
     (Q:=fun c st6=>st6=st5∧∃n,c=(none,n)∧1≤n∧n≤nrem∧Seg rk (arrOf st5) lo (lo+n)) ?_ ?_ ⟨rfl,rfl,s5⟩) ?_)
    ·rintro x c st6 hax hxn ⟨rfl,rfl,hs'⟩
     dsimp only
     refine b7 (BK C (kp5.kd.trans hk) hU5 (by omega) (by omega) ?_)
     dsimp only
     by_cases hless:RK rk (arrOf st6) (lo+x)<RK rk (arrOf st6) (lo+x-1)
     ·rw[if_pos (decide_eq_true hless)]
      exact da ⟨rfl,x,rfl,by omega,by omega,hs'⟩
     ·rw[if_neg (fun q=>hless (of_decide_eq_true q))]
      exact da ⟨rfl,rfl,hs'.up (by omega) hless⟩
    ·rintro c st6 ⟨rfl,rfl,hs'⟩
     have e:max m nrem=nrem:=by omega
     rw[e] at hs' ⊢
     exact⟨rfl,nrem,rfl,h1,de _,hs'⟩
    rintro c st6 ⟨rfl,n5,rfl,q1,q2,q3⟩
    exact da (h n5 _ kp5 q1 q2 q3)
  ·rw[if_neg hgt]
   have hd:Dsc rk (arrOf st') lo (lo+(n+1)):=Dsc.up (arr:=arrOf st') (fun i j q1 q2 q3=>by have:i=j:=(by omega);subst this;exact gR _) hn1 (gH hlt) fun _=>rfl
   have kp:=Kp.refl st' lo (lo+nrem)
   refine b7 (jJ (iV ⟨rfl,?_⟩))
   refine b7 (fT (eV (I:=fun x c st3=>∃neq,c=(none,x,neq)∧Kp st' st3 lo (lo+nrem)∧Dsc rk (arrOf st3) lo (lo+x)∧neq+1≤x∧(∀i,lo+x- (neq+1)≤i→i<lo+x→RK rk (arrOf st3) i=RK rk (arrOf st3) (lo+x-1)))
    (Q:=fun c st3=>∃m neq,c=(none,m,neq)∧Kp st' st3 lo (lo+nrem)∧n+1≤m∧m≤nrem∧Dsc rk (arrOf st3) lo (lo+m)∧neq+1≤m∧(∀i,lo+m- (neq+1)≤i→i<lo+m→RK rk (arrOf st3) i=RK rk (arrOf st3) (lo+m-1))) ?_ ?_ ⟨0,rfl,kp,hd,by omega,fun i q1 q2=>by congr 1;omega⟩) ?_)
   ·rintro x c st3 hax hxn ⟨neq,rfl,kp,hd,hq,he⟩
    have hz:=kp.size
    have hU3:=hU.of_perm kp.perm
    dsimp only
    refine b7 (BK C (kp.kd.trans hk) hU3 (by omega) (by omega) ?_)
    dsimp only
    by_cases hless:RK rk (arrOf st3) (lo+x)<RK rk (arrOf st3) (lo+x-1)
    ·rw[if_pos (decide_eq_true hless)]
     by_cases hneq:neq>0
     ·rw[if_pos hneq]
      refine b7 (DO (rk:=rk) kp (by omega) (by omega) (by omega) he fun st4 kp4 hRK=>?_)
      exact da ⟨0,rfl,kp4,hd.up (by omega) (gH hless) hRK,by omega,fun i q1 q2=>by congr 1;omega⟩
     ·rw[if_neg hneq]
      exact da ⟨0,rfl,kp,hd.up (by omega) (gH hless) fun _=>rfl,by omega,fun i q1 q2=>by congr 1;omega⟩
    ·rw[if_neg (fun q=>hless (of_decide_eq_true q))]
     refine b7 (BK C (kp.kd.trans hk) hU3 (by omega) (by omega) ?_)
     dsimp only
     by_cases hlarger:RK rk (arrOf st3) (lo+x-1)<RK rk (arrOf st3) (lo+x)
     ·rw[if_pos (decide_eq_true hlarger)]
      exact da ⟨x,neq,rfl,kp,hax,by omega,hd,hq,he⟩
     ·rw[if_neg (fun q=>hlarger (of_decide_eq_true q))]
      have heqx:RK rk (arrOf st3) (lo+x)=RK rk (arrOf st3) (lo+x-1):=by omega
      refine da ⟨neq+1,rfl,kp,hd.up (by omega) (by omega) fun _=>rfl,by omega,fun i q1 q2=>?_⟩
      have e1:lo+(x+1)-1=lo+x:=by omega
      rw[e1]
      by_cases hix:i=lo+x
      ·rw[hix]
      ·rw[heqx];exact he i (by omega) (by omega)
   ·rintro c st3 ⟨neq,rfl,kp,hd,hq,he⟩
    have e:max (n+1) nrem=nrem:=by omega
    rw[e] at hd hq he ⊢
    exact⟨nrem,neq,rfl,kp,by omega,de _,hd,hq,he⟩
   rintro c st3 ⟨m,neq,rfl,kp,hm1,hm2,hd,hq,he⟩
   have hz:=kp.size
   dsimp only
   have rest:∀(st4:eF),Kp st' st4 lo (lo+nrem)→Dsc rk (arrOf st4) lo (lo+m)→∀st5,Kp st' st5 lo (lo+nrem)→(∀k,RK rk (arrOf st5) k=if lo≤k∧k<lo+m then RK rk (arrOf st4) (lo+(lo+m)-1-k) else RK rk (arrOf st4) k)→Seg rk (arrOf st5) lo (lo+m):=fun st4 _ d4 st5 _ e5 i j q1 q2 q3=>by
    rw[e5,e5,if_pos (by omega),if_pos (by omega)]
    exact d4 _ _ (by omega) (by omega) (by omega)
   by_cases hneq:neq>0
   ·rw[if_pos hneq]
    refine b7 (DO (rk:=rk) kp (by omega) (by omega) (by omega) he fun st4 kp4 hRK=>?_)
    have d4:Dsc rk (arrOf st4) lo (lo+m):=fun i j q1 q2 q3=>by rw[hRK,hRK];exact hd i j q1 q2 q3
    have hz4:=kp4.size
    refine b7 (EF (rk:=rk) kp4 (de _) (by omega) (by omega) fun st5 kp5 e5=>?_)
    have s5:=rest _ kp4 d4 st5 kp5 e5
    have hz5:=kp5.size
    have hU5:=hU.of_perm kp5.perm
    refine b7 (fT (eV (I:=fun x c st6=>st6=st5∧c=(none,x)∧Seg rk (arrOf st5) lo (lo+x))
     (Q:=fun c st6=>st6=st5∧∃n,c=(none,n)∧1≤n∧n≤nrem∧Seg rk (arrOf st5) lo (lo+n)) ?_ ?_ ⟨rfl,rfl,s5⟩) ?_)
    ·rintro x c st6 hax hxn ⟨rfl,rfl,hs'⟩
     dsimp only
     refine b7 (BK C (kp5.kd.trans hk) hU5 (by omega) (by omega) ?_)
     dsimp only
     by_cases hless:RK rk (arrOf st6) (lo+x)<RK rk (arrOf st6) (lo+x-1)
     ·rw[if_pos (decide_eq_true hless)]
      exact da ⟨rfl,x,rfl,by omega,by omega,hs'⟩
     ·rw[if_neg (fun q=>hless (of_decide_eq_true q))]
      exact da ⟨rfl,rfl,hs'.up (by omega) hless⟩
    ·rintro c st6 ⟨rfl,rfl,hs'⟩
     have e:max m nrem=nrem:=by omega
     rw[e] at hs' ⊢
     exact⟨rfl,nrem,rfl,h1,de _,hs'⟩
    rintro c st6 ⟨rfl,n5,rfl,q1,q2,q3⟩
    exact da (h n5 _ kp5 q1 q2 q3)
   ·rw[if_neg hneq]
    have kp4:=kp
    have d4:=hd
    have hz4:=hz
    refine b7 (EF (rk:=rk) kp4 (de _) (by omega) (by omega) fun st5 kp5 e5=>?_)
    have s5:=rest _ kp4 d4 st5 kp5 e5
    have hz5:=kp5.size
    have hU5:=hU.of_perm kp5.perm
    refine b7 (fT (eV (I:=fun x c st6=>st6=st5∧c=(none,x)∧Seg rk (arrOf st5) lo (lo+x))
     (Q:=fun c st6=>st6=st5∧∃n,c=(none,n)∧1≤n∧n≤nrem∧Seg rk (arrOf st5) lo (lo+n)) ?_ ?_ ⟨rfl,rfl,s5⟩) ?_)
    ·rintro x c st6 hax hxn ⟨rfl,rfl,hs'⟩
     dsimp only
     refine b7 (BK C (kp5.kd.trans hk) hU5 (by omega) (by omega) ?_)
     dsimp only
     by_cases hless:RK rk (arrOf st6) (lo+x)<RK rk (arrOf st6) (lo+x-1)
     ·rw[if_pos (decide_eq_true hless)]
      exact da ⟨rfl,x,rfl,by omega,by omega,hs'⟩
     ·rw[if_neg (fun q=>hless (of_decide_eq_true q))]
      exact da ⟨rfl,rfl,hs'.up (by omega) hless⟩
    ·rintro c st6 ⟨rfl,rfl,hs'⟩
     have e:max m nrem=nrem:=by omega
     rw[e] at hs' ⊢
     exact⟨rfl,nrem,rfl,h1,de _,hs'⟩
    rintro c st6 ⟨rfl,n5,rfl,q1,q2,q3⟩
    exact da (h n5 _ kp5 q1 q2 q3)
end
end SrtG
namespace SrtG
local macro_rules | `(tactic| omega) => `(tactic| first | lia | omega)
open PySem PyProof.Rows
variable{rk:Keyed→Int}
abbrev Pj:=Nat×Nat×Nat
def Cov(rk:Keyed→Int)(arr:Array Keyed):Nat→List Pj→Nat→Prop
 |a,[],hi=>a=hi
 |a,e::l,hi=>e.1=a∧0<e.2.1∧Seg rk arr a (a+e.2.1)∧Cov rk arr (a+e.2.1) l hi
theorem Cov.le{arr:Array Keyed}:∀{l:List Pj} {a hi:Nat},Cov rk arr a l hi→a+l.length≤hi
 | [],a,hi,h=>by have:a=hi:=h;simp only[gN];omega
 |e::l,a,hi,h=>by have:=Cov.le h.2.2.2;have:=h.2.1;rw[dm];omega
theorem Cov.app{arr:Array Keyed}:∀{l1:List Pj} {l2:List Pj} {a hi:Nat},Cov rk arr a (l1++l2) hi↔∃m,Cov rk arr a l1 m∧Cov rk arr m l2 hi
 | [],l2,a,hi=> ⟨fun h=> ⟨a,rfl,h⟩,fun⟨m,h1,h2⟩=>by have:a=m:=h1;subst this;exact h2⟩
 |e::l1,l2,a,hi=> ⟨fun⟨h1,h2,h3,h4⟩=>by
   obtain⟨m,q1,q2⟩:=Cov.app.mp h4
   exact⟨m,⟨h1,h2,h3,q1⟩,q2⟩,fun⟨m,⟨h1,h2,h3,h4⟩,q2⟩=> ⟨h1,h2,h3,Cov.app.mpr ⟨m,h4,q2⟩⟩⟩
theorem Cov.cong{arr arr':Array Keyed}:∀{l:List Pj} {a hi:Nat},(∀x,a≤x→x<hi→RK rk arr' x=RK rk arr x)→Cov rk arr a l hi→Cov rk arr' a l hi
 | [],_,_,_,h=>h
 |e::l,a,hi,hx,⟨h1,h2,h3,h4⟩=>by
  have hl:=h4.le
  exact⟨h1,h2,fun x y q1 q2 q3=>by rw[hx x q1 (by omega),hx y (by omega) (by omega)];exact h3 x y q1 q2 q3,h4.cong fun x q1 q2=>hx x (by omega) q2⟩
theorem WB{p:Array Pj}{i:Nat}(h:i+1<p.size):∃l1 e1 e2 l2,p.toList=l1++e1::e2::l2∧l1.length=i∧p[i]?=some e1∧p[i+1]?=some e2:=by
 have hl:p.toList.length=p.size:=dg
 have h1:i<p.toList.length:=by omega
 have h2:i+1<p.toList.length:=by omega
 refine⟨p.toList.take i,p.toList[i],p.toList[i+1],p.toList.drop (i+2),?_,?_,?_,?_⟩
 ·rw[←gY h2,←gY h1,fY]
 ·rw[eU];omega
 ·rw[←dQ];exact b9 h1
 ·rw[←dQ];exact b9 h2
theorem WC{p:Array Pj}{i:Nat}{e e1 e2:Pj}{l1 l2:List Pj}(hp:p.toList=l1++e1::e2::l2)(hl:l1.length=i):((p.setIfInBounds i e).eraseIdxIfInBounds (i+1)).toList=l1++e::l2:=by
 have hz:i+1<p.size:=by
  rw[←dg,hp,dH,dm,dm];omega
 have hz':i+1< (p.setIfInBounds i e).size:=by rw[Array.size_setIfInBounds];exact hz
 unfold Array.eraseIdxIfInBounds
 rw[dif_pos hz',Array.toList_eraseIdx,Array.toList_setIfInBounds,hp]
 subst hl
 rw[List.set_append_right _ _ (de _),Nat.sub_self,List.set_cons_zero,List.eraseIdx_append_of_length_le (by omega)]
 have e:l1.length+1-l1.length=1:=by omega
 rw[e]
 rfl
structure Bs(kd:iY)(a₀:Array Keyed)(st:eF):Prop where
 kd:kindOf st=kd
 fl:iG st=none
 perm:(arrOf st).toList.Perm a₀.toList
theorem Bs.size{kd:iY}{a₀:Array Keyed}{st:eF}(b:Bs kd a₀ st):(arrOf st).size=a₀.size:=by
 rw[←dg,←dg];exact b.perm.length_eq
theorem Bs.kp{kd:iY}{a₀:Array Keyed}{st st':eF}{lo hi:Nat}(b:Bs kd a₀ st)(k:Kp st st' lo hi):Bs kd a₀ st':=⟨k.kd.trans b.kd,k.fl.trans b.fl,k.perm.trans b.perm⟩
section
variable{prog:Program}{w:World}{A:dy}{E:Value→a7→Prop}{s:a7}{kd:iY}{U:Keyed→Prop}{a₀:Array Keyed}
theorem Dr{i hi:Nat}{st:eF}{Q:Bool→eF→Prop}(C:Oj prog w A E s kd U rk)(hU:AllU U a₀)(b:Bs kd a₀ st)(hc:Cov rk (arrOf st) 0 (pendingOf st).toList hi)(hhi:hi≤a₀.size)(hi1:i+1< (pendingOf st).size)
  (h:∀st',Bs kd a₀ st'→Cov rk (arrOf st') 0 (pendingOf st').toList hi→(pendingOf st').size+1=(pendingOf st).size→(∀x,hi≤x→RK rk (arrOf st') x=RK rk (arrOf st) x)→Q true st'):wpS (model prog w) A E s (mergeAt' i) Q st:=by
 obtain⟨l1,⟨s1,n1,p1⟩,⟨s2,n2,p2⟩,l2,hp,hl,e1,e2⟩:=WB hi1
 have hc0:=hc
 rw[hp] at hc0
 obtain⟨m,c1,q1,q2,q3,q4,q5,q6,q7⟩:=Cov.app.mp hc0
 dsimp only at q1 q2 q3 q4 q5 q6 q7
 subst q1
 have hle:=q7.le
 have hz:=b.size
 refine KC C b.kd (hU.of_perm b.perm) b.fl e1 e2 q4 q2 q5 (by omega) (by rw[q4];exact q3) (by rw[q4];exact q6) fun st' k1 k2 k3 u=>?_
 have hj:=WC (e:=(s1,n1+n2,p1)) hp hl
 have c1le:=c1.le
 refine h st' ⟨k1,k2,u.perm.trans b.perm⟩ ?_ ?_ ?_
 ·rw[k3,hj]
  refine Cov.app.mpr ⟨s1,c1.cong fun x _ hx=>CB (u.out x (.inl hx)),rfl,by show 0<n1+n2;omega,?_,?_⟩
  ·show Seg rk (arrOf st') s1 (s1+(n1+n2))
   have:=u.seg
   rw[q4,l0] at this
   exact this
  ·show Cov rk (arrOf st') (s1+(n1+n2)) l2 hi
   rw[←l0]
   exact q7.cong fun x hx _=>CB (u.out x (.inr (by omega)))
 ·rw[←dg,←dg,k3,hj,hp,dH,dH,dm,dm,dm]
  omega
 ·intro x hx
  exact CB (u.out x (.inr (by omega)))
end
end SrtG
namespace SrtG
local macro_rules | `(tactic| omega) => `(tactic| first | lia | omega)
open PySem PyProof.Rows
variable{rk:Keyed→Int}
theorem Cov.shape{arr:Array Keyed}:∀{l l':List Pj} {a hi:Nat},l'.map (fun e=> (e.1,e.2.1))=l.map (fun e=> (e.1,e.2.1))→Cov rk arr a l hi→Cov rk arr a l' hi
 | [],[],_,_,_,h=>h
 |e::l,e'::l',a,hi,hm,⟨h1,h2,h3,h4⟩=>by
  rw[dF,dF] at hm
  injection hm with hm1 hm2
  injection hm1 with q1 q2
  exact⟨q1.trans h1,by rw[q2];exact h2,by rw[q2];exact h3,by rw[q2];exact h4.shape hm2⟩
 | [],_::_,_,_,hm,_=>by cases hm
 |_::_,[],_,_,hm,_=>by cases hm
theorem Cov.power{arr:Array Keyed}{p:Array Pj}{i pw hi:Nat}(h:Cov rk arr 0 p.toList hi):Cov rk arr 0 (p.modify i fun e=> (e.1,e.2.1,pw)).toList hi:=by
 refine h.shape ?_
 apply fA
 intro j
 rw[b8,b8,dQ,dQ,Array.getElem?_modify]
 split
 ·cases p[j]?<;>rfl
 ·rfl
section
variable{prog:Program}{w:World}{A:dy}{E:Value→a7→Prop}{s:a7}{kd:iY}{U:Keyed→Prop}{a₀:Array Keyed}
theorem Pk{st:eF}{Q:Unit→eF→Prop}(C:Oj prog w A E s kd U rk)(hU:AllU U a₀)(b:Bs kd a₀ st)(hp:pendingOf st= #[])
  (h:∀st',Bs kd a₀ st'→Eo rk (arrOf st')→Q () st'):wpS (model prog w) A E s sortRuns' Q st:=by
 rw[sortRuns'_eq]
 refine b7 (jg ?_)
 dsimp only
 have hz:=b.size
 refine b7 (fT (eV
  (I:=fun x c st'=>∃lo,c=(none,lo)∧x≤lo∧lo≤(arrOf st).size∧Bs kd a₀ st'∧Cov rk (arrOf st') 0 (pendingOf st').toList lo)
  (Q:=fun c st'=>c.1=none∧Bs kd a₀ st'∧Cov rk (arrOf st') 0 (pendingOf st').toList (arrOf st).size) ?step ?fin ⟨0,rfl,de _,fj _,b,by rw[hp];rfl⟩) ?post)
 case fin=>
  rintro c st' ⟨lo,rfl,h1,h2,bs,cv⟩
  have e:lo=(arrOf st).size:=by omega
  subst e
  exact⟨rfl,bs,cv⟩
 case step=>
  rintro x c st1 _ hx ⟨lo,rfl,h1,h2,bs,cv⟩
  dsimp only
  have hz1:=bs.size
  by_cases cl:lo≥(arrOf st).size
  ·rw[if_pos cl]
   have e:lo=(arrOf st).size:=by omega
   subst e
   exact da ⟨rfl,bs,cv⟩
  rw[if_neg cl]
  have nextOf:∀(st3:eF) (n:Nat),Bs kd a₀ st3→Cov rk (arrOf st3) 0 (pendingOf st3).toList lo→0<n→lo+n≤(arrOf st).size→Seg rk (arrOf st3) lo (lo+n)→∀{c:Option PUnit×Nat},c=(none,lo+n)→∃lo',c=(none,lo')∧x+1≤lo'∧lo'≤(arrOf st).size∧Bs kd a₀ (j7 st3 ((pendingOf st3).push (lo,n,0)))∧Cov rk (arrOf (j7 st3 ((pendingOf st3).push (lo,n,0)))) 0 (pendingOf (j7 st3 ((pendingOf st3).push (lo,n,0)))).toList lo':=fun st3 n bs3 cv3 hpos hfit sg c hc=>by
   refine⟨lo+n,hc,by omega,hfit,⟨bs3.kd,bs3.fl,bs3.perm⟩,?_⟩
   show Cov rk (arrOf st3) 0 ((pendingOf st3).push (lo,n,0)).toList (lo+n)
   rw[iy]
   exact Cov.app.mpr ⟨lo,cv3,rfl,hpos,sg,rfl⟩
  refine b7 (LX C bs.kd (hU.of_perm bs.perm) (by omega) (by omega) fun n st2 kp2 hn1 hn2 sg2=>?_)
  have bs2:=bs.kp kp2
  have cv2:Cov rk (arrOf st2) 0 (pendingOf st2).toList lo:=by
   rw[kp2.pd]
   exact cv.cong fun x _ hx=>CB (kp2.out x (.inl hx))
  dsimp only
  by_cases cm:n<lT (arrOf st).size (arrOf st).size 0
  ·rw[if_pos cm]
   refine b7 (jJ (iV ⟨rfl,?_⟩))
   have hz2:=bs2.size
   refine b7 (LW (n:=min ((arrOf st).size-lo) (lT (arrOf st).size (arrOf st).size 0)) C bs2.kd (hU.of_perm bs2.perm) (by omega) (by omega) sg2 fun st3 kp3 sg3=>?_)
   rw[if_neg (by decide)]
   have bs3:=bs2.kp kp3
   have cv3:Cov rk (arrOf st3) 0 (pendingOf st3).toList lo:=by
    rw[kp3.pd]
    exact cv2.cong fun x _ hx=>CB (kp3.out x (.inl hx))
   have hpos:0<min ((arrOf st).size-lo) (lT (arrOf st).size (arrOf st).size 0):=by omega
   have hfit:lo+min ((arrOf st).size-lo) (lT (arrOf st).size (arrOf st).size 0)≤(arrOf st).size:=by omega
   refine b7 (jg ?_)
   cases hb:(pendingOf st3).back? with
   |none=>
    dsimp only
    exact b7 (iL (da (nextOf st3 _ bs3 cv3 hpos hfit sg3 rfl)))
   |some e=>
    obtain⟨s1,n1,p1⟩:=e
    dsimp only
    refine b7 (fT (eV (I:=fun _ c st4=>c=(none,())∧Bs kd a₀ st4∧Cov rk (arrOf st4) 0 (pendingOf st4).toList lo∧∀x,lo≤x→RK rk (arrOf st4) x=RK rk (arrOf st3) x)
     (Q:=fun c st4=>c=(none,())∧Bs kd a₀ st4∧Cov rk (arrOf st4) 0 (pendingOf st4).toList lo∧∀x,lo≤x→RK rk (arrOf st4) x=RK rk (arrOf st3) x) ?_ (fun _ _ q=>q) ⟨rfl,bs3,cv3,fun _ _=>rfl⟩) ?_)
    ·rintro y c st4 _ _ ⟨rfl,bs4,cv4,ou4⟩
     refine b7 (jg ?_)
     by_cases cp:(pendingOf st4).size>1
     ·rw[if_pos cp]
      obtain⟨o1,o2,o3⟩:=(pendingOf st4)[(pendingOf st4).size-2]
      have hge:(pendingOf st4)[(pendingOf st4).size-2]?=some (pendingOf st4)[(pendingOf st4).size-2]:=getElem?_pos _ _ (by omega)
      rw[hge]
      dsimp only
      by_cases co:(pendingOf st4)[(pendingOf st4).size-2].2.2≤power' (arrOf st).size (2*s1+n1) (2*s1+n1+n1+min ((arrOf st).size-lo) (lT (arrOf st).size (arrOf st).size 0)) (arrOf st).size
      ·rw[if_pos co]
       exact da ⟨rfl,bs4,cv4,ou4⟩
      ·rw[if_neg co]
       refine b7 (Dr C hU bs4 cv4 (by omega) (by omega) fun st5 bs5 cv5 _ ou5=>?_)
       rw[if_neg (by decide)]
       exact da ⟨rfl,bs5,cv5,fun x hx=> (ou5 x hx).trans (ou4 x hx)⟩
     ·rw[if_neg cp]
      exact da ⟨rfl,bs4,cv4,ou4⟩
    ·rintro c st4 ⟨rfl,bs4,cv4,ou4⟩
     dsimp only
     refine b7 (iL ?_)
     refine b7 (iL (da ?_))
     have sg4:Seg rk (arrOf st4) lo (lo+min ((arrOf st).size-lo) (lT (arrOf st).size (arrOf st).size 0)):=fun i j q1 q2 q3=>by rw[ou4 i q1,ou4 j (by omega)];exact sg3 i j q1 q2 q3
     exact nextOf (j7 st4 ((pendingOf st4).modify ((pendingOf st4).size-1) fun e=> (e.1,e.2.1,power' (arrOf st).size (2*s1+n1) (2*s1+n1+n1+min ((arrOf st).size-lo) (lT (arrOf st).size (arrOf st).size 0)) (arrOf st).size))) _ ⟨bs4.kd,bs4.fl,bs4.perm⟩ (Cov.power cv4) hpos hfit sg4 rfl
  ·rw[if_neg cm]
   have bs3:=bs2
   have cv3:=cv2
   have sg3:=sg2
   have hpos:0<n:=by omega
   have hfit:lo+n≤(arrOf st).size:=by omega
   refine b7 (jg ?_)
   cases hb:(pendingOf st2).back? with
   |none=>
    dsimp only
    exact b7 (iL (da (nextOf st2 _ bs3 cv3 hpos hfit sg3 rfl)))
   |some e=>
    obtain⟨s1,n1,p1⟩:=e
    dsimp only
    refine b7 (fT (eV (I:=fun _ c st4=>c=(none,())∧Bs kd a₀ st4∧Cov rk (arrOf st4) 0 (pendingOf st4).toList lo∧∀x,lo≤x→RK rk (arrOf st4) x=RK rk (arrOf st2) x)
     (Q:=fun c st4=>c=(none,())∧Bs kd a₀ st4∧Cov rk (arrOf st4) 0 (pendingOf st4).toList lo∧∀x,lo≤x→RK rk (arrOf st4) x=RK rk (arrOf st2) x) ?_ (fun _ _ q=>q) ⟨rfl,bs3,cv3,fun _ _=>rfl⟩) ?_)
    ·rintro y c st4 _ _ ⟨rfl,bs4,cv4,ou4⟩
     refine b7 (jg ?_)
     by_cases cp:(pendingOf st4).size>1
     ·rw[if_pos cp]
      obtain⟨o1,o2,o3⟩:=(pendingOf st4)[(pendingOf st4).size-2]
      have hge:(pendingOf st4)[(pendingOf st4).size-2]?=some (pendingOf st4)[(pendingOf st4).size-2]:=getElem?_pos _ _ (by omega)
      rw[hge]
      dsimp only
      by_cases co:(pendingOf st4)[(pendingOf st4).size-2].2.2≤power' (arrOf st).size (2*s1+n1) (2*s1+n1+n1+n) (arrOf st).size
      ·rw[if_pos co]
       exact da ⟨rfl,bs4,cv4,ou4⟩
      ·rw[if_neg co]
       refine b7 (Dr C hU bs4 cv4 (by omega) (by omega) fun st5 bs5 cv5 _ ou5=>?_)
       rw[if_neg (by decide)]
       exact da ⟨rfl,bs5,cv5,fun x hx=> (ou5 x hx).trans (ou4 x hx)⟩
     ·rw[if_neg cp]
      exact da ⟨rfl,bs4,cv4,ou4⟩
    ·rintro c st4 ⟨rfl,bs4,cv4,ou4⟩
     dsimp only
     refine b7 (iL ?_)
     refine b7 (iL (da ?_))
     have sg4:Seg rk (arrOf st4) lo (lo+n):=fun i j q1 q2 q3=>by rw[ou4 i q1,ou4 j (by omega)];exact sg3 i j q1 q2 q3
     exact nextOf (j7 st4 ((pendingOf st4).modify ((pendingOf st4).size-1) fun e=> (e.1,e.2.1,power' (arrOf st).size (2*s1+n1) (2*s1+n1+n1+n) (arrOf st).size))) _ ⟨bs4.kd,bs4.fl,bs4.perm⟩ (Cov.power cv4) hpos hfit sg4 rfl
 case post=>
  rintro⟨c1,c2⟩ st1 ⟨e,bs,cv⟩
  cases e
  dsimp only
  have done:∀st',Bs kd a₀ st'→Cov rk (arrOf st') 0 (pendingOf st').toList (arrOf st).size→(pendingOf st').size≤1→Eo rk (arrOf st'):=fun st' bs' cv' hl=>by
   have hz':=bs'.size
   intro i j hij hj
   rw[←dg] at hl
   revert cv' hl
   generalize (pendingOf st').toList=l
   intro cv' hl
   match l,cv',hl with
   | [],cv',_=>
    have:0=(arrOf st).size:=cv'
    omega
   | [e],cv',_=>
    obtain⟨q1,q2,q3,q4⟩:=cv'
    have:0+e.2.1=(arrOf st).size:=q4
    exact q3 i j (by omega) hij (by omega)
   |_::_::_,_,hl=>simp only[dm] at hl;omega
  have hlen:=cv.le
  rw[dg] at hlen
  refine b7 (fT (eV (I:=fun x c st'=>c=(none,())∧Bs kd a₀ st'∧Cov rk (arrOf st') 0 (pendingOf st').toList (arrOf st).size∧(pendingOf st').size+x≤(arrOf st).size)
   (Q:=fun c st'=>c=(none,())∧Bs kd a₀ st'∧Cov rk (arrOf st') 0 (pendingOf st').toList (arrOf st).size∧(pendingOf st').size≤1) ?_ ?_ ⟨rfl,bs,cv,by omega⟩) ?_)
  ·rintro x c st2 _ hx ⟨rfl,bs2,cv2,hm⟩
   refine b7 (jg ?_)
   by_cases cp:(pendingOf st2).size≤1
   ·rw[if_pos cp]
    exact da ⟨rfl,bs2,cv2,cp⟩
   ·rw[if_neg cp]
    refine b7 (Dr C hU bs2 cv2 (by omega) ?_ fun st5 bs5 cv5 hs5 _=>?_)
    ·split<;>split<;>omega
    ·rw[if_neg (by decide)]
     exact da ⟨rfl,bs5,cv5,by omega⟩
  ·rintro c st2 ⟨rfl,bs2,cv2,hm⟩
   exact⟨rfl,bs2,cv2,by omega⟩
  ·rintro c st2 ⟨rfl,bs2,cv2,hm⟩
   exact da (h _ bs2 (done _ bs2 cv2 hm))
end
end SrtG
namespace SrtG
open PySem PyProof.Rows
def LY(h:Heap)(v:Value)(a b:Int):Prop:=∃x o t u n,v=.ref x∧h.get? x=some o∧o.data=.seq #[.int a t,.int b u] n
def SG(h:Heap)(k:Keyed):Int:=match k.1 with
  | .ref x=>match h.get? x with
    |some o=>match o.data with
     | .seq xs _=>match (xs[0]?:Option Value),(xs[1]?:Option Value) with
      |some (.int a _),some (.int b _)=>65536*a+b
      |_,_=>0
     |_=>0
    |_=>0
  |_=>0
theorem Ep{h:Heap}{k:Keyed}{a b:Int}(p:LY h k.1 a b):SG h k=65536*a+b:=by
 obtain⟨x,o,t,u,n,e1,e2,e3⟩:=p
 unfold SG
 rw[e1]
 dsimp only
 rw[e2]
 dsimp only
 rw[e3]
 rfl
def Yo(h:Heap)(k:Keyed):Prop:=∃a b,LY h k.1 a b∧0≤b∧b<65536
variable{prog:Program}{w:World}{A:dy}{E:Value→a7→Prop}{s:a7}
theorem OJ:Oj prog w A E s (tuples' true) (Yo s.heap) (SG s.heap):=by
 intro st x y Q hk hx hy h
 obtain⟨a,b,px,b0,b1⟩:=hx
 obtain⟨c,d,py,d0,d1⟩:=hy
 rw[Ep px,Ep py] at h
 obtain⟨p,o,t,u,n,e1,e2,e3⟩:=px
 obtain⟨p',o',t',u',n',e1',e2',e3'⟩:=py
 rw[lt'_eq]
 refine b7 (jg ?_)
 rw[hk,e1,e1']
 refine b7 (jJ (je ?_))
 refine PySem.W.kat_lt e2 e3 e2' e3' ?_
 have fin:∀r:Bool,r=decide (65536*a+b<65536*c+d)→(s=s∧wpS (model prog w) A E s (match (Except.ok r:Except Value Bool) with
   | .ok b=>pure (some b)
   | .error e=>do
    modify (fun s=>kc (kindOf s) (arrOf s) (pendingOf s) (gallopOf s) (some e))
    pure none) Q st):=fun r hr=> ⟨rfl,by rw[hr];exact da h⟩
 refine kN (i5 ?_)
 refine lK (fun e=>?_) (fun e=>?_)
 ·have e':=eq_of_beq e
  refine k8 (kN (i5 ?_))
  refine lK (fun q=>?_) (fun q=>?_)
  ·have q':=eq_of_beq q
   exact k8 (PySem.W.kat_nil (fin _ (by rw[e',q'];simp)))
  ·exact lJ (PySem.W.kat_one _ _ (lt_int (fin _ (by congr 1;rw[e'];apply propext;constructor<;>intro<;>omega))))
 ·have e':a≠c:=fun q=>by rw[q] at e;simp at e
  refine lJ (oneLt_int (fin _ ?_))
  congr 1
  apply propext
  constructor<;>intro<;>omega
open PySem.Calls PySem.W
theorem GG:∀(vs:List Value),vs.zip vs=vs.map fun v=> (v,v)
 | []=>rfl
 |v::vs=>by rw[List.zip_cons_cons,dF,GG vs]
structure Rk(prog:Program)(w:World)(U:Heap→Value→Prop)(rk:Heap→Value→Int)(T:Value):Prop where
 cmp:∀{A:dy} {E:Value→a7→Prop} {s:a7},Oj prog w A E s (tuples' true) (fun k=>U s.heap k.1) (fun k=>rk s.heap k.1)
 kept:∀{h h':Heap} {v:Value},U h v→(∀b o,o.cls=.type "tuple"→h.get? b=some o→h'.get? b=some o)→U h' v∧rk h' v=rk h v
 kat:∀{h:Heap} {vs:List Value},(∀v∈vs,U h v)→∃fs:List Value,mB h vs fs∧fs.length=vs.length∧∀v∈fs,∀M h',Looks M h' (typeOf v) T
 t1:(T==T)=true
 t2:(T !=jl "tuple")=true
section
variable{prog:Program}{w:World}{A:dy}{E:Value→a7→Prop}{s:a7}{U:Heap→Value→Prop}{rk:Heap→Value→Int}{T:Value}
theorem Su{vs:List Value}{Q:eF→a7→Prop}(R:Rk prog w U rk T)(ok:∀v∈vs,U s.heap v)
  (h:∀st',iG st'=none→((arrOf st').map (·.2)).toList.Perm vs→((arrOf st').map (·.2)).toList.Pairwise (fun x y=>rk s.heap x≤rk s.heap y)→Q st' s):
  wpAny (model prog w) A ((sortRuns').run (kc (tuples' true) (vs.toArray.zip vs.toArray) #[] 7 none)) (fun r s'=>Q r.2 s') E s:=by
 have hz:(vs.toArray.zip vs.toArray)=(vs.map fun v=> (v,v)).toArray:=by
  apply jo
  rw[Array.toList_zip]
  show vs.zip vs=vs.map fun v=> (v,v)
  exact GG vs
 have hU:AllU (fun k=>U s.heap k.1) (vs.toArray.zip vs.toArray):=fun i p e=>by
  rw[hz] at e
  have e':(vs.map fun v=> ((v,v):Keyed))[i]?=some p:=by rw[←dQ] at e;exact e
  obtain⟨v,hv,rfl⟩:=di.mp (dc e')
  exact ok v hv
 have hwp:wpS (model prog w) A E s sortRuns' (fun _ st'=>Q st' s) (kc (tuples' true) (vs.toArray.zip vs.toArray) #[] 7 none):=by
  refine Pk (a₀:=vs.toArray.zip vs.toArray) (rk:=fun k=>rk s.heap k.1) R.cmp hU ⟨rfl,rfl,ie.refl _⟩ rfl fun st' b srt=>?_
  have hpm:=b.perm
  rw[hz] at hpm
  have hsame:∀k,k∈(arrOf st').toList→k=(k.2,k.2):=fun k hk=>by
   obtain⟨v,_,rfl⟩:=di.mp (hpm.mem_iff.mp hk)
   rfl
  refine h st' b.fl ?_ ?_
  ·rw[kR]
   have:=hpm.map (fun k:Keyed=>k.2)
   rw[show((vs.map fun v=> ((v,v):Keyed)).toArray.toList.map fun k:Keyed=>k.2)=vs from by
    show(vs.map fun v=> ((v,v):Keyed)).map (fun k:Keyed=>k.2)=vs
    rw[eJ]
    exact mR vs] at this
   exact this
  ·rw[kR,eT]
   refine e7.mpr fun i j hi hj hij=>?_
   have hi':i< (arrOf st').size:=by rw[←dg];exact hi
   have hj':j< (arrOf st').size:=by rw[←dg];exact hj
   have q:=srt i j (iu hij) hj'
   rw[An hi',An hj'] at q
   have e1:=hsame (arrOf st').toList[i] (fI hi)
   have e2:=hsame (arrOf st').toList[j] (fI hj)
   rw[←(show(arrOf st').toList[i].1=(arrOf st').toList[i].2 from congrArg gi e1),←(show(arrOf st').toList[j].1=(arrOf st').toList[j].2 from congrArg gi e2)]
   exact q
 exact iM hwp (fun r s' q=>by rw[q.1];exact q.2) fun _ _ e=>e
theorem KE{a:Addr}{vs:List Value}{n:Nat}{P:ni→a7→Prop}(ho:s.heap.get? a=some (eQ "list" vs.toArray n))(R:Rk prog w U rk T)(ok:∀v∈vs,U s.heap v)(h2:2≤vs.length)(hn:vs.length≤9000000)
  (h:∀out c h',out.Perm vs→out.Pairwise (fun x y=>rk s.heap x≤rk s.heap y)→h'.get? a=some (eQ "list" (jZ out) c)→(∀b o,b≠a→s.heap.get? b=some o→h'.get? b=some o)→P (.done (.ret .none)) {s with heap:=h'}):
  wpAny (model prog w) A (Builtin.«list.sort» ⟨[.ref a],[]⟩) P E s:=by
 obtain⟨e1,ho1⟩:∃e1,(s.heap.update a (fP fun _=> (#[]:Array Value))).get? a=some (eQ "list" #[] e1):=⟨_,jP ho fun _=> #[]⟩
 have keep:∀b o,b≠a→s.heap.get? b=some o→(((s.heap.update a (fP fun _=> (#[]:Array Value))).push (eQ "tuple" vs.toArray 0)).push (eQ "list" #[] 0)).get? b=some o:=fun b o hb e=>
  c9 _ (c9 _ (by rw[jc _ _ _ _ hb];exact e))
 have keepT:∀b o,o.cls=.type "tuple"→s.heap.get? b=some o→(((s.heap.update a (fP fun _=> (#[]:Array Value))).push (eQ "tuple" vs.toArray 0)).push (eQ "list" #[] 0)).get? b=some o:=fun b o ht e=>by
  refine keep b o (fun q=>?_) e
  rw[q,ho] at e
  cases e
  exact absurd (show jl "list" =jl "tuple" from ht) (by decide)
 have ho3:(((s.heap.update a (fP fun _=> (#[]:Array Value))).push (eQ "tuple" vs.toArray 0)).push (eQ "list" #[] 0)).get? a=some (eQ "list" #[] e1):=c9 _ (c9 _ ho1)
 have ok3:∀v∈vs,U _ v:=fun v hv=> (R.kept (ok v hv) keepT).1
 have rk3:∀v∈vs,rk _ v=rk s.heap v:=fun v hv=> (R.kept (ok v hv) keepT).2
 rw[list_sort_plain]
 refine a6 (listItems_at ho rfl ?_)
 refine a6 (kG ho rfl ?_ (by rw[du,e8];omega) (fj _))
 refine a6 (lD ho1 rfl ?_)
 refine a6 (wpAny_newTuple ?_ (by show vs.length≤_;rw[e8];omega))
 refine a6 (jG ?_ (fj _))
 refine eW ?_
 show wpAny (model prog w) A _ P E {s with heap:=((s.heap.update a (fP fun _=> (#[]:Array Value))).push (eQ "tuple" vs.toArray 0)).push (eQ "list" #[] 0)}
 generalize hG:((s.heap.update a (fP fun _=> (#[]:Array Value))).push (eQ "tuple" vs.toArray 0)).push (eQ "list" #[] 0)=G at keep ho3 ok3 rk3 ⊢
 dsimp only
 have hn2:¬vs.toArray.size<2:=by rw[du];omega
 rw[if_neg hn2,if_neg hn2]
 obtain⟨fs,kt,hl,hf⟩:=R.kat ok3
 refine a6 (kat_kind (s:={s with heap:=G}) (T:=T) kt (by omega) (fun v hv=>hf v hv _ _) R.t1 ?_)
 rw[R.t2]
 refine a6 (iM (Su (s:={s with heap:=G}) (Q:=fun st' s'=>s'={s with heap:=G}∧iG st'=none∧((arrOf st').map (·.2)).toList.Perm vs∧((arrOf st').map (·.2)).toList.Pairwise (fun x y=>rk G x≤rk G y)) R ok3 (fun st' a1 a2 a3=> ⟨rfl,a1,a2,a3⟩)) ?_ fun _ _ e=>e)
 rintro⟨⟨⟩,st'⟩ s' ⟨rfl,hfl,hpm,hpw⟩
 dsimp only
 have hsz:((arrOf st').map (·.2)).size=vs.length:=by rw[←dg];exact hpm.length_eq
 obtain⟨c2,hc2⟩:∃c2,(G.update a (fP fun _=> (arrOf st').map (·.2))).get? a=some (eQ "list" ((arrOf st').map (·.2)) c2):=⟨_,jP ho3 fun _=> (arrOf st').map (·.2)⟩
 refine a6 (lD ho3 rfl ?_)
 refine a6 (kG ho3 rfl ?_ (fj _) (eY (Nat.le_of_eq hsz) (by rw[e8];omega)))
 rw[hfl]
 simp only[bne_self_eq_false,dJ,if_false]
 refine b5 (h ((arrOf st').map (·.2)).toList c2 _ hpm ?_ hc2 fun b o hb e=>by rw[jc _ _ _ _ hb];exact keep b o hb e)
 refine fJ (fun{x y} hx hy q=>?_) hpw
 rw[rk3 _ (hpm.mem_iff.mp hx),rk3 _ (hpm.mem_iff.mp hy)] at q
 exact q
end
def TupAt(h:Heap)(v:Value)(a b:Int):Prop:=∃x o t u n,v=.ref x∧h.get? x=some o∧o.cls=.type "tuple"∧o.data=.seq #[.int a t,.int b u] n
def TupsOk(h:Heap)(vs:List Value):Prop:=∀v,v∈vs→∃a b,TupAt h v a b∧0≤b∧b<65536
theorem TupAt.pair{h:Heap}{v:Value}{a b:Int}(t:TupAt h v a b):LY h v a b:=by
 obtain⟨x,o,t,u,n,e1,e2,_,e4⟩:=t
 exact⟨x,o,t,u,n,e1,e2,e4⟩
theorem TupsOk.kat{h:Heap}:∀{vs:List Value},TupsOk h vs→∃fs:List Value,mB h vs fs∧fs.length=vs.length∧∀v∈fs,∃a t,v=.int a t
 | [],_=> ⟨[],mB.nil,rfl,fun v hv=>by cases hv⟩
 |v::vs,ok=>by
  obtain⟨fs,k,hl,hf⟩:=TupsOk.kat (vs:=vs) fun v hv=>ok v (.tail _ hv)
  obtain⟨a,b,⟨x,o,t,u,n,rfl,e,hc,hd⟩,_,_⟩:=ok v (.head _)
  exact⟨.int a t::fs,mB.cons e hc hd rfl k,by rw[dm,dm,hl],fun v hv=>by
   rcases dh.mp hv with rfl|hv
   ·exact⟨a,t,rfl⟩
   ·exact hf v hv⟩
variable{prog:Program}{w:World}{A:dy}{E:Value→a7→Prop}{s:a7}
theorem TupsOk.kept{h h':Heap}{vs:List Value}(ok:TupsOk h vs)(k:∀b o,o.cls=.type "tuple"→h.get? b=some o→h'.get? b=some o):TupsOk h' vs:=fun v hv=>by
 obtain⟨a,b,⟨x,o,t,u,n,e1,e2,e3,e4⟩,q⟩:=ok v hv
 exact⟨a,b,⟨x,o,t,u,n,e1,k _ _ e3 e2,e3,e4⟩,q⟩
theorem TupsOk.rk{h h':Heap}{vs:List Value}(ok:TupsOk h vs)(k:∀b o,o.cls=.type "tuple"→h.get? b=some o→h'.get? b=some o){v:Value}(hv:v∈vs):SG h' (v,v)=SG h (v,v):=by
 obtain⟨a,b,t,q⟩:=ok v hv
 obtain⟨x,o,t',u,n,e1,e2,e3,e4⟩:=t
 rw[Ep (k:=(v,v)) (TupAt.pair ⟨x,o,t',u,n,e1,e2,e3,e4⟩),Ep (k:=(v,v)) (TupAt.pair ⟨x,o,t',u,n,e1,k _ _ e3 e2,e3,e4⟩)]
theorem Pl:Rk prog w (fun h v=>∃a b,TupAt h v a b∧0≤b∧b<65536) (fun h v=>SG h (v,v)) (.type "int") where
 cmp:=by
  intro A E s st x y Q hk hx hy h
  obtain⟨a,b,t,q⟩:=hx
  obtain⟨c,d,u,r⟩:=hy
  exact OJ st x y Q hk ⟨a,b,t.pair,q⟩ ⟨c,d,u.pair,r⟩ h
 kept:=fun{h h' v} ok k=> ⟨TupsOk.kept (vs:=[v]) (fun u hu=>a8.mp hu▸ok) k v (by simp),TupsOk.rk (vs:=[v]) (fun u hu=>a8.mp hu▸ok) k (by simp)⟩
 kat:=fun{h vs} ok=>by
  obtain⟨fs,kt,hl,hf⟩:=TupsOk.kat ok
  refine⟨fs,kt,hl,fun v hv M h'=>?_⟩
  obtain⟨x,t,rfl⟩:=hf v hv
  exact fun _ _ _ _ _ q=>b5 q
 t1:=rfl
 t2:=rfl
theorem LZ{a:Addr}{vs:List Value}{n:Nat}{P:ni→a7→Prop}(ho:s.heap.get? a=some (eQ "list" vs.toArray n))(ok:TupsOk s.heap vs)(h2:2≤vs.length)(hn:vs.length≤4096)
  (h:∀out c h',out.Perm vs→out.Pairwise (fun x y=>SG s.heap (x,x)≤SG s.heap (y,y))→h'.get? a=some (eQ "list" (jZ out) c)→(∀b o,b≠a→s.heap.get? b=some o→h'.get? b=some o)→P (.done (.ret .none)) {s with heap:=h'}):
  wpAny (model prog w) A (Builtin.«list.sort» ⟨[.ref a],[]⟩) P E s:=KE ho Pl ok h2 (by omega) h
end SrtG
namespace StT
open PySem PySem.SetTable PyProof.Rows
section
variable{prog:Program}{w:World}{A:dy}{E:Value→a7→Prop}{s:a7}
abbrev CC(w:World):Obj:={cls:=.type "set",dict:=none,data:=.set #[] 0 (.fresh 0 0 (!w.params.followText "set-order"))}
theorem Pm(a:Value){Q₁:Value→a7→Prop}(h:Q₁ (.ref s.heap.objs.size) {s with heap:=s.heap.push (CC w)}):
  i6 (model prog w) A (.call (.builtin "set.__new__") ⟨[.type "set",a],[]⟩) (wants Q₁ E) s:=by
 refine codeAny_of_tree ?_
 show wpAny _ A.in1 (do kM "set.__new__" ⟨[.type "set",a],[]⟩;again (.builtin "set.__new__" ⟨[.type "set",a],[]⟩)) _ _ s
 refine a6 (kr (PySem.F.newCall_set_1 a) (b5 ⟨iQ PySem.F.plain_set_new _,gM PySem.F.entry_set_new ?_⟩))
 rw[gK PySem.F.plain_set_new _]
 unfold Builtin.«set.__new__» Builtin.Frozenset.newClass
 have hsub:=sub_set_self
 obtain⟨hp,g,d,tk,os⟩:=s
 dsimp only
 wp_walk
 refine jB (b5 ?_)
 dsimp only
 simp only[newObj]
 refine a6 (wpAny_alloc (b5 ?_))
 exact b5 h
theorem La{T newId initId:String}{args:List Value}{Q Q₁:Value→a7→Prop}(ft:TypeCalled T newId initId)
  (hct:checkTypeCall T ⟨args,[]⟩=pure ())
  (hnew:i6 (model prog w) A.in1 (.call (.builtin newId) ⟨.type T::args,[]⟩) (wants Q₁ E) s)
  (hnext:∀obj s₁,Q₁ obj s₁→s₁.TypeIs obj T∧i6 (model prog w) A.in1 (.call (.builtin initId) ⟨obj::args,[]⟩) (wants (fun r s₂=>r=.none∧Q obj s₂) E) s₁):
  wpAny (model prog w) A (call (.type T) args) Q E s:=by
 obtain⟨c,tl,hmro⟩:=ft.mro
 have hmade:=ft.made
 have hsub:=ft.sub
 refine kS (codeAny_of_tree ?_)
 show wpAny _ _ (callAny (.type T) _) _ _ _
 refine b5 ⟨Code.quiet_builtin _ (by decide+kernel),gM PySem.F.entry_type_call ?_⟩
 rw[dy.under_plain (weight_type_call_type T args []) rfl]
 have h1:=ft.notType
 have h2:=ft.canCreate
 repeat (any_goals (first|assumption|wp_step))
 refine jW hnew fun r s₁ hr=>?_
 cases r with
 |error e=>exact hr
 |ok fl=>
  cases fl with
  |ret obj=>
   obtain⟨hT,hsi⟩:=hnext _ _ hr
   have hli:=ft.init.lookup
   have hbi:=ft.init.bind obj
   repeat (any_goals (first|assumption|wp_step))
   refine jW hsi fun r₂ s₂ hr₂=>?_
   cases r₂ with
   |error e=>exact hr₂
   |ok fl₂=>
    cases fl₂ with
    |ret r=>
     obtain⟨rfl,hq⟩:=hr₂
     repeat (any_goals (first|assumption|wp_step))
    |_=>exact hr₂.elim
  |_=>exact hr.elim
theorem GH{l:Addr}{items:Array Value}{ps:List (List Int×Addr)}{Q:Value→a7→Prop}
  (hh:A.handled=none) (hl:s.heap.IsList l items) (hps:items.toList=ps.map fun p=>Value.ref p.2) (hp:∀k x,(k,x)∈ps→IK prog w s.heap k x) (hz:ps.length≤300) (hu:A.units+8<cLine)
  (h:∀(h':Heap) (tk:Nat) (xs:List (List Int×Addr)),SetX prog w h' s.heap.objs.size xs→Ib ps xs→
   (∀b o,b<s.heap.objs.size→s.heap.get? b=some o→h'.get? b=some o)→Q (.ref s.heap.objs.size) {s with heap:=h',toks:=tk}):
  wpAny (model prog w) A (call (.type "set") [.ref l]) Q E s:=by
 refine La (Q₁:=fun obj s₁=>obj=.ref s.heap.objs.size∧s₁={s with heap:=s.heap.push (CC w)}) PySem.F.called_set (PySem.F.typeCall_set_1 _) (Pm _ ⟨rfl,rfl⟩) ?_
 rintro obj s₁ ⟨rfl,rfl⟩
 have hS:(s.heap.push (CC w)).get? s.heap.objs.size=some (CC w):=dN _ rfl
 have hT:a7.TypeIs {s with heap:=s.heap.push (CC w)} (.ref s.heap.objs.size) "set":=⟨_,hS,rfl⟩
 refine⟨hT,iX PySem.F.called_set.init.plain PySem.F.entry_set_init (check_set_init_1 hT ?_)⟩
 obtain⟨ol,hol,hcl,nl,hdl⟩:=hl
 obtain⟨ocls,odict,odata,oslots⟩:=ol
 simp only at hcl hdl
 subst hcl;subst hdl
 have hol':(s.heap.push (CC w)).get? l=some {cls:=.type "list",dict:=odict,data:=.seq items nl,slots:=oslots}:=c9 _ hol
 have hsls:=PySem.F.sub_list_set
 have hslf:=PySem.F.sub_list_frozenset
 have hne:(jl "list" ==jl "dict")=false:=by decide
 have hl1:(s.heap.push (CC w)).IsList l items:=⟨_,hol',rfl,nl,rfl⟩
 unfold Builtin.«set.__init__» noKeywords Builtin.Frozenset.updateFrom
 generalize hPI:l9=PI
 wp_walk
 subst hPI
 refine ko hl1 ?_
 refine a6 (wpAny_runValue ?_)
 have hlS:l<s.heap.objs.size:=dr hol
 have hneI:l≠(s.heap.push (CC w)).objs.size:=by
  rw[gc];exact dU (gq hlS)
 have kp:∀b o,s.heap.get? b=some o→((s.heap.push (CC w)).push {cls:=.type "list_iterator",data:=.fields #[.ref l,.int 0 0]}).get? b=some o:=fun b o e=>c9 _ (c9 _ e)
 refine So (a:=s.heap.objs.size) (l:=l) (ps:=ps) (by simpa using hh) hneI (by rw[gc];exact dU (iH _)) (jY hlS) hps hz (by
   show A.in1.in1.units+1<cLine
   exact ki (show A.units+1+1+1≤A.units+8 by omega) hu) (ps.length-0) 0 _ [] rfl (fj _)
  ⟨_,dN _ rfl,rfl,rfl⟩ (hl1.push _) (fun k x hx=> ⟨Ck (hp k x hx) fun u e=>kp x u e,?_⟩) ⟨CC w,#[],0,_,c9 _ hS,⟨rfl,rfl,rfl⟩,rfl,rfl,fun i k x e=>by simp at e,List.nodup_nil,Tb.fresh _ _ _,rfl,(by show 0*5<7*3;decide),rfl⟩ ⟨fun p hp=>by simp at hp,fun k y hy=>by simp at hy,by simp⟩ ?_
 ·obtain⟨o',_,_,ho',_⟩:=hp k x hx
  have:=dr ho'
  rw[gc]
  exact dU (gq this)
 ·intro h' tk' xs' kk sx so
  refine b5 ?_
  show wpAny _ _ (ret jm) _ _ _
  refine b5 ⟨rfl,h h' tk' xs' sx so fun b o hb e=>kk b o (dU hb) ?_ (kp b o e)⟩
  rw[gc];exact dU (gq hb)
end
open PySem.Calls PySem.W
section
variable{prog:Program}{w:World}{A:dy}{E:Value→a7→Prop}{s:a7}
theorem KG{a:Addr}{vs:List Value}{n:Nat}{P:ni→a7→Prop}(ho:s.heap.get? a=some (eQ "list" vs.toArray n))(h2:vs.length<2)
  (h:∀c h',h'.get? a=some (eQ "list" vs.toArray c)→(∀b o,b≠a→s.heap.get? b=some o→h'.get? b=some o)→P (.done (.ret .none)) {s with heap:=h'}):
  wpAny (model prog w) A (Builtin.«list.sort» ⟨[.ref a],[]⟩) P E s:=by
 obtain⟨e1,ho1⟩:∃e1,(s.heap.update a (fP fun _=> (#[]:Array Value))).get? a=some (eQ "list" #[] e1):=⟨_,jP ho fun _=> #[]⟩
 have keep:∀b o,b≠a→s.heap.get? b=some o→(((s.heap.update a (fP fun _=> (#[]:Array Value))).push (eQ "tuple" vs.toArray 0)).push (eQ "list" #[] 0)).get? b=some o:=fun b o hb e=>
  c9 _ (c9 _ (by rw[jc _ _ _ _ hb];exact e))
 have ho3:(((s.heap.update a (fP fun _=> (#[]:Array Value))).push (eQ "tuple" vs.toArray 0)).push (eQ "list" #[] 0)).get? a=some (eQ "list" #[] e1):=c9 _ (c9 _ ho1)
 rw[list_sort_plain]
 refine a6 (listItems_at ho rfl ?_)
 refine a6 (kG ho rfl ?_ (by rw[du,e8];omega) (fj _))
 refine a6 (lD ho1 rfl ?_)
 refine a6 (wpAny_newTuple ?_ (by show vs.length≤_;rw[e8];omega))
 refine a6 (jG ?_ (fj _))
 refine eW ?_
 show wpAny (model prog w) A _ P E {s with heap:=((s.heap.update a (fP fun _=> (#[]:Array Value))).push (eQ "tuple" vs.toArray 0)).push (eQ "list" #[] 0)}
 generalize hG:((s.heap.update a (fP fun _=> (#[]:Array Value))).push (eQ "tuple" vs.toArray 0)).push (eQ "list" #[] 0)=G at keep ho3 ⊢
 dsimp only
 have hn2:vs.toArray.size<2:=by rw[du];omega
 rw[if_pos hn2,if_pos hn2]
 refine a6 (b5 ?_)
 refine a6 (b5 ?_)
 dsimp only
 have har:((vs.toArray.zip vs.toArray).map (·.2))=vs.toArray:=by
  apply jo
  rw[kR,Array.toList_zip]
  show(vs.zip vs).map (·.2)=vs
  rw[SrtG.GG,eJ]
  exact mR vs
 have har':(arrOf (kc general' (vs.toArray.zip vs.toArray) #[] 7 none)).map (·.2)=vs.toArray:=har
 rw[har']
 obtain⟨c2,hc2⟩:∃c2,(G.update a (fP fun _=>vs.toArray)).get? a=some (eQ "list" vs.toArray c2):=⟨_,jP ho3 fun _=>vs.toArray⟩
 refine a6 (lD ho3 rfl ?_)
 refine a6 (kG ho3 rfl ?_ (fj _) (by rw[du,e8];omega))
 show wpAny _ _ (if(e1 !=e1)=true then _ else _) _ _ _
 rw[if_neg (by simp)]
 exact b5 (h c2 _ hc2 fun b o hb e=>by rw[jc _ _ _ _ hb];exact keep b o hb e)
theorem BL {α β : Type} {f : α → β} {l1 l2 : List β} (h : l1.Perm l2) : ∀ {xs : List α}, l2 = xs.map f → ∃ ys : List α, ys.Perm xs ∧ ys.map f = l1 := by
  induction h with
  | nil => intro xs e; cases xs with
    | nil => exact ⟨[], .refl _, rfl⟩
    | cons x xs => cases e
  | cons x _ ih => intro xs e; cases xs with
    | nil => cases e
    | cons y xs =>
      rw [dF] at e
      injection e with e1 e2
      obtain ⟨ys, h1, h2⟩ := ih e2
      exact ⟨y :: ys, h1.cons y, by rw [dF, h2, e1]⟩
  | swap x y l => intro xs e; match xs, e with
    | a :: b :: xs, e =>
      simp only [dF] at e
      injection e with e1 e2
      injection e2 with e2 e3
      exact ⟨b :: a :: xs, .swap _ _ _, by simp only [dF]; rw [← e1, ← e2, ← e3]⟩
  | trans _ _ ih1 ih2 => intro xs e
                         obtain ⟨ys, h1, h2⟩ := ih2 e
                         obtain ⟨zs, h3, h4⟩ := ih1 h2.symm
                         exact ⟨zs, h3.trans h1, h4⟩
theorem Lb{a:Addr}{xs:List (List Int×Addr)}{Q:Value→a7→Prop}(hh:A.handled=none)(S:SetX prog w s.heap a xs)(hz:xs.length≤300)
  (hp:∀k x,(k,x)∈xs→∃p q,k=[p,q]∧0≤q∧q<65536)
  (h:∀(h':Heap) (tk:Nat) (ys:List (List Int×Addr)) (D:Addr) (c:Nat),s.heap.get? D=none→h'.get? D=some (eQ "list" (ys.map fun p=>Value.ref p.2).toArray c)→(∀b o,s.heap.get? b=some o→h'.get? b=some o)→
   ys.Perm xs→ys.Pairwise (fun x y=>65536*x.1.getD 0 0+x.1.getD 1 0≤65536*y.1.getD 0 0+y.1.getD 1 0)→Q (.ref D) {s with heap:=h',toks:=tk}):
  wpAny (model prog w) A (call (.builtin "sorted") [.ref a]) Q E s:=by
 obtain⟨o,es,ep,t,S⟩:=S
 refine call_function_entry mO me mh (ml _) ?_
 unfold Builtin.«sorted»
 refine a6 (m:=checkCount "sorted" 1 1 _) (b5 ?_)
 refine a6 (kdu_collect (A:=A.in1) (Sq S.wk) hh S.get (by rw[S.size,e8];omega) fun h1 tk1 acc hk1 hacc=>?_)
 have hsz:acc.toList.length=xs.length:=by rw[dg,hacc.1,S.size]
 have hacc2:acc.toList=(Dq w a ep es).toList.map (·.2):=by
  apply fA
  intro i
  rw[b8]
  by_cases hi:i<acc.size
  ·have e1:acc[i]?=some acc[i]:=by simp[hi]
   obtain⟨hh',e2⟩:=hacc.2 i _ e1
   have e2':(Dq w a ep es).toList[i]?=some (hh',acc[i]):=by simpa using e2
   rw[e2']
   simpa using e1
  ·have h1':acc.toList[i]?=none:=by simp;omega
   have h2':(Dq w a ep es).toList[i]?=none:=by
    apply fo
    rw[dg,En,←hacc.1];omega
   rw[h1',h2'];rfl
 have hperm:acc.toList.Perm (xs.map fun p=>Value.ref p.2):=by
  rw[hacc2]
  refine((HY w a ep es).map (·.2)).trans ?_
  rw[S.es,OC,eJ]
  exact ie.refl _
 have hIK:∀k x,(k,x)∈xs→IK prog w h1 k x:=fun k x hx=>by
  obtain⟨i,hi⟩:=eD hx
  exact Ck (S.key i k x hi) fun u e=>hk1 x u e
 have tupAt:∀k x,(k,x)∈xs→∃p q,k=[p,q]∧SrtG.TupAt h1 (.ref x) p q∧0≤q∧q<65536:=fun k x hx=>by
  obtain⟨p,q,rfl,h0,h1'⟩:=hp k x hx
  obtain⟨o',items,n,ho',hc',hd',hi'⟩:=hIK _ x hx
  refine⟨p,q,rfl,?_,h0,h1'⟩
  generalize hL:items.toList=L at hi'
  cases hi' with
  |cons i1 i2=>
   cases i2 with
   |cons i3 i4=>
    cases i4
    obtain⟨t1,rfl⟩:=El i1
    obtain⟨t2,rfl⟩:=El i3
    have:items= #[.int p t1,.int q t2]:=by
     apply jo
     rw[hL]
    exact⟨x,o',t1,t2,n,rfl,ho',hc',by rw[hd',this]⟩
 refine a6 (jG ?_ (by rw[hsz,e8];omega))
 have hoL:(h1.push (eQ "list" acc.toList.toArray 0)).get? h1.objs.size=some (eQ "list" acc.toList.toArray 0):=dN _ rfl
 have hDn:s.heap.get? h1.objs.size=none:=by
  cases e:s.heap.get? h1.objs.size with
  |none=>rfl
  |some o'=>exact absurd (dr (hk1 _ _ e)) (e9 _)
 have hkp:∀b o,h1.get? b=some o→(h1.push (eQ "list" acc.toList.toArray 0)).get? b=some o:=fun b o e=>c9 _ e
 obtain⟨ws,hw1,hw2⟩:=BL hperm rfl
 have fin:∀(out:List Value) (c:Nat) (h2:Heap),out.Perm acc.toList→out.Pairwise (fun x y=>SrtG.SG (h1.push (eQ "list" acc.toList.toArray 0)) (x,x)≤SrtG.SG (h1.push (eQ "list" acc.toList.toArray 0)) (y,y))→
   h2.get? h1.objs.size=some (eQ "list" (jZ out) c)→(∀b o,b≠h1.objs.size→(h1.push (eQ "list" acc.toList.toArray 0)).get? b=some o→h2.get? b=some o)→Q (.ref h1.objs.size) {s with heap:=h2,toks:=tk1}:=fun out c h2 pm pw hg hk=>by
  obtain⟨ys,y1,y2⟩:=BL (pm.trans hperm) rfl
  subst y2
  refine h h2 tk1 ys _ c hDn hg (fun b o e=>?_) y1 ?_
  ·have hlt:=dr (hk1 b o e)
   exact hk b o (dU hlt) (hkp b o (hk1 b o e))
  ·rw[eT] at pw
   refine fJ (fun{x y} hx hy q=>?_) pw
   obtain⟨k1,x1⟩:=x
   obtain⟨k2,x2⟩:=y
   obtain⟨p,q',rfl,t1,_⟩:=tupAt k1 x1 (y1.mem_iff.mp hx)
   obtain⟨p2,q2,rfl,t2,_⟩:=tupAt k2 x2 (y1.mem_iff.mp hy)
   have keepT:∀{v:Value} {i j:Int},SrtG.TupAt h1 v i j→SrtG.TupAt (h1.push (eQ "list" acc.toList.toArray 0)) v i j:=fun t=>by
    obtain⟨x,o,t,u,n,e1,e2,e3,e4⟩:=t
    exact⟨x,o,t,u,n,e1,hkp _ _ e2,e3,e4⟩
   rw[SrtG.Ep (k:=(Value.ref x1,Value.ref x1)) (keepT t1).pair,SrtG.Ep (k:=(Value.ref x2,Value.ref x2)) (keepT t2).pair] at q
   exact q
 refine a6 (eW (gS lC ⟨_,hoL,rfl⟩ k7 ?body (lH _)))
 case body=>
  by_cases hlen:acc.toList.length<2
  ·refine KG (s:={s with heap:=h1.push (eQ "list" acc.toList.toArray 0),toks:=tk1}) hoL hlen fun c h2 hg hk=> ⟨_,rfl,b5 ⟨_,rfl,fin acc.toList c h2 (.refl _) ?_ hg hk⟩⟩
   generalize acc.toList=l at hlen
   match l,hlen with
   | [],_=>exact .nil
   | [x],_=>exact iI _ _
  ·refine SrtG.LZ (s:={s with heap:=h1.push (eQ "list" acc.toList.toArray 0),toks:=tk1}) hoL (fun v hv=>?_) (by omega) (by omega) fun out c h2 pm pw hg hk=> ⟨_,rfl,b5 ⟨_,rfl,fin out c h2 pm pw hg hk⟩⟩
   obtain⟨⟨k,x⟩,hx,rfl⟩:=di.mp (hperm.mem_iff.mp hv)
   obtain⟨p,q,rfl,⟨x',o',t1,t2,n,e1,e2,e3,e4⟩,h0,h1'⟩:=tupAt k x hx
   exact⟨p,q,⟨x',o',t1,t2,n,e1,hkp _ _ e2,e3,e4⟩,h0,h1'⟩
end
end StT
namespace L2
open PySem PySem.Spec PyProof.Rows
section
variable{X:Cx}{pins:List (Addr×Obj)}{σ:St}{H:Hp}{s:a7}{h':Heap}
theorem Inv.laidF{a:Addr}{o:HO}{t':Nat}(I:Inv X pins σ H s)(k:∀b u,s.heap.get? b=some u→h'.get? b=some u)(hp:s.heap.get? a=none)(new:ObjOk X.prog X.w (upd H a o) h' a o):
  Inv X pins σ (upd H a o) {s with heap:=h',toks:=t'}:=by
 have hn:H a=none:=by
  cases q:H a with
  |none=>rfl
  |some u=>
   obtain⟨ob,e⟩:=(I.hok a u q).obj
   rw[hp] at e;cases e
 have ne:∀b u,s.heap.get? b=some u→b≠a:=fun b u e z=>by rw[z,hp] at e;cases e
 refine I.un ⟨fun b u q _ _ _=>k b u q,fun b u q _ _ _=> ⟨u.slots,k b u q⟩,fun b u q n _=>by rw[Ab (ne b u q)];exact n,fun b u q _=> ⟨u,k b u q⟩,fun b xs q=>by rw[Ab (AX q hn)];exact q,fun b u xs q=>by rw[Ab (AX q hn)];exact q,fun b ps q=> ⟨#[],by rw[Ab (AX q hn),q];simp⟩⟩ ?_
 intro b u e
 by_cases hb:b=a
 ·subst hb;rw[AZ] at e;cases e;exact new
 ·rw[Ab hb] at e
  exact(I.hok b u e).stay (fun c v _ q=>k c v q) (fun c q=>by rw[Ab (AX q hn)];exact q) fun c xs q=>by rw[Ab (AX q hn)];exact q
def Yp(P:Program)(w:World)(a:Addr)(xs:List (List Int×Addr))(h:Heap):Prop:=∃o es ep t,h.get? a=some o∧o.ExactSet∧o.data=.set es ep t∧es.toList=StT.OC xs P w∧(xs.map (·.1)).Nodup∧StT.Tb t (xs.map fun p=> (StT.tk P w).hash p.1)∧t.plain=true∧xs.length*5<t.mask*3∧t.led=!w.params.followText "set-order"
def SetO(P:Program)(w:World)(a:Addr)(xs:List (List Int×Addr)):HO:=.ext (Yp P w a xs)
theorem Sv{P:Program}{w:World}{H:Hp}{h:Heap}{a:Addr}{xs:List (List Int×Addr)}(S:StT.SetX P w h a xs):ObjOk P w H h a (SetO P w a xs):=by
 obtain⟨o,es,ep,t,S⟩:=S
 refine⟨⟨o,es,ep,t,S.get,S.ex,S.dat,S.es,S.nd,S.tb,S.pl,S.room,S.led⟩,⟨o,S.get⟩,fun h1 h2 ⟨o,es,ep,t,g,r⟩ hk=> ⟨o,es,ep,t,hk _ g,r⟩⟩
def Pn(K:a5)(H:Hp)(xs:List (List Int×Addr)):Prop:=∀k x,(k,x)∈xs→IJ K H x (k.map V.int)
theorem Hb{prog:Program}{w:World}:∀{k:List Int} {us:List Value},Vals (k.map V.int) us→ItemsAre (intKind prog w) k us
 | [],us,r=>by rw[jy] at r;cases r;exact .nil
 |n::k,us,r=>by
  rw[dF] at r
  cases r with
  |cons r1 r2=>
   obtain⟨t,rfl⟩:=r1
   exact .cons (intKind_is _ _ _ _) (Hb r2)
theorem Inv.ik{x:Addr}{k:List Int}(I:Inv X pins σ H s)(h:IJ X.K H x (k.map V.int)):StT.IK X.prog X.w s.heap k x:=by
 obtain⟨its,r,⟨o,ho,hc,n,hd⟩,hz⟩:=I.tuple h
 exact⟨o,its.toArray,n,ho,hc,hd,by simpa using Hb r⟩
def av(X:Cx):List V→Hp→VK→Prop:=fun vs H Q=>∃a ps,vs=[.ref a]∧Dj X.K H a (ps.map fun p=>V.ref p.2)∧Pn X.K H ps∧ps.length≤300∧
 ∀p xs,H p=none→StT.Ib ps xs→(xs.map (·.1)).Nodup→Q (.ref p) (upd H p (SetO X.prog X.w p xs))
theorem Hc:∀{ps:List (List Int×Addr)} {us:List Value},Vals (ps.map fun p=>V.ref p.2) us→us=ps.map fun p=>Value.ref p.2
 | [],us,r=>by rw[jy] at r;cases r;rfl
 |p::ps,us,r=>by
  rw[dF] at r
  cases r with
  |cons r1 r2=>
   rw[Hc r2]
   have r1:_=Value.ref p.2:=r1
   rw[r1]
   rfl
theorem OK(hc:X.calm=true)(hu:X.A.units+8<cLine):Av X (.type "set") (av X):=by
 intro pins s σ H vs us Q I r h
 obtain⟨a,ps,rfl,hl,hk,hz,q⟩:=h
 obtain⟨u,rfl,ru⟩:=Vals.one r
 cases ru
 obtain⟨its,rv,p,_⟩:=I.list hl
 refine StT.GH (ps:=ps) (I.ok.hd hc) p.isList (by simpa using Hc rv) (fun k x hx=>I.ik (hk k x hx)) hz hu fun h' tk xs sx so kp=>?_
 have hf:H s.heap.objs.size=none:=I.hok.fresh (de _)
 have nd:(xs.map (·.1)).Nodup:=by obtain⟨_,_,_,_,S⟩:=sx;exact S.nd
 exact⟨.ref s.heap.objs.size,upd H s.heap.objs.size (SetO X.prog X.w s.heap.objs.size xs),I.laid (t':=tk) (fun b u e=>kp b u (dr e) e) (de _) (Sv sx),rfl,q _ _ hf so nd⟩
def WD(X:Cx):List V→Hp→VK→Prop:=fun vs H Q=>∃p xs,vs=[.ref p]∧H p=some (SetO X.prog X.w p xs)∧Pn X.K H xs∧xs.length≤300∧(∀k x,(k,x)∈xs→∃i j,k=[i,j]∧0≤j∧j<65536)∧
 ∀(q:Addr) (ys:List (List Int×Addr)),H q=none→ys.Perm xs→ys.Pairwise (fun x y=>65536*x.1.getD 0 0+x.1.getD 1 0≤65536*y.1.getD 0 0+y.1.getD 1 0)→Q (.ref q) (upd H q (.lst (ys.map fun p=>V.ref p.2)))
theorem Hf:∀(ps:List (List Int×Addr)),Vals (ps.map fun p=>V.ref p.2) (ps.map fun p=>Value.ref p.2)
 | []=> .nil
 |p::ps=> .cons rfl (Hf ps)
theorem Ig(hc:X.calm=true):Av X (.builtin "sorted") (WD X):=by
 intro pins s σ H vs us Q I r h
 obtain⟨p,xs,rfl,hp,hk,hz,h2,q⟩:=h
 obtain⟨u,rfl,ru⟩:=Vals.one r
 cases ru
 obtain⟨⟨o,es,ep,t,g1,g2,g3,g4,g5,g6,g7,g8,g9⟩,_,_⟩:=I.hok p _ hp
 refine StT.Lb (xs:=xs) (I.ok.hd hc) ⟨o,es,ep,t,g1,g2,g3,g4,fun i k x e=>I.ik (hk k x (dc e)),g5,g6,g7,g8,g9⟩ hz h2 fun h' tk ys D c hD hg kp pm pw=>?_
 have hf:H D=none:=I.hok.none_of hD
 refine⟨.ref D,upd H D (.lst (ys.map fun p=>V.ref p.2)),I.laidF (t':=tk) kp hD ⟨?_,_,c,Hf ys,hg⟩,rfl,q D ys hf pm pw⟩
 rw[a9,pm.length_eq,e8]
 omega
end
end L2
namespace ZpT
open PySem PySem.Spec PyProof.Rows
section
variable{prog:Program}{w:World}
end
section
variable{prog:Program}{w:World}{A:dy}{E:Value→a7→Prop}{s:a7}
variable{z TI TO i1 i2 l1 l2:Addr}{xs ys:Array Value}{S1 S2:Nat→Heap→Prop}
end
end ZpT
namespace L2
open PySem PySem.Spec PyProof.Rows
section
variable{X:Cx}
end
open PySem.Calls
section
variable{X:Cx}
def Xq(K:a5)(H:Hp)(a:Addr)(xs:List V):Prop:=Dj K H a xs∨IJ K H a xs
theorem Inv.walk{pins:List (Addr×Obj)}{σ:St}{H:Hp}{s:a7}{a:Addr}{xs:List V}(I:Inv X pins σ H s)(hq:Xq X.K H a xs):∃its:List Value,Vals xs its∧a<s.heap.objs.size∧∀(A:dy) (E:Value→a7→Prop) (Q:Value→a7→Prop),A.handled=none→
  (∀(o:Obj) (St:Nat→Heap→Prop),Walks X.prog X.w A s.heap.objs.size [s.heap.objs.size,a] [s.heap.objs.size] its.length (fun i v=>its[i]?=some v) St→St 0 (s.heap.push o)→Q (.ref s.heap.objs.size) {s with heap:=s.heap.push o})→wpAny (model X.prog X.w) A (l9 (.ref a)) Q E s:=by
 rcases hq with hq|hq
 ·obtain⟨its,rv,p,_⟩:=I.list hq
  have lt:a<s.heap.objs.size:=by obtain⟨_,_,e,_⟩:=p;exact dr e
  refine⟨its,rv,lt,fun A E Q hh h=>ko p.isList ?_⟩
  have W:=Walks.list (prog:=X.prog) (w:=X.w) (A:=A) hh s.heap.objs.size a (dU lt) its.toArray
  have W':Walks X.prog X.w A s.heap.objs.size [s.heap.objs.size,a] [s.heap.objs.size] its.length (fun i v=>its[i]?=some v) (fun i h=>h.IsListIter s.heap.objs.size a i∧h.IsList a its.toArray):=by simpa using W
  exact h _ _ W' ⟨⟨_,dN _ rfl,rfl,rfl⟩,p.isList.push _⟩
 ·obtain⟨its,rv,p,_⟩:=I.tuple hq
  have lt:a<s.heap.objs.size:=by obtain⟨_,e,_⟩:=p;exact dr e
  refine⟨its,rv,lt,fun A E Q hh h=>wpAny_pyIter_tuple (items:=its.toArray) p ?_⟩
  have W:=Walks.tuple (prog:=X.prog) (w:=X.w) (A:=A) hh s.heap.objs.size a (dU lt) its.toArray
  have W':Walks X.prog X.w A s.heap.objs.size [s.heap.objs.size,a] [s.heap.objs.size] its.length (fun i v=>its[i]?=some v) (fun i h=>h.IsTupleIter s.heap.objs.size a i∧h.IsTuple a its.toArray):=by simpa using W
  have p':s.heap.IsTuple a its.toArray:=p
  exact h _ _ W' ⟨⟨_,dN _ rfl,rfl,rfl⟩,p'.at fun o e=>c9 _ e⟩
theorem GI{s:a7}{o:Obj}{h':Heap}(hk:∀b x,b∉[s.heap.objs.size]→(s.heap.push o).get? b=some x→h'.get? b=some x):∀b x,s.heap.get? b=some x→h'.get? b=some x:=fun b x e=>
 hk b x (by simpa using dU (dr e)) (c9 _ e)
theorem Sw{bs:List Bool}:∀{us:List Value},Vals (bs.map V.bl) us→us=bs.map kb:=by
 induction bs with
 |nil=>intro us r;rw[jy] at r;cases r;rfl
 |cons b bs ih=>
  intro us r
  rw[dF] at r
  cases r with
  |cons r1 r2=>
   cases r1
   rw[ih r2];rfl
theorem KH(bs:List Bool):((dv bs.length).all fun i=> (bs[i]?).getD true)=bs.all id:=LSm.range_all bs
theorem Po(hc:X.calm=true):Av X (.builtin "all") (fun vs H Q=>∃(a:Addr) (bs:List Bool),vs=[.ref a]∧Xq X.K H a (bs.map V.bl)∧Q (.bl (bs.all id)) H):=by
 intro pins s σ H vs us Q I r h
 obtain⟨a,bs,rfl,hq,q⟩:=h
 obtain⟨u,rfl,ru⟩:=DJ r
 cases ru
 obtain⟨its,rv,lt,wk⟩:=I.walk hq
 have e:=Sw rv
 refine call_all_walk (wk X.A.in1 _ _ (I.ok.hd hc) fun o St W st=> ⟨_,_,_,_,_,_,fun i=> (bs[i]?).getD true,rfl,W,st,fun i v s' Q' E' hP hQ=>?_,fun h' tk hk=>?_⟩)
 ·rw[e,b8] at hP
  cases hb:bs[i]? with
  |none=>rw[hb] at hP;cases hP
  |some b=>
   rw[hb] at hP
   cases hP
   simp only[hb,Option.getD_some] at hQ
   exact gL hQ
 ·have e2:its.length=bs.length:=by rw[e,a9]
  rw[e2,KH]
  exact⟨.bl _,H,I.kept (t':=tk) (GI hk),rfl,q⟩
theorem CV{ns:List Int}{us:List Value}(r:Vals (ns.map V.int) us)(i:Nat)(v:Value)(h:us[i]?=some v):∃t,v=.int (ns.getD i 0) t:=by
 have hl:=r.length
 have hi:i<ns.length:=by
  have:=(dj.mp h).1
  rw[a9] at hl;omega
 obtain⟨u,e,t,rfl⟩:=r.get (i:=i) (x:=.int ns[i]) (by simp[hi])
 rw[h] at e;cases e
 exact⟨t,by simp[hZ,hi]⟩
def GJ(ns:List Int)(m:Int):Prop:=m∈ns∧∀n∈ns,m≤n
def Mk(ns:List Int)(m:Int):Prop:=m∈ns∧∀n∈ns,n≤m
theorem GK{ns:List Int}{i:Nat}(h:i<ns.length):ns.getD i 0∈ns:=by simp[hZ,h]
theorem Hg(hc:X.calm=true):Av X (.builtin "min") (fun vs H Q=>∃(a:Addr) (ns:List Int),vs=[.ref a]∧Xq X.K H a (ns.map V.int)∧0<ns.length∧∀m,GJ ns m→Q (.int m) H):=by
 intro pins s σ H vs us Q I r h
 obtain⟨a,ns,rfl,hq,h0,q⟩:=h
 obtain⟨u,rfl,ru⟩:=DJ r
 cases ru
 obtain⟨its,rv,lt,wk⟩:=I.walk hq
 have hl:its.length=ns.length:=by have:=rv.length;rw[a9] at this;exact this.symm
 refine call_min_walk (wk X.A.in1 _ _ (I.ok.hd hc) fun o St W st=> ⟨_,_,_,_,_,_,_,rfl,W,st,fun b hb=>?_,by omega,CmpOf.ints_lt (fun i=>ns.getD i 0) (fun i v hv=>CV rv i v hv),fun v h' tk hP hk=>?_⟩)
 ·show b< (s.heap.push o).objs.size
  rw[gc]
  simp only[dh,fv,or_false] at hb
  rcases hb with rfl|rfl
  ·exact iH _
  ·exact gq lt
 ·obtain⟨t,rfl⟩:=CV rv _ v hP
  obtain⟨b1,b2⟩:=argBest_lt (fun i=>ns.getD i 0) (its.length-1)
  exact⟨.int _,H,I.kept (t':=tk) (GI hk),⟨t,rfl⟩,q _ ⟨GK (by omega),fun n hn=>by
   obtain⟨j,hj,rfl⟩:=jb hn
   have:=b2 j (by omega)
   simpa[hZ,hj] using this⟩⟩
theorem Hi(hc:X.calm=true):Av X (.builtin "max") (fun vs H Q=>∃(a:Addr) (ns:List Int),vs=[.ref a]∧Xq X.K H a (ns.map V.int)∧0<ns.length∧∀m,Mk ns m→Q (.int m) H):=by
 intro pins s σ H vs us Q I r h
 obtain⟨a,ns,rfl,hq,h0,q⟩:=h
 obtain⟨u,rfl,ru⟩:=DJ r
 cases ru
 obtain⟨its,rv,lt,wk⟩:=I.walk hq
 have hl:its.length=ns.length:=by have:=rv.length;rw[a9] at this;exact this.symm
 refine call_max_walk (wk X.A.in1 _ _ (I.ok.hd hc) fun o St W st=> ⟨_,_,_,_,_,_,_,rfl,W,st,fun b hb=>?_,by omega,CmpOf.ints_gt (fun i=>ns.getD i 0) (fun i v hv=>CV rv i v hv),fun v h' tk hP hk=>?_⟩)
 ·show b< (s.heap.push o).objs.size
  rw[gc]
  simp only[dh,fv,or_false] at hb
  rcases hb with rfl|rfl
  ·exact iH _
  ·exact gq lt
 ·obtain⟨t,rfl⟩:=CV rv _ v hP
  obtain⟨b1,b2⟩:=argBest_gt (fun i=>ns.getD i 0) (its.length-1)
  exact⟨.int _,H,I.kept (t':=tk) (GI hk),⟨t,rfl⟩,q _ ⟨GK (by omega),fun n hn=>by
   obtain⟨j,hj,rfl⟩:=jb hn
   have:=b2 j (by omega)
   simpa[hZ,hj] using this⟩⟩
theorem FG:Av X (.type "tuple") (fun vs H Q=>∃a xs,vs=[.ref a]∧Dj X.K H a xs∧∀p,H p=none→Q (.ref p) (upd H p (.tup xs))):=by
 intro pins s σ H vs us Q I r h
 obtain⟨a,xs,rfl,hq,q⟩:=h
 obtain⟨u,rfl,ru⟩:=DJ r
 cases ru
 obtain⟨its,rv,p,hz⟩:=I.list hq
 have hl:=rv.length
 refine call_tuple_list p.isList (fun h' hk=>?_) (by simpa[←hl] using hz)
 have hn:s.heap.get? h'.objs.size=none:=by
  cases e:s.heap.get? h'.objs.size with
  |none=>rfl
  |some o=>exact absurd (dr (hk _ _ e)) (e9 _)
 exact⟨.ref h'.objs.size,upd H h'.objs.size (.tup xs),I.laidF (t':=s.toks) (fun b u e=>c9 _ (hk b u e)) hn ⟨hz,its,rv,⟨_,dN _ rfl,rfl,_,rfl⟩⟩,rfl,q _ (I.hok.none_of hn)⟩
theorem GL:Av X (.type "list") (fun vs H Q=>∃a xs,vs=[.ref a]∧Xq X.K H a xs∧∀p,H p=none→Q (.ref p) (upd H p (.lst xs))):=by
 intro pins s σ H vs us Q I r h
 obtain⟨a,xs,rfl,hq,q⟩:=h
 obtain⟨u,rfl,ru⟩:=DJ r
 cases ru
 have hf:H s.heap.objs.size=none:=I.hok.fresh (de _)
 have fin:∀(its:List Value) (h':Heap) (c:Nat),Vals xs its→xs.length≤sizeLine→(∀b o',s.heap.get? b=some o'→h'.get? b=some o')→h'.get? s.heap.objs.size=some {cls:=.type "list",dict:=none,data:=.seq its.toArray c,slots:=#[]}→EP X pins σ Q (.ref s.heap.objs.size) {s with heap:=h'}:=fun its h' c rv hz hk hD=>
  ⟨.ref s.heap.objs.size,upd H s.heap.objs.size (.lst xs),I.laid (t':=s.toks) hk (de _) ⟨hz,its,c,rv,hD⟩,rfl,q _ hf⟩
 rcases hq with hq|hq
 ·obtain⟨its,rv,⟨o,n,ho,hc,hd,hdt⟩,hz⟩:=I.list hq
  have hl:=rv.length
  exact call_list_seq (hsz:=by simpa[←hl] using hz) a (.inl rfl) ho hc hdt fun h' c' hk hD=>fin its h' c' rv hz hk hD
 ·obtain⟨its,rv,⟨o,ho,hc,n,hdt⟩,hz⟩:=I.tuple hq
  have hl:=rv.length
  exact call_list_seq (hsz:=by simpa[←hl] using hz) a (.inr rfl) ho hc hdt fun h' c' hk hD=>fin its h' c' rv hz hk hD
theorem FH:Av X (.type "range") (fun vs H Q=>∃k:Int,vs=[.int k]∧∀p,H p=none→Q (.ref p) (upd H p (.rng 0 k))):=by
 intro pins s σ H vs us Q I r h
 obtain⟨k,rfl,q⟩:=h
 obtain⟨u,rfl,t,rfl⟩:=DJ r
 have hf:H s.heap.objs.size=none:=I.hok.fresh (de _)
 exact call_range_1 ⟨.ref s.heap.objs.size,upd H s.heap.objs.size (.rng 0 k),I.laid (fun b u e=>c9 _ e) (de _) ⟨_,_,_,dN _ rfl⟩,rfl,q _ hf⟩
theorem GM(hc:X.calm=true):Av X (.type "list") (fun vs H Q=>∃(a:Addr) (k:Int),vs=[.ref a]∧H a=some (.rng 0 k)∧0≤k∧k≤1000∧∀p,H p=none→Q (.ref p) (upd H p (.lst ((dv k.toNat).map fun(i:Nat)=>V.int i)))):=by
 intro pins s σ H vs us Q I r h
 obtain⟨a,k,rfl,ha,k0,k1,q⟩:=h
 obtain⟨u,rfl,ru⟩:=DJ r
 cases ru
 obtain⟨t,u,v,hr⟩:=I.hok a _ ha
 have hf:H s.heap.objs.size=none:=I.hok.fresh (de _)
 have hn:js 0 k 1=k.toNat:=by rw[lV];split<;>omega
 refine call_list_range (I.ok.hd hc) hr (small_one (by omega) (by omega) (by omega) (by omega)) hn (by omega) fun h' tk acc c hk hD hacc=>?_
 refine⟨.ref s.heap.objs.size,_,I.laid (o:=.lst ((dv k.toNat).map fun(i:Nat)=>V.int i)) (t':=tk) hk (de _) ⟨?_,acc.toList,c,?_,by rw[Array.toArray_toList];exact hD⟩,rfl,q _ hf⟩
 ·rw[a9,fk,e8];omega
 ·have all:∀(l:List Value) (n m:Nat),l.length=n→(∀i v,l[i]?=some v→∃t,v=jr ((m+i:Nat):Int) t)→Vals ((List.range' m n).map fun(i:Nat)=>V.int i) l:=by
   intro l
   induction l with
   |nil=>intro n m e _;subst e;exact .nil
   |cons x l ih=>
    intro n m e hv
    subst e
    rw[dm,List.range'_succ,dF]
    refine .cons ?_ (ih l.length (m+1) rfl fun i v e=>?_)
    ·obtain⟨t,e⟩:=hv 0 x rfl
     exact⟨t,by rw[e];simp⟩
    ·obtain⟨t,e'⟩:=hv (i+1) v (by simpa using e)
     exact⟨t,by rw[e'];congr 1;omega⟩
  rw[List.range_eq_range']
  refine all acc.toList _ 0 (by rw[dg];exact hacc.1) fun i v e=>?_
  obtain⟨t,e'⟩:=hacc.2 i v (by rw[←dQ];exact e)
  exact⟨t,by rw[e'];congr 1;omega⟩
theorem Pp(hu:X.A.units<cLine):DF X (fm .NotEq) (fun x y H Q=>∃a b xs,x=.ref a∧y=.ref b∧Dj X.K H a xs∧Dj X.K H b []∧Q (.bl (!xs.isEmpty)) H):=by
 intro pins s σ H x y v u Q I rx ry h
 obtain⟨a,b,xs,rfl,rfl,ha,hb,q⟩:=h
 cases rx;cases ry
 obtain⟨its,r1,p1,_⟩:=I.list ha
 obtain⟨its2,r2,p2,_⟩:=I.list hb
 cases r2
 cases xs with
 |nil=>
  cases r1
  exact kZ.lists (e:=fun _=>true) p1.isList p2.isList rfl hu (fun j h1 _=>by simp at h1) _ _ _ _ ⟨.bl _,H,I,rfl,q⟩
 |cons x xs=>
  have hl:=r1.length
  exact kZ.lists_lengths p1.isList p2.isList (by simp;intro e;rw[e] at hl;simp at hl) hu _ _ _ _ ⟨.bl _,H,I,rfl,q⟩
end
end L2
namespace HT
open PySem PySem.Spec PyProof.Rows
section
open PySem.SeqAt
open PySem.AutoSeq1 (wpAny_loadPart')
open PySem.MeetsSeq PySem.MeetsSeq2 PySem.MeetsSeq3
end
section
variable{prog:Program}{w:World}{A:dy}{E:Value→a7→Prop}{s:a7}
end
end HT
namespace L2
open PySem PySem.Spec PyProof.Rows
section
variable{X:Cx}{e:Expr}{te:TE}{pos p2 p3 p4:Pos}
end
end L2
namespace L2.TL
open PySem PySem.Spec PyProof.Rows
inductive T where
 |non|bl (b:Bool)|int (i:Int)|str (x:Str)|tup (ts:List T)|lst (ts:List T)|frz (ts:List T)|dct|raw (v:V)
abbrev AI:=Addr→Option (List T)
def Ac(O:AI)(a:Addr)(ts:List T):AI:=fun b=>if b=a then some ts else O b
def Bo(O:AI)(a:Addr):AI:=fun b=>if b=a then none else O b
theorem AG{O:AI}{a:Addr}{ts:List T}:Ac O a ts a=some ts:=by unfold Ac;rw[if_pos rfl]
theorem AN{O:AI}{a b:Addr}{ts:List T}(h:b≠a):Ac O a ts b=O b:=by unfold Ac;rw[if_neg h]
theorem BA{O:AI}{a:Addr}{ts us:List T}:Ac (Ac O a ts) a us=Ac O a us:=by
 funext b;unfold Ac;split<;>rfl
theorem Co{O:AI}{a:Addr}:Bo O a a=none:=by unfold Bo;rw[if_pos rfl]
theorem DP{O:AI}{a b:Addr}(h:b≠a):Bo O a b=O b:=by unfold Bo;rw[if_neg h]
mutual
inductive Rep (K:a5) (O:AI) (H:Hp):V→T→Prop
 |non:Rep K O H .non .non
 |bl (b:Bool):Rep K O H (.bl b) (.bl b)
 |int (i:Int):Rep K O H (.int i) (.int i)
 |str (x:Str):Rep K O H (.str x) (.str x)
 |tup {a:Addr} {xs:List V} {ts:List T}:H a=some (.tup xs)→Reps K O H xs ts→Rep K O H (.ref a) (.tup ts)
 |lst {a:Addr} {xs:List V} {ts:List T}:H a=some (.lst xs)→O a=none→Reps K O H xs ts→Rep K O H (.ref a) (.lst ts)
 |frz {a:Addr} {o:Obj} {xs:List V} {ts:List T}:H a=some (.frz o (.lst xs))→Reps K O H xs ts→Rep K O H (.ref a) (.frz ts)
 |dct {a:Addr}:H a=some (.dK [])→Rep K O H (.ref a) .dct
 |raw (v:V):Rep K O H v (.raw v)
inductive Reps (K:a5) (O:AI) (H:Hp):List V→List T→Prop
 |nil:Reps K O H [] []
 |cons {v:V} {t:T} {vs:List V} {ts:List T}:Rep K O H v t→Reps K O H vs ts→Reps K O H (v::vs) (t::ts)
end
section
variable{K:a5}{O O' O1:AI}{H H' H1:Hp}
mutual
theorem Rep.mono (hT:∀a o,H a=some o→(∀xs,o≠.lst xs)→H' a=some o) (hL:∀a xs,H a=some (.lst xs)→O a=none→H' a=some (.lst xs)∧O' a=none):∀{v:V} {t:T},Rep K O H v t→Rep K O' H' v t
 |_,_,.non=> .non
 |_,_,.bl b=> .bl b
 |_,_,.int i=> .int i
 |_,_,.str x=> .str x
 |_,_,.tup h r=> .tup (hT _ _ h fun _ z=>by cases z) (Reps.mono hT hL r)
 |_,_,.lst h o r=> .lst (hL _ _ h o).1 (hL _ _ h o).2 (Reps.mono hT hL r)
 |_,_,.frz h r=> .frz (hT _ _ h fun _ z=>by cases z) (Reps.mono hT hL r)
 |_,_,.dct h=> .dct (hT _ _ h fun _ z=>by cases z)
 |_,_,.raw v=> .raw v
theorem Reps.mono (hT:∀a o,H a=some o→(∀xs,o≠.lst xs)→H' a=some o) (hL:∀a xs,H a=some (.lst xs)→O a=none→H' a=some (.lst xs)∧O' a=none):∀{v:List V} {t:List T},Reps K O H v t→Reps K O' H' v t
 |_,_,.nil=> .nil
 |_,_,.cons h r=> .cons (Rep.mono hT hL h) (Reps.mono hT hL r)
end
theorem Reps.length:∀{vs:List V} {ts:List T},Reps K O H vs ts→vs.length=ts.length
 |_,_,.nil=>rfl
 |_,_,.cons _ r=>congrArg (· +1) r.length
theorem Reps.get:∀{vs:List V} {ts:List T} {i:Nat} {t:T},Reps K O H vs ts→ts[i]?=some t→∃v,vs[i]?=some v∧Rep K O H v t
 |_,_,_,_,.nil,e=>by simp at e
 |_,_,0,_,.cons h _,e=>by simp at e;subst e;exact⟨_,rfl,h⟩
 |_,_,i+1,t,.cons _ r,e=>by
  obtain⟨u,h1,h2⟩:=Reps.get (i:=i) (t:=t) r (by simpa using e)
  exact⟨u,by simpa using h1,h2⟩
theorem Reps.append:∀{vs ws:List V} {ts us:List T},Reps K O H vs ts→Reps K O H ws us→Reps K O H (vs++ws) (ts++us)
 |_,_,_,_,.nil,s=>s
 |_,_,_,_,.cons h r,s=> .cons h (r.append s)
theorem Reps.set{x:V}{t:T}(h:Rep K O H x t):∀{vs:List V} {ts:List T} (i:Nat),Reps K O H vs ts→Reps K O H (vs.set i x) (ts.set i t)
 |_,_,_,.nil=> .nil
 |_,_,0,.cons _ r=> .cons h r
 |_,_,i+1,.cons q r=> .cons q (Reps.set h i r)
theorem Reps.one{v:V}{t:T}(h:Rep K O H v t):Reps K O H [v] [t]:=.cons h .nil
theorem Reps.eraseIdx:∀{vs:List V} {ts:List T} (i:Nat),Reps K O H vs ts→Reps K O H (vs.eraseIdx i) (ts.eraseIdx i)
 |_,_,_,.nil=> .nil
 |_,_,0,.cons _ r=>r
 |_,_,i+1,.cons q r=> .cons q (Reps.eraseIdx i r)
def Kp(O:AI)(H:Hp)(O':AI)(H':Hp):Prop:=∀b o,H b=some o→O b=none→H' b=some o∧O' b=none
def OwnOk(K:a5)(O:AI)(H:Hp):Prop:=∀a ts,O a=some ts→∃xs,H a=some (.lst xs)∧Reps K O H xs ts
theorem OwnOk.free(w:OwnOk K O H){a:Addr}{o:HO}(h:H a=some o)(hn:∀xs,o≠.lst xs):O a=none:=by
 cases e:O a with
 |none=>rfl
 |some ts=>
  obtain⟨xs,e',_⟩:=w a ts e
  rw[h] at e'
  exact absurd (eu.inj e') (hn xs)
theorem OwnOk.none_of(w:OwnOk K O H){a:Addr}(h:H a=none):O a=none:=by
 cases e:O a with
 |none=>rfl
 |some ts=>
  obtain⟨xs,e',_⟩:=w a ts e
  rw[h] at e';cases e'
theorem Kp.refl:Kp O H O H:=fun _ _ h n=> ⟨h,n⟩
theorem Kp.trans(a:Kp O H O1 H1)(b:Kp O1 H1 O' H'):Kp O H O' H':=fun c o h n=>b c o (a c o h n).1 (a c o h n).2
theorem Kp.oth(k:Kp O H O' H')(w:OwnOk K O H){a:Addr}{o:HO}(h:H a=some o)(hn:∀xs,o≠.lst xs):H' a=some o:=(k a _ h (w.free h hn)).1
theorem Kp.lst(k:Kp O H O' H'){a:Addr}{xs:List V}(h:H a=some (.lst xs))(n:O a=none):H' a=some (.lst xs)∧O' a=none:=k a _ h n
theorem Rep.kp(k:Kp O H O' H')(w:OwnOk K O H){v:V}{t:T}(r:Rep K O H v t):Rep K O' H' v t:=r.mono (fun _ _ h hn=>k.oth w h hn) fun _ _=>k.lst
theorem Reps.kp(k:Kp O H O' H')(w:OwnOk K O H){v:List V}{t:List T}(r:Reps K O H v t):Reps K O' H' v t:=r.mono (fun _ _ h hn=>k.oth w h hn) fun _ _=>k.lst
structure Frm(K:a5)(O:AI)(H:Hp)(O':AI)(H':Hp):Prop where
 kp:Kp O H O' H'
 own:∀b ts,O b=some ts→∃ts',O' b=some ts'
 ok:OwnOk K O' H'
theorem Frm.refl(w:OwnOk K O H):Frm K O H O H:=⟨.refl,fun _ ts e=> ⟨ts,e⟩,w⟩
theorem Frm.trans(a:Frm K O H O1 H1)(b:Frm K O1 H1 O' H'):Frm K O H O' H':=⟨a.kp.trans b.kp,fun c ts e=>by
 obtain⟨t1,e1⟩:=a.own c ts e
 exact b.own c t1 e1,b.ok⟩
theorem Cp{p:Addr}{o:HO}(w:OwnOk K O H)(hp:H p=none):Kp O H O (upd H p o):=fun b u h n=> ⟨by rw[Ab (AX h hp)];exact h,n⟩
theorem Frm.new{p:Addr}{o:HO}(w:OwnOk K O H)(hp:H p=none):Frm K O H O (upd H p o) where
 kp:=Cp w hp
 own:=fun _ ts e=> ⟨ts,e⟩
 ok:=fun a ts e=>by
  obtain⟨xs,h,r⟩:=w a ts e
  exact⟨xs,by rw[Ab (AX h hp)];exact h,r.kp (Cp w hp) w⟩
theorem Ih{p:Addr}{o:HO}{ts:List T}(w:OwnOk K O H)(hp:H p=none):Kp O H (Ac O p ts) (upd H p o):=fun b u h n=>by
 have:=AX h hp
 rw[Ab this,AN this]
 exact⟨h,n⟩
theorem Frm.newO{p:Addr}{xs:List V}{ts:List T}(w:OwnOk K O H)(hp:H p=none)(r:Reps K O H xs ts):Frm K O H (Ac O p ts) (upd H p (.lst xs)) where
 kp:=Ih w hp
 own:=fun b us e=>by
  by_cases hb:b=p
  ·exact⟨ts,by rw[hb,AG]⟩
  ·exact⟨us,by rw[AN hb];exact e⟩
 ok:=fun a us e=>by
  by_cases hb:a=p
  ·subst hb
   rw[AG] at e;cases e
   exact⟨xs,AZ,r.kp (Ih w hp) w⟩
  ·rw[AN hb] at e
   obtain⟨ys,h,q⟩:=w a us e
   exact⟨ys,by rw[Ab hb];exact h,q.kp (Ih w hp) w⟩
theorem Ii{a:Addr}{o:HO}{ts us:List T}(ha:O a=some ts):Kp O H (Ac O a us) (upd H a o):=fun b u h n=>by
 have:b≠a:=fun z=>by rw[z,ha] at n;cases n
 rw[Ab this,AN this]
 exact⟨h,n⟩
theorem Frm.put{a:Addr}{xs:List V}{ts us:List T}(w:OwnOk K O H)(ha:O a=some ts)(r:Reps K O H xs us):Frm K O H (Ac O a us) (upd H a (.lst xs)) where
 kp:=Ii ha
 own:=fun b vs e=>by
  by_cases hb:b=a
  ·exact⟨us,by rw[hb,AG]⟩
  ·exact⟨vs,by rw[AN hb];exact e⟩
 ok:=fun b vs e=>by
  by_cases hb:b=a
  ·subst hb
   rw[AG] at e;cases e
   exact⟨xs,AZ,r.kp (Ii ha) w⟩
  ·rw[AN hb] at e
   obtain⟨ys,h,q⟩:=w b vs e
   exact⟨ys,by rw[Ab hb];exact h,q.kp (Ii ha) w⟩
theorem Bp{a:Addr}:Kp O H (Bo O a) H:=fun b u h n=> ⟨h,by
 by_cases hb:b=a
 ·rw[hb,Co]
 ·rw[DP hb];exact n⟩
theorem OwnOk.drop{a:Addr}(w:OwnOk K O H):OwnOk K (Bo O a) H:=fun b ts e=>by
 by_cases hb:b=a
 ·rw[hb,Co] at e;cases e
 ·rw[DP hb] at e
  obtain⟨xs,h,r⟩:=w b ts e
  exact⟨xs,h,r.kp Bp w⟩
theorem OwnOk.rep{a:Addr}{ts:List T}(w:OwnOk K O H)(e:O a=some ts):Rep K (Bo O a) H (.ref a) (.lst ts):=by
 obtain⟨xs,h,r⟩:=w a ts e
 exact .lst h Co (r.kp Bp w)
end
def Rl(K:a5)(O:AI)(H:Hp)(σ:St)(ρ:List (Option T)):Prop:=σ.length=ρ.length∧∀(i:Nat) (t:T),ρ[i]?=some (some t)→∃v,σ[i]?=some (some v)∧Rep K O H v t
section
variable{K:a5}{O O':AI}{H H':Hp}{σ:St}{ρ:List (Option T)}
theorem Rl.kp(k:Kp O H O' H')(w:OwnOk K O H)(r:Rl K O H σ ρ):Rl K O' H' σ ρ:=⟨r.1,fun i t e=>by
 obtain⟨v,h1,h2⟩:=r.2 i t e
 exact⟨v,h1,h2.kp k w⟩⟩
theorem Rl.set{i:Nat}{v:V}{t:T}(r:Rl K O H σ ρ)(h:Rep K O H v t):Rl K O H (σ.set i (some v)) (ρ.set i (some t)):=⟨by simpa using r.1,fun j u e=>by
 by_cases hj:j=i
 ·subst hj
  have hl:j<ρ.length:=by
   have:=(dj.mp e).1
   simpa using this
  rw[eB hl] at e
  cases e
  exact⟨v,by rw[eB (by rw[r.1];exact hl)],h⟩
 ·rw[ef (Ne.symm hj)] at e ⊢
  exact r.2 j u e⟩
end
structure Zx where
 X:Cx
 Oe:AI
 He:Hp
 Xi:Value→AI→Prop
abbrev Zx.K(Z:Zx):a5:=Z.X.K
def Zx.W(Z:Zx):St→XK:=fun _ cls d H'=>d=none∧∃O',Z.Xi cls O'∧Frm Z.K Z.Oe Z.He O' H'
structure Asr(Z:Zx)(ρ:List (Option T))(O:AI)(σ:St)(H:Hp):Prop where
 rl:Rl Z.K O H σ ρ
 fr:Frm Z.K Z.Oe Z.He O H
section
variable{Z:Zx}{ρ:List (Option T)}{O O':AI}{σ:St}{H H':Hp}
theorem Asr.ok(a:Asr Z ρ O σ H):OwnOk Z.K O H:=a.fr.ok
theorem Asr.step(a:Asr Z ρ O σ H)(f:Frm Z.K O H O' H'):Asr Z ρ O' σ H':=⟨a.rl.kp f.kp a.ok,a.fr.trans f⟩
theorem Asr.refl(a:Asr Z ρ O σ H):Frm Z.K O H O H:=.refl a.ok
end
abbrev BH:=T→AI→Prop
abbrev Lc:=List T→AI→Prop
abbrev Jc:=Bool→AI→Prop
def Acc(K:a5)(O:AI)(H:Hp)(Φ:BH)(Q:VK):Prop:=∀v H' t O',Φ t O'→Frm K O H O' H'→Rep K O' H' v t→Q v H'
def aw(K:a5)(O:AI)(H:Hp)(Φ:Lc)(Q:List V→Hp→Prop):Prop:=∀vs H' ts O',Φ ts O'→Frm K O H O' H'→Reps K O' H' vs ts→Q vs H'
def AccT(K:a5)(O:AI)(H:Hp)(Φ:Jc)(Q:Bool→Hp→Prop):Prop:=∀b H' O',Φ b O'→Frm K O H O' H'→Q b H'
def tW(Z:Zx)(ρ:List (Option T))(O:AI)(Φ:BH):TE:=fun σ H Q=>Asr Z ρ O σ H∧Acc Z.K O H Φ Q
def bZ(Z:Zx)(ρ:List (Option T))(O:AI)(Φ:Lc):TA:=fun σ H Q=>Asr Z ρ O σ H∧aw Z.K O H Φ Q
def Xr(Z:Zx)(ρ:List (Option T))(O:AI)(Φ:Jc):TT:=fun σ H Q=>Asr Z ρ O σ H∧AccT Z.K O H Φ Q
def WE(Z:Zx)(ρ:List (Option T))(O:AI)(e:Expr)(Φ:BH):Prop:=PE Z.X e (tW Z ρ O Φ)
def WA(Z:Zx)(ρ:List (Option T))(O:AI)(es:List Expr)(Φ:Lc):Prop:=PA Z.X es (bZ Z ρ O Φ)
def WT(Z:Zx)(ρ:List (Option T))(O:AI)(e:Expr)(Φ:Jc):Prop:=PT Z.X e (Xr Z ρ O Φ)
def WW(Z:Zx)(ρ:List (Option T))(O:AI)(e:Expr)(Φ:Jc):Prop:=PW Z.X e (Xr Z ρ O Φ)
def ET(Z:Zx)(ρ:List (Option T))(O:AI)(e:Expr)(t:T):Prop:=∀Φ:BH,Φ t O→WE Z ρ O e Φ
def EA(Z:Zx)(ρ:List (Option T))(O:AI)(es:List Expr)(ts:List T):Prop:=∀Φ:Lc,Φ ts O→WA Z ρ O es Φ
def EB(Z:Zx)(ρ:List (Option T))(O:AI)(e:Expr)(b:Bool):Prop:=∀Φ:Jc,Φ b O→WT Z ρ O e Φ
theorem PE.weak{X:Cx}{e:Expr}{t t':TE}(h:PE X e t)(w:∀σ H Q,t' σ H Q→t σ H Q):PE X e t':=fun pins s σ H Q I q=>h pins s σ H Q I (w σ H Q q)
theorem PA.weak{X:Cx}{e:List Expr}{t t':TA}(h:PA X e t)(w:∀σ H Q,t' σ H Q→t σ H Q):PA X e t':=fun pos pins s σ H Q I q=>h pos pins s σ H Q I (w σ H Q q)
theorem PT.weak{X:Cx}{e:Expr}{t t':TT}(h:PT X e t)(w:∀σ H Q,t' σ H Q→t σ H Q):PT X e t':=fun pins s σ H Q I q=>h pins s σ H Q I (w σ H Q q)
theorem PW.weak{X:Cx}{e:Expr}{t t':TT}(h:PW X e t)(w:∀σ H Q,t' σ H Q→t σ H Q):PW X e t':=fun whole pins s σ H Q I q=>h whole pins s σ H Q I (w σ H Q q)
theorem PS.weak{X:Cx}{e:Stmt}{t t':TS}(h:PS X e t)(w:∀D σ H,t' D σ H→t D σ H):PS X e t':=fun pins s σ H D I q=>h pins s σ H D I (w D σ H q)
theorem PSs.weak{X:Cx}{e:List Stmt}{t t':TS}(h:PSs X e t)(w:∀D σ H,t' D σ H→t D σ H):PSs X e t':=fun pins s σ H D I q=>h pins s σ H D I (w D σ H q)
def tX(Z:Zx)(ρ:List (Option T))(e:Expr):TE:=fun σ H Q=>∃O Φ,WE Z ρ O e Φ∧tW Z ρ O Φ σ H Q
theorem Be{Z:Zx}{ρ:List (Option T)}{e:Expr}:PE Z.X e (tX Z ρ e):=fun pins s σ H Q I ⟨_,_,w,q⟩=>w pins s σ H Q I q
def cK(Z:Zx)(ρ:List (Option T))(e:List Expr):TA:=fun σ H Q=>∃O Φ,WA Z ρ O e Φ∧bZ Z ρ O Φ σ H Q
theorem HD{Z:Zx}{ρ:List (Option T)}{e:List Expr}:PA Z.X e (cK Z ρ e):=fun pos pins s σ H Q I ⟨_,_,w,q⟩=>w pos pins s σ H Q I q
def cL(Z:Zx)(ρ:List (Option T))(e:Expr):TT:=fun σ H Q=>∃O Φ,WW Z ρ O e Φ∧Xr Z ρ O Φ σ H Q
theorem Yq{Z:Zx}{ρ:List (Option T)}{e:Expr}:PW Z.X e (cL Z ρ e):=fun whole pins s σ H Q I ⟨_,_,w,q⟩=>w whole pins s σ H Q I q
section
variable{Z:Zx}{ρ:List (Option T)}{O:AI}{e a b:Expr}{es:List Expr}{Φ Φ':BH}{pos:Pos}{t ta tb:T}{ts:List T}
theorem Acc.mono{K:a5}{H:Hp}{Q:VK}(h:Acc K O H Φ' Q)(w:∀t O',Φ t O'→Φ' t O'):Acc K O H Φ Q:=fun v H' t O' p=>h v H' t O' (w t O' p)
theorem Acc.step{K:a5}{H H1:Hp}{O1:AI}{Q:VK}(h:Acc K O H Φ Q)(f:Frm K O H O1 H1):Acc K O1 H1 Φ Q:=fun v H' t O' p f' r=>h v H' t O' p (f.trans f') r
theorem AccT.step{K:a5}{H H1:Hp}{O1:AI}{Φ:Jc}{Q:Bool→Hp→Prop}(h:AccT K O H Φ Q)(f:Frm K O H O1 H1):AccT K O1 H1 Φ Q:=fun v H' O' p f'=>h v H' O' p (f.trans f')
theorem Da(h:WE Z ρ O e Φ)(w:∀t O',Φ t O'→Φ' t O'):WE Z ρ O e Φ':=PE.weak h fun _ _ _ q=> ⟨q.1,q.2.mono w⟩
theorem ET.we(h:ET Z ρ O e t)(p:Φ t O):WE Z ρ O e Φ:=h Φ p
theorem WH{i:Nat}{x:Str}(hN:Z.X.N[i]?=some x)(hv:Xo Z.X.env.scope x)(e:ρ[i]?=some (some t))(p:Φ t O)(hd:(x==("__debug__" :Str))=false:=by decide)(hcd:(x==("__classdict__" :Str))=false:=by decide):WE Z ρ O (.Name x pos) Φ:=
 PE.weak (On hN hv hd hcd) fun σ H Q q=>by
  obtain⟨v,h1,h2⟩:=q.1.rl.2 i t e
  exact⟨v,h1,q.2 v H t O p q.1.refl h2⟩
theorem ev(i:Nat){x:Str}(e:ρ[i]?=some (some t):=by rfl)(hN:Z.X.N[i]?=some x:=by rfl)(hv:Xo Z.X.env.scope x:=by first|exact kg rfl|exact ke (kg rfl)|exact ke (ke rfl))(hd:(x==("__debug__" :Str))=false:=by decide)
  (hcd:(x==("__classdict__" :Str))=false:=by decide):ET Z ρ O (.Name x pos) t:=fun _ p=>WH hN hv e p hd hcd
theorem Pq{v:V}(h:PE Z.X e (tC v))(r:∀O H,Rep Z.K O H v t):ET Z ρ O e t:=fun _ p=>PE.weak h fun _ H _ q=>q.2 v H _ O p q.1.refl (r O H)
theorem AB{i:Int}{j:Nat}:ET Z ρ O (.Constant (.int i) j pos) (.int i):=Pq Oo fun _ _=> .int i
theorem Ml{i:Bool}{j:Nat}:ET Z ρ O (.Constant (.bool i) j pos) (.bl i):=Pq Xv fun _ _=> .bl i
theorem Bj{j:Nat}:ET Z ρ O (.Constant .none j pos) .non:=Pq VJ fun _ _=> .non
theorem EG{x:Str}{i:Int}(hm:∃t:Tok,Z.X.mg x=some (.int i t))(hg:Gl Z.X x:=by rfl)(hd:(x==("__debug__" :Str))=false:=by decide):ET Z ρ O (.Name x pos) (.int i):=by
 cases hm with
 |intro t hm=>exact Pq (SL (v:=.int i) hg hm ⟨t,rfl⟩ hd) fun _ _=> .int i
theorem Yr{x:Str}{n:String}(hm:Z.X.mg x=none)(hv:eE x=some (.type n))(hg:Gl Z.X x:=by rfl)(hn:x≠"__name__":=by decide)(hd:(x==("__debug__" :Str))=false:=by decide):ET Z ρ O (.Name x pos) (.raw (.ty n)):=
 Pq (SM (v:=.ty n) hg hm hv rfl hn hd) fun _ _=> .raw _
def RT(K:a5)(r:R2)(ta tb:T)(O:AI)(Φ:BH):Prop:=∀H v w Q,OwnOk K O H→Rep K O H v ta→Rep K O H w tb→Acc K O H Φ Q→r v w H Q
def RP(K:a5)(r:R2)(ta tb:T)(O:AI)(t:T):Prop:=∀Φ:BH,Φ t O→RT K r ta tb O Φ
theorem Ij{r:R2}{σ:St}{H:Hp}{Q:VK}(q:tW Z ρ O Φ σ H Q)(h:WE Z ρ O a fun ta O1=>WE Z ρ O1 b fun tb O2=>RT Z.K r ta tb O2 Φ):YJ r (tX Z ρ a) (tX Z ρ b) σ H Q:=
 ⟨O,_,h,q.1,fun v H1 ta O1 p f1 r1=> ⟨O1,_,p,q.1.step f1,fun w H2 tb O2 p2 f2 r2=>p2 H2 v w Q f2.ok (r1.kp f2.kp f1.ok) r2 (q.2.step (f1.trans f2))⟩⟩
theorem FI{op:lM}{r:R2}(ho:DF Z.X (jv op) r)(h:WE Z ρ O a fun ta O1=>WE Z ρ O1 b fun tb O2=>RT Z.K r ta tb O2 Φ):WE Z ρ O (.BinOp a op b pos) Φ:=
 PE.weak (YK ho Be Be) fun _ _ _ q=>Ij q h
theorem WJ{op:CmpOp}{r:R2}(ho:DF Z.X (fm op) r)(hm:behindInMarks op b=false)(h:WE Z ρ O a fun ta O1=>WE Z ρ O1 b fun tb O2=>RT Z.K r ta tb O2 Φ):WE Z ρ O (.Compare a [op] [b] pos) Φ:=
 PE.weak (SV ho Be Be hm) fun _ _ _ q=>Ij q h
theorem GN{op:lM}{r:R2}(ho:DF Z.X (jv op) r)(hp:RP Z.K r ta tb O t)(ha:ET Z ρ O a ta)(hb:ET Z ρ O b tb):ET Z ρ O (.BinOp a op b pos) t:=fun Φ p=>FI ho (ha _ (hb _ (hp Φ p)))
theorem CD{op:CmpOp}{r:R2}(ho:DF Z.X (fm op) r)(hm:behindInMarks op b=false)(hp:RP Z.K r ta tb O t)(ha:ET Z ρ O a ta)(hb:ET Z ρ O b tb):ET Z ρ O (.Compare a [op] [b] pos) t:=fun Φ p=>WJ ho hm (ha _ (hb _ (hp Φ p)))
theorem Pt{r:R2}(ho:YW Z.X r)(hs:DZ b)(h:WE Z ρ O a fun ta O1=>WE Z ρ O1 b fun tb O2=>RT Z.K r ta tb O2 Φ):WE Z ρ O (.Subscript a b pos) Φ:=
 PE.weak (Uc ho Be Be hs) fun _ _ _ q=>Ij q h
theorem Pu{r:R2}(ho:YW Z.X r)(hs:DZ b)(hp:RP Z.K r ta tb O t)(ha:ET Z ρ O a ta)(hb:ET Z ρ O b tb):ET Z ρ O (.Subscript a b pos) t:=fun Φ p=>Pt ho hs (ha _ (hb _ (hp Φ p)))
theorem Ae{Φ:Lc}(p:Φ [] O):WA Z ρ O [] Φ:=PA.weak Ei fun _ H _ q=>q.2 [] H [] O p q.1.refl .nil
theorem BW{Φ:Lc}(h:WE Z ρ O e fun t O1=>WA Z ρ O1 es fun ts O2=>Φ (t::ts) O2)(hs:b4 (e::es) Z.X.env=(false,eval e Z.X.env)::b4 es Z.X.env:=by rfl):WA Z ρ O (e::es) Φ:=
 PA.weak (DY Be HD hs) fun σ H Q q=> ⟨O,_,h,q.1,fun v H1 t O1 p f1 r1=> ⟨O1,_,p,q.1.step f1,fun vs H2 ts O2 p2 f2 r2=>q.2 _ H2 _ O2 p2 (f1.trans f2) (.cons (r1.kp f2.kp f1.ok) r2)⟩⟩
theorem AC:EA Z ρ O [] []:=fun _ p=>Ae p
theorem AJ(h:ET Z ρ O e t)(hr:EA Z ρ O es ts)(hs:b4 (e::es) Z.X.env=(false,eval e Z.X.env)::b4 es Z.X.env:=by rfl):EA Z ρ O (e::es) (t::ts):=fun Φ p=>BW (h _ (hr _ p)) hs
theorem Ba{x1}(h:WA Z ρ O es fun ts O1=>ts.length≤sizeLine∧Φ (.tup ts) O1):WE Z ρ O (.Tuple es x1 pos) Φ:=
 PE.weak (Vi h) fun σ H Q q=> ⟨q.1,fun vs H1 ts O1 p f r=> ⟨by rw[r.length];exact p.1,fun a ha=>q.2 _ _ _ O1 p.2 (f.trans (.new f.ok ha)) (.tup AZ (r.kp (Cp f.ok ha) f.ok))⟩⟩
theorem BM{x1}(h:EA Z ρ O es ts)(hl:ts.length≤sizeLine:=by first| (show 1≤sizeLine;decide)| (show 2≤sizeLine;decide)| (show 3≤sizeLine;decide)| (show 0≤sizeLine;decide)):ET Z ρ O (.Tuple es x1 pos) (.tup ts):=fun _ p=>Ba (h _ ⟨hl,p⟩)
theorem Pv(h:WA Z ρ O es fun ts O1=>ts.length≤sizeLine∧Φ (.lst ts) O1):WE Z ρ O (.List es pos) Φ:=
 PE.weak (PD h) fun σ H Q q=> ⟨q.1,fun vs H1 ts O1 p f r=> ⟨by rw[r.length];exact p.1,fun a ha=>q.2 _ _ _ O1 p.2 (f.trans (.new f.ok ha)) (.lst AZ (f.ok.none_of ha) (r.kp (Cp f.ok ha) f.ok))⟩⟩
theorem DQ(h:EA Z ρ O es ts)(hl:ts.length≤sizeLine):ET Z ρ O (.List es pos) (.lst ts):=fun _ p=>Pv (h _ ⟨hl,p⟩)
theorem FS(h:WA Z ρ O es fun ts O1=>ts.length≤sizeLine∧∀a,O1 a=none→Φ (.raw (.ref a)) (Ac O1 a ts)):WE Z ρ O (.List es pos) Φ:=
 PE.weak (PD h) fun σ H Q q=> ⟨q.1,fun vs H1 ts O1 p f r=> ⟨by rw[r.length];exact p.1,fun a ha=>q.2 _ _ _ _ (p.2 a (f.ok.none_of ha)) (f.trans (.newO f.ok ha r)) (.raw _)⟩⟩
end
section
variable{K:a5}{O:AI}{H:Hp}{v:V}
theorem Rep.int_inv{i:Int}(r:Rep K O H v (.int i)):v=.int i:=by cases r;rfl
theorem Rep.bl_inv{i:Bool}(r:Rep K O H v (.bl i)):v=.bl i:=by cases r;rfl
theorem Rep.non_inv(r:Rep K O H v .non):v=.non:=by cases r;rfl
theorem Rep.raw_inv{i:V}(r:Rep K O H v (.raw i)):v=i:=by cases r;rfl
theorem Rep.tup_inv{ts:List T}(r:Rep K O H v (.tup ts)):∃a xs,v=.ref a∧H a=some (.tup xs)∧Reps K O H xs ts:=by
 cases r with
 |tup h r=>exact⟨_,_,rfl,h,r⟩
theorem Rep.lst_inv{ts:List T}(r:Rep K O H v (.lst ts)):∃a xs,v=.ref a∧H a=some (.lst xs)∧O a=none∧Reps K O H xs ts:=by
 cases r with
 |lst h o r=>exact⟨_,_,rfl,h,o,r⟩
theorem Reps.cons_inv{vs:List V}{t:T}{ts:List T}(r:Reps K O H vs (t::ts)):∃v vs',vs=v::vs'∧Rep K O H v t∧Reps K O H vs' ts:=by
 cases r with
 |cons h r=>exact⟨_,_,rfl,h,r⟩
theorem Reps.nil_inv{vs:List V}(r:Reps K O H vs []):vs=[]:=by cases r;rfl
theorem Reps.one_inv{vs:List V}{t:T}(r:Reps K O H vs [t]):∃v,vs=[v]∧Rep K O H v t:=by
 obtain⟨v,vs',rfl,h,r⟩:=r.cons_inv
 cases r.nil_inv
 exact⟨v,rfl,h⟩
theorem Reps.two_inv{vs:List V}{t u:T}(r:Reps K O H vs [t,u]):∃v w,vs=[v,w]∧Rep K O H v t∧Rep K O H w u:=by
 obtain⟨v,vs',rfl,h,r⟩:=r.cons_inv
 obtain⟨w,rfl,h2⟩:=r.one_inv
 exact⟨v,w,rfl,h,h2⟩
theorem Reps.ints:∀{vs:List V} {ns:List Int},Reps K O H vs (ns.map T.int)→vs=ns.map V.int
 |_,[],r=>r.nil_inv
 |_,n::ns,r=>by
  obtain⟨v,vs',rfl,h,r⟩:=Reps.cons_inv r
  rw[h.int_inv,Reps.ints r]
  rfl
end
section
variable{Z:Zx}{ρ:List (Option T)}{O:AI}{e a b c:Expr}{es:List Expr}{Φ Φ':BH}{pos:Pos}{t ta tb:T}{ts:List T}{K:a5}{i j:Int}
theorem GO{g:Int→Int→Int}:RP K (SE fun i j=> .int (g i j)) (.int i) (.int j) O (.int (g i j)):=fun Φ p H v w Q ok r1 r2 q=> ⟨i,j,r1.int_inv,r2.int_inv,q _ H _ O p (.refl ok) (.int _)⟩
theorem GP{g:Int→Int→Bool}:RP K (SE fun i j=> .bl (g i j)) (.int i) (.int j) O (.bl (g i j)):=fun Φ p H v w Q ok r1 r2 q=> ⟨i,j,r1.int_inv,r2.int_inv,q _ H _ O p (.refl ok) (.bl _)⟩
theorem Pw{C:Int→Int→Prop}{g:Int→Int→Int}(hc:C i j):RP K (rI C fun i j=> .int (g i j)) (.int i) (.int j) O (.int (g i j)):=fun Φ p H v w Q ok r1 r2 q=> ⟨i,j,r1.int_inv,r2.int_inv,hc,q _ H _ O p (.refl ok) (.int _)⟩
theorem Au(ha:ET Z ρ O a (.int i))(hb:ET Z ρ O b (.int j)):ET Z ρ O (.BinOp a .Add b pos) (.int (i+j)):=GN Eh GO ha hb
theorem CF(ha:ET Z ρ O a (.int i))(hb:ET Z ρ O b (.int j)):ET Z ρ O (.BinOp a .Sub b pos) (.int (i-j)):=GN Vc GO ha hb
theorem Ds(ha:ET Z ρ O a (.int i))(hb:ET Z ρ O b (.int j))(h:CMul i j):ET Z ρ O (.BinOp a .Mult b pos) (.int (i*j)):=GN Vd (Pw h) ha hb
theorem Bq(ha:ET Z ρ O a (.int i))(hb:ET Z ρ O b (.int j))(h:YM i j):ET Z ρ O (.BinOp a .FloorDiv b pos) (.int (i/j)):=GN SU (Pw h) ha hb
theorem Cq(ha:ET Z ρ O a (.int i))(hb:ET Z ρ O b (.int j))(h:0<j):ET Z ρ O (.BinOp a .Mod b pos) (.int (i%j)):=GN Ow (Pw h) ha hb
theorem WK(ha:ET Z ρ O a (.int i))(hb:ET Z ρ O b (.int j))(h:YN i j):ET Z ρ O (.BinOp a .Pow b pos) (.int (i^j.toNat)):=GN Ve (Pw h) ha hb
theorem Px(ha:ET Z ρ O a (.int i))(hb:ET Z ρ O b (.int j)):ET Z ρ O (.Compare a [.Lt] [b] pos) (.bl (decide (i<j))):=CD Ox (Ad _) GP ha hb
theorem Ys(ha:ET Z ρ O a (.int i))(hb:ET Z ρ O b (.int j)):ET Z ρ O (.Compare a [.LtE] [b] pos) (.bl (decide (i≤j))):=CD Oy (Ad _) GP ha hb
theorem Yt(ha:ET Z ρ O a (.int i))(hb:ET Z ρ O b (.int j)):ET Z ρ O (.Compare a [.GtE] [b] pos) (.bl (decide (j≤i))):=CD YR (Ad _) GP ha hb
theorem GQ:RP K bR (.int i) (.int j) O (.bl (decide (i=j))):=fun Φ p H v w Q ok r1 r2 q=>by
 cases r1.int_inv;cases r2.int_inv
 refine⟨rfl,?_⟩
 have:decide (V.int i=V.int j)=decide (i=j):=by simp
 rw[this]
 exact q _ H _ O p (.refl ok) (.bl _)
theorem WL:RP K ae (.int i) (.int j) O (.bl (!decide (i=j))):=fun Φ p H v w Q ok r1 r2 q=>by
 cases r1.int_inv;cases r2.int_inv
 refine⟨rfl,?_⟩
 have:decide (V.int i=V.int j)=decide (i=j):=by simp
 rw[this]
 exact q _ H _ O p (.refl ok) (.bl _)
theorem WM{x y:Bool}:RP K ae (.bl x) (.bl y) O (.bl (!(x==y))):=fun Φ p H v w Q ok r1 r2 q=>by
 cases r1.bl_inv;cases r2.bl_inv
 refine⟨rfl,?_⟩
 have:decide (V.bl x=V.bl y)=(x==y):=LD
 rw[this]
 exact q _ H _ O p (.refl ok) (.bl _)
theorem Py{op op':CmpOp}{r r':R2}{tc:T}{x y:Bool}(ho:DF Z.X (fm op) r)(ho':DF Z.X (fm op') r')(hp:RP Z.K r ta tb O (.bl x))(hp':x=true→RP Z.K r' tb tc O (.bl y))
  (ha:ET Z ρ O a ta) (hb:ET Z ρ O b tb) (hc:x=true→ET Z ρ O c tc) (hm:lastMarks [op,op'] [b,c]=false:=by with_unfolding_all rfl):ET Z ρ O (.Compare a [op,op'] [b,c] pos) (.bl (x&&y)):=fun Φ p=>
 by
 refine PE.weak (PB ho ho' (Be (ρ:=ρ)) (Be (ρ:=ρ)) (Be (ρ:=ρ)) hm) fun σ H Q q=>?_
 refine⟨O,_,ha (fun t O'=>t=ta∧O'=O) ⟨rfl,rfl⟩,q.1,?_⟩
 rintro v H1 _ _ ⟨rfl,rfl⟩ f1 r1
 refine⟨_,_,hb (fun t O'=>t=tb∧O'=_) ⟨rfl,rfl⟩,q.1.step f1,?_⟩
 rintro w H2 _ _ ⟨rfl,rfl⟩ f2 r2
 refine hp (fun t O'=>t=.bl x∧O'=_) ⟨rfl,rfl⟩ H2 v w _ f2.ok (r1.kp f2.kp f1.ok) r2 ?_
 rintro z H3 _ _ ⟨rfl,rfl⟩ f3 r3
 refine⟨x,r3.bl_inv,?_⟩
 cases x with
 |false=>exact Nx (q.2 _ H3 _ _ p (f1.trans (f2.trans f3)) (.bl _))
 |true=>
  refine IR ⟨_,_,hc rfl (fun t O'=>t=tc∧O'=_) ⟨rfl,rfl⟩,q.1.step (f1.trans (f2.trans f3)),?_⟩
  rintro w' H4 _ _ ⟨rfl,rfl⟩ f4 r4
  exact hp' rfl _ p H4 w w' _ f4.ok (r2.kp (f3.trans f4).kp f2.ok) r4 (q.2.step (f1.trans (f2.trans (f3.trans f4))))
def TruT(O:AI):T→Bool→Prop
 | .non,k=>k=false
 | .bl b,k=>k=b
 | .int i,k=>k=(i !=0)
 | .str y,k=>y.length≤sizeLine∧k=((y.length:Int) !=0)
 | .tup ts,k=>k=!ts.isEmpty
 | .lst ts,k=>k=!ts.isEmpty
 | .frz ts,k=>k=!ts.isEmpty
 | .dct,_=>False
 | .raw (.ref a),k=>∃ts,O a=some ts∧k=!ts.isEmpty
 | .raw _,_=>False
theorem Reps.isEmpty{vs:List V}{ts:List T}{H:Hp}(r:Reps K O H vs ts):vs.isEmpty=ts.isEmpty:=by cases r<;>rfl
theorem TruT.v{H:Hp}{v:V}{k:Bool}(h:TruT O t k)(r:Rep K O H v t)(ok:OwnOk K O H):Vg K v H k:=by
 cases r with
 |non=>exact h
 |bl=>exact h
 |int=>exact h
 |str=>exact h
 |tup h1 r=>
  have h:k=!_:=h
  exact .inr (.inl ⟨_,.inl (.inl h1),by rw[h,r.isEmpty]⟩)
 |lst h1 o r=>
  have h:k=!_:=h
  exact .inl ⟨_,.inl (.inl h1),by rw[h,r.isEmpty]⟩
 |frz h1 r=>
  have h:k=!_:=h
  exact .inl ⟨_,.inl (.inr ⟨_,h1⟩),by rw[h,r.isEmpty]⟩
 |dct=>exact h.elim
 |raw v=>
  cases v with
  |ref a=>
   obtain⟨ts,e,h⟩:=h
   obtain⟨xs,h1,r⟩:=ok a ts e
   exact .inl ⟨xs,.inl (.inl h1),by rw[h,r.isEmpty]⟩
  |_=>exact h.elim
theorem KI{Φ:Jc}(h:WE Z ρ O e fun t O'=>∃k,TruT O' t k∧Φ k O')(he:∀whole,isTrue e Z.X.env whole=(do let v←whole;standAt e.pos;holding [v] (truthy v)):=by intro _;rfl):WT Z ρ O e Φ:=
 PT.weak (PC Be he) fun σ H Q q=> ⟨O,_,h,q.1,fun v H1 t O1 ⟨k,tr,p⟩ f r=> ⟨k,tr.v r f.ok,q.2 k H1 O1 p f⟩⟩
theorem KJ{k:Bool}(h:ET Z ρ O e t)(tr:TruT O t k)(he:∀whole,isTrue e Z.X.env whole=(do let v←whole;standAt e.pos;holding [v] (truthy v)):=by intro _;rfl):EB Z ρ O e k:=fun Φ p=>KI (h _ ⟨k,tr,p⟩) he
theorem Br{k:Bool}(h:ET Z ρ O e (.bl k))(he:∀whole,isTrue e Z.X.env whole=(do let v←whole;standAt e.pos;holding [v] (truthy v)):=by intro _;rfl):EB Z ρ O e k:=KJ h rfl he
theorem Er{Φ:Jc}{op:CmpOp}{r:R2}(ho:DF Z.X (fm op) r)(hm:behindInMarks op b=false)(h:WE Z ρ O a fun ta O1=>WE Z ρ O1 b fun tb O2=>RT Z.K r ta tb O2 fun t O3=>∃k,t=.bl k∧Φ k O3):WT Z ρ O (.Compare a [op] [b] pos) Φ:=
 PT.weak (MS ho Be Be hm) fun σ H Q q=>Ij (Φ:=fun t O3=>∃k,t=.bl k∧Φ k O3) ⟨q.1,fun v H' t O' ⟨k,e,p⟩ f r=>by
  subst e
  exact⟨k,r.bl_inv,q.2 k H' O' p f⟩⟩ h
theorem CH{op:CmpOp}{r:R2}{k:Bool}(ho:DF Z.X (fm op) r)(hm:behindInMarks op b=false)(hp:RP Z.K r ta tb O (.bl k))(ha:ET Z ρ O a ta)(hb:ET Z ρ O b tb):EB Z ρ O (.Compare a [op] [b] pos) k:=fun Φ p=>
 Er ho hm (ha _ (hb _ (hp _ ⟨k,rfl,p⟩)))
theorem Hj(ha:ET Z ρ O a (.int i))(hb:ET Z ρ O b (.int j)):EB Z ρ O (.Compare a [.Lt] [b] pos) (decide (i<j)):=CH Ox (Ad _) GP ha hb
theorem KL(ha:ET Z ρ O a (.int i))(hb:ET Z ρ O b (.int j)):EB Z ρ O (.Compare a [.Gt] [b] pos) (decide (j<i)):=CH YQ (Ad _) GP ha hb
theorem CI(ha:ET Z ρ O a (.int i))(hb:ET Z ρ O b (.int j)):EB Z ρ O (.Compare a [.Eq] [b] pos) (decide (i=j)):=CH Ji (Ad _) GQ ha hb
theorem Ld(ha:ET Z ρ O a (.int i))(hb:ET Z ρ O b (.int j)):EB Z ρ O (.Compare a [.NotEq] [b] pos) (!decide (i=j)):=CH Ub (Ad _) WL ha hb
theorem Pz{x y:Bool}(ha:ET Z ρ O a (.bl x))(hb:ET Z ρ O b (.bl y)):EB Z ρ O (.Compare a [.NotEq] [b] pos) (!(x==y)):=CH Ub (Ad _) WM ha hb
theorem Sx{k:Int}(ha:ET Z ρ O a (.int i))(hb:ET Z ρ O b (.int j))(hc:ET Z ρ O c (.int k))(hm:lastMarks [CmpOp.LtE,.LtE] [b,c]=false:=by with_unfolding_all rfl):ET Z ρ O (.Compare a [.LtE,.LtE] [b,c] pos) (.bl (decide (i≤j)&&decide (j≤k))):=Py Oy Oy GP (fun _=>GP) ha hb (fun _=>hc) hm
theorem QA{Φ:Jc}(h:WT Z ρ O a fun k O'=>Φ (!k) O'):WT Z ρ O (.UnaryOp .Not a pos) Φ:=PT.weak (VN h) fun σ H Q q=> ⟨q.1,fun k H1 O1 p f=>q.2 _ H1 O1 p f⟩
theorem BS{k:Bool}(h:EB Z ρ O a k):EB Z ρ O (.UnaryOp .Not a pos) (!k):=fun Φ p=>QA (h _ p)
def EW(Z:Zx)(ρ:List (Option T))(O:AI)(e:Expr)(b:Bool):Prop:=∀Φ:Jc,Φ b O→WW Z ρ O e Φ
theorem EW.eb{k:Bool}(h:EW Z ρ O e k):EB Z ρ O e k:=fun Φ p=> (h Φ p).pt
theorem Sy{Φ:Jc}(h:WT Z ρ O a Φ):WW Z ρ O (.BoolOp .And [a] pos) Φ:=SN h
theorem QB{Φ:Jc}(h:WT Z ρ O a Φ):WW Z ρ O (.BoolOp .Or [a] pos) Φ:=VL h
theorem WN{Φ:Jc}(h:WT Z ρ O a fun k O1=>if k=true then WW Z ρ O1 (.BoolOp .And (b::es) pos) Φ else Φ false O1):WW Z ρ O (.BoolOp .And (a::b::es) pos) Φ:=
 PW.weak (VM h Yq) fun σ H Q q=> ⟨q.1,fun k H1 O1 p f=>by
  cases k with
  |true=>rw[if_pos rfl] at p ⊢;exact⟨O1,_,p,q.1.step f,q.2.step f⟩
  |false=>rw[if_neg b6] at p ⊢;exact q.2 _ H1 O1 p f⟩
theorem Uj{Φ:Jc}(h:WT Z ρ O a fun k O1=>if k=true then Φ true O1 else WW Z ρ O1 (.BoolOp .Or (b::es) pos) Φ):WW Z ρ O (.BoolOp .Or (a::b::es) pos) Φ:=
 PW.weak (Xw h Yq) fun σ H Q q=> ⟨q.1,fun k H1 O1 p f=>by
  cases k with
  |true=>rw[if_pos rfl] at p ⊢;exact q.2 _ H1 O1 p f
  |false=>rw[if_neg b6] at p ⊢;exact⟨O1,_,p,q.1.step f,q.2.step f⟩⟩
theorem Bt{k:Bool}(h:EB Z ρ O a k):EW Z ρ O (.BoolOp .And [a] pos) k:=fun Φ p=>Sy (h _ p)
theorem Cr{k:Bool}(h:EB Z ρ O a k):EW Z ρ O (.BoolOp .Or [a] pos) k:=fun Φ p=>QB (h _ p)
theorem DR{x y:Bool}(ha:EB Z ρ O a x)(hb:x=true→EW Z ρ O (.BoolOp .And (b::es) pos) y):EW Z ρ O (.BoolOp .And (a::b::es) pos) (x&&y):=fun Φ p=>WN (ha _ (by
 cases x with
 |true=>rw[if_pos rfl];exact hb rfl _ p
 |false=>rw[if_neg b6];exact p))
theorem BR{x y:Bool}(ha:EB Z ρ O a x)(hb:x=false→EW Z ρ O (.BoolOp .Or (b::es) pos) y):EW Z ρ O (.BoolOp .Or (a::b::es) pos) (x||y):=fun Φ p=>Uj (ha _ (by
 cases x with
 |true=>rw[if_pos rfl];exact p
 |false=>rw[if_neg b6];exact hb rfl _ p))
theorem Ik{op}(h:ET Z ρ O a t):ET Z ρ O (.BoolOp op [a] pos) t:=fun Φ p=>VO (h Φ p)
theorem Et{x y:Bool}(ha:ET Z ρ O a (.bl x))(hb:x=true→ET Z ρ O (.BoolOp .And (b::es) pos) (.bl y)):ET Z ρ O (.BoolOp .And (a::b::es) pos) (.bl (x&&y)):=fun Φ p=>
 by
 refine PE.weak (VP (Be (ρ:=ρ)) (Be (ρ:=ρ))) fun σ H Q q=>?_
 refine⟨O,_,ha (fun t O'=>t=.bl x∧O'=O) ⟨rfl,rfl⟩,q.1,?_⟩
 rintro v H1 _ _ ⟨rfl,rfl⟩ f r
 refine⟨x,r.bl_inv,?_⟩
 cases x with
 |true=>exact IR ⟨_,_,hb rfl _ p,q.1.step f,q.2.step f⟩
 |false=>exact Nx (q.2 _ H1 _ _ p f (.bl _))
theorem WO{x:Bool}(ha:ET Z ρ O a (.bl x)):ET Z ρ O (.UnaryOp .Not a pos) (.bl (!x)):=fun Φ p=>
 PE.weak (VQ Be) fun σ H Q q=> ⟨O,_,ha (fun t O'=>t=.bl x∧O'=O) ⟨rfl,rfl⟩,q.1,fun v H1 t O1 ⟨e1,e2⟩ f r=>by
  subst e1;subst e2
  exact⟨x,r.bl_inv,q.2 _ H1 _ _ p f (.bl _)⟩⟩
theorem Yu(h:WT Z ρ O c fun k O1=>if k=true then WE Z ρ O1 a Φ else WE Z ρ O1 b Φ):WE Z ρ O (.IfExp c a b pos) Φ:=
 PE.weak (Oq h Be Be) fun σ H Q q=> ⟨q.1,fun k H1 O1 p f=>by
  cases k with
  |true=>rw[if_pos rfl] at p ⊢;exact⟨O1,_,p,q.1.step f,q.2.step f⟩
  |false=>rw[if_neg b6] at p ⊢;exact⟨O1,_,p,q.1.step f,q.2.step f⟩⟩
theorem KM{x:Bool}(hc:EB Z ρ O c x)(ha:x=true→ET Z ρ O a ta)(hb:x=false→ET Z ρ O b tb):ET Z ρ O (.IfExp c a b pos) (if x=true then ta else tb):=fun Φ p=>Yu (hc _ (by
 cases x with
 |true=>rw[if_pos rfl] at p ⊢;exact ha rfl _ p
 |false=>rw[if_neg b6] at p ⊢;exact hb rfl _ p))
theorem Reps.atI{vs:List V}{H:Hp}(r:Reps K O H vs ts)(e:L2.atI ts i=some t):∃v,L2.atI vs i=some v∧Rep K O H v t:=by
 unfold L2.atI at e ⊢
 rw[r.length]
 cases hx:PH ts.length i with
 |none=>rw[hx] at e;cases e
 |some j=>rw[hx] at e;exact r.get e
theorem WQ(e:atI ts i=some t):RP K (YX K) (.tup ts) (.int i) O t:=fun Φ p H v w Q ok r1 r2 q=>by
 obtain⟨a,xs,rfl,h1,r1⟩:=r1.tup_inv
 obtain⟨x,ex,rx⟩:=r1.atI e
 exact⟨a,xs,i,x,rfl,r2.int_inv,.inl (.inl h1),ex,q _ H _ O p (.refl ok) rx⟩
theorem Le(e:atI ts i=some t):RP K (Vj K) (.lst ts) (.int i) O t:=fun Φ p H v w Q ok r1 r2 q=>by
 obtain⟨a,xs,rfl,h1,o1,r1⟩:=r1.lst_inv
 obtain⟨x,ex,rx⟩:=r1.atI e
 exact⟨a,xs,i,x,rfl,r2.int_inv,.inl (.inl h1),ex,q _ H _ O p (.refl ok) rx⟩
theorem WR{a:Addr}(ha:O a=some ts)(e:atI ts i=some t):RP K (Vj K) (.raw (.ref a)) (.int i) O t:=fun Φ p H v w Q ok r1 r2 q=>by
 cases r1.raw_inv
 obtain⟨xs,h1,r1⟩:=ok a ts ha
 obtain⟨x,ex,rx⟩:=r1.atI e
 exact⟨a,xs,i,x,rfl,r2.int_inv,.inl (.inl h1),ex,q _ H _ O p (.refl ok) rx⟩
theorem Ao(ha:ET Z ρ O a (.tup ts))(hb:ET Z ρ O b (.int i))(e:atI ts i=some t:=by rfl)(hs:DZ b:=by exact fun _ _=>rfl):ET Z ρ O (.Subscript a b pos) t:=Pu Vk hs (WQ e) ha hb
theorem Il(ha:ET Z ρ O a (.lst ts))(hb:ET Z ρ O b (.int i))(e:atI ts i=some t:=by rfl)(hs:DZ b:=by exact fun _ _=>rfl):ET Z ρ O (.Subscript a b pos) t:=Pu Dy hs (Le e) ha hb
theorem DS{p:Addr}(hp:O p=some ts)(ha:ET Z ρ O a (.raw (.ref p)))(hb:ET Z ρ O b (.int i))(e:atI ts i=some t:=by rfl)(hs:DZ b:=by exact fun _ _=>rfl):ET Z ρ O (.Subscript a b pos) t:=Pu Dy hs (WR hp e) ha hb
end
abbrev Bu:=List T→AI→BH→(Value→AI→Prop)→Prop
def Ce(K:a5)(s:Bu):Sp:=fun vs H Q E=>∃ts O Φ Ξ,Reps K O H vs ts∧OwnOk K O H∧s ts O Φ Ξ∧Acc K O H Φ Q∧∀cls O' H',Ξ cls O'→Frm K O H O' H'→E cls none H'
structure FnT(P:Program)(w:World)(K:a5)(mg:Str→Option Value)(base:Heap)(x:Str)(k:Nat)(ps:List Str)(s:Bu):Prop where
 ex:∃f fd,FnOk P w K mg base (CXe P w) k f fd ps (Ce K s)∧mg x=some (.ref f)∧gW K (.ref f)=true∧Binds K fd ps []
def KN(φ:List T→T→Prop):Bu:=fun ts O Φ _=>∃t,φ ts t∧Φ t O
section
variable{Z:Zx}{ρ:List (Option T)}{O:AI}{e a b c:Expr}{es:List Expr}{Φ Φ':BH}{pos p:Pos}{t ta tb:T}{ts:List T}{K:a5}{i j:Int}{x:Str}
theorem AO{k:Nat}{ps:List Str}{s:Bu}(G:FnT Z.X.prog Z.X.w Z.X.K Z.X.mg Z.X.base x k ps s)(hr:Room k Z.X.A)(xf:XFly Z.X Z.W)(h:WA Z ρ O (e::es) fun ts O1=>s ts O1 Φ Z.Xi)(hg:Gl Z.X x:=by rfl)
  (hdb:(x==("__debug__" :Str))=false:=by decide) (he:b4 (e::es) Z.X.env=(false,eval e Z.X.env)::b4 es Z.X.env:=by rfl) (hpl:(gI pos (b4 es Z.X.env)).any (·.1)=false:=by rfl):WE Z ρ O (.Call (.Name x p) (e::es) [] pos) Φ:=by
 obtain⟨f,fd,F,hm,hk,hb⟩:=G.ex
 refine PE.weak (Jr xf F hr hg hm hk hb (HD (ρ:=ρ)) hdb he hpl) fun σ H Q q=>?_
 exact⟨O,_,h,q.1,fun vs H1 ts O1 p f r=> ⟨ts,O1,Φ,Z.Xi,r,f.ok,p,q.2.step f,fun cls O' H' x f'=> ⟨rfl,O',x,(q.1.fr.trans f).trans f'⟩⟩⟩
theorem FT{k:Nat}{ps:List Str}{s:Bu}(G:FnT Z.X.prog Z.X.w Z.X.K Z.X.mg Z.X.base x k ps s)(hr:Room k Z.X.A)(xf:XFly Z.X Z.W)(h:EA Z ρ O (e::es) ts)(hs:∀Φ:BH,Φ t O→s ts O Φ Z.Xi)(hg:Gl Z.X x:=by rfl)
  (hdb:(x==("__debug__" :Str))=false:=by decide) (he:b4 (e::es) Z.X.env=(false,eval e Z.X.env)::b4 es Z.X.env:=by rfl) (hpl:(gI pos (b4 es Z.X.env)).any (·.1)=false:=by rfl):ET Z ρ O (.Call (.Name x p) (e::es) [] pos) t:=
 fun Φ p=>AO G hr xf (h _ (hs Φ p)) hg hdb he hpl
theorem Aa{k:Nat}{ps:List Str}{φ:List T→T→Prop}(G:FnT Z.X.prog Z.X.w Z.X.K Z.X.mg Z.X.base x k ps (KN φ))(hr:Room k Z.X.A)(xf:XFly Z.X Z.W)(h:EA Z ρ O (e::es) ts)(hs:φ ts t)(hg:Gl Z.X x:=by rfl)
  (hdb:(x==("__debug__" :Str))=false:=by decide) (he:b4 (e::es) Z.X.env=(false,eval e Z.X.env)::b4 es Z.X.env:=by rfl) (hpl:(gI pos (b4 es Z.X.env)).any (·.1)=false:=by rfl):ET Z ρ O (.Call (.Name x p) (e::es) [] pos) t:=
 FT G hr xf h (fun Φ p=> ⟨t,hs,p⟩) hg hdb he hpl
def CT(K:a5)(r:List V→Hp→VK→Prop)(ts:List T)(O:AI)(Φ:BH):Prop:=∀H vs Q,OwnOk K O H→Reps K O H vs ts→Acc K O H Φ Q→r vs H Q
def CP(K:a5)(r:List V→Hp→VK→Prop)(ts:List T)(O:AI)(t:T):Prop:=∀Φ:BH,Φ t O→CT K r ts O Φ
theorem GR{id:String}{r:List V→Hp→VK→Prop}(hc:Av Z.X (.builtin id) r)(hm:Z.X.mg x=none)(hv:eE x=some (.builtin id))(h:WA Z ρ O (e::es) fun ts O1=>CT Z.K r ts O1 Φ)(hg:Gl Z.X x:=by rfl)(hn:x≠"__name__":=by decide)(hdb:(x==("__debug__" :Str))=false:=by decide)
  (he:b4 (e::es) Z.X.env=(false,eval e Z.X.env)::b4 es Z.X.env:=by rfl) (hpl:(gI pos (b4 es Z.X.env)).any (·.1)=false:=by rfl):WE Z ρ O (.Call (.Name x p) (e::es) [] pos) Φ:=
 PE.weak (Fn hc hg hm hv (HD (ρ:=ρ)) hn hdb he hpl) fun σ H Q q=> ⟨O,_,h,q.1,fun vs H1 ts O1 p f r=>p H1 vs Q f.ok r (q.2.step f)⟩
theorem Dc{id:String}{r:List V→Hp→VK→Prop}(hc:Av Z.X (.type id) r)(hm:Z.X.mg x=none)(hv:eE x=some (.type id))(h:WA Z ρ O (e::es) fun ts O1=>CT Z.K r ts O1 Φ)(hg:Gl Z.X x:=by rfl)(hn:x≠"__name__":=by decide)(hdb:(x==("__debug__" :Str))=false:=by decide)
  (he:b4 (e::es) Z.X.env=(false,eval e Z.X.env)::b4 es Z.X.env:=by rfl) (hpl:(gI pos (b4 es Z.X.env)).any (·.1)=false:=by rfl):WE Z ρ O (.Call (.Name x p) (e::es) [] pos) Φ:=
 PE.weak (BI hc hg hm hv (HD (ρ:=ρ)) hn hdb he hpl) fun σ H Q q=> ⟨O,_,h,q.1,fun vs H1 ts O1 p f r=>p H1 vs Q f.ok r (q.2.step f)⟩
theorem BE{id:String}{r:List V→Hp→VK→Prop}(hc:Av Z.X (.builtin id) r)(hm:Z.X.mg x=none)(hv:eE x=some (.builtin id))(h:EA Z ρ O (e::es) ts)(hp:CP Z.K r ts O t)(hg:Gl Z.X x:=by rfl)(hn:x≠"__name__":=by decide)(hdb:(x==("__debug__" :Str))=false:=by decide)
  (he:b4 (e::es) Z.X.env=(false,eval e Z.X.env)::b4 es Z.X.env:=by rfl) (hpl:(gI pos (b4 es Z.X.env)).any (·.1)=false:=by rfl):ET Z ρ O (.Call (.Name x p) (e::es) [] pos) t:=fun Φ q=>GR hc hm hv (h _ (hp Φ q)) hg hn hdb he hpl
theorem Hk{id:String}{r:List V→Hp→VK→Prop}(hc:Av Z.X (.type id) r)(hm:Z.X.mg x=none)(hv:eE x=some (.type id))(h:EA Z ρ O (e::es) ts)(hp:CP Z.K r ts O t)(hg:Gl Z.X x:=by rfl)(hn:x≠"__name__":=by decide)(hdb:(x==("__debug__" :Str))=false:=by decide)
  (he:b4 (e::es) Z.X.env=(false,eval e Z.X.env)::b4 es Z.X.env:=by rfl) (hpl:(gI pos (b4 es Z.X.env)).any (·.1)=false:=by rfl):ET Z ρ O (.Call (.Name x p) (e::es) [] pos) t:=fun Φ q=>Dc hc hm hv (h _ (hp Φ q)) hg hn hdb he hpl
def MT(K:a5)(ty:String)(r:V→List V→Hp→VK→Prop)(t:T)(ts:List T)(O:AI)(Φ:BH):Prop:=∀H v vs Q,OwnOk K O H→Rep K O H v t→Reps K O H vs ts→Acc K O H Φ Q→r v vs H Q
def ba(K:a5)(ty:String)(O:AI)(t:T):Prop:=∀H v,OwnOk K O H→Rep K O H v t→ak K ty v H
theorem Uk{o:Expr}{name:Str}{apos cpos:Pos}{ty id:String}{r:V→List V→Hp→VK→Prop}(pa:PlainAttrs ty)(slot:Slot ty name id)(hty:typeOf (.builtin id)=pure (.type "method_descriptor"))(hm:bU Z.X id r)
  (h:WE Z ρ O o fun t O1=>ba Z.K ty O1 t∧WA Z ρ O1 (e::es) fun ts O2=>MT Z.K ty r t ts O2 Φ)
  (hbase:kH o name Z.X.env (eval o Z.X.env)=eval o Z.X.env:=by rfl)
  (hfew:((gI cpos (b4 (e::es) Z.X.env)).all (fun x=>!x.1)&&(mY cpos (lF [] Z.X.env)).all (fun x=>x.1.isSome)
   &&decide ((e::es).length+([]:List kB).length+(if([]:List kB).isEmpty then 0 else 1)<30))=true:=by rfl)
  (hline:(apos.endLine==cpos.line)=true:=by rfl) (hs:b4 (e::es) Z.X.env=(false,eval e Z.X.env)::b4 es Z.X.env:=by rfl) (hplain:(gI cpos (b4 es Z.X.env)).any (·.1)=false:=by rfl):WE Z ρ O (.Call (.Attribute o name apos) (e::es) [] cpos) Φ:=
 PE.weak (YZ pa slot hty hm (Be (ρ:=ρ)) (HD (ρ:=ρ)) hbase hfew hline hs hplain) fun σ H Q q=> ⟨O,_,h,q.1,fun v H1 t O1 ⟨ty,p⟩ f1 r1=> ⟨ty H1 v f1.ok r1,O1,_,p,q.1.step f1,fun vs H2 ts O2 p2 f2 r2=>
  p2 H2 v vs Q f2.ok (r1.kp f2.kp f1.ok) r2 (q.2.step (f1.trans f2))⟩⟩
theorem Mm{a:Addr}(ha:O a=some ts):ba K "list" O (.raw (.ref a)):=fun H v ok r=>by
 cases r.raw_inv
 obtain⟨xs,h,_⟩:=ok a ts ha
 exact .inl ⟨rfl,xs,.inl (.inl h)⟩
theorem Lf{a:Addr}{u:T}(ha:O a=some ts)(hl:ts.length<sizeLine)(p:Φ .non (Ac O a (ts++[u]))):MT K "list" MY (.raw (.ref a)) [u] O Φ:=fun H v vs Q ok r1 r2 q=>by
 cases r1.raw_inv
 obtain⟨w,rfl,r3⟩:=r2.one_inv
 obtain⟨xs,h,r⟩:=ok a ts ha
 exact⟨a,xs,w,rfl,rfl,h,by rw[r.length];exact hl,q _ _ _ _ p (.put ok ha (r.append (.one r3))) .non⟩
theorem CW{o:Expr}{apos cpos:Pos}(h:WE Z ρ O o fun t O1=>∃a,t=.raw (.ref a)∧(∃ts,O1 a=some ts)∧WE Z ρ O1 e fun u O2=>∃ts,O2 a=some ts∧ts.length<sizeLine∧Φ .non (Ac O2 a (ts++[u])))
  (hbase:kH o "append" Z.X.env (eval o Z.X.env)=eval o Z.X.env:=by rfl)
  (hfew:((gI cpos (b4 [e] Z.X.env)).all (fun x=>!x.1)&&(mY cpos (lF [] Z.X.env)).all (fun x=>x.1.isSome)
   &&decide ([e].length+([]:List kB).length+(if([]:List kB).isEmpty then 0 else 1)<30))=true:=by rfl)
  (hline:(apos.endLine==cpos.line)=true:=by rfl) (hs:b4 [e] Z.X.env=(false,eval e Z.X.env)::b4 [] Z.X.env:=by rfl) (hplain:(gI cpos (b4 [] Z.X.env)).any (·.1)=false:=by rfl):WE Z ρ O (.Call (.Attribute o "append" apos) [e] [] cpos) Φ:=by
 refine Uk PySem.F.plainAttrs_list PySem.F.slot_list_append PySem.F.type_list_append HQ (Da h ?_) hbase hfew hline hs hplain
 rintro t O1 ⟨a,rfl,⟨ts,hts⟩,w⟩
 refine⟨Mm hts,BW (Da w ?_) hs⟩
 rintro u O2 ⟨us,h1,h2,p⟩
 exact Ae (Lf h1 h2 p)
end
abbrev HE:=List (Option T)→AI→Prop
structure Es where
 nx:HE
 rt:BH
 bk:HE:=fun _ _=>False
 ct:HE:=fun _ _=>False
def AccN(Z:Zx)(O:AI)(H:Hp)(N:HE)(D:St→Hp→Prop):Prop:=∀ρ' O' σ' H',N ρ' O'→Asr Z ρ' O' σ' H'→Kp O H O' H'→D σ' H'
structure AccS(Z:Zx)(O:AI)(H:Hp)(Ψ:Es)(D:Ends):Prop where
 nx:AccN Z O H Ψ.nx D.nx
 rt:∀v H' t O',Ψ.rt t O'→Frm Z.K Z.Oe Z.He O' H'→Rep Z.K O' H' v t→D.rt v H'
 bk:AccN Z O H Ψ.bk D.bk
 ct:AccN Z O H Ψ.ct D.ct
def tS(Z:Zx)(ρ:List (Option T))(O:AI)(Ψ:Es):TS:=fun D σ H=>Asr Z ρ O σ H∧AccS Z O H Ψ D
def WS(Z:Zx)(ρ:List (Option T))(O:AI)(s:Stmt)(Ψ:Es):Prop:=PS Z.X s (tS Z ρ O Ψ)
def FU(Z:Zx)(ρ:List (Option T))(O:AI)(s:List Stmt)(Ψ:Es):Prop:=PSs Z.X s (tS Z ρ O Ψ)
def cM(Z:Zx)(ss:List Stmt):TS:=fun D σ H=>∃ρ O Ψ,FU Z ρ O ss Ψ∧tS Z ρ O Ψ D σ H
theorem KO{Z:Zx}{ss:List Stmt}:PSs Z.X ss (cM Z ss):=fun pins s σ H D I ⟨_,_,_,w,q⟩=>w pins s σ H D I q
section
variable{Z:Zx}{ρ:List (Option T)}{O O1:AI}{e a b c:Expr}{es:List Expr}{Ψ:Es}{pos p:Pos}{t ta tb:T}{ts:List T}{i j:Nat}{x:Str}{s:Stmt}{ss:List Stmt}{H H1:Hp}{D:Ends}
theorem AccN.step{N:HE}{D:St→Hp→Prop}(h:AccN Z O H N D)(k:Kp O H O1 H1):AccN Z O1 H1 N D:=fun ρ' O' σ' H' n a k'=>h ρ' O' σ' H' n a (k.trans k')
theorem AccS.step(h:AccS Z O H Ψ D)(k:Kp O H O1 H1):AccS Z O1 H1 Ψ D:=⟨h.nx.step k,h.rt,h.bk.step k,h.ct.step k⟩
theorem Ah(h:Ψ.nx ρ O):FU Z ρ O [] Ψ:=PSs.weak MN fun D σ H q=>q.2.nx ρ O σ H h q.1 .refl
theorem AD(h:WS Z ρ O s {Ψ with nx:=fun ρ' O'=>FU Z ρ' O' ss Ψ}):FU Z ρ O (s::ss) Ψ:=
 PSs.weak (Jf h KO) fun D σ H q=> ⟨q.1,fun ρ' O' σ' H' w a k=> ⟨ρ',O',Ψ,w,a,q.2.step k⟩,q.2.rt,q.2.bk,q.2.ct⟩
theorem AH(h:WS Z ρ O s Ψ):FU Z ρ O [s] Ψ:=PSs.weak (IL h) fun _ _ _ q=>q
theorem Mn{Ψ':Es}(h:WS Z ρ O s Ψ)(n:∀ρ' O',Ψ.nx ρ' O'→Ψ'.nx ρ' O')(r:∀t O',Ψ.rt t O'→Ψ'.rt t O')(bk:∀ρ' O',Ψ.bk ρ' O'→Ψ'.bk ρ' O')(ct:∀ρ' O',Ψ.ct ρ' O'→Ψ'.ct ρ' O'):WS Z ρ O s Ψ':=
 PS.weak h fun D σ H q=> ⟨q.1,fun ρ' O' σ' H' w=>q.2.nx ρ' O' σ' H' (n ρ' O' w),fun v H' t O' w=>q.2.rt v H' t O' (r t O' w),fun ρ' O' σ' H' w=>q.2.bk ρ' O' σ' H' (bk ρ' O' w),fun ρ' O' σ' H' w=>q.2.ct ρ' O' σ' H' (ct ρ' O' w)⟩
theorem DT{p:Addr}{n:Nat}(hp:O p=some ts)(he:Z.Oe p=none)(hn:ρ[n]?=some (some (.raw (.ref p))))(h:FU Z (ρ.set n (some (.lst ts))) (Bo O p) ss Ψ):FU Z ρ O ss Ψ:=PSs.weak h fun D σ H q=>by
 refine⟨⟨?_,⟨q.1.fr.kp.trans Bp,fun b us e=>?_,q.1.ok.drop⟩⟩,q.2.step Bp⟩
 ·have r1:=q.1.rl.kp (Bp (a:=p)) q.1.ok
  obtain⟨v,e1,e2⟩:=q.1.rl.2 n _ hn
  cases e2.raw_inv
  have r2:=r1.set (i:=n) (q.1.ok.rep hp)
  have:σ.set n (some (.ref p))=σ:=by
   apply fA
   intro m
   by_cases hm:m=n
   ·subst hm
    have hl:m<σ.length:=(dj.mp e1).1
    rw[eB hl,e1]
   ·rw[ef (Ne.symm hm)]
  rw[this] at r2
  exact r2
 ·obtain⟨us',e'⟩:=q.1.fr.own b us e
  have:b≠p:=fun z=>by rw[z,he] at e;cases e
  exact⟨us',by rw[DP this];exact e'⟩
theorem AM(h:WE Z ρ O e Ψ.rt):WS Z ρ O (.Return (some e) pos) Ψ:=PS.weak (IM h) fun D σ H q=> ⟨q.1,fun v H' t O' p f r=>q.2.rt v H' t O' p (q.1.fr.trans f) r⟩
theorem Ap(h:WE Z ρ O e fun _ O'=>Ψ.nx ρ O')(hs:jC e none pos.line Z.X.env=pure false:=by rfl):WS Z ρ O (.Expr e pos) Ψ:=
 PS.weak (SO h hs) fun D σ H q=> ⟨q.1,fun v H' t O' p f r=>q.2.nx ρ O' σ H' p (q.1.step f) f.kp⟩
theorem AS(i:Nat)(h:WE Z ρ O e fun t O'=>Ψ.nx (ρ.set i (some t)) O')(hN:Z.X.N.Nodup){pos':Pos}(hi:Z.X.N[i]?=some x:=by rfl)(hx:Oh Z.X.env.scope x:=by first|exact kg rfl|exact ke rfl)(hs:jC e (some (.Name x pos')) pos.line Z.X.env=pure false:=by rfl)
  (hf:Z.X.fn x=true∨Z.X.env.scope.names.lookup x=some .local:=by first|exact .inl rfl|exact .inr rfl):WS Z ρ O (.Assign [.Name x pos'] e pos) Ψ:=
 PS.weak (VV hN hi hx h hs hf) fun D σ H q=> ⟨q.1,fun v H' t O' p f r=>q.2.nx _ O' _ H' p ⟨(q.1.step f).rl.set r,(q.1.step f).fr⟩ f.kp⟩
theorem Lg{op:lM}{ti:YC}(i:Nat){pos':Pos}(ho:aB Z.X op ti)(hρ:ρ[i]?=some (some ta))(h:WE Z ρ O e fun tb O1=>RT Z.K ti ta tb O1 fun t O2=>Ψ.nx (ρ.set i (some t)) O2)(hN:Z.X.N.Nodup)(hi:Z.X.N[i]?=some x:=by rfl)(hx:Oh Z.X.env.scope x:=by first|exact kg rfl|exact ke rfl)
  (hf:Z.X.fn x=true∨Z.X.env.scope.names.lookup x=some .local:=by first|exact .inl rfl|exact .inr rfl):WS Z ρ O (.AugAssign (.Name x pos') op e pos) Ψ:=
 PS.weak (VX hN hi hx h ho hf) fun D σ H q=>by
  obtain⟨v,e1,r1⟩:=q.1.rl.2 i _ hρ
  exact⟨v,e1,q.1,fun w H1 tb O1 p f r=>p H1 v w _ f.ok (r1.kp f.kp q.1.ok) r fun z H2 t O2 p2 f2 r2=>q.2.nx _ O2 _ H2 p2 ⟨(q.1.step (f.trans f2)).rl.set r2,(q.1.step (f.trans f2)).fr⟩ (f.trans f2).kp⟩
theorem Mo{ea eb:List Stmt}(h:WT Z ρ O c fun k O1=>if k=true then FU Z ρ O1 ea Ψ else FU Z ρ O1 eb Ψ):WS Z ρ O (.If c ea eb pos) Ψ:=
 PS.weak (UZ h KO KO) fun D σ H q=> ⟨q.1,fun k H1 O1 p f=>by
  cases k with
  |true=>rw[if_pos rfl] at p ⊢;exact⟨ρ,O1,Ψ,p,q.1.step f,q.2.step f.kp⟩
  |false=>rw[if_neg b6] at p ⊢;exact⟨ρ,O1,Ψ,p,q.1.step f,q.2.step f.kp⟩⟩
theorem Af{ea eb:List Stmt}{k:Bool}(hc:EB Z ρ O c k)(h1:k=true→FU Z ρ O ea Ψ)(h2:k=false→FU Z ρ O eb Ψ):WS Z ρ O (.If c ea eb pos) Ψ:=Mo (hc _ (by
 cases k with
 |true=>rw[if_pos rfl];exact h1 rfl
 |false=>rw[if_neg b6];exact h2 rfl))
def tG(Z:Zx)(n:Nat)(ρ:List (Option T))(O:AI)(t:T)(ρ':List (Option T)):TG:=fun v σ H Q=>Asr Z ρ O σ H∧Rep Z.K O H v t∧∀σ',Asr Z ρ' O σ' H→(σ'.length=σ.length∧∀j,n≤j→σ'[j]?=σ[j]?)→Q σ' H
def WG(Z:Zx)(n:Nat)(ρ:List (Option T))(O:AI)(tg:Expr)(t:T)(ρ':List (Option T)):Prop:=PG Z.X tg (tG Z n ρ O t ρ')
theorem PG.weak{X:Cx}{e:Expr}{t t':TG}(h:PG X e t)(w:∀v σ H Q,t' v σ H Q→t v σ H Q):PG X e t':=fun pins s σ H v u Q I r q=>h pins s σ H v u Q I r (w v σ H Q q)
def cN(Z:Zx)(n:Nat)(tg:Expr):TG:=fun v σ H Q=>∃ρ O t ρ',WG Z n ρ O tg t ρ'∧tG Z n ρ O t ρ' v σ H Q
theorem Yv{n:Nat}{tg:Expr}:PG Z.X tg (cN Z n tg):=fun pins s σ H v u Q I r ⟨_,_,_,_,w,q⟩=>w pins s σ H v u Q I r q
theorem AU(i:Nat){n:Nat}(hN:Z.X.N.Nodup)(hn:i<n)(hi:Z.X.N[i]?=some x:=by rfl)(hx:Oh Z.X.env.scope x:=by first|exact kg rfl|exact ke rfl)
  (hf:Z.X.fn x=true∨Z.X.env.scope.names.lookup x=some .local:=by first|exact .inl rfl|exact .inr rfl):WG Z n ρ O (.Name x pos) t (ρ.set i (some t)):=
 PG.weak (IP hN hi hx hf) fun v σ H Q q=>q.2.2 _ ⟨q.1.rl.set q.2.1,q.1.fr⟩ ⟨by simp,fun j hj=>by rw[ef (by omega)]⟩
theorem Cs(i j:Nat){n:Nat}{y:Str}{p1 p2:Pos}{k:Nat}(hc:Z.X.calm=true)(hN:Z.X.N.Nodup)(hni:i<n)(hnj:j<n)(hi:Z.X.N[i]?=some x:=by rfl)(hj:Z.X.N[j]?=some y:=by rfl)(hx:Oh Z.X.env.scope x:=by first|exact kg rfl|exact ke rfl)(hy:Oh Z.X.env.scope y:=by first|exact kg rfl|exact ke rfl)
  (hf:Z.X.fn x=true∨Z.X.env.scope.names.lookup x=some .local:=by first|exact .inl rfl|exact .inr rfl) (hf2:Z.X.fn y=true∨Z.X.env.scope.names.lookup y=some .local:=by first|exact .inl rfl|exact .inr rfl)
  (hs:(gD [.Name x p1,.Name y p2] Z.X.env).map (·.2)=assign (.Name x p1) Z.X.env::(gD [.Name y p2] Z.X.env).map (·.2):=by rfl) (hs2:(gD [.Name y p2] Z.X.env).map (·.2)=assign (.Name y p2) Z.X.env::(gD [] Z.X.env).map (·.2):=by rfl)
  (hl:(gD [.Name x p1,.Name y p2] Z.X.env).length=2:=by rfl) (hst:(gD [.Name x p1,.Name y p2] Z.X.env).findIdx? (·.1)=none:=by rfl):
  WG Z n ρ O (.Tuple [.Name x p1,.Name y p2] k pos) (.tup [ta,tb]) ((ρ.set i (some ta)).set j (some tb)):=
 PG.weak (VT hc (Jg (IP hN hi hx hf) (Jg (IP hN hj hy hf2) SQ hs2) hs) hl hst) fun v σ H Q q=>by
  obtain⟨q1,q2,q3⟩:=q
  obtain⟨a,xs,rfl,h1,r⟩:=q2.tup_inv
  obtain⟨v,w,rfl,r1,r2⟩:=r.two_inv
  exact⟨a,_,rfl,.inl (.inl h1),rfl,v,_,rfl,w,_,rfl,rfl,q3 _ ⟨(q1.rl.set r1).set r2,q1.fr⟩ ⟨by simp,fun m hm=>by rw[ef (by omega),ef (by omega)]⟩⟩
theorem WU{n:Nat}{tg:Expr}(h:WE Z ρ O e fun t O'=>∃ρ',WG Z n ρ O' tg t ρ'∧Ψ.nx ρ' O')(hs:jH [tg] e pos.line Z.X.env=pure false:=by rfl)(hw:jI [tg] e Z.X.env=pure none:=by rfl)
  (h1:(gD [tg] Z.X.env).map (·.2)=[assign tg Z.X.env]:=by rfl):WS Z ρ O (.Assign [tg] e pos) Ψ:=
 PS.weak (Os h (Yv (n:=n)) hs hw h1) fun D σ H q=> ⟨q.1,fun v H' t O' ⟨ρ',wg,p⟩ f r=> ⟨ρ,O',t,ρ',wg,q.1.step f,r,fun σ' a _=>q.2.nx _ O' _ H' p a f.kp⟩⟩
theorem GS{o ix:Expr}{px:Pos}(h:WE Z ρ O e fun t O1=>WE Z ρ O1 o fun u O2=>∃a,u=.raw (.ref a)∧WE Z ρ O2 ix fun w O3=>∃ts k m,w=.int k∧O3 a=some ts∧PH ts.length k=some m∧Ψ.nx ρ (Ac O3 a (ts.set m t)))
  (ha:∀v,assign (.Subscript o ix px) Z.X.env v=(do
   let ov←holding [v] (eval o Z.X.env)
   let iv←holding [v,ov] (eval ix Z.X.env)
   standAt px
   holding [v,ov,iv] (setItem ov iv v)
   release [v,ov,iv] []):=by intro _;rfl)
  (hs:jH [.Subscript o ix px] e pos.line Z.X.env=pure false:=by rfl) (hw:jI [.Subscript o ix px] e Z.X.env=pure none:=by rfl)
  (h1:(gD [.Subscript o ix px] Z.X.env).map (·.2)=[assign (.Subscript o ix px) Z.X.env]:=by rfl):WS Z ρ O (.Assign [.Subscript o ix px] e pos) Ψ:=by
 refine PS.weak (Os h (VU (Be (ρ:=ρ)) (Be (ρ:=ρ)) PJ ha) hs hw h1) fun D σ H q=> ⟨q.1,fun v H1 t O1 p1 f1 r1=>?_⟩
 refine⟨O1,_,p1,q.1.step f1,?_⟩
 rintro vo H2 _ O2 ⟨a,rfl,p2⟩ f2 r2
 refine⟨O2,_,p2,q.1.step (f1.trans f2),?_⟩
 rintro vi H3 _ O3 ⟨ts,k,m,rfl,ho,hm,p3⟩ f3 r3
 cases r2.raw_inv
 obtain⟨xs,hx,rx⟩:=f3.ok a ts ho
 have r1':=(r1.kp f2.kp f1.ok).kp f3.kp f2.ok
 have f:=f1.trans (f2.trans (f3.trans (Frm.put f3.ok ho (rx.set r1' m))))
 exact⟨a,xs,k,m,rfl,r3.int_inv,hx,by rw[rx.length];exact hm,q.2.nx ρ _ σ _ p3 (q.1.step f) f.kp⟩
def OL(K:a5)(J:It)(O:AI)(H:Hp)(ts:List T):Prop:=∀O' H',Kp O H O' H'→OwnOk K O' H'→
 (∀i,i<ts.length→J.go i H')∧(∀i x H'',J.yld i H' x H''→∀t,ts[i]?=some t→Frm K O' H' O' H''∧Rep K O' H'' x t)∧∀i,ts.length≤i→J.stop i H'
def WI(Z:Zx)(ρ:List (Option T))(O:AI)(tg iter:Expr)(Φ:Lc):Prop:=PI Z.X tg iter fun σ H R=>Asr Z ρ O σ H∧∀J H' ts O',Φ ts O'→Frm Z.K O H O' H'→OL Z.K J O' H' ts→R J H'
theorem PI.weak{X:Cx}{tg e:Expr}{t t':TI}(h:PI X tg e t)(w:∀σ H R,t' σ H R→t σ H R):PI X tg e t':=fun pins s σ H R I q=>h pins s σ H R I (w σ H R q)
theorem OM{K:a5}{a:Addr}{xs:List V}(ok:OwnOk K O H)(h:H a=some (.lst xs))(n:O a=none)(r:Reps K O H xs ts):OL K (aW K a) O H ts:=fun O' H' k ok'=>by
 have h':=(k.lst h n).1
 have r':=r.kp k ok
 refine⟨fun i hi=>?_,fun i x H'' y t e=>?_,fun i hi=> ⟨xs,.inl (.inl h'),by rw[r.length];exact hi⟩⟩
 ·obtain⟨v,e,_⟩:=r'.get (i:=i) (t:=ts[i]) (by simp[hi])
  exact⟨xs,v,.inl (.inl h'),e⟩
 ·obtain⟨rfl,y⟩:=y
  obtain⟨v,e',q⟩:=r'.get e
  have:=y xs (.inl (.inl h'))
  rw[e'] at this;cases this
  exact⟨.refl ok',q⟩
theorem QC{K:a5}{a:Addr}{xs:List V}(ok:OwnOk K O H)(h:H a=some (.tup xs))(r:Reps K O H xs ts):OL K (aX K a) O H ts:=fun O' H' k ok'=>by
 have h':IJ K H' a xs:=.inl (.inl (k.oth ok h fun _ z=>by cases z))
 have r':=r.kp k ok
 refine⟨fun i hi=>?_,fun i x H'' y t e=>?_,fun i hi=> ⟨xs,h',by rw[r.length];exact hi⟩⟩
 ·obtain⟨v,e,_⟩:=r'.get (i:=i) (t:=ts[i]) (by simp[hi])
  exact⟨xs,v,h',e⟩
 ·obtain⟨rfl,y⟩:=y
  obtain⟨v,e',q⟩:=r'.get e
  have:=y xs h'
  rw[e'] at this;cases this
  exact⟨.refl ok',q⟩
def GT(lo:Int)(n:Nat):List T:=(dv n).map fun(i:Nat)=>T.int (lo+i)
theorem Ay{lo:Int}{n:Nat}:(GT lo n).length=n:=by simp[GT]
theorem BN{lo:Int}{n i:Nat}(h:(GT lo n)[i]?=some t):i<n∧t=.int (lo+i):=by
 unfold GT at h
 rw[b8] at h
 by_cases hi:i<n
 ·rw[iE hi] at h
  cases h
  exact⟨hi,rfl⟩
 ·rw[fo (by simpa using hi)] at h
  cases h
theorem KP{K:a5}{lo:Int}{n:Nat}:OL K (YF lo n) O H (GT lo n):=fun O' H' k ok'=>by
 refine⟨fun i hi=>by rwa[Ay] at hi,fun i x H'' y t e=>?_,fun i hi=>by rwa[Ay] at hi⟩
 obtain⟨rfl,rfl⟩:=y
 obtain⟨_,rfl⟩:=BN e
 exact⟨.refl ok',.int _⟩
theorem Mp{tg:Expr}{Φ:Lc}(h:WE Z ρ O e fun t O'=>∃ts,t=.lst ts∧Φ ts O'):WI Z ρ O tg e Φ:=PI.weak (SR h) fun σ H R q=> ⟨q.1,by
 rintro v H' _ O' ⟨ts,rfl,p⟩ f r
 obtain⟨a,xs,rfl,h1,n,r⟩:=r.lst_inv
 exact⟨a,rfl,⟨xs,.inl (.inl h1)⟩,q.2 _ H' ts O' p f (OM f.ok h1 n r)⟩⟩
theorem WV{tg:Expr}{Φ:Lc}(h:WE Z ρ O e fun t O'=>∃ts,t=.tup ts∧Φ ts O'):WI Z ρ O tg e Φ:=PI.weak (VZ h) fun σ H R q=> ⟨q.1,by
 rintro v H' _ O' ⟨ts,rfl,p⟩ f r
 obtain⟨a,xs,rfl,h1,r⟩:=r.tup_inv
 exact⟨a,rfl,⟨xs,.inl (.inl h1)⟩,q.2 _ H' ts O' p f (QC f.ok h1 r)⟩⟩
theorem ON{tg:Expr}{Φ:Lc}(hm:Z.X.mg "range" =none)(h:WA Z ρ O [a] fun ts O'=>∃j:Int,ts=[.int j]∧-(2^62)≤j∧j<2^62∧Φ (GT 0 j.toNat) O')(hg:Gl Z.X "range":=by rfl)(hs:b4 [a] Z.X.env=[(false,eval a Z.X.env)]:=by rfl):WI Z ρ O tg (.Call (.Name "range" p) [a] [] pos) Φ:=
 PI.weak (Ni hg hm h hs) fun σ H R q=> ⟨q.1,by
  rintro vs H' _ O' ⟨j,rfl,h1,h2,p⟩ f r
  obtain⟨v,rfl,r'⟩:=r.one_inv
  exact⟨j,by rw[r'.int_inv],h1,h2,q.2 _ H' _ O' p f KP⟩⟩
theorem OO{tg:Expr}{Φ:Lc}(hm:Z.X.mg "range" =none)(h:WA Z ρ O [a,b] fun ts O'=>∃i j:Int,ts=[.int i,.int j]∧(-(2^62)≤i∧i<2^62∧-(2^62)≤j∧j<2^62)∧Φ (GT i (j-i).toNat) O')(hg:Gl Z.X "range":=by rfl)(hs:b4 [a,b] Z.X.env=[(false,eval a Z.X.env),(false,eval b Z.X.env)]:=by rfl)(hs2:b4 [b] Z.X.env=[(false,eval b Z.X.env)]:=by rfl):WI Z ρ O tg (.Call (.Name "range" p) [a,b] [] pos) Φ:=
 PI.weak (Nj hg hm h hs hs2) fun σ H R q=> ⟨q.1,by
  rintro vs H' _ O' ⟨i,j,rfl,h1,p⟩ f r
  obtain⟨v,w,rfl,r1,r2⟩:=r.two_inv
  exact⟨i,j,by rw[r1.int_inv,r2.int_inv],h1,q.2 _ H' _ O' p f KP⟩⟩
def EI(Z:Zx)(ρ:List (Option T))(O:AI)(tg iter:Expr)(ts:List T):Prop:=∀Φ:Lc,Φ ts O→WI Z ρ O tg iter Φ
theorem BG{tg:Expr}(h:ET Z ρ O e (.lst ts)):EI Z ρ O tg e ts:=fun Φ p=>Mp (h _ ⟨ts,rfl,p⟩)
theorem GU{tg:Expr}(h:ET Z ρ O e (.tup ts)):EI Z ρ O tg e ts:=fun Φ p=>WV (h _ ⟨ts,rfl,p⟩)
theorem Am{tg:Expr}{k:Int}(hm:Z.X.mg "range" =none)(h:ET Z ρ O a (.int k))(h1: -(2^62)≤k∧k<2^62)(hg:Gl Z.X "range":=by rfl)(hs:b4 [a] Z.X.env=[(false,eval a Z.X.env)]:=by rfl):EI Z ρ O tg (.Call (.Name "range" p) [a] [] pos) (GT 0 k.toNat):=fun Φ q=>ON hm (AJ h AC hs _ ⟨k,rfl,h1.1,h1.2,q⟩) hg hs
theorem Dd{tg:Expr}{k l:Int}(hm:Z.X.mg "range" =none)(h:ET Z ρ O a (.int k))(h2:ET Z ρ O b (.int l))(h1: -(2^62)≤k∧k<2^62∧-(2^62)≤l∧l<2^62)(hg:Gl Z.X "range":=by rfl)(hs:b4 [a,b] Z.X.env=[(false,eval a Z.X.env),(false,eval b Z.X.env)]:=by rfl)(hs2:b4 [b] Z.X.env=[(false,eval b Z.X.env)]:=by rfl):EI Z ρ O tg (.Call (.Name "range" p) [a,b] [] pos) (GT k (l-k).toNat):=
 fun Φ q=>OO hm (AJ h (AJ h2 AC hs2) (by rw[hs,hs2]) _ ⟨k,l,rfl,h1,q⟩) hg hs hs2
theorem CJ{tg iter:Expr}{body:List Stmt}(hp:j5 (model Z.X.prog Z.X.w) Z.X.A Z.X.env Z.X.xe)(hc:Z.X.calm=true)
  (h:WI Z ρ O tg iter fun ts O1=>∃I:Nat→HE,I 0 ρ O1∧(∀i t ρ' O',ts[i]?=some t→I i ρ' O'→∃ρ2,WG Z Z.X.N.length ρ' O' tg t ρ2∧FU Z ρ2 O' body {nx:=I (i+1),rt:=Ψ.rt,bk:=Ψ.nx,ct:=I (i+1)})∧∀ρ' O',I ts.length ρ' O'→Ψ.nx ρ' O')
  (hs:∀x,fL iter Z.X.env x=pure x:=by intro _;rfl):WS Z ρ O (.For tg iter body [] pos) Ψ:=by
 refine PS.weak (Va hp hc h (Yv (n:=Z.X.N.length)) KO hs) fun D σ H q=> ⟨q.1,?_⟩
 rintro J H1 ts O1 ⟨I,i0,step,fin⟩ f1 it
 refine⟨fun i m σ' H'=>m=ts.length-i∧i≤ts.length∧∃ρ' O',I i ρ' O'∧Asr Z ρ' O' σ' H'∧Kp O1 H1 O' H',⟨ts.length,by simp,fj _,ρ,O1,i0,q.1.step f1,.refl⟩,?_⟩
 rintro i m σ2 H2 ⟨rfl,hi,ρ2,O2,i2,a2,k2⟩
 obtain⟨g1,g2,g3⟩:=it O2 H2 k2 a2.ok
 by_cases hlt:i<ts.length
 ·refine .inr ⟨g1 i hlt,fun σ' H'=>∃ρ' O',I (i+1) ρ' O'∧Asr Z ρ' O' σ' H'∧Kp O1 H1 O' H',fun σ' H' w=> ⟨_,by omega,rfl,by omega,w⟩,fun x H3 y=>?_⟩
  obtain⟨f3,r3⟩:=g2 i x H3 y ts[i] (by simp[hlt])
  obtain⟨ρ3,wg,wb⟩:=step i ts[i] ρ2 O2 (by simp[hlt]) i2
  refine⟨ρ2,O2,_,ρ3,wg,a2.step f3,r3,fun σ3 a3 _=> ⟨ρ3,O2,_,wb,a3,?_⟩⟩
  have kk:=(k2.trans f3.kp)
  exact⟨fun ρ' O' σ' H' w a k=> ⟨ρ',O',w,a,kk.trans k⟩,q.2.rt,fun ρ' O' σ' H' w a k=>q.2.nx ρ' O' σ' H' w a (f1.kp.trans (kk.trans k)),fun ρ' O' σ' H' w a k=> ⟨ρ',O',w,a,kk.trans k⟩⟩
 ·have:i=ts.length:=by omega
  subst this
  exact .inl ⟨g3 _ (de _),q.2.nx ρ2 O2 σ2 H2 (fin ρ2 O2 i2) a2 (f1.kp.trans k2)⟩
end
def zc(X:Cx)(Oe:AI)(He:Hp):Zx:=⟨X,Oe,He,fun _ _=>False⟩
def HF(nc:List Str)(ρ:List (Option T))(cap:List (Str×Nat)):List (Option T):=fu nc.length none++cap.map fun q=> (ρ[q.2]?).join
def aF(Z:Zx)(ρ:List (Option T))(O:AI)(ifs:List Expr)(Φ:Jc):Prop:=Vr Z.X ifs (Xr Z ρ O Φ)
theorem BJ{O:AI}{p:Addr}{ts:List T}(h:O p=none):Bo (Ac O p ts) p=O:=by
 funext b
 by_cases hb:b=p
 ·rw[hb,Co,h]
 ·rw[DP hb,AN hb]
theorem BO{O:AI}{p a:Addr}{ts us:List T}(h:a≠p):Ac (Ac O p ts) a us=Ac (Ac O a us) p ts:=by
 funext b
 unfold Ac
 by_cases h1:b=a
 ·subst h1;rw[if_pos rfl,if_neg h,if_pos rfl]
 ·rw[if_neg h1,if_neg h1]
section
variable{Z:Zx}{ρ:List (Option T)}{O:AI}{elt tg iter:Expr}{ifs:List Expr}{csc:Scope}{nc:List Str}{cap:List (Str×Nat)}{Φ:BH}{pos:Pos}
theorem EH{Φ:Jc}(h:Φ true O):aF Z ρ O [] Φ:=fun pins s σ H Q I q=>Sg pins s σ H Q I (q.2 true H O h q.1.refl)
theorem FV{Φ:Jc}{c:Expr}(h:WT Z ρ O c Φ):aF Z ρ O [c] Φ:=Sh h
theorem Yw{K:a5}{H:Hp}{σ:St}(r:Rl K O H σ ρ):Rl K O H (HC nc σ cap) (HF nc ρ cap):=by
 refine⟨by simp[Bn,HF],fun i t e=>?_⟩
 unfold HF at e
 have hi:nc.length≤i:=by
  by_cases hi:i<nc.length
  ·rw[dZ (by simpa using hi),gm] at e
   split at e<;>cases e
  ·omega
 rw[dI (by simpa using hi),b8] at e
 simp only[gC] at e
 cases hc:cap[i-nc.length]? with
 |none=>rw[hc] at e;cases e
 |some q=>
  rw[hc] at e
  have e:(ρ[q.2]?).join=some t:=eu.inj e
  have e':ρ[q.2]?=some (some t):=by
   cases h:ρ[q.2]? with
   |none=>rw[h] at e;cases e
   |some w=>rw[h] at e;exact congrArg some e
  obtain⟨v,h1,h2⟩:=r.2 q.2 t e'
  refine⟨v,?_,h2⟩
  show(fu nc.length (none:Option V)++Bn σ cap)[i]?=some (some v)
  rw[dI (by simpa using hi)]
  simp only[gC]
  unfold Bn
  rw[b8,hc]
  show some (σ[q.2]?).join=_
  rw[h1]
  rfl
theorem Im{X X':Cx}{Oe:AI}{He:Hp}{Xi Xi':Value→AI→Prop}{σ:St}{H:Hp}(hK:X'.K=X.K)(a:Asr ⟨X,Oe,He,Xi⟩ ρ O σ H):Asr ⟨X',Oe,He,Xi'⟩ ρ O σ H:=by
 obtain⟨r,f⟩:=a
 refine⟨?_,?_⟩
 ·show Rl X'.K O H σ ρ
  rw[hK];exact r
 ·show Frm X'.K Oe He O H
  rw[hK];exact f
def gA(Z:Zx)(csc:Scope)(nc:List Str)(cap:List (Str×Nat))(tg:Expr):TG:=fun v σ H Q=>∃Oe He ρ O t ρ',(∀X',LcCx Z.X csc (Ag nc cap) X'→WG (zc X' Oe He) nc.length ρ O tg t ρ')∧tG (zc Z.X Oe He) nc.length ρ O t ρ' v σ H Q
def ax(Z:Zx)(csc:Scope)(nc:List Str)(cap:List (Str×Nat))(ifs:List Expr):TT:=fun σ H Q=>∃Oe He ρ O Φ,(∀X',LcCx Z.X csc (Ag nc cap) X'→aF (zc X' Oe He) ρ O ifs Φ)∧Xr (zc Z.X Oe He) ρ O Φ σ H Q
def eA(Z:Zx)(csc:Scope)(nc:List Str)(cap:List (Str×Nat))(e:Expr):TE:=fun σ H Q=>∃Oe He ρ O Φ,(∀X',LcCx Z.X csc (Ag nc cap) X'→WE (zc X' Oe He) ρ O e Φ)∧tW (zc Z.X Oe He) ρ O Φ σ H Q
theorem WX{X X':Cx}{N':List Str}(h:LcCx X csc N' X'):X'.K=X.K:=by
 obtain⟨_,_,_,_,rfl⟩:=h
 rfl
theorem WY:∀X',LcCx Z.X csc (Ag nc cap) X'→PG X' tg (gA Z csc nc cap tg):=by
 rintro X' is pins s σ H v u Q I r ⟨Oe,He,ρ,O,t,ρ',w,a,rp,k⟩
 refine w X' is pins s σ H v u Q I r ⟨Im (WX is) a,?_,fun σ' a' h=>k σ' (Im (WX is).symm a') h⟩
 show Rep X'.K O H v t
 rw[WX is];exact rp
theorem QD:∀X',LcCx Z.X csc (Ag nc cap) X'→Vr X' ifs (ax Z csc nc cap ifs):=by
 rintro X' is pins s σ H Q I ⟨Oe,He,ρ,O,Φ,w,a,k⟩
 refine w X' is pins s σ H Q I ⟨Im (WX is) a,?_⟩
 intro b H' O' p f
 refine k b H' O' p ?_
 have f:Frm X'.K O H O' H':=f
 rw[WX is] at f;exact f
theorem WZ:∀X',LcCx Z.X csc (Ag nc cap) X'→PE X' elt (eA Z csc nc cap elt):=by
 rintro X' is pins s σ H Q I ⟨Oe,He,ρ,O,Φ,w,a,k⟩
 refine w X' is pins s σ H Q I ⟨Im (WX is) a,?_⟩
 intro v H' t O' p f r
 have f:Frm X'.K O H O' H':=f
 have r:Rep X'.K O' H' v t:=r
 rw[WX is] at f r
 exact k v H' t O' p f r
def Sz(Z:Zx)(ρ:List (Option T))(elt tg:Expr)(ifs:List Expr)(csc:Scope)(nc:List Str)(cap:List (Str×Nat))(F:List T→AI→Prop)(ts:List T)(O1:AI):Prop:=
 ∃I:Nat→List T→AI→Prop,I 0 [] O1∧(∀i t acc O' p,ts[i]?=some t→I i acc O'→O' p=none→∃ρ4,∀X' Oe He,LcCx Z.X csc (Ag nc cap) X'→WG (zc X' Oe He) nc.length (HF nc ρ cap) (Ac O' p acc) tg t ρ4∧
   aF (zc X' Oe He) ρ4 (Ac O' p acc) ifs fun b O2=>if b=true then∀X' Oe He,LcCx Z.X csc (Ag nc cap) X'→WE (zc X' Oe He) ρ4 O2 elt fun y O3=>∃O4,O3=Ac O4 p acc∧O4 p=none∧acc.length<sizeLine∧I (i+1) (acc++[y]) O4
    else∃O4,O2=Ac O4 p acc∧O4 p=none∧I (i+1) acc O4)∧∀acc O',I ts.length acc O'→F acc O'
theorem QE{F:List T→AI→Prop}{σ:St}{H:Hp}{Q:VK}(a:Asr Z ρ O σ H)(h:WI Z ρ O tg iter (Sz Z ρ elt tg ifs csc nc cap F))
  (fin:∀acc O' p H',F acc O'→O' p=none→Frm Z.K O H (Ac O' p acc) H'→(∀b us,O b=some us→b≠p)→Q (.ref p) H'):
  aD (fun σ H R=>Asr Z ρ O σ H∧∀J H' ts O',Sz Z ρ elt tg ifs csc nc cap F ts O'→Frm Z.K O H O' H'→OL Z.K J O' H' ts→R J H') nc cap (gA Z csc nc cap tg) (ax Z csc nc cap ifs) (eA Z csc nc cap elt) σ H Q:=by
 refine⟨a,?_⟩
 rintro J H1 ts O1 ⟨I,i0,step,done⟩ f1 it p hp
 have np:O1 p=none:=f1.ok.none_of hp
 have nb:∀b us,O1 b=some us→b≠p:=fun b us e z=>by rw[z,np] at e;cases e
 have fn:=Frm.newO (ts:=[]) (xs:=[]) f1.ok hp .nil
 refine⟨fun i m H2=>m=ts.length-i∧i≤ts.length∧∃acc O',I i acc O'∧O' p=none∧Frm Z.K O1 H1 (Ac O' p acc) H2,⟨ts.length,by simp,fj _,[],O1,i0,np,fn⟩,?_⟩
 rintro i m H2 ⟨rfl,hi,acc,O2,i2,n2,f2⟩
 obtain⟨g1,g2,g3⟩:=it _ H2 f2.kp f2.ok
 by_cases hlt:i<ts.length
 ·refine .inr ⟨g1 i hlt,fun H'=>∃acc O',I (i+1) acc O'∧O' p=none∧Frm Z.K O1 H1 (Ac O' p acc) H',fun H' w=> ⟨_,by omega,rfl,by omega,w⟩,fun x H3 y=>?_⟩
  obtain⟨f3,r3⟩:=g2 i x H3 y ts[i] (by simp[hlt])
  obtain⟨ρ4,st⟩:=step i ts[i] acc O2 p (by simp[hlt]) i2 n2
  have a3:Asr (zc Z.X (Ac O2 p acc) H3) (HF nc ρ cap) (Ac O2 p acc) (HC nc σ cap) H3:=⟨Yw ((a.rl.kp f1.kp a.ok).kp (f2.kp.trans f3.kp) f1.ok),.refl f3.ok⟩
  refine⟨Ac O2 p acc,H3,HF nc ρ cap,Ac O2 p acc,ts[i],ρ4,fun X' is=> (st X' _ _ is).1,a3,r3,fun σ4 a4 hag=> ⟨?_,?_⟩⟩
  ·refine⟨σ4.take nc.length,?_,?_⟩
   ·rw[eU,hag.1]
    simp
   ·have e1:σ4.drop nc.length=Bn σ cap:=by
     apply fA
     intro m
     rw[gh,hag.2 _ (by omega)]
     show(fu nc.length (none:Option V)++Bn σ cap)[nc.length+m]?=_
     rw[dI (by simp)]
     simp
    rw[←e1,fY]
  ·refine⟨Ac O2 p acc,H3,ρ4,Ac O2 p acc,_,fun X' is=> (st X' _ _ is).2,a4,?_⟩
   intro b H5 O5 q5 f5
   cases b with
   |false=>
    rw[if_neg b6] at q5 ⊢
    obtain⟨O4,rfl,n4,i4⟩:=q5
    exact⟨acc,O4,i4,n4,f2.trans (f3.trans f5)⟩
   |true=>
    rw[if_pos rfl] at q5 ⊢
    refine⟨Ac O2 p acc,H3,ρ4,O5,_,fun X' is=>q5 X' _ _ is,a4.step f5,?_⟩
    rintro y H6 t6 O6 ⟨O4,rfl,n4,hlen,i4⟩ f6 r6
    obtain⟨ys,hys,rys⟩:=f6.ok p acc AG
    refine⟨ys,hys,by rw[rys.length];exact hlen,acc++[t6],O4,i4,n4,?_⟩
    have fp:=Frm.put (a:=p) f6.ok AG (rys.append (.one r6))
    rw[BA] at fp
    exact f2.trans (f3.trans (f5.trans (f6.trans fp)))
 ·have:i=ts.length:=by omega
  subst this
  refine .inl ⟨g3 _ (de _),fin acc O2 p H2 (done acc O2 i2) n2 (f1.trans f2) fun b us e=>?_⟩
  obtain⟨us',e'⟩:=f1.own b us e
  exact nb b us' e'
theorem Ul{σ:St}{H:Hp}{Q:VK}(h:WI Z ρ O tg iter (Sz Z ρ elt tg ifs csc nc cap fun acc O'=>Φ (.lst acc) O'))(q:tW Z ρ O Φ σ H Q):
  aD (fun σ H R=>Asr Z ρ O σ H∧∀J H' ts O',Sz Z ρ elt tg ifs csc nc cap (fun acc O'=>Φ (.lst acc) O') ts O'→Frm Z.K O H O' H'→OL Z.K J O' H' ts→R J H') nc cap (gA Z csc nc cap tg) (ax Z csc nc cap ifs) (eA Z csc nc cap elt) σ H Q:=by
 refine QE q.1 h fun acc O' p H' p1 n f nb=>q.2 _ H' _ O' p1 ?_ ?_
 ·have e:=BJ (ts:=acc) n
  refine⟨fun b o e1 e2=>?_,fun b us e1=>?_,?_⟩
  ·have:=f.kp.trans (Bp (a:=p)) b o e1 e2
   rw[e] at this;exact this
  ·obtain⟨us',e2⟩:=f.own b us e1
   rw[AN (nb b us e1)] at e2
   exact⟨us',e2⟩
  ·have:=f.ok.drop (a:=p)
   rw[e] at this;exact this
 ·have:=f.ok.rep (a:=p) AG
  rw[BJ n] at this
  exact this
theorem Hl(hc:Z.X.calm=true)(ok:LcOk Z.X csc nc cap)(h:WI Z ρ O tg iter (Sz Z ρ elt tg ifs csc nc cap fun acc O'=>Φ (.lst acc) O'))
  (hs:∀x,fL iter Z.X.env x=pure x:=by intro _;rfl):WE Z ρ O (.ListComp elt [⟨tg,iter,ifs,0⟩] csc pos) Φ:=
 PE.weak (Yj hc ok h WY QD WZ hs) fun σ H Q q=>Ul h q
theorem EJ{i:Nat}{x:Str}{px spos:Pos}{Ψ:Es}(hsw:jC (.ListComp elt [⟨tg,iter,ifs,0⟩] csc pos) (some (.Name x px)) spos.line Z.X.env=pure true)(hN:Z.X.N.Nodup)(hc:Z.X.calm=true)(ok:LcOk Z.X csc nc cap)
  (h:WI Z ρ O tg iter (Sz Z ρ elt tg ifs csc nc cap fun acc O'=>Ψ.nx (ρ.set i (some (.lst acc))) O')) (hx:Z.X.N[i]?=some x:=by rfl) (hk:Z.X.env.scope.names.lookup x=some .local:=by rfl)
  (hs:∀x,fL iter Z.X.env x=pure x:=by intro _;rfl):WS Z ρ O (.Assign [.Name x px] (.ListComp elt [⟨tg,iter,ifs,0⟩] csc pos) spos) Ψ:=
 PS.weak (Jo hN hx hk hsw hc ok h WY QD WZ hs) fun D σ H q=>Ul (Φ:=fun t O'=>Ψ.nx (ρ.set i (some t)) O') h ⟨q.1,fun v H' t O' p f r=>q.2.nx _ O' _ H' p ⟨(q.1.step f).rl.set r,(q.1.step f).fr⟩ f.kp⟩
end
def ay:T→String
 | .non=> "NoneType" | .bl _=> "bool" | .int _=> "int" | .str _=> "str" | .tup _=> "tuple" | .lst _=> "list" | .frz _=> "list" | .dct=> "dict" | .raw _=> "object"
def Az:T→Bool
 | .raw _=>true
 |_=>false
def Yx:T→Bool
 | .int _=>true
 | .bl _=>true
 |_=>false
def Wa:T→Bool
 | .bl _=>true
 |_=>false
def Um:T→Bool
 | .tup _=>true
 |_=>false
def OP(K:a5)(c:String)(g:T→Bool):Prop:=∀t,Az t=false→dP K (.type (ay t)) (.type c)=some (g t)
section
variable{K:a5}{O:AI}{H:Hp}{v:V}{t:T}
theorem Rep.ty(r:Rep K O H v t)(hp:Az t=false):TyOf K H v (.type (ay t)):=by
 cases r with
 |non=>exact .non
 |bl b=>exact .bl b
 |int i=>exact .int i
 |str i=>exact .str i
 |tup h=>exact .tup h
 |lst h=>exact .lst h
 |frz h=>exact .frz h
 |dct h=>exact .dK h
 |raw v=>cases hp
theorem cO(K:a5):dP K (.type "NoneType") (.type "int")=some false:=by kernel_rfl
theorem cP(K:a5):dP K (.type "bool") (.type "int")=some true:=by kernel_rfl
theorem cQ(K:a5):dP K (.type "int") (.type "int")=some true:=by rfl
theorem cR(K:a5):dP K (.type "str") (.type "int")=some false:=by kernel_rfl
theorem cS(K:a5):dP K (.type "tuple") (.type "int")=some false:=by kernel_rfl
theorem bb(K:a5):dP K (.type "list") (.type "int")=some false:=by kernel_rfl
theorem cT(K:a5):dP K (.type "dict") (.type "int")=some false:=by kernel_rfl
theorem TB:OP K "int" Yx:=fun t h=>by
 cases t with
 |non=>exact cO K
 |bl b=>exact cP K
 |int i=>exact cQ K
 |str i=>exact cR K
 |tup i=>exact cS K
 |lst i=>exact bb K
 |frz i=>exact bb K
 |dct=>exact cT K
 |raw v=>cases h
theorem cU(K:a5):dP K (.type "NoneType") (.type "bool")=some false:=by kernel_rfl
theorem cV(K:a5):dP K (.type "bool") (.type "bool")=some true:=by rfl
theorem cW(K:a5):dP K (.type "int") (.type "bool")=some false:=by kernel_rfl
theorem cX(K:a5):dP K (.type "str") (.type "bool")=some false:=by kernel_rfl
theorem cY(K:a5):dP K (.type "tuple") (.type "bool")=some false:=by kernel_rfl
theorem bf(K:a5):dP K (.type "list") (.type "bool")=some false:=by kernel_rfl
theorem cZ(K:a5):dP K (.type "dict") (.type "bool")=some false:=by kernel_rfl
theorem QF:OP K "bool" Wa:=fun t h=>by
 cases t with
 |non=>exact cU K
 |bl b=>exact cV K
 |int i=>exact cW K
 |str i=>exact cX K
 |tup i=>exact cY K
 |lst i=>exact bf K
 |frz i=>exact bf K
 |dct=>exact cZ K
 |raw v=>cases h
theorem cb(K:a5):dP K (.type "NoneType") (.type "tuple")=some false:=by kernel_rfl
theorem cc(K:a5):dP K (.type "bool") (.type "tuple")=some false:=by kernel_rfl
theorem cf(K:a5):dP K (.type "int") (.type "tuple")=some false:=by kernel_rfl
theorem cg(K:a5):dP K (.type "str") (.type "tuple")=some false:=by kernel_rfl
theorem cj(K:a5):dP K (.type "tuple") (.type "tuple")=some true:=by rfl
theorem bg(K:a5):dP K (.type "list") (.type "tuple")=some false:=by kernel_rfl
theorem ck(K:a5):dP K (.type "dict") (.type "tuple")=some false:=by kernel_rfl
theorem Mq:OP K "tuple" Um:=fun t h=>by
 cases t with
 |non=>exact cb K
 |bl b=>exact cc K
 |int i=>exact cf K
 |str i=>exact cg K
 |tup i=>exact cj K
 |lst i=>exact bg K
 |frz i=>exact bg K
 |dct=>exact ck K
 |raw v=>cases h
theorem Wb{c:String}{g:T→Bool}(hk:OP K c g)(hp:Az t=false):CP K (Yk K) [t,.raw (.ty c)] O (.bl (g t)):=fun Φ p H vs Q ok r q=>by
 obtain⟨v,w,rfl,r1,r2⟩:=r.two_inv
 cases r2.raw_inv
 exact⟨v,.ty c,.type (ay t),.type c,g t,rfl,rfl,.inl (r1.ty hp),hk t hp,q _ H _ O p (.refl ok) (.bl _)⟩
theorem Yy:eE "int" =some (.type "int"):=by decide+kernel
theorem Yz:eE "bool" =some (.type "bool"):=by decide+kernel
theorem Io:eE "tuple" =some (.type "tuple"):=by decide+kernel
theorem KQ:eE "list" =some (.type "list"):=by decide+kernel
theorem az:eE "set" =some (.type "set"):=by decide+kernel
theorem Lh:eE "range" =some (.type "range"):=by decide+kernel
theorem bA:eE "isinstance" =some (.builtin "isinstance"):=by decide+kernel
theorem Wc:eE "max" =some (.builtin "max"):=by decide+kernel
theorem TC:eE "min" =some (.builtin "min"):=by decide+kernel
theorem Wd:eE "len" =some (.builtin "len"):=by decide+kernel
theorem bB:eE "all" =some (.builtin "all"):=by decide+kernel
theorem Ip:eE "sorted" =some (.builtin "sorted"):=by decide+kernel
theorem Reps.bls:∀{vs:List V} {ns:List Bool},Reps K O H vs (ns.map T.bl)→vs=ns.map V.bl
 |_,[],r=>r.nil_inv
 |_,n::ns,r=>by
  obtain⟨v,vs',rfl,h,r⟩:=Reps.cons_inv r
  rw[h.bl_inv,Reps.bls r]
  rfl
end
section
variable{Z:Zx}{ρ:List (Option T)}{O:AI}{e a b c:Expr}{es:List Expr}{Φ:BH}{pos p:Pos}{t ta tb:T}{ts us:List T}{i j:Int}{x:Str}{lo hi:Expr}
theorem We{cn:String}{g:T→Bool}(mI:Z.X.mg "isinstance" =none)(mC:Z.X.mg x=none)(bC:eE x=some (.type cn))(hk:OP Z.K cn g)(h:ET Z ρ O e t)(hp:Az t=false){p1:Pos}(hgi:Gl Z.X "isinstance":=by rfl)(hgc:Gl Z.X x:=by rfl)
  (hn:x≠"__name__":=by decide) (hd:(x==("__debug__" :Str))=false:=by decide)
  (he:b4 [e,.Name x p1] Z.X.env=(false,eval e Z.X.env)::b4 [.Name x p1] Z.X.env:=by rfl):ET Z ρ O (.Call (.Name "isinstance" p) [e,.Name x p1] [] pos) (.bl (g t)):=
 BE PV mI bA (AJ h (AJ (Yr mC bC hgc hn hd) AC) he) (Wb hk hp) hgi (by decide) (by decide) he
theorem Iq{cn:String}{g:T→Bool}(mI:Z.X.mg "isinstance" =none)(mC:Z.X.mg x=none)(bC:eE x=some (.type cn))(hk:OP Z.K cn g)(h:ET Z ρ O e t)(hp:Az t=false){p1:Pos}(hgi:Gl Z.X "isinstance":=by rfl)(hgc:Gl Z.X x:=by rfl)
  (hn:x≠"__name__":=by decide) (hd:(x==("__debug__" :Str))=false:=by decide)
  (he:b4 [e,.Name x p1] Z.X.env=(false,eval e Z.X.env)::b4 [.Name x p1] Z.X.env:=by rfl):EB Z ρ O (.Call (.Name "isinstance" p) [e,.Name x p1] [] pos) (g t):=
 Br (We mI mC bC hk h hp hgi hgc hn hd he)
theorem TF(m:Z.X.mg "len" =none)(h:ET Z ρ O e (.lst ts))(hg:Gl Z.X "len":=by rfl)(he:b4 [e] Z.X.env=(false,eval e Z.X.env)::b4 [] Z.X.env:=by rfl):ET Z ρ O (.Call (.Name "len" p) [e] [] pos) (.int ts.length):=
 BE Cg m Wd (AJ h AC he) (fun Φ q H vs Q ok r k=>by
  obtain⟨v,rfl,r1⟩:=r.one_inv
  obtain⟨a,xs,rfl,h1,_,r1⟩:=r1.lst_inv
  refine⟨a,xs,rfl,.inl (.inl (.inl h1)),?_⟩
  rw[r1.length]
  exact k _ H _ O q (.refl ok) (.int _)) hg (by decide) (by decide) he
theorem Mr{l:Addr}(m:Z.X.mg "len" =none)(h:ET Z ρ O e (.raw (.ref l)))(ho:O l=some ts)(hg:Gl Z.X "len":=by rfl)(he:b4 [e] Z.X.env=(false,eval e Z.X.env)::b4 [] Z.X.env:=by rfl):ET Z ρ O (.Call (.Name "len" p) [e] [] pos) (.int ts.length):=
 BE Cg m Wd (AJ h AC he) (fun Φ q H vs Q ok r k=>by
  obtain⟨v,rfl,r1⟩:=r.one_inv
  cases r1.raw_inv
  obtain⟨xs,h1,r1⟩:=ok l ts ho
  refine⟨l,xs,rfl,.inl (.inl (.inl h1)),?_⟩
  rw[r1.length]
  exact k _ H _ O q (.refl ok) (.int _)) hg (by decide) (by decide) he
theorem Wf{bs:List Bool}(m:Z.X.mg "all" =none)(hc:Z.X.calm=true)(h:ET Z ρ O e (.lst (bs.map T.bl)))(hg:Gl Z.X "all":=by rfl)(he:b4 [e] Z.X.env=(false,eval e Z.X.env)::b4 [] Z.X.env:=by rfl):ET Z ρ O (.Call (.Name "all" p) [e] [] pos) (.bl (bs.all id)):=
 BE (Po hc) m bB (AJ h AC he) (fun Φ q H vs Q ok r k=>by
  obtain⟨v,rfl,r1⟩:=r.one_inv
  obtain⟨a,xs,rfl,h1,_,r1⟩:=r1.lst_inv
  cases r1.bls
  exact⟨a,bs,rfl,.inl (.inl (.inl h1)),k _ H _ O q (.refl ok) (.bl _)⟩) hg (by decide) (by decide) he
theorem Ms(m:Z.X.mg "min" =none)(hc:Z.X.calm=true)(h:ET Z ρ O a (.int i))(h2:ET Z ρ O b (.int j))(hg:Gl Z.X "min":=by rfl)(he:b4 [a,b] Z.X.env=(false,eval a Z.X.env)::b4 [b] Z.X.env:=by rfl)(he2:b4 [b] Z.X.env=(false,eval b Z.X.env)::b4 [] Z.X.env:=by rfl)(hpl:(gI pos (b4 [b] Z.X.env)).any (·.1)=false:=by rfl):ET Z ρ O (.Call (.Name "min" p) [a,b] [] pos) (.int (min i j)):=
 BE (Nm hc) m TC (AJ h (AJ h2 AC he2) he) (fun Φ q H vs Q ok r k=>by
  obtain⟨v,w,rfl,r1,r2⟩:=r.two_inv
  cases r1.int_inv;cases r2.int_inv
  refine⟨i,j,rfl,?_⟩
  have:(if j<i then j else i)=min i j:=by split<;>omega
  rw[this]
  exact k _ H _ O q (.refl ok) (.int _)) hg (by decide) (by decide) he hpl
theorem FW(m:Z.X.mg "max" =none)(hc:Z.X.calm=true)(h:ET Z ρ O a (.int i))(h2:ET Z ρ O b (.int j))(hg:Gl Z.X "max":=by rfl)(he:b4 [a,b] Z.X.env=(false,eval a Z.X.env)::b4 [b] Z.X.env:=by rfl)(he2:b4 [b] Z.X.env=(false,eval b Z.X.env)::b4 [] Z.X.env:=by rfl)(hpl:(gI pos (b4 [b] Z.X.env)).any (·.1)=false:=by rfl):ET Z ρ O (.Call (.Name "max" p) [a,b] [] pos) (.int (max i j)):=
 BE (Nl hc) m Wc (AJ h (AJ h2 AC he2) he) (fun Φ q H vs Q ok r k=>by
  obtain⟨v,w,rfl,r1,r2⟩:=r.two_inv
  cases r1.int_inv;cases r2.int_inv
  refine⟨i,j,rfl,?_⟩
  have:(if j>i then j else i)=max i j:=by split<;>omega
  rw[this]
  exact k _ H _ O q (.refl ok) (.int _)) hg (by decide) (by decide) he hpl
theorem TH(m:Z.X.mg "min" =none)(hc:Z.X.calm=true)(h:ET Z ρ O e (.tup [.int i,.int j]))(hg:Gl Z.X "min":=by rfl)(he:b4 [e] Z.X.env=(false,eval e Z.X.env)::b4 [] Z.X.env:=by rfl):ET Z ρ O (.Call (.Name "min" p) [e] [] pos) (.int (min i j)):=
 BE (Hg hc) m TC (AJ h AC he) (fun Φ q H vs Q ok r k=>by
  obtain⟨v,rfl,r1⟩:=r.one_inv
  obtain⟨a,xs,rfl,h1,r1⟩:=r1.tup_inv
  cases Reps.ints (ns:=[i,j]) r1
  refine⟨a,[i,j],rfl,.inr (.inl (.inl h1)),jX _,fun n ⟨h1,h2⟩=>?_⟩
  have e1:=h2 i (by simp)
  have e2:=h2 j (by simp)
  have:n=min i j:=by
   rcases dh.mp h1 with rfl|h1
   ·omega
   ·have:=a8.mp h1
    omega
  rw[this]
  exact k _ H _ O q (.refl ok) (.int _)) hg (by decide) (by decide) he
theorem TJ(m:Z.X.mg "max" =none)(hc:Z.X.calm=true)(h:ET Z ρ O e (.tup [.int i,.int j]))(hg:Gl Z.X "max":=by rfl)(he:b4 [e] Z.X.env=(false,eval e Z.X.env)::b4 [] Z.X.env:=by rfl):ET Z ρ O (.Call (.Name "max" p) [e] [] pos) (.int (max i j)):=
 BE (Hi hc) m Wc (AJ h AC he) (fun Φ q H vs Q ok r k=>by
  obtain⟨v,rfl,r1⟩:=r.one_inv
  obtain⟨a,xs,rfl,h1,r1⟩:=r1.tup_inv
  cases Reps.ints (ns:=[i,j]) r1
  refine⟨a,[i,j],rfl,.inr (.inl (.inl h1)),jX _,fun n ⟨h1,h2⟩=>?_⟩
  have e1:=h2 i (by simp)
  have e2:=h2 j (by simp)
  have:n=max i j:=by
   rcases dh.mp h1 with rfl|h1
   ·omega
   ·have:=a8.mp h1
    omega
  rw[this]
  exact k _ H _ O q (.refl ok) (.int _)) hg (by decide) (by decide) he
theorem TK{k:Bool}(m:Z.X.mg "int" =none)(h:ET Z ρ O e (.bl k))(hg:Gl Z.X "int":=by rfl)(he:b4 [e] Z.X.env=(false,eval e Z.X.env)::b4 [] Z.X.env:=by rfl):ET Z ρ O (.Call (.Name "int" p) [e] [] pos) (.int (if k then 1 else 0)):=
 Hk Nn m Yy (AJ h AC he) (fun Φ q H vs Q ok r k=>by
  obtain⟨v,rfl,r1⟩:=r.one_inv
  cases r1.bl_inv
  exact .inr ⟨_,rfl,k _ H _ O q (.refl ok) (.int _)⟩) hg (by decide) (by decide) he
theorem BX(m:Z.X.mg "tuple" =none)(h:WE Z ρ O e fun t O'=>∃ts,t=.lst ts∧Φ (.tup ts) O')(hg:Gl Z.X "tuple":=by rfl)(he:b4 [e] Z.X.env=(false,eval e Z.X.env)::b4 [] Z.X.env:=by rfl):WE Z ρ O (.Call (.Name "tuple" p) [e] [] pos) Φ:=
 Dc FG m Io (BW (Da h (by
  rintro t O' ⟨ts,rfl,q⟩
  refine Ae fun H vs Q ok r k=>?_
  obtain⟨v,rfl,r1⟩:=r.one_inv
  obtain⟨a,xs,rfl,h1,_,r1⟩:=r1.lst_inv
  exact⟨a,xs,rfl,.inl (.inl h1),fun p hp=>k _ _ _ O' q (.new ok hp) (.tup AZ (r1.kp (Cp ok hp) ok))⟩)) he) hg (by decide) (by decide) he
theorem EK(m:Z.X.mg "tuple" =none)(h:ET Z ρ O e (.lst ts))(hg:Gl Z.X "tuple":=by rfl)(he:b4 [e] Z.X.env=(false,eval e Z.X.env)::b4 [] Z.X.env:=by rfl):ET Z ρ O (.Call (.Name "tuple" p) [e] [] pos) (.tup ts):=fun Φ q=>BX m (h _ ⟨ts,rfl,q⟩) hg he
theorem OQ(m:Z.X.mg "list" =none)(h:ET Z ρ O e (.tup ts))(q:∀a,O a=none→Φ (.raw (.ref a)) (Ac O a ts))(hg:Gl Z.X "list":=by rfl)(he:b4 [e] Z.X.env=(false,eval e Z.X.env)::b4 [] Z.X.env:=by rfl):WE Z ρ O (.Call (.Name "list" p) [e] [] pos) Φ:=
 Dc GL m KQ (AJ h AC he _ (fun H vs Q ok r k=>by
  obtain⟨v,rfl,r1⟩:=r.one_inv
  obtain⟨a,xs,rfl,h1,r1⟩:=r1.tup_inv
  exact⟨a,xs,rfl,.inr (.inl (.inl h1)),fun p hp=>k _ _ _ _ (q p (ok.none_of hp)) (.newO ok hp r1) (.raw _)⟩)) hg (by decide) (by decide) he
theorem Reps.rngs{K:a5}{H:Hp}:∀(ns:List Nat),Reps K O H (ns.map fun(i:Nat)=>V.int i) (ns.map fun(i:Nat)=>T.int i)
 | []=> .nil
 |n::ns=> .cons (.int _) (Reps.rngs ns)
theorem QG{p1 p2 pos1:Pos}(m:Z.X.mg "list" =none)(m2:Z.X.mg "range" =none)(hc:Z.X.calm=true)(h:ET Z ρ O e (.int i))(h0:0≤i)(h1:i≤1000)(q:∀a,O a=none→Φ (.raw (.ref a)) (Ac O a ((dv i.toNat).map fun(i:Nat)=>T.int i)))
  (hg:Gl Z.X "list":=by rfl) (hg2:Gl Z.X "range":=by rfl) (he:b4 [e] Z.X.env=(false,eval e Z.X.env)::b4 [] Z.X.env:=by rfl) (he2:b4 [mL (.Name "range" p2) [e] [] pos1] Z.X.env=(false,eval (.Call (.Name "range" p2) [e] [] pos1) Z.X.env)::b4 [] Z.X.env:=by rfl):WE Z ρ O (.Call (.Name "list" p) [.Call (.Name "range" p2) [e] [] pos1] [] pos) Φ:=by
 refine PE.weak (BI (GM hc) hg m KQ (DY (BI FH hg2 m2 Lh (HD (ρ:=ρ)) (by decide) (by decide) he) Ei he2) (by decide) (by decide) he2) fun σ H Q k=>?_
 refine⟨O,_,AJ h AC he (fun ts O'=>ts=[.int i]∧O'=O) ⟨rfl,rfl⟩,k.1,?_⟩
 rintro vs H1 _ _ ⟨rfl,rfl⟩ f r
 obtain⟨v,rfl,r1⟩:=r.one_inv
 cases r1.int_inv
 refine⟨i,rfl,fun p hp=> ⟨p,i,rfl,AZ,h0,h1,fun l hl=>?_⟩⟩
 have f1:=Frm.new (o:=.rng 0 i) f.ok hp
 exact k.2 _ _ _ _ (q l (f1.ok.none_of hl)) (f.trans (f1.trans (.newO f1.ok hl (Reps.rngs _)))) (.raw _)
end
section
variable{K:a5}{O:AI}{H:Hp}
end
section
variable{Z:Zx}{ρ:List (Option T)}{O:AI}{e a b c:Expr}{es:List Expr}{Φ:BH}{pos p p2:Pos}{t ta tb:T}{ts us:List T}{i j:Int}{x:Str}{lo hi:Expr}
theorem Mt(hl:ts.length+us.length≤sizeLine){K:a5}:RP K Yb (.lst ts) (.lst us) O (.lst (ts++us)):=fun Φ p H v w Q ok r1 r2 q=>by
 obtain⟨a,xs,rfl,h1,_,r1⟩:=r1.lst_inv
 obtain⟨b,ys,rfl,h2,_,r2⟩:=r2.lst_inv
 exact⟨a,b,xs,ys,rfl,rfl,h1,h2,by rw[r1.length,r2.length];exact hl,fun l hq=>q _ _ _ O p (.new ok hq) (.lst AZ (ok.none_of hq) ((r1.append r2).kp (Cp ok hq) ok))⟩
theorem FX(ha:ET Z ρ O a (.lst ts))(hb:ET Z ρ O b (.lst us))(hl:ts.length+us.length≤sizeLine):ET Z ρ O (.BinOp a .Add b pos) (.lst (ts++us)):=GN PL (Mt hl) ha hb
theorem QH{l:Addr}(hu:Z.X.A.units<cLine)(ho:O l=some ts)(ha:ET Z ρ O a (.raw (.ref l))){p1:Pos}:EB Z ρ O (.Compare a [.NotEq] [.List [] p1] pos) (!ts.isEmpty):=CH (Pp hu) (Ad _) (fun Φ p H v w Q ok r1 r2 q=>by
 cases r1.raw_inv
 obtain⟨b,ys,rfl,h2,_,r2⟩:=r2.lst_inv
 cases r2.nil_inv
 obtain⟨xs,h1,r1⟩:=ok l ts ho
 refine⟨l,b,xs,rfl,rfl,.inl (.inl h1),.inl (.inl h2),?_⟩
 rw[r1.isEmpty]
 exact q _ H _ O p (.refl ok) (.bl _)) ha (DQ AC (fj _))
theorem ZA{n:Nat}(h0:0≤i)(h1:i<n):lR i n=some i.toNat:=by
 unfold lR
 have:¬i<0:=by omega
 simp only[if_neg this]
 rw[if_pos]
 simp
 omega
theorem KR{o:Expr}{apos cpos:Pos}(h:WE Z ρ O o fun t O1=>∃l,t=.raw (.ref l)∧(∃ts,O1 l=some ts)∧WE Z ρ O1 e fun u O2=>∃ts i y,u=.int i∧O2 l=some ts∧0≤i∧i<2^63∧i<ts.length∧ts[i.toNat]?=some y∧Φ y (Ac O2 l (ts.eraseIdx i.toNat)))
  (hbase:kH o "pop" Z.X.env (eval o Z.X.env)=eval o Z.X.env:=by rfl)
  (hfew:((gI cpos (b4 [e] Z.X.env)).all (fun x=>!x.1)&&(mY cpos (lF [] Z.X.env)).all (fun x=>x.1.isSome)
   &&decide ([e].length+([]:List kB).length+(if([]:List kB).isEmpty then 0 else 1)<30))=true:=by rfl)
  (hline:(apos.endLine==cpos.line)=true:=by rfl) (hs:b4 [e] Z.X.env=(false,eval e Z.X.env)::b4 [] Z.X.env:=by rfl) (hplain:(gI cpos (b4 [] Z.X.env)).any (·.1)=false:=by rfl):WE Z ρ O (.Call (.Attribute o "pop" apos) [e] [] cpos) Φ:=by
 refine Uk PySem.F.plainAttrs_list PySem.F.slot_list_pop PySem.F.type_list_pop PK (Da h ?_) hbase hfew hline hs hplain
 rintro t O1 ⟨l,rfl,⟨ts,hts⟩,w⟩
 refine⟨Mm hts,BW (Da w ?_) hs⟩
 rintro u O2 ⟨us,i,y,rfl,h1,i0,i1,i2,hy,p⟩
 refine Ae fun H v vs Q ok r1 r2 q=>?_
 cases r1.raw_inv
 obtain⟨w,rfl,r3⟩:=r2.one_inv
 cases r3.int_inv
 obtain⟨xs,hx,r⟩:=ok l us h1
 obtain⟨v,hv,rv⟩:=r.get hy
 exact⟨l,xs,i,i.toNat,v,rfl,rfl,hx,by omega,i1,by rw[r.length];exact ZA i0 i2,hv,q _ _ _ _ p (.put ok h1 (r.eraseIdx _)) (rv.kp (Ii h1) ok)⟩
end
def AF(p:Int×Int):T:=.tup [.int p.1,.int p.2]
def Dm(p q:Int×Int):Prop:=p.1<q.1∨(p.1=q.1∧p.2<q.2)
section
variable{K:a5}{O:AI}{H:Hp}
theorem GV:∀{ps:List (Int×Int)} {xs:List V},Reps K O H xs (ps.map AF)→∃qs:List (List Int×Addr),xs=qs.map (fun p=>V.ref p.2)∧qs.map (·.1)=ps.map (fun p=> [p.1,p.2])∧∀k x,(k,x)∈qs→H x=some (.tup (k.map V.int))
 | [],xs,r=> ⟨[],r.nil_inv,rfl,fun _ _ h=>by cases h⟩
 |p::ps,xs,r=>by
  obtain⟨v,vs',rfl,h,r'⟩:=Reps.cons_inv r
  obtain⟨a,ys,rfl,ha,r2⟩:=h.tup_inv
  cases Reps.ints (ns:=[p.1,p.2]) r2
  obtain⟨qs,rfl,e,hk⟩:=GV r'
  refine⟨([p.1,p.2],a)::qs,rfl,by rw[dF,dF,e],fun k x h=>?_⟩
  rcases dh.mp h with h|h
  ·cases h;exact ha
  ·exact hk k x h
theorem GW:∀{qs:List (List Int×Addr)} {ps:List (Int×Int)},qs.map (·.1)=ps.map (fun p=> [p.1,p.2])→(∀k x,(k,x)∈qs→H x=some (.tup (k.map V.int)))→Reps K O H (qs.map fun p=>V.ref p.2) (ps.map AF)
 | [],[],_,_=> .nil
 | [],p::ps,e,_=>by cases e
 |q::qs,[],e,_=>by cases e
 | (k,x)::qs,p::ps,e,h=>by
  rw[dF,dF] at e
  injection e with e1 e2
  have e1:k=[p.1,p.2]:=e1
  have hx:=h k x (dR ..)
  rw[e1] at hx
  exact .cons (.tup hx (.cons (.int _) (.cons (.int _) .nil))) (GW e2 fun k x hk=>h k x (df _ hk))
end
theorem Mu:∀{ys:List (List Int×Addr)},(∀k x,(k,x)∈ys→∃i j:Int,k=[i,j])→∃ps:List (Int×Int),ys.map (·.1)=ps.map (fun p=> [p.1,p.2])
 | [],_=> ⟨[],rfl⟩
 | (k,x)::ys,h=>by
  obtain⟨i,j,e⟩:=h k x (dR ..)
  obtain⟨ps,e2⟩:=Mu fun k x hk=>h k x (df _ hk)
  exact⟨(i,j)::ps,by rw[dF,dF,e,e2]⟩
section
variable{Z:Zx}{ρ:List (Option T)}{O:AI}{e:Expr}{Φ:BH}{pos p p1 pos1:Pos}
theorem Cu{ps:List (Int×Int)}(m:Z.X.mg "sorted" =none)(m2:Z.X.mg "set" =none)(hc:Z.X.calm=true)(hu:Z.X.A.units+8<cLine)(h:ET Z ρ O e (.lst (ps.map AF)))(hl:ps.length≤300)(hb:∀q∈ps,0≤q.2∧q.2<65536)
  (k:∀qs:List (Int×Int),qs.Pairwise Dm→(∀q,q∈qs↔q∈ps)→qs.length≤ps.length→Φ (.lst (qs.map AF)) O) (hg:Gl Z.X "sorted":=by rfl) (hg2:Gl Z.X "set":=by rfl) (he:b4 [e] Z.X.env=(false,eval e Z.X.env)::b4 [] Z.X.env:=by rfl)
  (he2:b4 [mL (.Name "set" p1) [e] [] pos1] Z.X.env=(false,eval (.Call (.Name "set" p1) [e] [] pos1) Z.X.env)::b4 [] Z.X.env:=by rfl):WE Z ρ O (.Call (.Name "sorted" p) [.Call (.Name "set" p1) [e] [] pos1] [] pos) Φ:=by
 refine PE.weak (Fn (Ig hc) hg m Ip (DY (BI (OK hc hu) hg2 m2 az (HD (ρ:=ρ)) (by decide) (by decide) he) Ei he2) (by decide) (by decide) he2) fun σ H Q q=>?_
 refine⟨O,_,AJ h AC he (fun ts O'=>ts=[.lst (ps.map AF)]∧O'=O) ⟨rfl,rfl⟩,q.1,?_⟩
 rintro vs H1 _ _ ⟨rfl,rfl⟩ f r
 obtain⟨v,rfl,r1⟩:=r.one_inv
 obtain⟨a,xs,rfl,h1,_,r1⟩:=r1.lst_inv
 obtain⟨qs,rfl,eq,hk⟩:=GV r1
 have lq:qs.length=ps.length:=by
  have:=congrArg List.length eq
  simpa using this
 refine⟨a,qs,rfl,.inl (.inl h1),fun k x hx=> .inl (.inl (hk k x hx)),by omega,fun l xs hl1 so nd=>?_⟩
 obtain⟨s1,s2,s3⟩:=so
 have f1:=Frm.new (o:=SetO Z.X.prog Z.X.w l xs) f.ok hl1
 have hk2:∀k x,(k,x)∈xs→upd H1 l (SetO Z.X.prog Z.X.w l xs) x=some (.tup (k.map V.int)):=fun k x hx=>by
  have:=hk k x (s1 _ hx)
  rw[Ab (AX this hl1)];exact this
 have mem1:∀k x,(k,x)∈qs→∃q∈ps,k=[q.1,q.2]:=fun k x hx=>by
  have:k∈qs.map (·.1):=di.mpr ⟨(k,x),hx,rfl⟩
  rw[eq] at this
  obtain⟨q,h1,h2⟩:=di.mp this
  exact⟨q,h1,h2.symm⟩
 have two:∀k x,(k,x)∈xs→∃i j,k=[i,j]∧0≤j∧j<65536:=fun k x hx=>by
  obtain⟨q,h1,h2⟩:=mem1 k x (s1 _ hx)
  exact⟨q.1,q.2,h2,hb q h1⟩
 refine⟨l,xs,rfl,AZ,fun k x hx=> .inl (.inl (hk2 k x hx)),by omega,two,fun d ys hd pm pw=>?_⟩
 obtain⟨rs,er⟩:=Mu (ys:=ys) fun k x hx=>by
  obtain⟨i,j,e,_⟩:=two k x (pm.mem_iff.mp hx)
  exact⟨i,j,e⟩
 have f2:=Frm.new (o:=.lst (ys.map fun p=>V.ref p.2)) f1.ok hd
 have hk3:∀k x,(k,x)∈ys→upd (upd H1 l (SetO Z.X.prog Z.X.w l xs)) d (.lst (ys.map fun p=>V.ref p.2)) x=some (.tup (k.map V.int)):=fun k x hx=>by
  have:=hk2 k x (pm.mem_iff.mp hx)
  rw[Ab (AX this hd)];exact this
 have memr:∀z,z∈rs↔∃x,([z.1,z.2],x)∈ys:=fun z=>by
  constructor
  ·intro hz
   have:[z.1,z.2]∈ys.map (·.1):=by rw[er];exact di.mpr ⟨z,hz,rfl⟩
   obtain⟨⟨k,x⟩,h1,h2⟩:=di.mp this
   have h2:k=_:=h2
   subst h2
   exact⟨x,h1⟩
  ·rintro⟨x,hx⟩
   have:[z.1,z.2]∈ys.map (·.1):=di.mpr ⟨_,hx,rfl⟩
   rw[er] at this
   obtain⟨w,h1,h2⟩:=di.mp this
   injection h2 with e1 e2
   injection e2 with e2 _
   have:w=z:=fZ e1 e2
   rw[←this];exact h1
 have ndy:(ys.map (·.1)).Nodup:=(pm.map _).nodup_iff.mpr nd
 refine q.2 _ _ _ _ (k rs ?_ (fun z=>?_) ?_) (f.trans (f1.trans f2)) (.lst AZ (f1.ok.none_of hd) (GW er hk3))
 ·--strictly rising
  have pw':rs.Pairwise fun x y=>65536*x.1+x.2≤65536*y.1+y.2:=by
   have h3:(ys.map (·.1)).Pairwise fun x y=>65536*x.getD 0 0+x.getD 1 0≤65536*y.getD 0 0+y.getD 1 0:=eT.mpr pw
   rw[er] at h3
   exact(eT (f:=fun(p:Int×Int)=> [p.1,p.2]) (R:=fun x y=>65536*x.getD 0 0+x.getD 1 0≤65536*y.getD 0 0+y.getD 1 0)).mp h3
  have nd':rs.Pairwise fun x y=>x≠y:=by
   have h3:(ys.map (·.1)).Pairwise (·≠·):=ndy
   rw[er] at h3
   exact(eT.mp h3).imp fun hxy z=>hxy (by rw[z])
  refine(pw'.and nd').imp_of_mem fun{x y} hx hy ⟨h1,h2⟩=>?_
  have bnd:∀z,z∈rs→0≤z.2∧z.2<65536:=fun z hz=>by
   obtain⟨v,hv⟩:=(memr z).mp hz
   obtain⟨i,j,e,hj⟩:=two _ v (pm.mem_iff.mp hv)
   injection e with e1 e2
   injection e2 with e2 _
   omega
  have b1:=bnd x hx
  have b2:=bnd y hy
  unfold Dm
  have:¬(x.1=y.1∧x.2=y.2):=fun z=>h2 (fZ z.1 z.2)
  omega
 ·rw[memr]
  constructor
  ·rintro⟨x,hx⟩
   obtain⟨w,h1,h2⟩:=mem1 _ x (s1 _ (pm.mem_iff.mp hx))
   injection h2 with e1 e2
   injection e2 with e2 _
   have:z=w:=fZ e1 e2
   rw[this];exact h1
  ·intro hz
   have:[z.1,z.2]∈qs.map (·.1):=by rw[eq];exact di.mpr ⟨z,hz,rfl⟩
   obtain⟨⟨k,x⟩,h1,h2⟩:=di.mp this
   have h2:k=_:=h2
   subst h2
   obtain⟨x',hx'⟩:=s2 _ _ h1
   exact⟨x',pm.mem_iff.mpr hx'⟩
 ·have e1:rs.length=ys.length:=by
   have:=congrArg List.length er
   simpa using this.symm
  have e2:=pm.length_eq
  omega
end
theorem XFly.mono{X:Cx}{W W':St→XK}(x:XFly X W)(h:∀σ cls H',W' σ cls none H'→W σ cls none H'):XFly X W':=⟨fun pins σ H s e s' I c=>x.fly pins σ H s e s' I (by
 obtain⟨y,cls,H',e1,f,q⟩:=c
 exact⟨y,cls,H',e1,f,h σ cls H' q⟩)⟩
theorem Bv{X:Cx}{Oe:AI}{He:Hp}:XFly X (zc X Oe He).W:=⟨fun pins σ H s e s' I c=>by
 obtain⟨y,cls,H',e1,f,_,O',z,_⟩:=c
 exact z.elim⟩
abbrev zB(P:Program)(w:World)(K:a5)(mg:Str→Option Value)(base:Heap)(N:List Str)(qual:Str)(sc:Scope)(f:Addr)(cdv:Value)(A:dy)(outer:List Env)(s:a7)(H:Hp)(E:XK)(O:AI)(Ξ:Value→AI→Prop):Zx:=
 ⟨By (CXe P w) P w K mg base N qual sc f cdv A outer s H E,O,H,Ξ⟩
def Cv(N:List Str)(ts:List T):List (Option T):=ts.map some++fu (N.length-ts.length) none
theorem GX{K:a5}{O:AI}{H:Hp}{N:List Str}{vs:List V}{ts:List T}(r:Reps K O H vs ts):Rl K O H (start N vs) (Cv N ts):=by
 refine⟨by simp[start,Cv,r.length],fun i t e=>?_⟩
 unfold Cv at e
 by_cases hi:i<ts.length
 ·rw[dZ (by simpa using hi),b8] at e
  cases ht:ts[i]? with
  |none=>rw[ht] at e;cases e
  |some u=>
   rw[ht] at e
   cases e
   obtain⟨v,h1,h2⟩:=r.get ht
   refine⟨v,?_,h2⟩
   unfold start
   rw[dZ (by simpa[r.length] using hi),b8,h1]
   rfl
 ·rw[dI (by simpa using hi),gm] at e
  split at e<;>cases e
theorem AY{P:Program}{w:World}{K:a5}{mg:Str→Option Value}{base:Heap}{x qual:Str}{st:Stmt}{f:Addr}{fd:dM}{N ps:List Str}{k:Nat}{sp:Bu}(F:Fun K x qual st f fd)(S:FnScope N ps (AA st))(len:∀ts O Φ Ξ,sp ts O Φ Ξ→ts.length=ps.length)
  (h:∀(cdv:Value) (A:dy) (outer:List Env) (s:a7) (H:Hp) (E:XK) (O:AI) (Ξ:Value→AI→Prop),Room k (A.deeper (iN qual (AA st) s.heap.objs.size f cdv))→XFly (zB P w K mg base N qual (AA st) f cdv A outer s H E O Ξ).X (zB P w K mg base N qual (AA st) f cdv A outer s H E O Ξ).W→
   ∀ts Φ,sp ts O Φ Ξ→FU (zB P w K mg base N qual (AA st) f cdv A outer s H E O Ξ) (Cv N ts) O (Ai st) {nx:=fun _ O'=>Φ .non O',rt:=Φ}):FnOk P w K mg base (CXe P w) (k+1) f fd ps (Ce K sp):=by
 refine F.okX S (fun vs H Q E h=>?_) (fun cdv A outer s H vs Q E hr h1=>?_)
 ·obtain⟨ts,O,Φ,Ξ,r,_,q,_⟩:=h
  rw[r.length];exact len ts O Φ Ξ q
 ·obtain⟨ts,O,Φ,Ξ,r,ok,q,acc,ex⟩:=h1
  refine⟨_,h cdv A outer s H E O Ξ hr (XFly.mono Aw.f ?_) ts Φ q,⟨GX r,.refl ok⟩,?_⟩
  ·rintro σ cls H' ⟨_,O',x,f⟩
   exact ex cls O' H' x f
  ·exact⟨fun ρ' O' σ' H' p a _=>acc _ _ _ O' p a.fr .non,fun v H' t O' p f r=>acc v H' t O' p f r,fun _ _ _ _ z=>z.elim,fun _ _ _ _ z=>z.elim⟩
def Uo(S:Scope)(N:List Str)(csc:Scope)(cap:List (Str×Nat)):Bool:=
 decide (csc.kind=.function)&&csc.names.all (fun y=>decide (y.2=.cell→csc.names.lookup y.1=some .cell))&&csc.names.all (fun y=>decide (y.2=.local→csc.names.lookup y.1=some .local))&&csc.names.all (fun y=>decide (y.2=.free→S.names.lookup y.1=some .cell∨S.names.lookup y.1=some .free))&&cap.all (fun p=>decide (N[p.2]?=some p.1∧csc.names.lookup p.1=some .free))
theorem Bl{X:Cx}{csc:Scope}{nc:List Str}{cap:List (Str×Nat)}(S:Scope)(N:List Str)(chk:Uo S N csc cap=true)(h1:X.env.scope=S:=by rfl)(h2:X.N=N:=by rfl):LcOk X csc nc cap:=by
 unfold Uo at chk
 simp only[dS,e6,decide_eq_true_eq] at chk
 obtain⟨⟨⟨⟨c1,c2⟩,c3⟩,c4⟩,c5⟩:=chk
 exact⟨c1,c2,c3,by rw[h1];exact c4,by rw[h2];exact c5⟩
section
variable{Z:Zx}{ρ:List (Option T)}{O:AI}{elt tg iter:Expr}{ifs:List Expr}{csc:Scope}{nc:List Str}{cap:List (Str×Nat)}{Φ:BH}{pos:Pos}{α:Type}
theorem EL{F:List T→AI→Prop}(xs:List α)(f g:α→T)(hl:xs.length≤sizeLine)(h:∀x,x∈xs→∃ρ4,∀X' Oe He,LcCx Z.X csc (Ag nc cap) X'→∀O',(WG (zc X' Oe He) nc.length (HF nc ρ cap) O' tg (f x) ρ4∧ET (zc X' Oe He) ρ4 O' elt (g x)))(fin:F (xs.map g) O):Sz Z ρ elt tg [] csc nc cap F (xs.map f) O:=by
 refine⟨fun i acc O'=>O'=O∧acc=(xs.take i).map g,⟨rfl,by simp⟩,?_,?_⟩
 ·rintro i t acc O' p e ⟨rfl,rfl⟩ np
  rw[b8] at e
  cases ex:xs[i]? with
  |none=>rw[ex] at e;cases e
  |some x=>
   rw[ex] at e
   cases e
   obtain⟨ρ4,w⟩:=h x (dc ex)
   have hi:=(dj.mp ex).1
   refine⟨ρ4,fun X' Oe He is=> ⟨(w X' Oe He is _).1,EH (IR fun X' Oe He is=> (w X' Oe He is _).2 _ ⟨_,rfl,np,?_,rfl,?_⟩)⟩⟩
   ·simp;omega
   ·rw[fW,ex];simp
 ·rintro acc O' ⟨rfl,rfl⟩
  rw[a9,fR]
  exact fin
theorem KS{F:List T→AI→Prop}{c:Expr}(xs:List α)(f g:α→T)(q:α→Bool)(hl:xs.length≤sizeLine)(h:∀x,x∈xs→∃ρ4,∀X' Oe He,LcCx Z.X csc (Ag nc cap) X'→∀O',(WG (zc X' Oe He) nc.length (HF nc ρ cap) O' tg (f x) ρ4∧EB (zc X' Oe He) ρ4 O' c (q x)∧(q x=true→ET (zc X' Oe He) ρ4 O' elt (g x))))(fin:F ((xs.filter q).map g) O):Sz Z ρ elt tg [c] csc nc cap F (xs.map f) O:=by
 refine⟨fun i acc O'=>O'=O∧acc=((xs.take i).filter q).map g,⟨rfl,by simp⟩,?_,?_⟩
 ·rintro i t acc O' p e ⟨rfl,rfl⟩ np
  rw[b8] at e
  cases ex:xs[i]? with
  |none=>rw[ex] at e;cases e
  |some x=>
   rw[ex] at e
   cases e
   obtain⟨ρ4,w⟩:=h x (dc ex)
   have hi:=(dj.mp ex).1
   refine⟨ρ4,fun X' Oe He is=> ⟨(w X' Oe He is _).1,FV ((w X' Oe He is _).2.1 _ ?_)⟩⟩
   cases hq:q x with
   |true=>
    refine IR fun X' Oe He is=> (w X' Oe He is _).2.2 hq _ ⟨_,rfl,np,?_,rfl,?_⟩
    ·have:=jA q (xs.take i)
     simp at this ⊢;omega
    ·rw[fW,ex];simp[hq]
   |false=>
    refine Nx ⟨_,rfl,np,rfl,?_⟩
    rw[fW,ex];simp[hq]
 ·rintro acc O' ⟨rfl,rfl⟩
  rw[a9,fR]
  exact fin
theorem CK(nc:List Str)(cap:List (Str×Nat))(xs:List α)(f g:α→T)(hc:Z.X.calm=true)(ok:LcOk Z.X csc nc cap)(hi:EI Z ρ O tg iter (xs.map f))(hl:xs.length≤sizeLine)(h:∀x,x∈xs→∃ρ4,∀X' Oe He,LcCx Z.X csc (Ag nc cap) X'→∀O',(WG (zc X' Oe He) nc.length (HF nc ρ cap) O' tg (f x) ρ4∧ET (zc X' Oe He) ρ4 O' elt (g x)))
  (hs:∀x,fL iter Z.X.env x=pure x:=by intro _;rfl):ET Z ρ O (.ListComp elt [⟨tg,iter,[],0⟩] csc pos) (.lst (xs.map g)):=fun Φ p=>Hl hc ok (hi _ (EL xs f g hl h p)) hs
theorem Li(nc:List Str)(cap:List (Str×Nat)){c:Expr}(xs:List α)(f g:α→T)(q:α→Bool)(hc:Z.X.calm=true)(ok:LcOk Z.X csc nc cap)(hi:EI Z ρ O tg iter (xs.map f))(hl:xs.length≤sizeLine)(h:∀x,x∈xs→∃ρ4,∀X' Oe He,LcCx Z.X csc (Ag nc cap) X'→∀O',(WG (zc X' Oe He) nc.length (HF nc ρ cap) O' tg (f x) ρ4∧EB (zc X' Oe He) ρ4 O' c (q x)∧(q x=true→ET (zc X' Oe He) ρ4 O' elt (g x))))
  (hs:∀x,fL iter Z.X.env x=pure x:=by intro _;rfl):ET Z ρ O (.ListComp elt [⟨tg,iter,[c],0⟩] csc pos) (.lst ((xs.filter q).map g)):=fun Φ p=>Hl hc ok (hi _ (KS xs f g q hl h p)) hs
end
mutual
def SH:T→Bool
 | .tup ts=>plBs ts
 | .lst ts=>plBs ts
 | .frz ts=>plBs ts
 | .raw _=>false
 | .non=>true
 | .bl _=>true
 | .int _=>true
 | .str _=>true
 | .dct=>true
def plBs:List T→Bool
 | []=>true
 |t::ts=>SH t&&plBs ts
end
theorem Mv{t:T}(h:SH t=true):Az t=false:=by
 cases t<;>first|rfl| (unfold SH at h;cases h)
theorem KU:∀{ts:List T},plBs ts=true↔∀t∈ts,SH t=true
 | []=>by unfold plBs;simp
 |t::ts=>by unfold plBs;simp[KU (ts:=ts)]
theorem Mw{ts:List T}:SH (.tup ts)=true↔∀t∈ts,SH t=true:=by
 have e:SH (.tup ts)=plBs ts:=by rw[SH]
 rw[e];exact KU
section
variable{Z:Zx}{ρ:List (Option T)}{O:AI}{e:Expr}{es:List Expr}{Φ:BH}{Ψ:Es}{pos p:Pos}{ts:List T}{x:Str}
theorem EA.wa{Φ:Lc}(h:EA Z ρ O es ts)(p:Φ ts O):WA Z ρ O es Φ:=h Φ p
theorem EI.wi{tg iter:Expr}{Φ:Lc}(h:EI Z ρ O tg iter ts)(p:Φ ts O):WI Z ρ O tg iter Φ:=h Φ p
theorem Mx{l:Addr}(hl:Z.Oe l=none)(h:WE Z ρ O e fun t O'=>Ψ.rt t (Bo O' l)):WS Z ρ O (.Return (some e) pos) Ψ:=PS.weak (IM h) fun D σ H q=> ⟨q.1,fun v H' t O' p f r=>by
 have f':=q.1.fr.trans f
 refine q.2.rt v H' t _ p ⟨f'.kp.trans Bp,fun b us e=>?_,f'.ok.drop⟩ (r.kp Bp f'.ok)
 obtain⟨us',e'⟩:=f'.own b us e
 have:b≠l:=fun z=>by rw[z,hl] at e;cases e
 exact⟨us',by rw[DP this];exact e'⟩⟩
theorem OR{l:Addr}(m:Z.X.mg "tuple" =none)(ho:O l=some ts)(h:ET Z ρ O e (.raw (.ref l)))(hg:Gl Z.X "tuple":=by rfl)(he:b4 [e] Z.X.env=(false,eval e Z.X.env)::b4 [] Z.X.env:=by rfl):ET Z ρ O (.Call (.Name "tuple" p) [e] [] pos) (.tup ts):=
 Hk FG m Io (AJ h AC he) (fun Φ q H vs Q ok r k=>by
  obtain⟨v,rfl,r1⟩:=r.one_inv
  cases r1.raw_inv
  obtain⟨xs,h1,r1⟩:=ok l ts ho
  exact⟨l,xs,rfl,.inl (.inl h1),fun p hp=>k _ _ _ O q (.new ok hp) (.tup AZ (r1.kp (Cp ok hp) ok))⟩) hg (by decide) (by decide) he
theorem QI{k:Nat}{f:Addr}{fd:dM}{ps:List Str}{sp:Sp}(F:FnOk Z.X.prog Z.X.w Z.X.K Z.X.mg Z.X.base (CXe Z.X.prog Z.X.w) k f fd ps sp)(hm:Z.X.mg x=some (.ref f))(hk:gW Z.X.K (.ref f)=true)(hb:Binds Z.X.K fd ps [])(hr:Room k Z.X.A)(xf:XFly Z.X Z.W)(h:EA Z ρ O (e::es) ts)
  (w:∀σ H vs Q,Asr Z ρ O σ H→Reps Z.K O H vs ts→Acc Z.K O H Φ Q→sp vs H Q (Z.W σ)) (hg:Gl Z.X x:=by rfl)
  (hdb:(x==("__debug__" :Str))=false:=by decide) (he:b4 (e::es) Z.X.env=(false,eval e Z.X.env)::b4 es Z.X.env:=by rfl) (hpl:(gI pos (b4 es Z.X.env)).any (·.1)=false:=by rfl):WE Z ρ O (.Call (.Name x p) (e::es) [] pos) Φ:=by
 refine PE.weak (Jr xf F hr hg hm hk hb (HD (ρ:=ρ)) hdb he hpl) fun σ H Q q=>?_
 refine⟨O,_,h (fun us O'=>us=ts∧O'=O) ⟨rfl,rfl⟩,q.1,?_⟩
 rintro vs H1 _ _ ⟨rfl,rfl⟩ f r
 exact w σ H1 vs Q (q.1.step f) r (q.2.step f)
end
def BB:Expr→Bool
 | .Starred .. =>false
 |_=>true
theorem BU{e:Expr}{es:List Expr}{env:Env}(h:BB e=true):b4 (e::es) env=(false,eval e env)::b4 es env:=by
 cases e<;>first|rfl|cases h
section
variable{Z:Zx}{ρ:List (Option T)}{O:AI}{e:Expr}{es:List Expr}{t:T}{ts:List T}
theorem AE(h:ET Z ρ O e t)(hr:EA Z ρ O es ts)(hn:BB e=true:=by rfl):EA Z ρ O (e::es) (t::ts):=AJ h hr (BU hn)
theorem BQ{Φ:Lc}(h:WE Z ρ O e fun t O1=>WA Z ρ O1 es fun ts O2=>Φ (t::ts) O2)(hn:BB e=true:=by rfl):WA Z ρ O (e::es) Φ:=BW h (BU hn)
theorem Bw{a b:Expr}{i j:Int}{k:Nat}{pos:Pos}(ha:ET Z ρ O a (.int i))(hb:ET Z ρ O b (.int j))(h1:BB a=true:=by rfl)(h2:BB b=true:=by rfl):ET Z ρ O (.Tuple [a,b] k pos) (AF (i,j)):=BM (AE ha (AE hb AC h2) h1) (by show 2≤sizeLine;decide)
theorem bD{p:Int×Int}{ps:List (Int×Int)}(h:ET Z ρ O e (AF p))(hr:EA Z ρ O es (ps.map AF))(hn:BB e=true:=by rfl):EA Z ρ O (e::es) ((p::ps).map AF):=AE h hr hn
end
theorem Hm{O:AI}{p l:Addr}{xs ys:List T}(h:O l=none)(hp:p≠l):Bo (Ac (Ac O p xs) l ys) l=Ac O p xs:=by
 refine BJ ?_
 rw[AN (Ne.symm hp)];exact h
theorem KW{O:AI}{p:Addr}{xs:List T}(h:O p=some xs):Ac O p xs=O:=by
 funext b
 by_cases hb:b=p
 ·rw[hb,AG,h]
 ·rw[AN hb]
theorem Lj{O:AI}{p l:Addr}{xs:List T}(h:O p=some xs)(hl:O l=none):p≠l:=fun z=>by rw[z,hl] at h;cases h
def Wg:Expr→Bool
 | .ListComp .. =>false
 | .SetComp .. =>false
 | .DictComp .. =>false
 |_=>true
theorem QJ{e:Expr}{t:Option Expr}{l:Nat}{env:Env}(h:Wg e=true):jC e t l env=pure false:=by
 cases e<;>first|rfl|cases h
section
variable{Z:Zx}{ρ:List (Option T)}{O:AI}{e:Expr}{es:List Expr}{t:T}{ts:List T}{Φ:BH}{Ψ:Es}{pos p2:Pos}{x:Str}
theorem TM(i:Nat)(h:EA Z ρ O es ts)(hl:ts.length≤sizeLine)(k:Ψ.nx (ρ.set i (some (.lst ts))) O)(hN:Z.X.N.Nodup){pos':Pos}(hi:Z.X.N[i]?=some x:=by rfl)(hx:Oh Z.X.env.scope x:=by first|exact kg rfl|exact ke rfl)
  (hf:Z.X.fn x=true∨Z.X.env.scope.names.lookup x=some .local:=by first|exact .inl rfl|exact .inr rfl):WS Z ρ O (.Assign [.Name x pos'] (.List es p2) pos) Ψ:=
 AS i (ET.we (DQ h hl) k) hN hi hx (QJ rfl) hf
inductive CPs:List Expr→List (Int×Int)→Prop
 |nil:CPs [] []
 |cons {a b:Int} {k1 k2 k3:Nat} {q1 q2 q3:Pos} {es:List Expr} {ps:List (Int×Int)}:CPs es ps→CPs (.Tuple [.Constant (.int a) k1 q1,.Constant (.int b) k2 q2] k3 q3::es) ((a,b)::ps)
theorem CPs.ea{ps:List (Int×Int)}(h:CPs es ps):EA Z ρ O es (ps.map AF):=by
 induction h with
 |nil=>exact AC
 |cons _ ih=>exact bD (Bw AB AB) ih
structure HEA(Z:Zx)(ρ:List (Option T))(O:AI)(es:List Expr)(ts:List T):Prop where
 out:EA Z ρ O es ts
theorem CPs.hea{ps:List (Int×Int)}(h:CPs es ps):HEA Z ρ O es (ps.map AF):=⟨h.ea⟩
theorem My(i:Nat)(h:HEA Z ρ O es ts)(hl:ts.length≤sizeLine)(k:Ψ.nx (ρ.set i (some (.lst ts))) O)(hN:Z.X.N.Nodup){pos':Pos}(hi:Z.X.N[i]?=some x)(hx:Oh Z.X.env.scope x)
  (hf:Z.X.fn x=true∨Z.X.env.scope.names.lookup x=some .local):WS Z ρ O (.Assign [.Name x pos'] (.List es p2) pos) Ψ:=TM i h.out hl k hN hi hx hf
structure HS(Z:Zx)(ρ:List (Option T))(O:AI)(ss:List Stmt)(Ψ:Es):Prop where
 out:FU Z ρ O ss Ψ
theorem AW{s:Stmt}{ss:List Stmt}(h:WS Z ρ O s {Ψ with nx:=fun ρ' O'=>HS Z ρ' O' ss Ψ}):HS Z ρ O (s::ss) Ψ:=
 ⟨AD (Mn h (fun _ _ z=>z.out) (fun _ _ z=>z) (fun _ _ z=>z) (fun _ _ z=>z))⟩
theorem Ir{s:Stmt}(h:WS Z ρ O s Ψ):HS Z ρ O [s] Ψ:=⟨AH h⟩
theorem KY{k:Bool}{c:Expr}{ea ss:List Stmt}(hc:EB Z ρ O c k)(h1:k=true→HS Z ρ O ea {Ψ with nx:=fun ρ' O'=>HS Z ρ' O' ss Ψ})(h2:k=false→HS Z ρ O ss Ψ):HS Z ρ O (.If c ea [] pos::ss) Ψ:=
 AW (Af hc (fun h=> (h1 h).out) (fun h=>Ah (h2 h)))
theorem TN{P:Program}{w:World}{K:a5}{mg:Str→Option Value}{base:Heap}{x qual:Str}{st:Stmt}{f:Addr}{fd:dM}{N ps:List Str}{k:Nat}{sp:Bu}(F:Fun K x qual st f fd)(S:FnScope N ps (AA st))(len:∀ts O Φ Ξ,sp ts O Φ Ξ→ts.length=ps.length)
  (h:∀(cdv:Value) (A:dy) (outer:List Env) (s:a7) (H:Hp) (E:XK) (O:AI) (Ξ:Value→AI→Prop),Room k (A.deeper (iN qual (AA st) s.heap.objs.size f cdv))→XFly (zB P w K mg base N qual (AA st) f cdv A outer s H E O Ξ).X (zB P w K mg base N qual (AA st) f cdv A outer s H E O Ξ).W→
   ∀ts Φ,sp ts O Φ Ξ→HS (zB P w K mg base N qual (AA st) f cdv A outer s H E O Ξ) (Cv N ts) O (Ai st) {nx:=fun _ O'=>Φ .non O',rt:=Φ}):FnOk P w K mg base (CXe P w) (k+1) f fd ps (Ce K sp):=
 AY F S len fun cdv A outer s H E O Ξ hr xf ts Φ q=> (h cdv A outer s H E O Ξ hr xf ts Φ q).out
end
section
variable{X:Cx}{a b c d:Expr}{ta tb tc td:TE}{pos:Pos}
end
section
variable{Z:Zx}{ρ:List (Option T)}{O:AI}{a b c d:Expr}{pos:Pos}{i j k l:Int}
end
end L2.TL
namespace L2
open PySem PySem.Spec PySem.Calls PyProof.Rows
section
variable{prog:Program}{w:World}{A:dy}{E:Value→a7→Prop}{s:a7}
theorem Lk{l:Addr}{o:Obj}{vs:List Value}{n:Nat}{ns:List Int}{Q:Value→a7→Prop}(ho:s.heap.get? l=some o)(hc:o.cls=.type "tuple")(hd:o.data=.seq vs.toArray n)(hI:IntsAre vs ns)(h64:vs.length<64)
  (h:∀(h':Heap) (a:Addr) (out:List Value) (ms:List Int) (c:Nat),s.heap.get? a=none→h'.get? a=some (eQ "list" out.toArray c)→(∀b o,s.heap.get? b=some o→h'.get? b=some o)→IntsAre out ms→ms.Perm ns→ms.Pairwise (·≤·)→Q (.ref a) {s with heap:=h'}):
  wpAny (model prog w) A (call (.builtin "sorted") [.ref l]) Q E s:=by
 refine Calls.call_function_entry mO me mh (ml _) ?_
 unfold Builtin.«sorted»
 refine a6 (m:=checkCount "sorted" 1 1 _) (b5 ?_)
 refine a6 (wpAny_collect_seq l (.inr rfl) ho hc hd (fun h1 hk1=>?_) (by rw[du,e8];omega))
 show wpAny _ _ (newList vs>>=_) _ _ _
 refine a6 (jG ?_ (by rw[e8];omega))
 have hoL:(h1.push (eQ "list" vs.toArray 0)).get? h1.objs.size=some (eQ "list" vs.toArray 0):=dN _ rfl
 show wpAny _ _ _ _ _ {s with heap:=h1.push (eQ "list" vs.toArray 0)}
 refine a6 (eW (gS lC ⟨_,hoL,rfl⟩ k7 (list_sort_tree hoL hI h64 fun out ms a1 a2 a3=> ⟨_,rfl,?_⟩) (lH _)))
 refine b5 ⟨_,rfl,?_⟩
 obtain⟨c,hcat⟩:=sortedHeap_at (out:=out) hoL
 refine h _ h1.objs.size out.toList ms c ?_ hcat (fun b o e=>?_) a1 a2 a3
 ·cases e:s.heap.get? h1.objs.size with
  |none=>rfl
  |some o'=>exact absurd (dr (hk1 _ _ e)) (e9 _)
 ·have hlt:=dr (hk1 b o e)
  rw[sortedHeap_old (dU hlt) (by rw[size_push'];exact gq hlt)]
  exact c9 _ (hk1 b o e)
end
section
variable{X:Cx}
def Wh(K:a5):List V→Hp→VK→Prop:=fun xs H Q=>∃(a:Addr) (ns:List Int),xs=[.ref a]∧IJ K H a (ns.map V.int)∧ns.length<64∧∀(p:Addr) (ms:List Int),H p=none→ms.Perm ns→ms.Pairwise (·≤·)→Q (.ref p) (upd H p (.lst (ms.map V.int)))
theorem Iu:Av X (.builtin "sorted") (Wh X.K):=by
 intro pins s σ H xs us Q I r h
 obtain⟨a,ns,rfl,hS,hl,q⟩:=h
 obtain⟨u,rfl,ru⟩:=Vals.one r
 cases ru
 obtain⟨its,rv,⟨o,e1,e2,n,e3⟩,_⟩:=I.tuple hS
 have hi:=Fo rv
 have hlen:its.length<64:=by have:=rv.length;simp at this;omega
 refine Lk e1 e2 e3 hi hlen fun h' b out ms c hb hg hk hI pm pw=>?_
 have hf:H b=none:=I.hok.none_of hb
 refine⟨.ref b,upd H b (.lst (ms.map V.int)),I.laidF (t':=s.toks) hk hb ⟨?_,out,c,Ej hI,hg⟩,rfl,q b ms hf pm pw⟩
 rw[a9,pm.length_eq,e8]
 omega
theorem Hn:∀{ns ms:List Int},LM (ns.map V.int) (ms.map V.int)=decide (ns=ms)
 | [],[]=>rfl
 | [],_::_=>rfl
 |_::_,[]=>rfl
 |n::ns,m::ms=>by
  show(SF (V.int n) (V.int m)&&LM (ns.map V.int) (ms.map V.int))=_
  rw[Hn (ns:=ns) (ms:=ms)]
  have:SF (V.int n) (V.int m)=(n==m):=rfl
  rw[this]
  by_cases h1:n=m
  ·subst h1
   by_cases h2:ns=ms
   ·subst h2;simp
   ·simp[h2]
  ·simp[h1]
theorem Ho{ns:List Int}:(ns.map V.int).all Fp=true:=by
 rw[e6]
 intro x hx
 obtain⟨n,_,rfl⟩:=di.mp hx
 rfl
def bh(K:a5)(g:Bool→Bool):R2:=fun x y H Q=>∃(a b:Addr) (ns ms:List Int),x=.ref a∧y=.ref b∧Dj K H a (ns.map V.int)∧Dj K H b (ms.map V.int)∧Q (.bl (g (decide (ns=ms)))) H
theorem Wi(hu:X.A.units<cLine):DF X (fm .NotEq) (bh X.K (!·)):=by
 intro pins s σ H x y v u Q I rx ry h
 obtain⟨a,b,ns,ms,rfl,rfl,ha,hb,q⟩:=h
 by_cases hl:ns.length=ms.length
 ·refine Vx hu pins s σ H _ _ v u Q I rx ry ⟨a,b,_,_,rfl,rfl,ha,hb,Ho,Ho,by simpa using hl,?_⟩
  rw[Hn];exact q
 ·cases rx;cases ry
  obtain⟨its,r1,p1,z1⟩:=I.list ha
  obtain⟨its2,r2,p2,z2⟩:=I.list hb
  have l1:=r1.length
  have l2:=r2.length
  refine kZ.lists_lengths p1.isList p2.isList ?_ hu _ _ _ _ ⟨.bl _,H,I,rfl,?_⟩
  ·simp only[du,bne_iff_ne,ne_eq]
   simp at l1 l2
   omega
  ·have:decide (ns=ms)=false:=decide_eq_false fun z=>hl (by rw[z])
   rw[this] at q
   exact q
end
end L2
namespace L2.TL
open PySem PySem.Spec PySem.Calls PyProof.Rows
mutual
def dT:T→gE
 | .non=> .none
 | .bl b=> .bool b
 | .int i=> .int i
 | .str x=> .str x
 | .tup ts=> .tuple (dTs ts)
 | .lst ts=> .list (dTs ts)
 | .frz _=> .none
 | .dct=> .none
 | .raw _=> .none
def dTs:List T→List gE
 | []=> []
 |t::ts=>dT t::dTs ts
end
section
variable{K:a5}{O:AI}{H:Hp}{P:Program}{w:World}{h:Heap}
end
section
variable{X:Cx}
end
theorem XOk.mono{X:Cx}{W W':St→XK}(x:XOk X W)(h:∀σ cls H',W' σ cls none H'→W σ cls none H'):XOk X W':=
 ⟨fun pins σ H s h' y C I m q=>x.made pins σ H s h' y C I m (h σ _ H q),(XFly.mono x.f h).fly,x.own,fun pins σ H s y C t dx fs I a b c d q=>x.madeF pins σ H s y C t dx fs I a b c d (h σ _ H q)⟩
theorem FY{P:Program}{w:World}{K:a5}{mg:Str→Option Value}{base:Heap}{x qual:Str}{st:Stmt}{f:Addr}{fd:dM}{N ps:List Str}{k:Nat}{sp:Bu}(F:Fun K x qual st f fd)(S:FnScope N ps (AA st))(len:∀ts O Φ Ξ,sp ts O Φ Ξ→ts.length=ps.length)
  (h:∀(cdv:Value) (A:dy) (outer:List Env) (s:a7) (H:Hp) (E:XK) (O:AI) (Ξ:Value→AI→Prop),Room k (A.deeper (iN qual (AA st) s.heap.objs.size f cdv))→XOk (zB P w K mg base N qual (AA st) f cdv A outer s H E O Ξ).X (zB P w K mg base N qual (AA st) f cdv A outer s H E O Ξ).W→
   ∀ts Φ,sp ts O Φ Ξ→FU (zB P w K mg base N qual (AA st) f cdv A outer s H E O Ξ) (Cv N ts) O (Ai st) {nx:=fun _ O'=>Φ .non O',rt:=Φ}):FnOk P w K mg base (CXe P w) (k+1) f fd ps (Ce K sp):=by
 refine F.okX S (fun vs H Q E h=>?_) (fun cdv A outer s H vs Q E hr h1=>?_)
 ·obtain⟨ts,O,Φ,Ξ,r,_,q,_⟩:=h
  rw[r.length];exact len ts O Φ Ξ q
 ·obtain⟨ts,O,Φ,Ξ,r,ok,q,acc,ex⟩:=h1
  refine⟨_,h cdv A outer s H E O Ξ hr (XOk.mono Aw ?_) ts Φ q,⟨GX r,.refl ok⟩,?_⟩
  ·rintro σ cls H' ⟨_,O',x,f⟩
   exact ex cls O' H' x f
  ·exact⟨fun ρ' O' σ' H' p a _=>acc _ _ _ O' p a.fr .non,fun v H' t O' p f r=>acc v H' t O' p f r,fun _ _ _ _ z=>z.elim,fun _ _ _ _ z=>z.elim⟩
theorem CY{K:a5}{O:AI}{H:Hp}:∀(ns:List Int),Reps K O H (ns.map V.int) (ns.map T.int)
 | []=> .nil
 |n::ns=> .cons (.int n) (CY ns)
section
variable{Z:Zx}{ρ:List (Option T)}{O:AI}{e a b:Expr}{es:List Expr}{Ψ:Es}{Φ:BH}{pos p:Pos}{t:T}{ts:List T}
theorem BV{x:Str}{C:Addr}{np cpos:Pos}(xo:XOk Z.X Z.W)(hc:Z.X.calm=true)(hm:Z.X.mg x=some (.ref C))(q:fQ Z.X.K C Ft "ValueError.__new__" =true)(h:Z.Xi (.ref C) O)(hg:Gl Z.X x:=by rfl)
  (hd:(x==("__debug__" :Str))=false:=by decide):WS Z ρ O (.Raise (some (.Call (.Name x np) [] [] cpos)) none pos) Ψ:=
 PS.weak (Nz xo hc hg hm q hd) fun D σ H k=> ⟨rfl,O,h,k.1.fr⟩
theorem Ll{ns:List Int}(m:Z.X.mg "sorted" =none)(h:ET Z ρ O e (.tup (ns.map T.int)))(hl:ns.length<64)(k:∀ms:List Int,ms.Perm ns→ms.Pairwise (·≤·)→Φ (.lst (ms.map T.int)) O)(hg:Gl Z.X "sorted":=by rfl)
  (he:b4 [e] Z.X.env=(false,eval e Z.X.env)::b4 [] Z.X.env:=by rfl):WE Z ρ O (.Call (.Name "sorted" p) [e] [] pos) Φ:=
 GR Iu m Ip (AJ h AC he _ (fun H vs Q ok r q=>by
  obtain⟨v,rfl,r1⟩:=r.one_inv
  obtain⟨a,xs,rfl,h1,r1⟩:=r1.tup_inv
  cases r1.ints
  exact⟨a,ns,rfl,.inl (.inl h1),hl,fun p ms hp pm pw=>q _ _ _ O (k ms pm pw) (.new ok hp) (.lst AZ (ok.none_of hp) (CY ms))⟩)) hg (by decide) (by decide) he
end
section
variable{Z:Zx}{ρ:List (Option T)}{O:AI}{e:Expr}{es:List Expr}{t:T}{ts us:List T}{Φ:BH}{Ψ:Es}{pos p2 p3 p4:Pos}{x:Str}
end
section
variable{Z:Zx}{ρ:List (Option T)}{O:AI}{es:List Expr}{ts:List T}{Ψ:Es}{pos p:Pos}{tg iter:Expr}{body:List Stmt}
structure HWE(Z:Zx)(ρ:List (Option T))(O:AI)(e:Expr)(Φ:BH):Prop where
 out:WE Z ρ O e Φ
theorem TQ(hp:j5 (model Z.X.prog Z.X.w) Z.X.A Z.X.env Z.X.xe)(hc:Z.X.calm=true)(h:HWE Z ρ O iter fun t O'=>∃ts,t=.lst ts∧∃I:Nat→HE,I 0 ρ O'∧
  (∀i t ρ' O',ts[i]?=some t→I i ρ' O'→∃ρ2,WG Z Z.X.N.length ρ' O' tg t ρ2∧HS Z ρ2 O' body {nx:=I (i+1),rt:=Ψ.rt,bk:=Ψ.nx,ct:=I (i+1)})∧∀ρ' O',I ts.length ρ' O'→Ψ.nx ρ' O')
  (hs:∀x,fL iter Z.X.env x=pure x):WS Z ρ O (.For tg iter body [] pos) Ψ:=
 CJ hp hc (Mp (Da h.out (by
  rintro t O' ⟨ts,e,I,i0,st,fin⟩
  refine⟨ts,e,I,i0,fun i t ρ' O' e x=>?_,fin⟩
  obtain⟨ρ2,a,b⟩:=st i t ρ' O' e x
  exact⟨ρ2,a,b.out⟩))) hs
theorem ZC{P:Program}{w:World}{K:a5}{mg:Str→Option Value}{base:Heap}{x qual:Str}{st:Stmt}{f:Addr}{fd:dM}{N ps:List Str}{k:Nat}{sp:Sp}(F:Fun K x qual st f fd)(S:FnScope N ps (AA st))(len:∀vs H Q E,sp vs H Q E→vs.length=ps.length)
  (h:∀(cdv:Value) (A:dy) (outer:List Env) (s:a7) (H:Hp) (vs:List V) (Q:VK) (E:XK),Room k (A.deeper (iN qual (AA st) s.heap.objs.size f cdv))→sp vs H Q E→
   ∃ts O Φ Ξ,Reps K O H vs ts∧OwnOk K O H∧(XFly (zB P w K mg base N qual (AA st) f cdv A outer s H E O Ξ).X (zB P w K mg base N qual (AA st) f cdv A outer s H E O Ξ).W→HS (zB P w K mg base N qual (AA st) f cdv A outer s H E O Ξ) (Cv N ts) O (Ai st) {nx:=fun _ O'=>Φ .non O',rt:=Φ})∧Acc K O H Φ Q∧∀cls O' H',Ξ cls O'→Frm K O H O' H'→E cls none H'):FnOk P w K mg base (CXe P w) (k+1) f fd ps sp:=by
 refine F.okX S len (fun cdv A outer s H vs Q E hr h1=>?_)
 obtain⟨ts,O,Φ,Ξ,r,ok,q,acc,ex⟩:=h cdv A outer s H vs Q E hr h1
 refine⟨_,(q (XFly.mono Aw.f ?_)).out,⟨GX r,.refl ok⟩,?_⟩
 ·rintro σ cls H' ⟨_,O',x,f⟩
  exact ex cls O' H' x f
 ·exact⟨fun ρ' O' σ' H' p a _=>acc _ _ _ O' p a.fr .non,fun v H' t O' p f r=>acc v H' t O' p f r,fun _ _ _ _ z=>z.elim,fun _ _ _ _ z=>z.elim⟩
end
def QK:AI:=fun _=>none
theorem QL{K:a5}{H:Hp}:OwnOk K QK H:=fun a ts e=>by cases e
theorem Up{K:a5}{H H':Hp}{O':AI}{a:Addr}{xs:List V}(k:Kp QK H O' H')(h:Dj K H a xs):Dj K H' a xs:=by
 rcases h with h|h
 ·refine .inl ?_
  rcases h with h| ⟨o,h⟩
  ·exact .inl (k a _ h rfl).1
  ·exact .inr ⟨o,(k a _ h rfl).1⟩
 ·exact .inr h
section
variable{Z:Zx}{ρ:List (Option T)}{O:AI}{e lo hi:Expr}{p p2 pos:Pos}{Φ:BH}
theorem Wj{a:Addr}{ns:List Int}{i j:Int}(ho:Z.Oe=QK)(hS:Dj Z.K Z.He a (ns.map V.int))(h:ET Z ρ O e (.raw (.ref a)))(h1:ET Z ρ O lo (.int i))(h2:ET Z ρ O hi (.int j))
  (k:∀ms:List Int,ms.length≤ns.length→Φ (.lst (ms.map T.int)) O):WE Z ρ O (.Subscript e (.Slice (some lo) (some hi) none p2) pos) Φ:=by
 refine PE.weak (PF SX (Be (ρ:=ρ)) (MV (Be (ρ:=ρ))) (MV (Be (ρ:=ρ)))) fun σ H0 Q q=>?_
 refine⟨O,_,h (fun t O'=>t=.raw (.ref a)∧O'=O) ⟨rfl,rfl⟩,q.1,?_⟩
 rintro v H1 _ _ ⟨rfl,rfl⟩ f1 r1
 refine⟨_,_,h1 (fun t O'=>t=.int i∧O'=_) ⟨rfl,rfl⟩,q.1.step f1,?_⟩
 rintro v2 H2 _ _ ⟨rfl,rfl⟩ f2 r2
 refine⟨i,r2.int_inv,_,_,h2 (fun t O'=>t=.int j∧O'=_) ⟨rfl,rfl⟩,q.1.step (f1.trans f2),?_⟩
 rintro v3 H3 _ _ ⟨rfl,rfl⟩ f3 r3
 refine⟨j,r3.int_inv,a,ns.map V.int,r1.raw_inv,Up (ho▸(q.1.step (f1.trans (f2.trans f3))).fr.kp) hS,fun l hl=>?_⟩
 have ff:=f1.trans (f2.trans f3)
 have e:Nu (ns.map V.int) (some i) (some j)=((ns.drop (HT.Jb (ns.map V.int).length 0 (some i))).take (HT.Jb (ns.map V.int).length (ns.map V.int).length (some j)-HT.Jb (ns.map V.int).length 0 (some i))).map V.int:=by
  unfold Nu
  rw[←List.map_drop,←List.map_take]
 rw[e]
 refine q.2 _ _ _ _ (k _ ?_) (ff.trans (.new ff.ok hl)) (.lst AZ (ff.ok.none_of hl) ((CY _).kp (Cp ff.ok hl) ff.ok))
 rw[eU,i9]
 omega
theorem QM{i:Int}{pos1:Pos}(m:Z.X.mg "list" =none)(m2:Z.X.mg "range" =none)(hc:Z.X.calm=true)(h:ET Z ρ O e (.int i))(h0:0≤i)(h1:i≤1000)
  (hg:Gl Z.X "list":=by rfl) (hg2:Gl Z.X "range":=by rfl) (he:b4 [e] Z.X.env=(false,eval e Z.X.env)::b4 [] Z.X.env:=by rfl) (he2:b4 [mL (.Name "range" p2) [e] [] pos1] Z.X.env=(false,eval (.Call (.Name "range" p2) [e] [] pos1) Z.X.env)::b4 [] Z.X.env:=by rfl):ET Z ρ O (.Call (.Name "list" p) [.Call (.Name "range" p2) [e] [] pos1] [] pos) (.lst (((dv i.toNat).map fun(i:Nat)=> (i:Int)).map T.int)):=fun Φ q=>by
 refine PE.weak (BI (GM hc) hg m KQ (DY (BI FH hg2 m2 Lh (HD (ρ:=ρ)) (by decide) (by decide) he) Ei he2) (by decide) (by decide) he2) fun σ H Q k=>?_
 refine⟨O,_,AJ h AC he (fun ts O'=>ts=[.int i]∧O'=O) ⟨rfl,rfl⟩,k.1,?_⟩
 rintro vs H1 _ _ ⟨rfl,rfl⟩ f r
 obtain⟨v,rfl,r1⟩:=r.one_inv
 cases r1.int_inv
 refine⟨i,rfl,fun p hp=> ⟨p,i,rfl,AZ,h0,h1,fun l hl=>?_⟩⟩
 have f1:=Frm.new (o:=.rng 0 i) f.ok hp
 refine k.2 _ _ _ _ q (f.trans (f1.trans (.new f1.ok hl))) (.lst AZ (f1.ok.none_of hl) ?_)
 rw[eJ]
 exact Reps.rngs _
theorem ZD{K:a5}{g:Bool→Bool}{ns ms:List Int}:RP K (bh K g) (.lst (ns.map T.int)) (.lst (ms.map T.int)) O (.bl (g (decide (ns=ms)))):=fun Φ p H v w Q ok r1 r2 q=>by
 obtain⟨a,xs,rfl,h1,_,r1⟩:=r1.lst_inv
 obtain⟨b,ys,rfl,h2,_,r2⟩:=r2.lst_inv
 cases r1.ints
 cases r2.ints
 exact⟨a,b,ns,ms,rfl,rfl,.inl (.inl h1),.inl (.inl h2),q _ H _ O p (.refl ok) (.bl _)⟩
end
mutual
def Dk:T→Bool
 | .non=>true
 | .bl _=>true
 | .int _=>true
 | .str x=>gE.strOk x
 | .tup ts=>rdBs ts
 | .lst ts=>rdBs ts
 | .frz _=>false
 | .dct=>false
 | .raw _=>false
def rdBs:List T→Bool
 | []=>true
 |t::ts=>Dk t&&rdBs ts
end
mutual
theorem Dt:∀(t:T),Dk t=true→(dT t).canLay0=true
 | .non,_=>rfl
 | .bl _,_=>rfl
 | .int _,_=>rfl
 | .str x,h=>by unfold Dk at h;exact h
 | .tup ts,h=>rds_lay ts (by unfold Dk at h;exact h)
 | .lst ts,h=>rds_lay ts (by unfold Dk at h;exact h)
 | .frz _,h=>by unfold Dk at h;cases h
 | .dct,h=>by unfold Dk at h;cases h
 | .raw _,h=>by unfold Dk at h;cases h
theorem rds_lay:∀(ts:List T),rdBs ts=true→gE.canLayAll0 (dTs ts)=true
 | [],_=>rfl
 |t::ts,h=>by
  unfold rdBs at h
  rw[dS] at h
  show(gE.canLay0 (dT t)&&gE.canLayAll0 (dTs ts))=true
  rw[Dt t h.1,rds_lay ts h.2];rfl
end
section
variable{K:a5}{O:AI}{H:Hp}{P:Program}{w:World}{h:Heap}
mutual
theorem Rep.rd (hok:HOk P w H h):∀{v:V} {t:T} {u:Value},Rep K O H v t→Dk t=true→RelV v u→∃as,Reads h u (dT t) as
 |_,_,_,.non,_,r=>by cases r;exact⟨_,.none⟩
 |_,_,_,.bl b,_,r=>by cases r;exact⟨_,.bool b⟩
 |_,_,_,.int i,_,r=>by obtain⟨t,rfl⟩:=r;exact⟨_,.int i t⟩
 |_,_,_,.str x,_,r=>by obtain⟨t,rfl⟩:=r;exact⟨_,.str x t⟩
 |_,_,_,.tup (ts:=ts) e q,g,r=>by
  cases r
  obtain⟨_,its,rv,⟨o,e1,e2,n,e3⟩⟩:=(show ObjOk P w H h _ (.tup _) from hok _ _ e)
  obtain⟨as,ra⟩:=Reps.rd hok q (by unfold Dk at g;exact g) rv
  exact⟨_,.tuple (vs:=its.toArray) e1 e2 e3 (by simpa using ra)⟩
 |_,_,_,.lst (ts:=ts) e _ q,g,r=>by
  cases r
  obtain⟨_,its,n,rv,e1⟩:=(show ObjOk P w H h _ (.lst _) from hok _ _ e)
  obtain⟨as,ra⟩:=Reps.rd hok q (by unfold Dk at g;exact g) rv
  exact⟨_,.list (vs:=its.toArray) e1 rfl rfl (by simpa using ra)⟩
 |_,_,_,.frz _ _,g,_=>by unfold Dk at g;cases g
 |_,_,_,.dct _,g,_=>by unfold Dk at g;cases g
 |_,_,_,.raw v,g,_=>by unfold Dk at g;cases g
theorem Reps.rd (hok:HOk P w H h):∀{vs:List V} {ts:List T} {us:List Value},Reps K O H vs ts→rdBs ts=true→Vals vs us→∃as,ReadsAll h us (dTs ts) as
 |_,_,_,.nil,_,r=>by cases r;exact⟨_,.nil⟩
 |_,_,_,.cons a b,g,.cons r1 r2=>by
  unfold rdBs at g
  rw[dS] at g
  obtain⟨as,x⟩:=Rep.rd hok a g.1 r1
  obtain⟨bs,y⟩:=Reps.rd hok b g.2 r2
  exact⟨_,.cons x y⟩
end
end
section
variable{X:Cx}
def rD(K:a5)(g:gE→gE→Bool):R2:=fun x y H Q=>∃O t u,Rep K O H x t∧Rep K O H y u∧Dk t=true∧Dk u=true∧(dT t).depth≤100∧Q (.bl (g (dT t) (dT u))) H
theorem QN(hu:X.A.units+101<cLine):DF X (fm .Eq) (rD X.K fun a b=>gX a b):=by
 intro pins s σ H x y v u Q I rx ry h
 obtain⟨O,t,t',r1,r2,g1,g2,hd,q⟩:=h
 obtain⟨as,ra⟩:=Rep.rd I.hok r1 g1 rx
 obtain⟨bs,rb⟩:=Rep.rd I.hok r2 g2 ry
 exact SeqAt.compareEq_reads ra rb (Dt t g1) (Dt t' g2) (by omega) ⟨.bl _,H,I,rfl,q⟩
theorem Lm(hu:X.A.units+101<cLine):DF X (fm .NotEq) (rD X.K fun a b=>!gX a b):=by
 intro pins s σ H x y v u Q I rx ry h
 obtain⟨O,t,t',r1,r2,g1,g2,hd,q⟩:=h
 obtain⟨as,ra⟩:=Rep.rd I.hok r1 g1 rx
 obtain⟨bs,rb⟩:=Rep.rd I.hok r2 g2 ry
 exact SeqAt.compareNe_reads ra rb (Dt t g1) (Dt t' g2) (by omega) ⟨.bl _,H,I,rfl,q⟩
def bj(K:a5)(g:Bool→Bool):R2:=fun x y H Q=>∃O t us,Rep K O H x t∧(Rep K O H y (.tup us)∨Rep K O H y (.lst us))∧Dk t=true∧rdBs us=true∧(dT t).depth≤100∧Q (.bl (g ((dTs us).any fun y=>gX y (dT t)))) H
theorem Wl(hu:X.A.units+102<cLine):DF X (fm .NotIn) (bj X.K (!·)):=by
 intro pins s σ H x y v u Q I rx ry h
 obtain⟨O,t,us,r1,r2,g1,g2,hd,q⟩:=h
 obtain⟨as,ra⟩:=Rep.rd I.hok r1 g1 rx
 rcases r2 with r2|r2
 ·obtain⟨bs,rb⟩:=Rep.rd I.hok r2 (by unfold Dk;exact g2) ry
  exact SeqAt.notIn_tuple_reads rb ra (rds_lay us g2) (Dt t g1) (by omega) ⟨.bl _,H,I,rfl,q⟩
 ·obtain⟨bs,rb⟩:=Rep.rd I.hok r2 (by unfold Dk;exact g2) ry
  exact SeqAt.notIn_list_reads rb ra (rds_lay us g2) (Dt t g1) (by omega) ⟨.bl _,H,I,rfl,q⟩
end
section
variable{K:a5}{O:AI}{t u:T}{us:List T}
theorem QO{g:gE→gE→Bool}(h1:Dk t=true)(h2:Dk u=true)(hd:(dT t).depth≤100):RP K (rD K g) t u O (.bl (g (dT t) (dT u))):=fun Φ p H v w Q ok r1 r2 q=>
 ⟨O,t,u,r1,r2,h1,h2,hd,q _ H _ O p (.refl ok) (.bl _)⟩
theorem Wm{g:Bool→Bool}(h1:Dk t=true)(h2:rdBs us=true)(hd:(dT t).depth≤100):RP K (bj K g) t (.lst us) O (.bl (g ((dTs us).any fun y=>gX y (dT t)))):=fun Φ p H v w Q ok r1 r2 q=>
 ⟨O,t,us,r1,.inr r2,h1,h2,hd,q _ H _ O p (.refl ok) (.bl _)⟩
end
abbrev Bm(n:Int)(ps:List (Int×Int)):T:=.tup [.int n,.tup (ps.map AF)]
end L2.TL
namespace L2
open PySem PySem.Spec PySem.Calls PyProof.Rows
section
variable{X:Cx}
variable{e:Expr}{te:TE}{p2 p3 p4 pos:Pos}
end
end L2
namespace L2.TL
open PySem PySem.Spec PySem.Calls PyProof.Rows
section
variable{Z:Zx}{ρ:List (Option T)}{O:AI}{e a b:Expr}{es:List Expr}{Ψ:Es}{Φ:BH}{pos p p1 pos1 p2 p3 p4:Pos}{t ta tb:T}{ts us:List T}{x:Str}
theorem WW.wt{Φ:Jc}(h:WW Z ρ O e Φ):WT Z ρ O e Φ:=h.pt
def Dn:T→Bool
 | .non=>true
 |_=>false
theorem CM{j:Nat}(hr:Az t=false)(ha:ET Z ρ O a t):EB Z ρ O (.Compare a [.Is] [.Constant .none j p1] pos) (Dn t):=CH Oz (Ad _) (fun Φ p H v w Q ok r1 r2 q=>by
 refine⟨r2.non_inv,?_⟩
 have e:decide (v=V.non)=Dn t:=by
  cases r1<;>first|rfl|cases hr
 rw[e]
 exact q _ H _ O p (.refl ok) (.bl _)) ha Bj
end
section
variable{Z:Zx}{ρ:List (Option T)}{O O1 O2:AI}{c:Expr}{body ss:List Stmt}{Ψ:Es}{pos:Pos}
def bE(Z:Zx)(e:Expr):TT:=fun σ H Q=>∃ρ O Φ,WT Z ρ O e Φ∧Xr Z ρ O Φ σ H Q
theorem ZE{e:Expr}:PT Z.X e (bE Z e):=fun pins s σ H Q I ⟨_,_,_,w,q⟩=>w pins s σ H Q I q
theorem QP(hp:j5 (model Z.X.prog Z.X.w) Z.X.A Z.X.env Z.X.xe)(I:Nat→HE)(i0:∃m,I m ρ O)
  (step:∀m ρ' O',I m ρ' O'→WT Z ρ' O' c fun b O1=>if b=true then FU Z ρ' O1 body {nx:=fun ρ2 O2=>∃m',m'<m∧I m' ρ2 O2,rt:=Ψ.rt,bk:=Ψ.nx,ct:=fun ρ2 O2=>∃m',m'<m∧I m' ρ2 O2} else Ψ.nx ρ' O1):WS Z ρ O (.While c body [] pos) Ψ:=by
 refine PS.weak (Ou hp ZE KO) fun D σ H q=>?_
 obtain⟨m0,i0⟩:=i0
 refine⟨fun m σ' H'=>∃ρ' O',I m ρ' O'∧Asr Z ρ' O' σ' H'∧Kp O H O' H',⟨m0,ρ,O,i0,q.1,.refl⟩,?_⟩
 rintro m σ1 H1 ⟨ρ1,O1,i1,a1,k1⟩
 refine⟨ρ1,O1,_,step m ρ1 O1 i1,a1,fun b H2 O2 p f=>?_⟩
 have kk:=k1.trans f.kp
 cases b with
 |true=>
  rw[if_pos rfl] at p
  show if true=true then _ else _
  rw[if_pos rfl]
  refine⟨fun σ2 H3=>∃ρ2 O3,(∃m',m'<m∧I m' ρ2 O3)∧Asr Z ρ2 O3 σ2 H3∧Kp O H O3 H3,?_,ρ1,O2,_,p,a1.step f,?_⟩
  ·rintro σ2 H3 ⟨ρ2,O3,⟨m',hm,i2⟩,a2,k2⟩
   exact⟨m',hm,ρ2,O3,i2,a2,k2⟩
  ·exact⟨fun ρ' O' σ' H' w a k=> ⟨ρ',O',w,a,kk.trans k⟩,q.2.rt,fun ρ' O' σ' H' w a k=>q.2.nx ρ' O' σ' H' w a (kk.trans k),fun ρ' O' σ' H' w a k=> ⟨ρ',O',w,a,kk.trans k⟩⟩
 |false=>
  rw[if_neg b6] at p
  show if false=true then _ else _
  rw[if_neg b6]
  exact q.2.nx ρ1 O2 σ1 H2 p (a1.step f) kk
theorem TR(hk:∀H,OwnOk Z.K O1 H→Kp O1 H O2 H∧OwnOk Z.K O2 H)(hf:∀b us vs,Z.Oe b=some us→O1 b=some vs→∃us',O2 b=some us')(h:FU Z ρ O2 ss Ψ):FU Z ρ O1 ss Ψ:=PSs.weak h fun D σ H q=>by
 obtain⟨k,ok⟩:=hk H q.1.ok
 exact⟨⟨q.1.rl.kp k q.1.ok,⟨q.1.fr.kp.trans k,fun b us e=>by
  obtain⟨vs,e'⟩:=q.1.fr.own b us e
  exact hf b us vs e e',ok⟩⟩,q.2.step k⟩
end
section
variable{O:AI}{rs:List (Addr×List T)}{r:Addr×List T}{p q l:Addr}{us vs:List T}
def Jd(O:AI)(rs:List (Addr×List T)):AI:=rs.foldl (fun O r=>Ac O r.1 r.2) O
theorem BY:Jd O (r::rs)=Jd (Ac O r.1 r.2) rs:=rfl
theorem QQ:Jd O (rs++[r])=Ac (Jd O rs) r.1 r.2:=by unfold Jd;rw[List.foldl_append];rfl
theorem De(h:∀r∈rs,r.1≠p):Jd O rs p=O p:=by
 induction rs generalizing O with
 |nil=>rfl
 |cons r rs ih=>
  rw[BY,ih fun s hs=>h s (df _ hs),AN (fun z=>h r (dR ..) z.symm)]
theorem QR(h:∀r∈rs,r.1≠p):Ac (Jd O rs) p vs=Jd (Ac O p vs) rs:=by
 induction rs generalizing O with
 |nil=>rfl
 |cons r rs ih=>
  rw[BY,ih fun s hs=>h s (df _ hs),BY,BO (h r (dR ..))]
theorem Du(hn:(rs.map gi).Nodup)(h:r∈rs):Jd O rs r.1=some r.2:=by
 induction rs generalizing O with
 |nil=>cases h
 |cons s rs ih=>
  rw[dF,dE] at hn
  rw[BY]
  rcases dh.mp h with rfl|h
  ·rw[De fun s hs z=>hn.1 (di.mpr ⟨s,hs,z⟩),AG]
  ·exact ih hn.2 h
theorem TU{i:Nat}(hn:(rs.map gi).Nodup)(h:rs[i]?=some (p,us)):Ac (Jd O rs) p vs=Jd O (rs.set i (p,vs)):=by
 induction rs generalizing O i with
 |nil=>simp at h
 |cons s rs ih=>
  rw[dF,dE] at hn
  cases i with
  |zero=>
   simp at h
   subst h
   rw[List.set_cons_zero,BY,BY,QR fun s hs z=>hn.1 (di.mpr ⟨s,hs,z⟩),BA]
  |succ i=>
   rw[List.set_cons_succ,BY,BY]
   exact ih hn.2 (by simpa using h)
theorem TV{i:Nat}(h:rs[i]?=some (p,us)):(rs.set i (p,vs)).map gi=rs.map gi:=by
 rw[k4]
 apply fA
 intro m
 by_cases hm:i=m
 ·subst hm
  have hl:=(dj.mp h).1
  rw[eB (by simpa using hl),b8,h];rfl
 ·rw[ef hm]
def HG(r:Addr×List T):T:=.raw (.ref r.1)
theorem KZ{K:a5}{H:Hp}{O:AI}:∀{rs:List (Addr×List T)} {xs:List V},Reps K O H xs (rs.map HG)→xs=rs.map fun r=>V.ref r.1
 | [],_,h=>h.nil_inv
 |r::rs,_,h=>by
  obtain⟨v,vs',rfl,h1,h2⟩:=h.cons_inv
  cases h1.raw_inv
  rw[KZ h2];rfl
theorem Ka{K:a5}{H:Hp}{O:AI}:∀{rs:List (Addr×List T)},(∀r∈rs,Rep K O H (.ref r.1) (.lst r.2))→Reps K O H (rs.map fun r=>V.ref r.1) (rs.map fun r=>T.lst r.2)
 | [],_=> .nil
 |r::rs,h=> .cons (h r (dR ..)) (Ka fun s hs=>h s (df _ hs))
theorem QS{Z:Zx}{ρ:List (Option T)}{ss:List Stmt}{Ψ:Es}(hn:(rs.map gi).Nodup)(hl:∀r∈rs,r.1≠l)(ho:∀r∈rs,O r.1=none)(he:∀r∈rs,Z.Oe r.1=none)
  (h:FU Z ρ (Ac O l (rs.map fun r=>T.lst r.2)) ss Ψ):FU Z ρ (Ac (Jd O rs) l (rs.map HG)) ss Ψ:=by
 refine TR (fun H ok=>?_) (fun b us vs e1 e2=>?_) h
 ·have k:Kp (Ac (Jd O rs) l (rs.map HG)) H (Ac O l (rs.map fun r=>T.lst r.2)) H:=fun b o hb n=> ⟨hb,by
   by_cases h1:b=l
   ·rw[h1,AG] at n;cases n
   ·rw[AN h1] at n ⊢
    by_cases h2:∃r∈rs,r.1=b
    ·obtain⟨r,hr,rfl⟩:=h2
     exact ho r hr
    ·rw[De fun r hr z=>h2 ⟨r,hr,z⟩] at n
     exact n⟩
  refine⟨k,fun a ts e=>?_⟩
  by_cases h1:a=l
  ·subst h1
   rw[AG] at e
   cases e
   obtain⟨xs,hx,rx⟩:=ok a _ AG
   have:=KZ rx
   subst this
   refine⟨_,hx,Ka fun r hr=>?_⟩
   obtain⟨ys,hy,ry⟩:=ok r.1 r.2 (by rw[AN (hl r hr)];exact Du hn hr)
   exact .lst hy (by rw[AN (hl r hr)];exact ho r hr) (ry.kp k ok)
  ·rw[AN h1] at e
   have hz:∀r∈rs,r.1≠a:=fun r hr z=>by rw[←z,ho r hr] at e;cases e
   obtain⟨xs,hx,rx⟩:=ok a ts (by rw[AN h1,De hz];exact e)
   exact⟨xs,hx,rx.kp k ok⟩
 ·by_cases h1:b=l
  ·rw[h1];exact⟨_,AG⟩
  ·rw[AN h1] at e2 ⊢
   by_cases h2:∃r∈rs,r.1=b
   ·obtain⟨r,hr,rfl⟩:=h2
    rw[he r hr] at e1;cases e1
   ·rw[De fun r hr z=>h2 ⟨r,hr,z⟩] at e2
    exact⟨_,e2⟩
end
theorem Hq{Z:Zx}{ρ:List (Option T)}{O:AI}{elt tg iter:Expr}{ifs:List Expr}{csc:Scope}{nc:List Str}{cap:List (Str×Nat)}{pos:Pos}{i:Nat}{x:Str}{px spos:Pos}{Ψ:Es}(hsw:jC (.ListComp elt [⟨tg,iter,ifs,0⟩] csc pos) (some (.Name x px)) spos.line Z.X.env=pure true)(hN:Z.X.N.Nodup)(hc:Z.X.calm=true)(ok:LcOk Z.X csc nc cap)
  (h:WI Z ρ O tg iter (Sz Z ρ elt tg ifs csc nc cap fun acc O'=>∀a,O' a=none→Ψ.nx (ρ.set i (some (.raw (.ref a)))) (Ac O' a acc))) (hx:Z.X.N[i]?=some x:=by rfl) (hk:Z.X.env.scope.names.lookup x=some .local:=by rfl)
  (hs:∀x,fL iter Z.X.env x=pure x:=by intro _;rfl):WS Z ρ O (.Assign [.Name x px] (.ListComp elt [⟨tg,iter,ifs,0⟩] csc pos) spos) Ψ:=
 PS.weak (Jo hN hx hk hsw hc ok h WY QD WZ hs) fun D σ H q=>QE q.1 h fun acc O' p H' p1 n f nb=>q.2.nx _ _ _ H' (p1 p n) ⟨(q.1.step f).rl.set (.raw _),(q.1.step f).fr⟩ f.kp
end L2.TL
namespace Gr
open L2.TL
variable{ps:List (Int×Int)}{n:Int}{S:List Int}{v u:Int}{d e s k:Nat}{fs gs:List (Option Nat)}{BC ds:List Int}
def Adj(ps:List (Int×Int))(u v:Int):Prop:=(u,v)∈ps∨(v,u)∈ps
theorem Adj.symm(h:Adj ps u v):Adj ps v u:=Or.symm h
inductive W(ps:List (Int×Int))(S:List Int):Nat→Int→Prop
 |at{v:Int}:v∈S→W ps S 0 v
 |go {k:Nat} {u v:Int}:W ps S k u→Adj ps u v→W ps S (k+1) v
def IsD(ps:List (Int×Int))(S:List Int)(v:Int)(d:Nat):Prop:=W ps S d v∧∀j,j<d→¬W ps S j v
def GY(n:Int)(ps:List (Int×Int)):Prop:=∀p∈ps,0≤p.1∧p.1<p.2∧p.2<n
theorem Adj.inb(hw:GY n ps)(h:Adj ps u v):0≤v∧v<n∧u≠v:=by
 rcases h with h|h
 ·have:=hw _ h
  simp only at this
  omega
 ·have:=hw _ h
  simp only at this
  omega
structure All(n:Int)(ps:List (Int×Int))(S:List Int)(fs:List (Option Nat)):Prop where
 len:(fs.length:Int)=n
 eq:∀v:Int,0≤v→v<n→∀d,fs[v.toNat]?=some (some d)↔IsD ps S v d
theorem All.uniq(a:All n ps S fs)(b:All n ps S gs):fs=gs:=by
 have l1:=a.len
 have l2:=b.len
 apply fA
 intro i
 by_cases hi:i<fs.length
 ·have hg:i<gs.length:=by omega
  have e:=a.eq i (by omega) (by omega)
  have f:=b.eq i (by omega) (by omega)
  rw[dY,b9 hi] at e
  rw[dY,b9 hg] at f
  rw[b9 hi,b9 hg]
  cases x:fs[i] with
  |some d=>
   rw[x] at e
   exact((f d).mpr ((e d).mp rfl)).symm
  |none=>
   cases y:gs[i] with
   |none=>rfl
   |some d=>
    rw[y] at f
    rw[x] at e
    have:=(e d).mpr ((f d).mp rfl)
    cases this
 ·rw[fo (by omega),fo (by omega)]
theorem Eu{L:List Int}(h:L.Nodup)(hb:∀z∈L,0≤z∧z<n):L.length≤n.toNat:=by
 have key:∀L:List Int,L.Nodup→(∀z∈L,0≤z∧z<n)→(L.map Int.toNat).Nodup:=by
  intro L
  induction L with
  |nil=>intro _ _;simp
  |cons a L ih=>
   intro h hb
   rw[dE] at h
   rw[dF,dE]
   refine⟨fun hm=>?_,ih h.2 fun z hz=>hb z (df _ hz)⟩
   obtain⟨z,hz,e⟩:=di.mp hm
   have h1:=hb z (df _ hz)
   have h2:=hb a (dR ..)
   have:z=a:=by omega
   subst this
   exact h.1 hz
 have:=StT.CQ n.toNat (L.map Int.toNat) (key L h hb) (fun x hx=>by
  obtain⟨z,hz,rfl⟩:=di.mp hx
  have:=hb z hz
  omega)
 rw[a9] at this
 exact this
end Gr
namespace L2.TL
open PySem PySem.Spec PyProof.Rows
section
variable{X:Cx}
end
section
variable{Z:Zx}{ρ:List (Option T)}{O:AI}{a b:Expr}{t:T}{Φ:BH}{pos:Pos}{i:Int}
end
section
variable{Z:Zx}{ρ:List (Option T)}{O:AI}{body:List Stmt}{Ψ:Es}{pos:Pos}
end
end L2.TL
namespace L2
open PySem PySem.Spec PyProof.Rows
section
variable{X:Cx}
end
end L2
namespace L2.TL
open PySem PySem.Spec PyProof.Rows
section
variable{Z:Zx}{ρ:List (Option T)}{O:AI}{a:Expr}{ts:List T}{p pos:Pos}
end
section
variable{Z:Zx}{ρ:List (Option T)}{O:AI}{elt tg iter:Expr}{csc:Scope}{nc:List Str}{cap:List (Str×Nat)}{pos:Pos}
end
open PySem.Calls
section
variable{X:Cx}
end
section
variable{Z:Zx}{ρ:List (Option T)}{O:AI}{e a b hi:Expr}{p p2 pos:Pos}{t:T}{ts:List T}{i:Int}{Φ:BH}
end
end L2.TL
namespace L2
open PySem PySem.Spec PySem.Calls PyProof.Rows
section
variable{prog:Program}{w:World}{A:dy}{E:Value→a7→Prop}{s:a7}
end
section
variable{X:Cx}
end
end L2
namespace L2.TL
open PySem PySem.Spec PyProof.Rows
section
variable{Z:Zx}{ρ:List (Option T)}{O:AI}{e o:Expr}{Φ:BH}{p pos apos cpos:Pos}{ns:List Int}{i:Int}{j:Nat}
end
end L2.TL
namespace SrtG
open PySem PySem.Calls PySem.W PyProof.Rows
variable{prog:Program}{w:World}{A:dy}{E:Value→a7→Prop}{s:a7}
end SrtG
namespace L2
open PySem PySem.Spec PySem.Calls PyProof.Rows SrtG
theorem BL{α β:Type}{f:α→β}{o b:List β}(h:o.Perm b):∀{l:List α},b=l.map f→∃m:List α,m.Perm l∧o=m.map f:=by
 induction h with
 |nil=>
  intro l e
  cases l with
  |nil=>exact⟨[],.refl _,rfl⟩
  |cons x l=>cases e
 |cons x p ih=>
  intro l e
  cases l with
  |nil=>cases e
  |cons y l=>
   injection e with e1 e2
   obtain⟨m,h1,h2⟩:=ih e2
   exact⟨y::m,h1.cons y,by rw[dF,←h2,e1]⟩
 |swap x y t=>
  intro l e
  cases l with
  |nil=>cases e
  |cons u l=>
   cases l with
   |nil=>injection e with e1 e2;cases e2
   |cons v l=>
    injection e with e1 e2
    injection e2 with e3 e4
    exact⟨v::u::l,.swap ..,by rw[dF,dF,e1,e3,e4]⟩
 |trans p q ih1 ih2=>
  intro l e
  obtain⟨m,h1,h2⟩:=ih2 e
  obtain⟨m',h3,h4⟩:=ih1 h2
  exact⟨m',h3.trans h1,h4⟩
section
variable{prog:Program}{w:World}{A:dy}{E:Value→a7→Prop}{s:a7}{U:Heap→Value→Prop}{rk:Heap→Value→Int}{T:Value}
theorem Ln{l:Addr}{o:Obj}{vs:List Value}{n:Nat}{Q:Value→a7→Prop}(ho:s.heap.get? l=some o)(hc:o.cls=.type "list")(hd:o.data=.seq vs.toArray n)(R:Rk prog w U rk T)(ok:∀v∈vs,U s.heap v)(hn:vs.length≤9000000)
  (h:∀(h':Heap) (a:Addr) (out:List Value) (c:Nat),s.heap.get? a=none→h'.get? a=some (eQ "list" out.toArray c)→(∀b o,s.heap.get? b=some o→h'.get? b=some o)→out.Perm vs→out.Pairwise (fun x y=>rk s.heap x≤rk s.heap y)→Q (.ref a) {s with heap:=h'}):
  wpAny (model prog w) A (call (.builtin "sorted") [.ref l]) Q E s:=by
 refine Calls.call_function_entry mO me mh (ml _) ?_
 unfold Builtin.«sorted»
 refine a6 (m:=checkCount "sorted" 1 1 _) (b5 ?_)
 refine a6 (wpAny_collect_seq l (.inl rfl) ho hc hd (fun h1 hk1=>?_) (by rw[du,e8];omega))
 show wpAny _ _ (newList vs>>=_) _ _ _
 refine a6 (jG ?_ (by rw[e8];omega))
 have hoL:(h1.push (eQ "list" vs.toArray 0)).get? h1.objs.size=some (eQ "list" vs.toArray 0):=dN _ rfl
 have keep:∀b o,s.heap.get? b=some o→(h1.push (eQ "list" vs.toArray 0)).get? b=some o:=fun b o e=>c9 _ (hk1 b o e)
 have ok1:∀v∈vs,U (h1.push (eQ "list" vs.toArray 0)) v:=fun v hv=> (R.kept (ok v hv) fun b o _ e=>keep b o e).1
 have fin:∀(out:List Value) (c:Nat) (h':Heap),out.Perm vs→out.Pairwise (fun x y=>rk (h1.push (eQ "list" vs.toArray 0)) x≤rk (h1.push (eQ "list" vs.toArray 0)) y)→h'.get? h1.objs.size=some (eQ "list" (jZ out) c)→(∀b o,b≠h1.objs.size→(h1.push (eQ "list" vs.toArray 0)).get? b=some o→h'.get? b=some o)→Q (.ref h1.objs.size) {s with heap:=h'}:=fun out c h' pm pw hg hk=>by
  refine h _ h1.objs.size out c ?_ hg (fun b o e=>?_) pm ?_
  ·cases e:s.heap.get? h1.objs.size with
   |none=>rfl
   |some o'=>exact absurd (dr (hk1 _ _ e)) (e9 _)
  ·exact hk b o (dU (dr (hk1 b o e))) (keep b o e)
  ·refine fJ (fun{x y} hx hy q=>?_) pw
   rw[(R.kept (ok _ (pm.mem_iff.mp hx)) fun b o _ e=>keep b o e).2,(R.kept (ok _ (pm.mem_iff.mp hy)) fun b o _ e=>keep b o e).2] at q
   exact q
 show wpAny _ _ _ _ _ {s with heap:=h1.push (eQ "list" vs.toArray 0)}
 refine a6 (eW (gS lC ⟨_,hoL,rfl⟩ k7 ?body (lH _)))
 by_cases hlen:vs.length<2
 ·refine StT.KG (s:={s with heap:=h1.push (eQ "list" vs.toArray 0)}) hoL hlen fun c h2 hg hk=> ⟨_,rfl,b5 ⟨_,rfl,fin vs c h2 (.refl _) ?_ hg hk⟩⟩
  match vs,hlen with
  | [],_=>exact .nil
  | [x],_=>exact iI _ _
 ·exact KE (s:={s with heap:=h1.push (eQ "list" vs.toArray 0)}) hoL R ok1 (by omega) hn fun out c h' pm pw hg hk=> ⟨_,rfl,b5 ⟨_,rfl,fin out c h' pm pw hg hk⟩⟩
end
section
variable{X:Cx}{pins:List (Addr×Obj)}{σ:St}{H:Hp}{s:a7}
end
end L2
namespace L2.TL
open PySem PySem.Spec PyProof.Rows SrtG
section
variable{K:a5}{O:AI}{H:Hp}
end
section
variable{Z:Zx}{ρ:List (Option T)}{O:AI}{e:Expr}{Φ:BH}{p pos:Pos}{ks:List Kd}
end
end L2.TL
namespace L2
open PySem PySem.Spec PySem.Calls PyProof.Rows
section
variable{X:Cx}
end
end L2
namespace L2.TL
open PySem PySem.Spec PySem.Calls PyProof.Rows
section
variable{K:a5}{O:AI}{H H':Hp}
end
section
variable{Z:Zx}{ρ:List (Option T)}{O:AI}{e a b:Expr}{Φ:BH}{p pos:Pos}{d:Addr}{qs:List (Str×T)}{x:Str}{t:T}
end
section
variable{Z:Zx}{ρ:List (Option T)}{O:AI}{a b tg:Expr}{i j:Int}{pos:Pos}{n:Str}{ad:Addr}{xs:List V}
end
section
variable{Z:Zx}{ρ:List (Option T)}{O:AI}{x y z:Str}{p1 p2 p3 pos:Pos}{k:Nat}{ad:Addr}{w:Str}{l m':Int}
end
end L2.TL
namespace GrR
open L2.TL
variable{R:Int→Int→Prop}{n:Int}{S:List Int}{v u:Int}{d e s k:Nat}{fs gs:List (Option Nat)}{BC ds:List Int}
inductive W(R:Int→Int→Prop)(S:List Int):Nat→Int→Prop
 |at{v:Int}:v∈S→W R S 0 v
 |go {k:Nat} {u v:Int}:W R S k u→R u v→W R S (k+1) v
def IsD(R:Int→Int→Prop)(S:List Int)(v:Int)(d:Nat):Prop:=W R S d v∧∀j,j<d→¬W R S j v
theorem IsD.uniq(a:IsD R S v d)(b:IsD R S v e):d=e:=by
 rcases iq d e with h|h|h
 ·exact absurd a.1 (b.2 d h)
 ·exact h
 ·exact absurd b.1 (a.2 e h)
theorem W.least(h:W R S k v):∃d,d≤k∧IsD R S v d:=by
 induction k using Nat.strongRecOn with
 |_ k ih=>
  by_cases hx:∃j,j<k∧W R S j v
  ·obtain⟨j,hj,w⟩:=hx
   obtain⟨d,hd,i⟩:=ih j hj w
   exact⟨d,by omega,i⟩
  ·exact⟨k,de _,h,fun j hj w=>hx ⟨j,hj,w⟩⟩
theorem IsD.prev(h:IsD R S v (s+1)):∃u,IsD R S u s∧R u v:=by
 obtain⟨w,m⟩:=h
 cases w with
 |go w a=>exact⟨_,⟨w,fun j hj w'=>m (j+1) (by omega) (.go w' a)⟩,a⟩
theorem IsD.down(h:IsD R S v (s+k)):∃u,IsD R S u s:=by
 induction k generalizing v with
 |zero=>exact⟨v,h⟩
 |succ k ih=>
  obtain⟨u,hu,_⟩:=IsD.prev (s:=s+k) h
  exact ih hu
def ZF(n:Int)(R:Int→Int→Prop):Prop:=∀u v,R u v→0≤v∧v<n
theorem W.inb(hw:ZF n R)(hS:∀z∈S,0≤z∧z<n)(h:W R S k v):0≤v∧v<n:=by
 cases h with
 |«at» h=>exact hS _ h
 |go _ a=>exact hw _ _ a
theorem IsD.lt(hw:ZF n R)(hS:∀z∈S,0≤z∧z<n)(h:IsD R S v s):(s:Int)<n:=by
 have key:∃L:List Nat,L.length=s+1∧L.Nodup∧∀u∈L,∃i,i≤s∧IsD R S (u:Int) i:=by
  induction s generalizing v with
  |zero=>
   have:=h.1.inb hw hS
   refine⟨[v.toNat],rfl,by simp,fun u hu=> ⟨0,de _,?_⟩⟩
   rw[a8.mp hu,iF this.1]
   exact h
  |succ s ih=>
   obtain⟨u,hu,_⟩:=h.prev
   obtain⟨L,l1,l2,l3⟩:=ih hu
   have hb:=h.1.inb hw hS
   refine⟨v.toNat::L,by simp[l1],dE.mpr ⟨fun hm=>?_,l2⟩,fun z hz=>?_⟩
   ·obtain⟨i,hi,q⟩:=l3 _ hm
    rw[iF hb.1] at q
    have:=q.uniq h
    omega
   ·rcases dh.mp hz with rfl|hz
    ·exact⟨s+1,de _,by rw[iF hb.1];exact h⟩
    ·obtain⟨i,hi,q⟩:=l3 z hz
     exact⟨i,by omega,q⟩
 obtain⟨L,l1,l2,l3⟩:=key
 have:=StT.CQ n.toNat L l2 (fun x hx=>by
  obtain⟨i,_,q⟩:=l3 x hx
  have:=q.1.inb hw hS
  omega)
 omega
structure Fr(n:Int)(R:Int→Int→Prop)(S:List Int)(s:Nat)(fs:List (Option Nat)):Prop where
 len:(fs.length:Int)=n
 eq:∀v:Int,0≤v→v<n→∀d,fs[v.toNat]?=some (some d)↔(d≤s∧IsD R S v d)
structure All(n:Int)(R:Int→Int→Prop)(S:List Int)(fs:List (Option Nat)):Prop where
 len:(fs.length:Int)=n
 eq:∀v:Int,0≤v→v<n→∀d,fs[v.toNat]?=some (some d)↔IsD R S v d
theorem Fr.all_end(h:Fr n R S s fs)(e:∀v,¬IsD R S v s):All n R S fs:=⟨h.len,fun v v0 v1 d=>by
 rw[h.eq v v0 v1 d]
 refine⟨fun z=>z.2,fun z=> ⟨?_,z⟩⟩
 by_cases hd:d≤s
 ·exact hd
 ·obtain⟨k,rfl⟩:∃k,d=s+k:=⟨d-s,by omega⟩
  obtain⟨u,hu⟩:=z.down
  exact absurd hu (e u)⟩
theorem TX(hl:(fs.length:Int)=n)(h:∀v:Int,0≤v→v<n→∀d,fs[v.toNat]?=some (some d)↔(d=0∧v∈S)):Fr n R S 0 fs:=⟨hl,fun v v0 v1 d=>by
 rw[h v v0 v1 d]
 constructor
 ·rintro⟨rfl,hv⟩
  exact⟨de _,.at hv,fun j hj=>by omega⟩
 ·rintro⟨hd,w,_⟩
  have:d=0:=by omega
  subst this
  cases w with
  |«at» h=>exact⟨rfl,h⟩⟩
structure Mid(n:Int)(R:Int→Int→Prop)(S:List Int)(s:Nat)(fs:List (Option Nat))(BC ds:List Int):Prop where
 len:(fs.length:Int)=n
 eq:∀v:Int,0≤v→v<n→∀d,fs[v.toNat]?=some (some d)↔((d≤s∧IsD R S v d)∨(d=s+1∧v∈BC))
 sub:∀v∈BC,IsD R S v (s+1)
 dn:∀v∈ds,0≤v∧v<n∧∃d,fs[v.toNat]?=some (some d)
theorem Fr.mid(h:Fr n R S s fs):Mid n R S s fs [] []:=⟨h.len,fun v v0 v1 d=>by
 rw[h.eq v v0 v1 d]
 simp,(fun _ h=>by cases h),(fun _ h=>by cases h)⟩
theorem Mid.miss(m:Mid n R S s fs BC ds)(v0:0≤v)(v1:v<n)(h:fs[v.toNat]?=some (some d)):Mid n R S s fs BC (ds++[v]):=⟨m.len,m.eq,m.sub,fun z hz=>by
 rcases dw.mp hz with hz|hz
 ·exact m.dn z hz
 ·rw[a8.mp hz];exact⟨v0,v1,d,h⟩⟩
theorem Mid.hit(m:Mid n R S s fs BC ds)(v0:0≤v)(v1:v<n)(hn:fs[v.toNat]?=some none)(hu:IsD R S u s)(a:R u v):Mid n R S s (fs.set v.toNat (some (s+1))) (BC++[v]) (ds++[v]):=by
 have hl:=m.len
 have hlt:v.toNat<fs.length:=by omega
 have iv:IsD R S v (s+1):=by
  refine⟨.go hu.1 a,fun j hj w=>?_⟩
  obtain⟨d,hd,i⟩:=w.least
  have:=(m.eq v v0 v1 d).mpr (.inl ⟨by omega,i⟩)
  rw[hn] at this
  cases this
 have key:∀w:Int,0≤w→w<n→w≠v→(fs.set v.toNat (some (s+1)))[w.toNat]?=fs[w.toNat]?:=fun w w0 w1 h=>ef (by omega)
 refine⟨by rw[hV];exact hl,fun w w0 w1 d=>?_,fun w hw=>?_,fun w hw=>?_⟩
 ·by_cases h:w=v
  ·subst h
   rw[eB hlt]
   constructor
   ·intro z
    have:d=s+1:=by cases z;rfl
    exact .inr ⟨this,by simp⟩
   ·rintro(z|z)
    ·have:=z.2.uniq iv
     omega
    ·rw[z.1]
  ·rw[key w w0 w1 h,m.eq w w0 w1 d]
   have:w∈BC++[v]↔w∈BC:=by simp[h]
   rw[this]
 ·rcases dw.mp hw with hw|hw
  ·exact m.sub w hw
  ·rw[a8.mp hw];exact iv
 ·rcases dw.mp hw with hw|hw
  ·obtain⟨w0,w1,d,hd⟩:=m.dn w hw
   refine⟨w0,w1,?_⟩
   by_cases h:w=v
   ·subst h;exact⟨_,eB hlt⟩
   ·exact⟨d,by rw[key w w0 w1 h];exact hd⟩
  ·rw[a8.mp hw];exact⟨v0,v1,_,eB hlt⟩
theorem Mid.done(m:Mid n R S s fs BC ds)(h:∀u v,IsD R S u s→R u v→v∈ds):Fr n R S (s+1) fs∧∀v,v∈BC↔IsD R S v (s+1):=by
 have key:∀v,IsD R S v (s+1)→v∈BC:=fun v i=>by
  obtain⟨u,hu,a⟩:=i.prev
  obtain⟨v0,v1,d,hd⟩:=m.dn v (h u v hu a)
  rcases(m.eq v v0 v1 d).mp hd with z|z
  ·have:=z.2.uniq i
   omega
  ·exact z.2
 refine⟨⟨m.len,fun v v0 v1 d=>?_⟩,fun v=> ⟨m.sub v,key v⟩⟩
 rw[m.eq v v0 v1 d]
 constructor
 ·rintro(z|z)
  ·exact⟨by omega,z.2⟩
  ·rw[z.1];exact⟨de _,m.sub v z.2⟩
 ·rintro⟨h1,h2⟩
  by_cases hd:d≤s
  ·exact .inl ⟨hd,h2⟩
  ·have:d=s+1:=by omega
   subst this
   exact .inr ⟨rfl,key v h2⟩
theorem Mid.fresh(m:Mid n R S s fs BC ds)(v0:0≤v)(v1:v<n)(hn:fs[v.toNat]?=some none):v∉BC:=fun h=>by
 have:=(m.eq v v0 v1 (s+1)).mpr (.inr ⟨rfl,h⟩)
 rw[hn] at this
 cases this
variable{R D L:Int→Int→Prop}{n:Int}{S:List Int}{u v a b:Int}{d k:Nat}{fs:List (Option Nat)}
open Classical in
def Hr (R:Int→Int→Prop) (S:List Int) (v:Int):Option Nat:=if h:∃d,IsD R S v d then some (choose h) else none
theorem DU(h:IsD R S v d):Hr R S v=some d:=by
 unfold Hr
 have hx:∃d,IsD R S v d:=⟨d,h⟩
 rw[dif_pos hx]
 exact congrArg some ((Classical.choose_spec hx).uniq h)
theorem EM:Hr R S v=some d↔IsD R S v d:=by
 refine⟨fun e=>?_,DU⟩
 unfold Hr at e
 split at e
 ·rename_i h
  cases e
  exact Classical.choose_spec h
 ·cases e
theorem Hs{S':List Int}{v':Int}{R':Int→Int→Prop}(h:∀d,IsD R S v d↔IsD R' S' v' d):Hr R S v=Hr R' S' v':=by
 cases e:Hr R S v with
 |some d=>exact(DU ((h d).mp (EM.mp e))).symm
 |none=>
  cases e':Hr R' S' v' with
  |none=>rfl
  |some d=>rw[DU ((h d).mpr (EM.mp e'))] at e;cases e
theorem All.get(al:All n R S fs)(v0:0≤v)(v1:v<n):fs[v.toNat]?=some (Hr R S v):=by
 have hl:=al.len
 have hlt:v.toNat<fs.length:=by omega
 cases e:Hr R S v with
 |some d=>exact(al.eq v v0 v1 d).mpr (EM.mp e)
 |none=>
  rw[b9 hlt]
  cases z:fs[v.toNat] with
  |none=>rfl
  |some d=>
   have:=(al.eq v v0 v1 d).mp (by rw[b9 hlt,z])
   rw[DU this] at e
   cases e
theorem W.mono(h:∀u v,L u v→D u v)(w:W L S k v):W D S k v:=by
 induction w with
 |«at» h=>exact .at h
 |go _ a ih=>exact .go ih (h _ _ a)
theorem W.cut(h:∀u v,D u v→L u v∨u=b)(w:W D S k v):W L S k v∨∃j,j<k∧W L S j b:=by
 induction w with
 |«at» h=>exact .inl (.at h)
 | @go k u v w a ih=>
  rcases ih with w'| ⟨j,hj,w'⟩
  ·rcases h _ _ a with l|rfl
   ·exact .inl (.go w' l)
   ·exact .inr ⟨k,by omega,w'⟩
  ·exact .inr ⟨j,by omega,w'⟩
theorem TY(h1:∀u v,L u v→D u v)(h2:∀u v,D u v→L u v∨u=b):IsD D S b d↔IsD L S b d:=by
 constructor
 ·rintro⟨w,m⟩
  refine⟨?_,fun j hj w'=>m j hj (w'.mono h1)⟩
  rcases w.cut h2 with w'| ⟨j,hj,w'⟩
  ·exact w'
  ·exact absurd (w'.mono h1) (m j hj)
 ·rintro⟨w,m⟩
  refine⟨w.mono h1,fun j hj w'=>?_⟩
  rcases w'.cut h2 with w'| ⟨i,hi,w'⟩
  ·exact m j hj w'
  ·exact m i (by omega) w'
theorem W.consR{p q:Int}(a:R p q)(h:W R [q] k v):W R [p] (k+1) v:=by
 induction h with
 |«at» h=>rw[a8.mp h];exact .go (.at (by simp)) a
 |go _ b ih=>exact .go ih b
theorem W.rev(sy:∀u v,R u v→R v u)(h:W R [a] k v):W R [v] k a:=by
 induction h with
 |«at» h=>rw[a8.mp h];exact .at (by simp)
 |go _ b ih=>exact .consR (sy _ _ b) ih
theorem TZ(sy:∀u v,R u v→R v u):IsD R [a] b d↔IsD R [b] a d:=
 ⟨fun h=> ⟨h.1.rev sy,fun j hj w=>h.2 j hj (w.rev sy)⟩,fun h=> ⟨h.1.rev sy,fun j hj w=>h.2 j hj (w.rev sy)⟩⟩
theorem Ta{ps:List (Int×Int)}:Gr.W ps S k v↔W (Gr.Adj ps) S k v:=by
 constructor
 ·intro h
  induction h with
  |«at» h=>exact .at h
  |go _ a ih=>exact .go ih a
 ·intro h
  induction h with
  |«at» h=>exact .at h
  |go _ a ih=>exact .go ih a
theorem Iv{ps:List (Int×Int)}:Gr.IsD ps S v d↔IsD (Gr.Adj ps) S v d:=
 ⟨fun h=> ⟨Ta.mp h.1,fun j hj w=>h.2 j hj (Ta.mpr w)⟩,fun h=> ⟨Ta.mpr h.1,fun j hj w=>h.2 j hj (Ta.mp w)⟩⟩
variable{R:Int→Int→Prop}{a b p q:Int}{L M:List Int}{k d s:Nat}
def Ch(R:Int→Int→Prop):List Int→Prop
 |a::b::L=>R a b∧Ch R (b::L)
 |_=>True
theorem Ch.tail(h:Ch R (a::L)):Ch R L:=by
 cases L with
 |nil=>trivial
 |cons b L=>exact h.2
theorem GZ:Ch R (L++a::M)↔Ch R (L++[a])∧Ch R (a::M):=by
 induction L with
 |nil=>exact⟨fun h=> ⟨trivial,h⟩,fun h=>h.2⟩
 |cons x L ih=>
  cases L with
  |nil=>exact⟨fun h=> ⟨⟨h.1,trivial⟩,h.2⟩,fun h=> ⟨h.1.1,h.2⟩⟩
  |cons y L=>
   constructor
   ·intro h
    have:=ih.mp h.2
    exact⟨⟨h.1,this.1⟩,this.2⟩
   ·intro h
    exact⟨h.1.1,ih.mpr ⟨h.1.2,h.2⟩⟩
theorem Cw:Ch R (L++[a]++[b])↔Ch R (L++[a])∧R a b:=by
 rw[fM]
 exact GZ.trans ⟨fun h=> ⟨h.1,h.2.1⟩,fun h=> ⟨h.1,h.2,trivial⟩⟩
theorem QT(sy:∀u v,R u v→R v u):∀{L:List Int},Ch R L→Ch R L.reverse
 | [],_=>trivial
 | [a],_=>trivial
 |a::b::L,h=>by
  have:=QT sy h.2
  rw[jx,jx] at*
  exact Cw.mpr ⟨this,sy _ _ h.1⟩
structure Ring(R:Int→Int→Prop)(L:List Int):Prop where
 len:3≤L.length
 nd:L.Nodup
 ch:Ch R L
 cl:∀a z,L.head?=some a→L.getLast?=some z→R z a
theorem EN(sy:∀u v,R u v→R v u):∀{p q:List Int} {a z:Int},Ch R (a::p)→Ch R (a::q)→(a::p).Nodup→(a::q).Nodup→(a::p).getLast?=some z→(a::q).getLast?=some z→p≠q→∃L,Ring R L∧L.length≤p.length+q.length
 | [],[],a,z,_,_,_,_,_,_,ne=>absurd rfl ne
 | [],c::q,a,z,_,_,_,nq,lp,lq,_=>by
  have e:z=a:=by simpa using lp.symm
  subst e
  rw[eP] at lq
  exact absurd (gj lq) (dE.mp nq).1
 |b::p,[],a,z,_,_,np,_,lp,lq,_=>by
  have e:z=a:=by simpa using lq.symm
  subst e
  rw[eP] at lp
  exact absurd (gj lp) (dE.mp np).1
 |b::p,c::q,a,z,hp,hq,np,nq,lp,lq,ne=>by
  rw[eP] at lp lq
  by_cases e:b=c
  ·subst e
   obtain⟨L,r,l⟩:=EN sy hp.2 hq.2 (dE.mp np).2 (dE.mp nq).2 lp lq (fun z=>ne (by rw[z]))
   exact⟨L,r,by simp only[dm];omega⟩
  ·--the first of the second way that lies on the first
   have key:∀Q:List Int,(∃m∈Q,m∈b::p)→∃x m y,Q=x++m::y∧m∈b::p∧∀t∈x,t∉b::p:=by
    intro Q
    induction Q with
    |nil=>rintro⟨m,hm,_⟩;cases hm
    |cons t Q ih=>
     intro h
     by_cases ht:t∈b::p
     ·exact⟨[],t,Q,rfl,ht,fun _ h=>by cases h⟩
     ·obtain⟨m,hm,hm2⟩:=h
      rcases dh.mp hm with rfl|hm
      ·exact absurd hm2 ht
      ·obtain⟨x,m,y,e,h1,h2⟩:=ih ⟨m,hm,hm2⟩
       refine⟨t::x,m,y,by rw[e];rfl,h1,fun u hu=>?_⟩
       rcases dh.mp hu with rfl|hu
       ·exact ht
       ·exact h2 u hu
   obtain⟨x,m,y,eq,hm,hx⟩:=key (c::q) ⟨z,gj lq,gj lp⟩
   obtain⟨u,v,ep⟩:=List.append_of_mem hm
   have ha1:=(dE.mp np).1
   have ha2:=(dE.mp nq).1
   have n1:=(dE.mp np).2
   have n2:=(dE.mp nq).2
   rw[eq] at ha2 n2 hq
   have hum:∀t,t∈u++[m]→t∈b::p:=fun t ht=>by
    rw[ep];simp only[dw,dh,fv,or_false] at ht ⊢;rcases ht with h|h
    ·exact .inl h
    ·exact .inr (.inl h)
   have l1:(b::p).length=u.length+(v.length+1):=by rw[ep];simp
   have l2:(c::q).length=x.length+(y.length+1):=by rw[eq];simp
   simp only[dm] at l1 l2
   refine⟨a::(u++[m]++x.reverse),⟨?_,?_,?_,?_⟩,?_⟩
   ·simp only[dm,dH,List.length_reverse,gN]
    cases u with
    |cons _ _=>simp only[dm];omega
    |nil=>
     cases x with
     |cons _ _=>simp only[dm];omega
     |nil=>
      have e1:b=m:=by simpa using(nj.inj ep).1
      have e2:c=m:=by simpa using(nj.inj eq).1
      exact absurd (e1.trans e2.symm) e
   ·rw[dE]
    refine⟨fun h=>?_,?_⟩
    ·rcases dw.mp h with h|h
     ·exact ha1 (hum _ h)
     ·exact ha2 (gk _ (List.mem_reverse.mp h))
    ·rw[eH]
     rw[ep] at n1
     refine⟨?_,List.pairwise_reverse.mpr ((eH.mp n2).1.imp Ne.symm),fun t ht w hw e=>hx w (List.mem_reverse.mp hw) (e▸hum t ht)⟩
     have:=eH.mp (show(u++m::v).Nodup from n1)
     rw[eH]
     exact⟨this.1,by simp,fun t ht w hw=>this.2.2 t ht w (by rw[a8.mp hw];simp)⟩
   ·have h1:Ch R ((a::u)++[m]):=(GZ (M:=v)).mp (by rw[eZ,←ep];exact hp)|>.1
    have h2:Ch R (m::x.reverse):=by
     have:Ch R (x++[m]):=((GZ (L:=a::x) (M:=y)).mp hq).1.tail
     have:=QT sy this
     rwa[jS] at this
    have:=(GZ (L:=a::u) (a:=m) (M:=x.reverse)).mpr ⟨h1,h2⟩
    rwa[show a::(u++[m]++x.reverse)=(a::u)++m::x.reverse by simp]
   ·intro a' z' h1 h2
    have:a'=a:=by simpa using h1.symm
    subst this
    cases x with
    |nil=>
     have e2:c=m:=by simpa using(nj.inj eq).1
     have:z'=m:=by
      rw[List.reverse_nil,ic,←eZ,gJ] at h2
      simpa using h2.symm
     rw[this]
     exact sy _ _ hq.1
    |cons t x=>
     have:z'=t:=by
      rw[jx,←fM,←eZ,gJ] at h2
      simpa using h2.symm
     rw[this]
     exact sy _ _ hq.1
   ·simp only[dm,dH,List.length_reverse,gN]
    omega
theorem Tc(h:IsD R [p] q d):∃L,L.length=d+1∧L.head?=some p∧L.getLast?=some q∧L.Nodup∧Ch R L∧∀x∈L,∃i,i≤d∧IsD R [p] x i:=by
 induction d generalizing q with
 |zero=>
  have:q=p:=by
   cases h.1 with
   |«at» h=>exact a8.mp h
  subst this
  exact⟨[q],rfl,rfl,rfl,by simp,trivial,fun x hx=>by rw[a8.mp hx];exact⟨0,de _,h⟩⟩
 |succ d ih=>
  obtain⟨u,hu,r⟩:=h.prev
  obtain⟨L,l1,l2,l3,l4,l5,l6⟩:=ih hu
  obtain⟨M,rfl⟩:∃M,L=M++[u]:=fD.mp l3
  refine⟨M++[u]++[q],by simp only[dH,dm,gN] at l1 ⊢;omega,?_,by simp,?_,Cw.mpr ⟨l5,r⟩,fun x hx=>?_⟩
  ·rw[kz,l2];rfl
  ·rw[eH]
   refine⟨l4,by simp,fun x hx y hy e=>?_⟩
   rw[a8.mp hy] at e
   subst e
   obtain⟨i,hi,hd⟩:=l6 x hx
   have:=hd.uniq h
   omega
  ·rcases dw.mp hx with hx|hx
   ·obtain⟨i,hi,hd⟩:=l6 x hx
    exact⟨i,by omega,hd⟩
   ·rw[a8.mp hx];exact⟨d+1,de _,h⟩
theorem ZG:∀{L:List Int} {p q:Int},Ch R (p::L)→(p::L).getLast?=some q→W R [p] L.length q
 | [],p,q,_,h=>by
  have:q=p:=by simpa using h.symm
  rw[this];exact .at (by simp)
 |b::L,p,q,hc,h=>by
  rw[eP] at h
  exact .consR hc.1 (ZG hc.2 h)
theorem Td{i:Nat}(h:Ch R L):Ch R (L.take i):=by
 by_cases hi:i<L.length
 ·have e:L=L.take i++L[i]::L.drop (i+1):=by rw[List.getElem_cons_drop,fY]
  rw[e] at h
  have h1:=(GZ.mp h).1
  generalize L.take i=A at*
  clear e h
  induction A with
  |nil=>trivial
  |cons x A ih=>
   cases A with
   |nil=>trivial
   |cons y A=>exact⟨h1.1,ih h1.2⟩
 ·rw[List.take_of_length_le (by omega)];exact h
variable{R:Int→Int→Prop}{nb:Int→List Int}{c:Nat→Int→Bool}{a b p q v:Int}{L M r:List Int}{rs:List (List Int)}{k d s:Nat}{n:Int}
def lst(r:List Int):Int:=r.getLastD 0
def bF(nb:Int→List Int)(c:Int→Bool)(r:List Int):List (List Int):=((nb (lst r)).filter fun v=>c v&&!decide (v∈r)).map fun v=>r++[v]
def cq(nb:Int→List Int)(c:Int→Bool)(rs:List (List Int)):List (List Int):=rs.flatMap (bF nb c)
def aG(nb:Int→List Int)(c:Nat→Int→Bool)(p:Int):Nat→List (List Int)
 |0=> [[p]]
 |k+1=>cq nb (c (k+1)) (aG nb c p k)
structure Way(R:Int→Int→Prop)(c:Nat→Int→Bool)(p:Int)(k:Nat)(r:List Int):Prop where
 len:r.length=k+1
 hd:r.head?=some p
 nd:r.Nodup
 ch:Ch R r
 ok:∀i v,1≤i→r[i]?=some v→c i v=true
theorem QU(h:r.getLast?=some a):lst r=a:=by
 unfold lst
 rw[List.getLastD_eq_getLast?,h];rfl
theorem Cy(h:r≠[]):r.getLast?=some (lst r):=by
 cases e:r.getLast? with
 |none=>exact absurd (List.getLast?_eq_none_iff.mp e) h
 |some a=>rw[QU e]
theorem Te(hR:∀u v,v∈nb u↔R u v):r∈aG nb c p k↔Way R c p k r:=by
 induction k generalizing r with
 |zero=>
  constructor
  ·intro h
   rw[a8.mp h]
   exact⟨rfl,rfl,by simp,trivial,fun i v hi h=>by
    cases i with
    |zero=>omega
    |succ i=>cases h⟩
  ·rintro⟨h1,h2,_⟩
   match r,h1,h2 with
   | [x],_,h2=>
    have:x=p:=by simpa using h2
    rw[this];exact a8.mpr rfl
 |succ k ih=>
  constructor
  ·intro h
   obtain⟨r',hr',h⟩:=i8.mp h
   obtain⟨v,hv,rfl⟩:=di.mp h
   obtain⟨hv1,hv2⟩:=et.mp hv
   rw[dS] at hv2
   have hv3:v∉r':=by simpa using hv2.2
   obtain⟨w1,w2,w3,w4,w5⟩:=ih.mp hr'
   have hne:r'≠[]:=fun z=>by rw[z] at w1;cases w1
   obtain⟨M,e⟩:=fD.mp (Cy hne)
   refine⟨by rw[dH,w1];rfl,by rw[kz,w2];rfl,?_,?_,fun i u hi h=>?_⟩
   ·rw[eH]
    exact⟨w3,by simp,fun x hx y hy e=>hv3 (by rw[←a8.mp hy,←e];exact hx)⟩
   ·rw[e]
    exact Cw.mpr ⟨e▸w4,(hR _ _).mp hv1⟩
   ·by_cases hl:i<r'.length
    ·rw[dZ hl] at h
     exact w5 i u hi h
    ·rw[dI (by omega)] at h
     have:i-r'.length=0:=by
      cases z:i-r'.length with
      |zero=>rfl
      |succ z'=>rw[z] at h;simp at h
     rw[this] at h
     have hu:v=u:=by simpa using h
     have hi2:i=k+1:=by omega
     rw[←hu,hi2];exact hv2.1
  ·rintro⟨w1,w2,w3,w4,w5⟩
   have hne:r≠[]:=fun z=>by rw[z] at w1;cases w1
   obtain⟨M,e⟩:=fD.mp (Cy hne)
   generalize lst r=v at e
   subst e
   have hlM:M.length=k+1:=by simpa using w1
   have hneM:M≠[]:=fun z=>by rw[z] at hlM;cases hlM
   obtain⟨N,eN⟩:=fD.mp (Cy hneM)
   rw[eH] at w3
   have hadj:R (lst M) v:=by
    have:Ch R (N++[lst M]++[v]):=by rw[←eN];exact w4
    exact(Cw.mp this).2
   refine i8.mpr ⟨M,ih.mpr ⟨hlM,?_,w3.1,?_,fun i u hi h=>?_⟩,di.mpr ⟨v,et.mpr ⟨(hR _ _).mpr hadj,?_⟩,rfl⟩⟩
   ·rw[kz] at w2
    cases M with
    |nil=>exact absurd rfl hneM
    |cons x M=>exact w2
   ·have:=Td (i:=M.length) w4
    rwa[List.take_left] at this
   ·refine w5 i u hi ?_
    rw[dZ (dj.mp h).1];exact h
   ·rw[dS]
    refine⟨w5 (k+1) v (by omega) ?_,by simpa using fun h=>w3.2.2 v h v (by simp) rfl⟩
    rw[dI (by omega),hlM];simp
def rk(r:List Int):Int:=r.foldl (fun a v=>a*32+v) 0
variable{R R':Int→Int→Prop}{nb:Int→List Int}{a b p q v:Int}{L M r:List Int}{k d s:Nat}{n:Int}
def Uq(R:Int→Int→Prop)(a b u v:Int):Prop:=R u v∧¬(u=a∧v=b)∧¬(u=b∧v=a)
theorem Iw:∀{L:List Int},Ch R L→(∀u∈L,∀v∈L,R u v→R' u v)→Ch R' L
 | [],_,_=>trivial
 | [_],_,_=>trivial
 |a::b::L,h,m=> ⟨m a (by simp) b (by simp) h.1,Iw h.2 fun u hu v hv=>m u (df _ hu) v (df _ hv)⟩
theorem Wn(h:Ring R r):∃a b,R a b∧W (Uq R a b) [b] (r.length-1) a:=by
 match r,h with
 | [],h=>exact absurd h.len (by decide)
 | [_],h=>exact absurd h.len (by show¬3≤1;decide)
 | [_,_],h=>exact absurd h.len (by show¬3≤2;decide)
 |x::y::t::L,h=>
  have hne:(t::L)≠[]:=by simp
  have hz:(x::y::t::L).getLast?=some (lst (t::L)):=by
   rw[eP,eP];exact Cy hne
  have hmz:lst (t::L)∈t::L:=gj (Cy hne)
  generalize lst (t::L)=z at hz hmz
  have nd:=h.nd
  rw[dE,dE] at nd
  refine⟨z,x,h.cl x z rfl hz,?_⟩
  refine ZG (L:=y::t::L) ⟨⟨h.ch.1,fun e=>?_,fun e=>?_⟩,Iw h.ch.2 fun u hu v hv r=> ⟨r,fun e=>?_,fun e=>?_⟩⟩ hz
  ·exact nd.1 (e.2▸dR ..)
  ·exact nd.2.1 (e.2▸hmz)
  ·exact nd.1 (e.2▸hv)
  ·exact nd.1 (e.1▸hu)
theorem Tf(sy:∀u v,R u v→R v u)(ir:∀u,¬R u u)(h:R a b)(hd:IsD (Uq R a b) [a] b d):∃r,Ring R r∧r.length=d+1:=by
 obtain⟨L,l1,l2,l3,l4,l5,_⟩:=Tc hd
 refine⟨L,⟨?_,l4,Iw l5 fun u _ v _ c=>c.1,fun x z h1 h2=>?_⟩,l1⟩
 ·match d,hd with
  |0,hd=>
   cases hd.1 with
   |«at» hm=>rw[a8.mp hm] at h;exact absurd h (ir _)
  |1,hd=>
   cases hd.1 with
   |go w c=>
    cases w with
    |«at» hm=>rw[a8.mp hm] at c;exact absurd ⟨rfl,rfl⟩ c.2.1
  |d+2,_=>omega
 ·rw[l2] at h1
  rw[l3] at h2
  cases h1
  cases h2
  exact sy _ _ h
theorem EO(hb:∀u v,R u v→0≤v∧v<n)(h:Ring R r):∀z∈r,0≤z∧z<n:=by
 have key:∀{L:List Int} {x:Int},0≤x∧x<n→Ch R (x::L)→∀z∈x::L,0≤z∧z<n:=by
  intro L
  induction L with
  |nil=>intro x hx _ z hz;rw[a8.mp hz];exact hx
  |cons y L ih=>
   intro x hx hc z hz
   rcases dh.mp hz with rfl|hz
   ·exact hx
   ·exact ih (hb _ _ hc.1) hc.2 z hz
 cases r with
 |nil=>intro z hz;cases hz
 |cons x L=>exact key (hb _ _ (h.cl x _ rfl (Cy (by simp)))) h.ch
theorem OS(hb:∀u v,R u v→0≤v∧v<n)(h:Ring R r):∃p,r.head?=some p∧0≤p∧p<n:=by
 cases r with
 |nil=>exact absurd h.len (by decide)
 |cons x L=>exact⟨x,rfl,EO hb h x (by simp)⟩
variable{R:Int→Int→Prop}{nb:Int→List Int}{c:Nat→Int→Bool}{p:Int}{r q:List Int}{k s:Nat}{n:Int}
end GrR
namespace L2.TL
open PySem PySem.Spec PySem.Calls PyProof.Rows PySem.Builtin PySem.Builtin.Str
section
variable{X:Cx}
end
section
variable{Z:Zx}{ρ:List (Option T)}{O:AI}{a b o e:Expr}{t:T}{Φ:BH}{pos p apos cpos:Pos}{i j:Str}{xs:List Str}
end
section
variable{X:Cx}
end
section
variable{Z:Zx}{ρ:List (Option T)}{O:AI}{a b o e:Expr}{t:T}{Φ:BH}{pos p apos cpos:Pos}{i j:Str}{xs:List Str}
end
section
variable{Z:Zx}{ρ:List (Option T)}{O:AI}{e elt tg iter:Expr}{ifs:List Expr}{csc:Scope}{nc:List Str}{cap:List (Str×Nat)}{Φ:BH}{pos:Pos}
end
end L2.TL
namespace L2
open PySem PySem.Spec PySem.Calls PyProof.Rows
section
variable{prog:Program}{w:World}{A:dy}{R:mK→a7→Prop}{I:Addr}{fp wr:List Addr}{n:Nat}{P:Nat→Value→Prop}{St:Nat→Heap→Prop}
theorem ER:(toString "min" ++toString ".loop" :String)= "min.loop":=by decide
theorem OT{kw:List (Str×Value)}(W:Walks prog w A.in1 I fp wr n P St)(bt:Nat→Nat→Bool)(hcmp:CmpOf prog w A.in1 .Lt P bt)(S:Addr)(hSf:S∉fp):
  ∀(k j:Nat) (s:a7) (vb:Value) (c:Nat),n- (j+1)=k→j+1≤n→St (j+1) s.heap→P (kU bt j) vb→
  s.heap.get? S=some {cls:=.type "list",dict:=none,data:=.seq #[vb,vb] c,slots:=#[]}→
  (∀v h' tk,P (kU bt (n-1)) v→(∀b o,b∉wr→b≠S→s.heap.get? b=some o→h'.get? b=some o)→R (.ok (.ret v)) {s with heap:=h',toks:=tk})→
  i6 (model prog w) A (.builtin "min.loop" ⟨[.ref I,.none,.ref S],kw⟩) R s:=by
 have hSw:S∉wr:=fun h=>hSf (W.sub _ h)
 intro k
 induction k with
 |zero=>
  intro j s vb c hk hj hst hPb hS hR
  have hin:j+1=n:=by omega
  refine gM kQ ?_
  rw[gK gT _]
  show wpAny _ A.in1 (seqItems? (.ref S)>>=_) _ _ s
  refine a6 (ju hS rfl ?_)
  show wpAny _ A.in1 (tryCatch (j8 (.ref I)) _>>=_) _ _ s
  refine a6 (jt (W.done s _ _ (hin▸hst) fun h' tk hk'=>?_))
  have hS':=hk' S _ hSw hS
  show wpAny _ A.in1 (updateSeq S (fun _=> #[])>>=_) _ _ _
  refine a6 (k6 hS' rfl (a6 (lB (b5 ?_))))
  exact hR vb _ tk (by rw[←hin];exact hPb) fun b o hbw hbS e=> (fS _ _ (Ne.symm hbS)).trans (hk' b o hbw e)
 |succ k ih=>
  intro j s vb c hk hj hst hPb hS hR
  have hlt:j+1<n:=by omega
  refine gM kQ ?_
  rw[gK gT _]
  show wpAny _ A.in1 (seqItems? (.ref S)>>=_) _ _ s
  refine a6 (ju hS rfl ?_)
  show wpAny _ A.in1 (tryCatch (j8 (.ref I)) _>>=_) _ _ s
  refine a6 (jt (W.item (j+1) s _ _ hlt hst fun v h' tk hP hst' hk'=>?_))
  have hS':=hk' S _ hSw hS
  show wpAny _ A.in1 (tryCatch (holding [v,v] (richCompare .Lt v vb>>=_)) _>>=_) _ _ _
  refine a6 (jt (eW (a6 (hcmp (j+1) (kU bt j) v vb _ _ _ hP hPb ?_))))
  refine a6 (eW (gL (a6 (lB (b5 ?_)))))
  cases hb:bt (j+1) (kU bt j) with
  |true=>
   simp only[if_true]
   refine a6 (k6 hS' rfl (a6 (lB ?_)))
   rw[ER]
   refine b5 ⟨iQ gT _,ih (j+1) _ v _ (by omega) hlt (W.frame _ _ _ hst' fun b hbf o e=>?_) (by simp only[kU,hb,if_true];exact hP) (iT _ hS' rfl) fun v' h'' tk'' hP' hk''=>?_⟩
   ·exact(fS _ _ (fun h:S=b=>hSf (by rw[h];exact hbf))).trans e
   ·exact hR v' h'' tk'' hP' fun b o hbw hbS e=>hk'' b o hbw hbS ((fS _ _ (Ne.symm hbS)).trans (hk' b o hbw e))
  |false=>
   simp only[dJ,if_false]
   refine a6 (lB ?_)
   rw[ER]
   refine b5 ⟨iQ gT _,ih (j+1) _ vb c (by omega) hlt hst' (by simp only[kU,hb,dJ,if_false];exact hPb) hS' fun v' h'' tk'' hP' hk''=>?_⟩
   exact hR v' h'' tk'' hP' fun b o hbw hbS e=>hk'' b o hbw hbS (hk' b o hbw e)
theorem Lo{nm:Str}{d:Value}(W:Walks prog w A.in1 I fp wr n P St)(bt:Nat→Nat→Bool)(hcmp:CmpOf prog w A.in1 .Lt P bt)(S:Addr)(hSf:S∉fp){s:a7}{c:Nat}(hst:St 0 s.heap)
  (hS:s.heap.get? S=some {cls:=.type "list",dict:=none,data:=.seq #[] c,slots:=#[]})
  (h0:n=0→∀h' tk,(∀b o,b∉wr→b≠S→s.heap.get? b=some o→h'.get? b=some o)→R (.ok (.ret d)) {s with heap:=h',toks:=tk})
  (hR:0<n→∀v h' tk,P (kU bt (n-1)) v→(∀b o,b∉wr→b≠S→s.heap.get? b=some o→h'.get? b=some o)→R (.ok (.ret v)) {s with heap:=h',toks:=tk}):
  i6 (model prog w) A (.builtin "min.loop" ⟨[.ref I,.none,.ref S],[(nm,d)]⟩) R s:=by
 have hSw:S∉wr:=fun h=>hSf (W.sub _ h)
 refine gM kQ ?_
 rw[gK gT _]
 show wpAny _ A.in1 (seqItems? (.ref S)>>=_) _ _ s
 refine a6 (ju hS rfl ?_)
 show wpAny _ A.in1 (tryCatch (j8 (.ref I)) _>>=_) _ _ s
 by_cases hn:0<n
 ·refine a6 (jt (W.item 0 s _ _ hn hst fun v h' tk hP hst' hk'=>?_))
  have hS':=hk' S _ hSw hS
  show wpAny _ A.in1 (updateSeq S (fun _=> #[v,v])>>=_) _ _ _
  refine a6 (k6 hS' rfl ?_)
  rw[ER]
  refine b5 ⟨iQ gT _,OT W bt hcmp S hSf _ 0 _ v _ rfl hn (W.frame _ _ _ hst' fun b hbf o e=>?_) hP (iT _ hS' rfl) fun v' h'' tk'' hP' hk''=>?_⟩
  ·exact(fS _ _ (fun h:S=b=>hSf (by rw[h];exact hbf))).trans e
  ·exact hR hn v' h'' tk'' hP' fun b o hbw hbS e=>hk'' b o hbw hbS ((fS _ _ (Ne.symm hbS)).trans (hk' b o hbw e))
 ·have e0:n=0:=by omega
  refine a6 (jt (W.done s _ _ (by rw[e0];exact hst) fun h' tk hk'=>?_))
  show wpAny _ A.in1 (rule _>>=fun _=>ret d) _ _ _
  exact a6 (iV (b5 (h0 e0 h' tk fun b o hbw _ e=>hk' b o hbw e)))
end
section
variable{prog:Program}{w:World}{A:dy}{E:Value→a7→Prop}{s:a7}
theorem OU{x d:Value}{Q:Value→a7→Prop}
  (h:wpAny (model prog w) A.in1 (l9 x) (fun it s₂=>∃I fp wr n P St bt,it=.ref I∧Walks prog w A.in1 I fp wr n P St∧St 0 s₂.heap∧(∀b∈fp,b<s₂.heap.objs.size)∧CmpOf prog w A.in1 .Lt P bt∧
   (n=0→∀h' tk,(∀b o,b∉wr→s₂.heap.get? b=some o→h'.get? b=some o)→Q d {s₂ with heap:=h',toks:=tk})∧
   (0<n→∀v h' tk,P (kU bt (n-1)) v→(∀b o,b∉wr→s₂.heap.get? b=some o→h'.get? b=some o)→Q v {s₂ with heap:=h',toks:=tk})) E s):
  wpAny (model prog w) A (call (.builtin "min") [x] [("default",d)]) Q E s:=by
 refine kS (iX F.plain_min F.entry_min ?_)
 refine kr (show kM "min" ⟨[x],[("default",d)]⟩=pure () by kernel_rfl) ?_
 show wpAny _ A.in1 (Builtin.Builtins.bindParams "min" ["key","default"] 0 ⟨[],[("default",d)]⟩>>=_) _ _ s
 refine a6 (kr (show Builtin.Builtins.bindParams "min" ["key","default"] 0 ⟨[],[("default",d)]⟩=pure [none,some d] from rfl) ?_)
 refine a6 (b5 ?_)
 refine a6 (iM h (fun it s₂ h₂=>?_) fun _ _ e=>e)
 obtain⟨I,fp,wr,n,P,St,bt,rfl,W,hst,hfp,hcmp,q0,q1⟩:=h₂
 refine a6 (il ?_)
 have hSf:s₂.heap.objs.size∉fp:=fun hm=>e9 _ (hfp _ hm)
 rw[ER]
 refine b5 ⟨iQ gT _,Lo W bt hcmp s₂.heap.objs.size hSf (W.frame _ _ _ hst fun b _ o e=>c9 _ e) (dN _ rfl) (fun e0 h' tk hk=>?_) fun hn v h' tk hP hk=>?_⟩
 ·exact q0 e0 h' tk fun b o hbw e=>hk b o hbw (dU (dr e)) (c9 _ e)
 ·exact q1 hn v h' tk hP fun b o hbw e=>hk b o hbw (dU (dr e)) (c9 _ e)
end
section
variable{M:Model}{A:dy}{E:Value→a7→Prop}{s:a7}
theorem Iy{pos:Pos}{id:String}{k:Str}{x y:Sem Value}{Q:Value→a7→Prop}
  (h:wpAny M A x (fun v s₁=>wpAny M A y (fun d s₂=>wpAny M A (call (.builtin id) [v] [(k,d)]) Q E s₂) E s₁) E s):
  wpAny M A (callWith pos (.builtin id) [] [(false,x)] [(some k,y)]) Q E s:=by
 unfold callWith
 refine a6 (eW (evalArgs_kw rfl (Calls.spliced_cons (iM h (fun v s₁ h₁=>?_) fun _ _ e=>e))))
 refine Calls.spliced_nil (wpAny_evalAll_cons (iM h₁ (fun d s₂ h₂=>wpAny_evalAll_nil ?_) fun _ _ e=>e))
 refine a6 (jd ?_)
 refine a6 (b5 ?_)
 exact a6 (iM h₂ (fun r s₃ hr=>a6 (eW (wpAny_point (b5 hr)))) fun _ _ e=>e)
end
section
variable{X:Cx}
def Ew(ns:List Int):Option Int→Prop
 |none=>ns=[]
 |some m=>GJ ns m
def bG:Option Int→V
 |none=> .non
 |some m=> .int m
theorem Tg{e:Expr}{te:TE}{p pos kp np:Pos}{j:Nat}(hc:X.calm=true)(hg:Gl X "min")(hm:X.mg "min" =none)(he:PE X e te)(hn:TL.BB e=true):
  PE X (.Call (.Name "min" p) [e] [⟨some "default",.Constant .none j np,kp⟩] pos) (fun σ H Q=>te σ H fun v H1=>∃(a:Addr) (ns:List Int),v=.ref a∧Xq X.K H1 a (ns.map V.int)∧∀m,Ew ns m→Q (bG m) H1):=by
 intro pins s σ H Q I h
 refine jk (Eg I hg hm TL.TC ?_ (by decide) (by decide))
 rw[TL.BU hn]
 refine Iy (Ar (he pins s σ H _ I h) fun u s1 ⟨v,H1,I1,r1,q1⟩=>?_)
 obtain⟨a,ns,rfl,hq,q⟩:=q1
 cases r1
 refine a6 ?_
 show wpAny _ _ (eval (.Constant .none j np) X.env) _ _ _
 refine b5 (a6 (jd (b5 ?_)))
 obtain⟨its,rv,lt,wk⟩:=I1.walk hq
 have hl:its.length=ns.length:=by have:=rv.length;rw[a9] at this;exact this.symm
 refine OU (wk X.A.in1 _ _ (I1.ok.hd hc) fun o St W st=> ⟨_,_,_,_,_,_,_,rfl,W,st,fun b hb=>?_,CmpOf.ints_lt (fun i=>ns.getD i 0) (fun i v hv=>CV rv i v hv),fun e0 h' tk hk=>?_,fun hn v h' tk hP hk=>?_⟩)
 ·show b< (s1.heap.push o).objs.size
  rw[gc]
  simp only[dh,fv,or_false] at hb
  rcases hb with rfl|rfl
  ·exact iH _
  ·exact gq lt
 ·exact⟨.non,H1,I1.kept (t':=tk) (GI hk),rfl,q none (List.eq_nil_of_length_eq_zero (by omega))⟩
 ·obtain⟨t,rfl⟩:=CV rv _ v hP
  obtain⟨b1,b2⟩:=argBest_lt (fun i=>ns.getD i 0) (its.length-1)
  exact⟨.int _,H1,I1.kept (t':=tk) (GI hk),⟨t,rfl⟩,q (some _) ⟨GK (by omega),fun n hn=>by
   obtain⟨j,hj,rfl⟩:=jb hn
   have:=b2 j (by omega)
   simpa[hZ,hj] using this⟩⟩
end
end L2
namespace L2.TL
open PySem PySem.Spec PySem.Calls PyProof.Rows
section
variable{Z:Zx}{ρ:List (Option T)}{O:AI}{e:Expr}{p pos kp np:Pos}{ns:List Int}{j:Nat}
def Ga:Option Int→T
 |none=> .non
 |some m=> .int m
theorem Kb{a b:Option Int}(ha:Ew ns a)(hb:Ew ns b):a=b:=by
 cases a with
 |none=>
  cases b with
  |none=>rfl
  |some m=>rw[show ns=[] from ha] at hb;exact absurd hb.1 (by simp)
 |some m=>
  cases b with
  |none=>rw[show ns=[] from hb] at ha;exact absurd ha.1 (by simp)
  |some k=>rw[lz (ha.2 k hb.1) (hb.2 m ha.1)]
theorem Th{m:Option Int}(hm:Ew ns m)(mm:Z.X.mg "min" =none)(hc:Z.X.calm=true)(h:ET Z ρ O e (.lst (ns.map T.int)))(hg:Gl Z.X "min":=by rfl)(hn:BB e=true:=by rfl):
  ET Z ρ O (.Call (.Name "min" p) [e] [⟨some "default",.Constant .none j np,kp⟩] pos) (Ga m):=fun Φ q=>
 PE.weak (Tg hc hg mm (h (fun t O'=>t=.lst (ns.map T.int)∧O'=O) ⟨rfl,rfl⟩) hn) fun σ H Q k=> ⟨k.1,by
  rintro v H' _ _ ⟨rfl,rfl⟩ f r
  obtain⟨a,xs,rfl,h1,o1,r1⟩:=r.lst_inv
  cases Reps.ints r1
  refine⟨a,ns,rfl,.inl (.inl (.inl h1)),fun m' hm'=>?_⟩
  cases Kb hm' hm
  refine k.2 _ H' _ _ q f ?_
  cases m with
  |none=>exact .non
  |some m=>exact .int m⟩
end
end L2.TL
namespace L2
open PySem PySem.Spec PySem.Calls PyProof.Rows
section
variable{prog:Program}{w:World}{A:dy}{R:mK→a7→Prop}{I:Addr}{fp wr:List Addr}{n:Nat}{P:Nat→Value→Prop}{St:Nat→Heap→Prop}
end
section
variable{prog:Program}{w:World}{A:dy}{E:Value→a7→Prop}{s:a7}
end
section
variable{X:Cx}
end
end L2
namespace L2.TL
open PySem PySem.Spec PySem.Calls PyProof.Rows
section
variable{Z:Zx}{ρ:List (Option T)}{O:AI}{e:Expr}{p pos kp np:Pos}{ns:List Int}{j:Nat}
end
end L2.TL
namespace L2
open PySem PySem.Spec PyProof.Rows
open Sem (wp)
section
variable{prog:Program}{w:World}{A:dy}{E:Value→a7→Prop}{s:a7}
end
section
variable{prog:Program}{w:World}{A:dy}{E:Value→a7→Prop}{s:a7}
end
section
variable{prog:Program}{w:World}{A:dy}{E:Value→a7→Prop}{s:a7}
end
section
variable{M:Model}{A:dy}{E:Value→a7→Prop}{s:a7}
end
section
variable{X:Cx}
end
section
variable{X:Cx}{tg:Expr}
end
end L2
namespace L2.TL
open PySem PySem.Spec PyProof.Rows
section
variable{Z:Zx}{ρ:List (Option T)}{O:AI}{a tg:Expr}{ts:List T}{p pos:Pos}
end
open PySem.Builtin PySem.Builtin.Str
section
variable{Z:Zx}{ρ:List (Option T)}{O:AI}{a b e:Expr}{p pos:Pos}{x y:Str}{i:Int}{K:a5}
end
structure Fi(K:a5)(x:Str)(st:Stmt)(f:Addr)(fd:dM):Prop where
 F:Fun K x x st f fd
 a:gP K fg x=some (some (.ref f))
def Fx(K:a5)(x:Str)(st:Stmt):Prop:=∃f fd,Fi K x st f fd
def Zn(K:a5)(x:Str):Prop:=gP K fg x=some none
def Cn(K:a5)(x:Str)(C:Addr):Prop:=gP K fg x=some (some (.ref C))
structure Mg(P:Program)(w:World)(K:a5)(mg:Str→Option Value)(base:Heap):Prop where
 mm:∀{x:Str} {v:Value},gP K fg x=some (some v)→mg x=some v
section
variable{P:Program}{w:World}{K:a5}{mg:Str→Option Value}{base:Heap}{x:Str}{st:Stmt}{f:Addr}{fd:dM}{ps:List Str}{k:Nat}
theorem fi{oc:Value}{od:Option Addr}{kV doc pm:Value}{an:Option Addr}{cdv ct:Value}{osl:Array (Option Value)}(a:gP K fg x=some (some (.ref f)))(l:K.lookup f=some ⟨oc,od,.func (i7 x x (Dz st) (Ai st) (AA st) .none kV doc pm an cdv ct),osl⟩)(q:lL K cdv x=true)(h:gW K (.ref f)=true):
  Fx K x st:=⟨f,_,⟨⟨⟨oc,od,kV,doc,pm,an,cdv,ct,osl,rfl,l,q⟩,h⟩,a⟩⟩
abbrev Bi(x:Str)(st:Stmt)(ps:List Str)(us:List Value):Prop:=∀(kV doc pm:Value) (an:Option Addr) (cdv ct:Value),bindArgs (i7 x x (Dz st) (Ai st) (AA st) .none kV doc pm an cdv ct) ⟨us,[]⟩=pure (ps.zip us)
theorem Fi.b1(h:Fi K x st f fd)(hl:ps.length=1)(q:∀a,Bi x st ps [a]):Binds K fd ps []:=h.F.binds fun _ _ _ _ _ _ us e=>match us,e.trans hl with| [a],_=>q a ..
theorem Fi.b2(h:Fi K x st f fd)(hl:ps.length=2)(q:∀a b,Bi x st ps [a,b]):Binds K fd ps []:=h.F.binds fun _ _ _ _ _ _ us e=>match us,e.trans hl with| [a,b],_=>q a b ..
theorem Fi.b3(h:Fi K x st f fd)(hl:ps.length=3)(q:∀a b c,Bi x st ps [a,b,c]):Binds K fd ps []:=h.F.binds fun _ _ _ _ _ _ us e=>match us,e.trans hl with| [a,b,c],_=>q a b c ..
theorem Fi.t{s:Bu}(h:Fi K x st f fd)(M:Mg P w K mg base)(ok:FnOk P w K mg base (CXe P w) k f fd ps (Ce K s))(b:Binds K fd ps []):FnT P w K mg base x k ps s:=⟨f,fd,ok,M.mm h.a,h.F.kp,b⟩
end
end L2.TL
namespace L2
open PySem PySem.Spec PySem.Calls PyProof.Rows Builtin.ObjectAttr
section
variable{prog:Program}{w:World}{A:dy}{E:Value→a7→Prop}{s:a7}{K:a5}{x dx C f:Addr}{name:Str}{v:Value}
end
section
variable{prog:Program}{w:World}{A:dy}{E:Value→a7→Prop}{s:a7}{K:a5}{x dx C f:Addr}{name:Str}{v:Value}
end
section
variable{prog:Program}{w:World}{A:dy}{E:Value→a7→Prop}{s:a7}{K:a5}{C f:Addr}
end
section
variable{X:Cx}{pins:List (Addr×Obj)}{σ:St}{H:Hp}{s:a7}
end
section
variable{X:Cx}{o value:Expr}{n:Str}{pos pos':Pos}{ta tv:TE}
end
end L2
namespace L2.TL
open PySem PySem.Spec PySem.Calls PyProof.Rows
section
variable{Z:Zx}{ρ:List (Option T)}{O:AI}{e a b:Expr}{es:List Expr}{Ψ:Es}{Φ:BH}{pos p:Pos}{t:T}{ts:List T}{x:Str}
end
end L2.TL
namespace L2
open PySem PySem.Spec PySem.Calls PyProof.Rows
end L2
namespace L2.TL
open PySem PySem.Spec PySem.Calls PyProof.Rows
section
variable{Z:Zx}{ρ:List (Option T)}{O O':AI}{e a b:Expr}{es:List Expr}{Ψ:Es}{Φ:BH}{pos p:Pos}{t:T}{ts:List T}{x y C D:Addr}{H':Hp}{o:HO}{cls:Value}{fs:Str}
end
section
variable{P:Program}{w:World}{K:a5}{mg:Str→Option Value}{base:Heap}
end
section
variable{P:Program}{w:World}{K:a5}{mg:Str→Option Value}{base:Heap}{C R f:Addr}{q x:Str}{st:Stmt}{fd:dM}
end
section
variable{K:a5}{O O':AI}{H:Hp}
end
section
variable{Z:Zx}{ρ:List (Option T)}{O:AI}{e a b:Expr}{es:List Expr}{Ψ:Es}{Φ:BH}{pos p:Pos}{t:T}{ts ts' us:List T}{x:Str}{l:Addr}
end
end L2.TL
namespace L2
open PySem PySem.Spec PyProof.Rows
section
variable{X:Cx}{W:St→XK}
end
end L2
namespace L2.TL
open PySem PySem.Spec PyProof.Rows
section
variable{Z:Zx}{ρ:List (Option T)}{O:AI}{Φ:BH}{p pos:Pos}{x:Str}{t:T}
end
section
variable{Z:Zx}{ρ:List (Option T)}{O:AI}{Ψ:Es}{a b o e:Expr}{apos cpos pos:Pos}{bs:List Bool}{i:Int}{ns:List Int}
theorem QV(i j:Nat){x y:Str}{a b:Expr}{px py pt pos:Pos}{kt k2 pt2}(hc:Z.X.calm=true)(hN:Z.X.N.Nodup)(h:WA Z ρ O [a,b] fun ts O'=>∃t u,ts=[t,u]∧Ψ.nx ((ρ.set i (some t)).set j (some u)) O')
  (hi:Z.X.N[i]?=some x:=by rfl) (hj:Z.X.N[j]?=some y:=by rfl) (hij:i≠j:=by decide) (hx:Z.X.env.scope.names.lookup x=some .local:=by rfl) (hy:Z.X.env.scope.names.lookup y=some .local:=by rfl)
  (hw:jI [.Tuple [.Name x px,.Name y py] kt pt] (.Tuple [a,b] k2 pt2) Z.X.env=pure (some [x,y]):=by rfl)
  (hs:jH [.Tuple [.Name x px,.Name y py] kt pt] (.Tuple [a,b] k2 pt2) pos.line Z.X.env=pure false:=by rfl):
  WS Z ρ O (.Assign [.Tuple [.Name x px,.Name y py] kt pt] (.Tuple [a,b] k2 pt2) pos) Ψ:=
 PS.weak (VW hc hN hi hj hij hx hy h hw hs) fun D σ H q=> ⟨q.1,fun vs H' ts O' ⟨t,u,e,p⟩ f r=>by
  subst e
  obtain⟨v,w,rfl,r1,r2⟩:=r.two_inv
  exact⟨v,w,rfl,q.2.nx _ O' _ H' p ⟨((q.1.step f).rl.set r1).set r2,(q.1.step f).fr⟩ f.kp⟩⟩
end
end L2.TL
namespace L2
open PySem PySem.Spec PyProof.Rows
section
variable{X:Cx}{pos:Pos}
end
end L2
namespace L2.TL
open PySem PySem.Spec PyProof.Rows
section
variable{Z:Zx}{ρ:List (Option T)}{O:AI}{x y z:Str}{p1 p2 p3 pos:Pos}{k:Nat}{ta tb tc:T}{fe e:Expr}{es:List Expr}{Φ:BH}
end
end L2.TL
namespace GrR
variable{R:Int→Int→Prop}{S L M:List Int}{a b p q u v x y:Int}{i j k d s e:Nat}{nb:Int→List Int}{n:Int}
theorem Ti(h:IsD R S v j):∃x∈S,∃L,Ch R (x::L)∧(x::L).Nodup∧(x::L).getLast?=some v∧L.length=j∧(∀y∈x::L,y=v∨∃i,i<j∧IsD R S y i)∧∀y∈L,y∉S:=by
 induction j generalizing v with
 |zero=>
  cases h.1 with
  |«at» hv=>exact⟨v,hv,[],trivial,by simp,rfl,rfl,fun y hy=> .inl (a8.mp hy),fun y hy=>by cases hy⟩
 |succ j ih=>
  obtain⟨u,hu,r⟩:=h.prev
  obtain⟨x,hx,L,l1,l2,l3,l4,l5,l6⟩:=ih hu
  obtain⟨M,eM⟩:∃M,x::L=M++[u]:=fD.mp l3
  have lev:∀y∈x::L,∃i,i<j+1∧IsD R S y i:=fun y hy=>by
   rcases l5 y hy with rfl| ⟨i,hi,q⟩
   ·exact⟨j,by omega,hu⟩
   ·exact⟨i,by omega,q⟩
  refine⟨x,hx,L++[v],?_,?_,?_,by simp[l4],fun y hy=>?_,fun y hy hs=>?_⟩
  ·rw[←eZ,eM]
   exact Cw.mpr ⟨eM▸l1,r⟩
  ·rw[←eZ,eH]
   refine⟨l2,by simp,fun y hy z hz e=>?_⟩
   rw[a8.mp hz] at e
   subst e
   obtain⟨i,hi,q⟩:=lev y hy
   have:=q.uniq h
   omega
  ·rw[←eZ,gJ]
   rfl
  ·rw[←eZ] at hy
   rcases dw.mp hy with hy|hy
   ·exact .inr (lev y hy)
   ·exact .inl (a8.mp hy)
  ·rcases dw.mp hy with hy|hy
   ·exact l6 y hy hs
   ·rw[a8.mp hy] at hs
    exact h.2 0 (by omega) (.at hs)
theorem join(sy:∀u v,R u v→R v u)(hS:∀x∈S,∀y∈S,x=y∨(R x y∧1≤e))(hx:x∈S)(hy:y∈S)(h1:Ch R (x::L))(h2:Ch R (y::M))(n1:(x::L).Nodup)(n2:(y::M).Nodup)(o1:∀z∈L,z∉S)(o2:∀z∈M,z∉S)(t1:(x::L).getLast?=some v)(t2:(y::M).getLast?=some v)(ne:x=y→L≠M):∃Q,Ring R Q∧Q.length≤L.length+M.length+e:=by
 rcases hS x hx y hy with rfl| ⟨r,he⟩
 ·obtain⟨Q,r,l⟩:=EN sy h1 h2 n1 n2 t1 t2 (ne rfl)
  exact⟨Q,r,by omega⟩
 ·by_cases exy:x=y
  ·subst exy
   obtain⟨Q,r,l⟩:=EN sy h1 h2 n1 n2 t1 t2 (ne rfl)
   exact⟨Q,r,by omega⟩
  ·obtain⟨Q,r,l⟩:=EN (p:=L) (q:=y::M) sy h1 ⟨r,h2⟩ n1 (dE.mpr ⟨fun h=>by
    rcases dh.mp h with h|h
    ·exact exy h
    ·exact o2 x h hx,n2⟩) t1 (by rw[eP];exact t2) (fun z=>o1 y (by rw[z];simp) hy)
   exact⟨Q,r,by simp only[dm] at l;omega⟩
theorem Lp(sy:∀u v,R u v→R v u)(hS:∀x∈S,∀y∈S,x=y∨(R x y∧1≤e))(least:∀M,Ring R M→s≤M.length)(hs:2*(j+1)+e<s)(hv:IsD R S v (j+1))(h1:IsD R S a j)(h2:IsD R S b j)(r1:R a v)(r2:R b v):a=b:=by
 obtain⟨x,hx,L,l1,l2,l3,l4,l5,l6⟩:=Ti h1
 obtain⟨y,hy,M,m1,m2,m3,m4,m5,m6⟩:=Ti h2
 have nv:v∉S:=fun h=>hv.2 0 (by omega) (.at h)
 have app:∀{x:Int} {L:List Int} {a:Int},Ch R (x::L)→(x::L).getLast?=some a→R a v→Ch R (x::(L++[v])):=fun{x L a} h1 h2 h3=>by
  obtain⟨M,eM⟩:∃M,x::L=M++[a]:=fD.mp h2
  rw[←eZ,eM]
  exact Cw.mpr ⟨eM▸h1,h3⟩
 have nd:∀{x:Int} {L:List Int} {a:Int},IsD R S a j→(x::L).Nodup→(∀y∈x::L,y=a∨∃i,i<j∧IsD R S y i)→(x::(L++[v])).Nodup:=fun{x L a} ha h1 h2=>by
  rw[←eZ,eH]
  refine⟨h1,by simp,fun y hy z hz e=>?_⟩
  rw[a8.mp hz] at e
  subst e
  rcases h2 y hy with rfl| ⟨i,hi,q⟩
  ·have:=ha.uniq hv
   omega
  ·have:=q.uniq hv
   omega
 have out:∀{L:List Int},(∀y∈L,y∉S)→∀y∈L++[v],y∉S:=fun{L} h y hy=>by
  rcases dw.mp hy with hy|hy
  ·exact h y hy
  ·rw[a8.mp hy]
   exact nv
 by_cases ab:a=b
 ·exact ab
 ·obtain⟨Q,r,l⟩:=join (v:=v) sy hS hx hy (app l1 l3 r1) (app m1 m3 r2) (nd h1 l2 l5) (nd h2 m2 m5) (out l6) (out m6) (by rw[←eZ,gJ];rfl) (by rw[←eZ,gJ];rfl) (fun exy z=>by
   subst exy
   have:L=M:=List.append_cancel_right z
   subst this
   rw[l3] at m3
   cases m3
   exact ab rfl)
  have:=least Q r
  simp only[dH,dm,gN] at l
  omega
theorem QW(sy:∀u v,R u v→R v u)(ir:∀u,¬R u u)(hS:∀x∈S,∀y∈S,x=y∨(R x y∧1≤e))(least:∀M,Ring R M→s≤M.length)(hj:1≤j)(hs:2*j+1+e<s)(h1:IsD R S a j)(h2:IsD R S b j):¬R a b:=fun r=>by
 obtain⟨x,hx,L,l1,l2,l3,l4,l5,l6⟩:=Ti h1
 obtain⟨y,hy,M,m1,m2,m3,m4,m5,m6⟩:=Ti h2
 have nv:b∉S:=fun h=>h2.2 0 (by omega) (.at h)
 obtain⟨Q,q,l⟩:=join (v:=b) (L:=L++[b]) sy hS hx hy (by
  obtain⟨N,eN⟩:∃N,x::L=N++[a]:=fD.mp l3
  rw[←eZ,eN]
  exact Cw.mpr ⟨eN▸l1,r⟩) m1 (by
  rw[←eZ,eH]
  refine⟨l2,by simp,fun y hy z hz e=>?_⟩
  rw[a8.mp hz] at e
  subst e
  rcases l5 y hy with rfl| ⟨i,hi,q⟩
  ·exact ir _ r
  ·have:=q.uniq h2
   omega) m2 (fun z hz=>by
  rcases dw.mp hz with hz|hz
  ·exact l6 z hz
  ·rw[a8.mp hz];exact nv) m6 (by rw[←eZ,gJ];rfl) m3 (fun _ z=>by
   have:=congrArg List.length z
   simp only[dH,dm,gN] at this
   omega)
 have:=least Q q
 simp only[dH,dm,gN] at l
 omega
def LV(R:Int→Int→Prop)(S:List Int)(j:Nat)(l:List Int):Prop:=l.Nodup∧∀v,v∈l↔IsD R S v j
theorem CZ{l l':List Int}(h:l.Nodup)(h':l'.Nodup)(e:∀v,v∈l↔v∈l'):l.length=l'.length:=((List.perm_ext_iff_of_nodup h h').mpr e).length_eq
theorem Tj{l:List Int}(h:l.Nodup)(hm:x∈l):(l.filter fun v=>decide (v≠x)).length+1=l.length:=by
 have:((x::l.filter fun v=>decide (v≠x))).length=l.length:=CZ (dE.mpr ⟨fun h=>by simp at h,h.filter _⟩) h fun v=>by
  simp only[dh,et,decide_eq_true_eq]
  by_cases c:v=x
  ·subst c;simp[hm]
  ·simp[c]
 simpa using this
theorem Mz{f:Int→List Int}:∀{l:List Int},l.Nodup→(∀u∈l,(f u).Nodup)→(∀u∈l,∀w∈l,∀v,v∈f u→v∈f w→u=w)→(l.flatMap f).Nodup
 | [],_,_,_=>by simp
 |u::l,h,h1,h2=>by
  rw[dE] at h
  rw[List.flatMap_cons,eH]
  refine⟨h1 u (by simp),Mz h.2 (fun w hw=>h1 w (by simp[hw])) (fun w hw z hz=>h2 w (by simp[hw]) z (by simp[hz])),fun v hv w hw e=>?_⟩
  subst e
  obtain⟨z,hz,hv2⟩:=i8.mp hw
  have:=h2 u (by simp) z (by simp[hz]) v hv hv2
  subst this
  exact h.1 hz
theorem Kc{f:Int→List Int}{c:Nat}:∀{l:List Int},(∀u∈l,(f u).length=c)→(l.flatMap f).length=c*l.length
 | [],_=>by simp
 |u::l,h=>by
  rw[List.flatMap_cons,dH,h u (by simp),Kc (l:=l) (fun w hw=>h w (by simp[hw])),dm,Nat.mul_succ,Nat.add_comm]
theorem ZH{l l':List Int}(hR:∀u v,v∈nb u↔R u v)(hn:∀u,(nb u).Nodup)(hd:∀u∈l,(nb u).length=d+1)(h:LV R S j l)(h':LV R S (j+1) l')(hw:∀u∈l,∃w,R u w∧∀v,R u v→(v≠w↔IsD R S v (j+1)))(up:∀u∈l,∀w∈l,∀v,IsD R S v (j+1)→R u v→R w v→u=w):l'.length=d*l.length:=by
 classical
 have e:∀u∈l,((nb u).filter fun v=>decide (IsD R S v (j+1))).length=d:=fun u hu=>by
  obtain⟨w,rw',hv⟩:=hw u hu
  have:=Tj (hn u) ((hR u w).mpr rw')
  rw[hd u hu] at this
  rw[show((nb u).filter fun v=>decide (IsD R S v (j+1)))=(nb u).filter fun v=>decide (v≠w) from List.filter_congr fun v hm=>by
   have:=hv v ((hR u v).mp hm)
   simp only[decide_eq_decide]
   exact this.symm]
  omega
 rw[←Kc e]
 refine CZ h'.1 (Mz h.1 (fun u _=> (hn u).filter _) (fun u hu w hw v h1 h2=>?_)) fun v=>?_
 ·rw[et,decide_eq_true_eq] at h1 h2
  exact up u hu w hw v h1.2 ((hR ..).mp h1.1) ((hR ..).mp h2.1)
 ·rw[h'.2 v,i8]
  constructor
  ·intro hv
   obtain⟨u,hu,r⟩:=hv.prev
   exact⟨u,(h.2 u).mpr hu,et.mpr ⟨(hR ..).mpr r,decide_eq_true hv⟩⟩
  ·rintro⟨u,_,hm⟩
   rw[et,decide_eq_true_eq] at hm
   exact hm.2
theorem QX(sy:∀u v,R u v→R v u)(hu:IsD R S u (j+1))(r:R u v):∃i,j≤i∧i≤j+2∧IsD R S v i:=by
 obtain⟨i,hi,q⟩:=(W.go hu.1 r).least
 refine⟨i,?_,hi,q⟩
 by_cases c:j≤i
 ·exact c
 ·exact absurd (W.go q.1 (sy _ _ r)) (hu.2 _ (by omega))
theorem NA{l l':List Int}(sy:∀u v,R u v→R v u)(ir:∀u,¬R u u)(hS:∀x∈S,∀y∈S,x=y∨(R x y∧1≤e))(least:∀M,Ring R M→s≤M.length)(hs:2*(j+2)+e<s)(hR:∀u v,v∈nb u↔R u v)(hn:∀u,(nb u).Nodup)(hd:∀u∈l,(nb u).length=d+1)(h:LV R S (j+1) l)(h':LV R S (j+2) l'):l'.length=d*l.length:=by
 refine ZH hR hn hd h h' (fun u hu=>?_) (fun u hu w hw v hv r1 r2=>Lp sy hS least hs hv ((h.2 u).mp hu) ((h.2 w).mp hw) r1 r2)
 have hu:=(h.2 u).mp hu
 obtain⟨w,hw,r⟩:=hu.prev
 refine⟨w,sy _ _ r,fun v rv=> ⟨fun ne=>?_,fun hv z=>?_⟩⟩
 ·obtain⟨i,h1,h2,q⟩:=QX sy hu rv
  have:i=j∨i=j+1∨i=j+2:=by omega
  rcases this with rfl|rfl|rfl
  ·exact absurd (Lp sy hS least (by omega) hu q hw (sy _ _ rv) r) ne
  ·exact absurd rv (QW sy ir hS least (by omega) (by omega) hu q)
  ·exact q
 ·subst z
  have:=hv.uniq hw
  omega
theorem QY(sy:∀u v,R u v→R v u)(ir:∀u,¬R u u)(least:∀M,Ring R M→s≤M.length)(hR:∀u v,v∈nb u↔R u v)(hn:∀u,(nb u).Nodup)(hb:∀u v,R u v→0≤v∧v<n)(hd:∀u,0≤u→u<n→(nb u).length=d+1)(hp:0≤p∧p<n){F:Nat→List Int}(hF:∀i,LV R [p] i (F i)):∀i,2*(i+1)<s→(F (i+1)).length=(d+1)*d^i
 |0,_=>by
  rw[Nat.pow_zero,Nat.mul_one,←hd p hp.1 hp.2]
  refine CZ (hF 1).1 (hn p) fun v=>?_
  rw[(hF 1).2,hR]
  constructor
  ·intro h
   obtain⟨u,hu,r⟩:=IsD.prev (s:=0) h
   cases hu.1 with
   |«at» h=>rw[a8.mp h] at r;exact r
  ·intro r
   refine⟨.go (.at (by simp)) r,fun j hj w=>?_⟩
   have:j=0:=by omega
   subst this
   cases w with
   |«at» h=>rw[a8.mp h] at r;exact ir _ r
 |i+1,hs=>by
  have ih:=QY sy ir least hR hn hb hd hp hF i (by omega)
  rw[NA (e:=0) sy ir (fun x hx y hy=> .inl (by rw[a8.mp hx,a8.mp hy])) least hs hR hn (fun u hu=>by
   have:=(((hF (i+1)).2 u).mp hu).1.inb (n:=n) hb (fun z hz=>by rw[a8.mp hz];exact hp)
   exact hd u this.1 this.2) (hF (i+1)) (hF (i+2)),ih,mx]
  rw[my,Nat.mul_assoc]
theorem QZ(sy:∀u v,R u v→R v u)(ir:∀u,¬R u u)(least:∀M,Ring R M→s≤M.length)(hR:∀u v,v∈nb u↔R u v)(hn:∀u,(nb u).Nodup)(hb:∀u v,R u v→0≤v∧v<n)(hd:∀u,0≤u→u<n→(nb u).length=d+1)(r:R a b){F:Nat→List Int}(hF:∀i,LV R [a,b] i (F i)):∀i,2*i+1<s→(F i).length=2*d^i
 |0,_=>by
  have ne:a≠b:=fun z=>ir b (z▸r)
  rw[Nat.pow_zero]
  refine CZ (l':=[a,b]) (hF 0).1 (by simp[ne]) fun v=>?_
  rw[(hF 0).2]
  exact⟨fun h=>by cases h.1 with|«at» h=>exact h,fun h=> ⟨.at h,fun j hj=>by omega⟩⟩
 |i+1,hs=>by
  have ih:=QZ sy ir least hR hn hb hd r hF i (by omega)
  have hab:=hb _ _ r
  have hba:=hb _ _ (sy _ _ r)
  have hS:∀x∈[a,b],∀y∈[a,b],x=y∨(R x y∧1≤1):=fun x hx y hy=>by
   simp only[dh,fv,or_false] at hx hy
   rcases hx with rfl|rfl<;>rcases hy with rfl|rfl
   ·exact .inl rfl
   ·exact .inr ⟨r,de _⟩
   ·exact .inr ⟨sy _ _ r,de _⟩
   ·exact .inl rfl
  have hl:∀i,∀u∈F i,(nb u).length=d+1:=fun i u hu=>by
   have:=(((hF i).2 u).mp hu).1.inb (n:=n) hb (fun z hz=>by
    simp only[dh,fv,or_false] at hz
    rcases hz with rfl|rfl
    ·exact hba
    ·exact hab)
   exact hd u this.1 this.2
  rw[mx,←Nat.mul_assoc,←ih,my]
  cases i with
  |succ i=>exact NA (e:=1) sy ir hS least (by omega) hR hn (hl _) (hF (i+1)) (hF (i+2))
  |zero=>
   refine ZH hR hn (hl 0) (hF 0) (hF 1) (fun u hu=>?_) (fun u hu w hw v hv r1 r2=>Lp (e:=1) sy hS least (by omega) hv (((hF 0).2 u).mp hu) (((hF 0).2 w).mp hw) r1 r2)
   have h0:=(((hF 0).2 u).mp hu).1
   have key:∀u w,u∈[a,b]→w∈[a,b]→R u w→(∀z∈[a,b],z=u∨z=w)→∀v,R u v→(v≠w↔IsD R [a,b] v 1):=fun u w hu hw ruw al v rv=>by
    constructor
    ·intro ne
     refine⟨.go (.at hu) rv,fun j hj w'=>?_⟩
     have:j=0:=by omega
     subst this
     cases w' with
     |«at» h=>
      rcases al v h with rfl|rfl
      ·exact ir _ rv
      ·exact ne rfl
    ·intro hv z
     subst z
     exact hv.2 0 (by omega) (.at hw)
   cases h0 with
   |«at» h=>
    simp only[dh,fv,or_false] at h
    rcases h with rfl|rfl
    ·exact⟨b,r,key u b (by simp) (by simp) r (fun z hz=>by simpa using hz)⟩
    ·exact⟨a,sy _ _ r,key u a (by simp) (by simp) (sy _ _ r) (fun z hz=>by
      simp only[dh,fv,or_false] at hz
      exact hz.symm)⟩
def Ca(f:Nat→Nat):Nat→Nat
 |0=>0
 |k+1=>Ca f k+f k
theorem NB(hb:∀u v,R u v→0≤v∧v<n)(hS:∀z∈S,0≤z∧z<n){F:Nat→List Int}(hF:∀i,LV R S i (F i))(k:Nat):∃l:List Int,l.Nodup∧(∀v,v∈l↔∃i,i<k∧IsD R S v i)∧l.length=Ca (fun i=> (F i).length) k:=by
 induction k with
 |zero=>exact⟨[],by simp,fun v=>by simp,rfl⟩
 |succ k ih=>
  obtain⟨l,h1,h2,h3⟩:=ih
  refine⟨l++F k,?_,fun v=>?_,by rw[dH,h3];rfl⟩
  ·rw[eH]
   refine⟨h1,(hF k).1,fun u hu w hw e=>?_⟩
   subst e
   obtain⟨i,hi,q⟩:=(h2 u).mp hu
   have:=q.uniq (((hF k).2 u).mp hw)
   omega
  ·rw[dw,h2,(hF k).2]
   constructor
   ·rintro(⟨i,hi,q⟩|q)
    ·exact⟨i,by omega,q⟩
    ·exact⟨k,by omega,q⟩
   ·rintro⟨i,hi,q⟩
    by_cases c:i<k
    ·exact .inl ⟨i,c,q⟩
    ·have:i=k:=by omega
     subst this
     exact .inr q
theorem Qa(hb:∀u v,R u v→0≤v∧v<n)(hS:∀z∈S,0≤z∧z<n){F:Nat→List Int}(hF:∀i,LV R S i (F i))(k:Nat):Ca (fun i=> (F i).length) k≤n.toNat:=by
 obtain⟨l,h1,h2,h3⟩:=NB hb hS hF k
 rw[←h3]
 refine Gr.Eu h1 fun z hz=>?_
 obtain⟨i,_,q⟩:=(h2 z).mp hz
 exact q.1.inb hb hS
theorem NC(hb:∀u v,R u v→0≤v∧v<n)(hS:∀z∈S,0≤z∧z<n){F:Nat→List Int}(hF:∀i,LV R S i (F i))(k:Nat)(he:n.toNat≤Ca (fun i=> (F i).length) k)(v0:0≤v)(v1:v<n):∃i,i<k∧IsD R S v i:=by
 obtain⟨l,h1,h2,h3⟩:=NB hb hS hF k
 by_cases c:v∈l
 ·exact(h2 v).mp c
 ·have:=Gr.Eu (n:=n) (L:=v::l) (dE.mpr ⟨c,h1⟩) fun z hz=>by
   rcases dh.mp hz with rfl|hz
   ·exact⟨v0,v1⟩
   ·obtain⟨i,_,q⟩:=(h2 z).mp hz
    exact q.1.inb hb hS
  rw[dm] at this
  omega
open Classical in
def ZI (R:Int→Int→Prop) (S:List Int) (n:Int) (i:Nat):List Int:=((dv n.toNat).map fun(j:Nat)=> (j:Int)).filter fun v=>decide (IsD R S v i)
theorem OV(hb:∀u v,R u v→0≤v∧v<n)(hS:∀z∈S,0≤z∧z<n)(i:Nat):LV R S i (ZI R S n i):=by
 refine⟨iZ _ ?_,fun v=>?_⟩
 ·rw[eT]
  exact List.nodup_range.imp fun{a b} h z=>h (by omega)
 ·classical
  unfold ZI
  rw[et,di]
  refine⟨fun h=>of_decide_eq_true h.2,fun h=> ⟨?_,decide_eq_true h⟩⟩
  have:=h.1.inb hb hS
  exact⟨v.toNat,dW.mpr (by omega),by omega⟩
theorem Iz{f g:Nat→Nat}:∀k,(∀i,i<k→f i=g i)→Ca f k=Ca g k
 |0,_=>rfl
 |k+1,h=>by show Ca f k+f k=Ca g k+g k;rw[Iz k fun i hi=>h i (by omega),h k (by omega)]
theorem Ht{f:Nat→Nat}:∀k,Ca f (k+1)=f 0+Ca (fun i=>f (i+1)) k
 |0=>by show 0+f 0=f 0+0;omega
 |k+1=>by show Ca f (k+1)+f (k+1)=f 0+(Ca (fun i=>f (i+1)) k+f (k+1));rw[Ht k];omega
theorem Qb{l:List Int}(h:LV R [p] 0 l):l.length=1:=CZ (l':=[p]) h.1 (by simp) fun v=>by
 rw[h.2]
 exact⟨fun h=>by cases h.1 with|«at» h=>exact h,fun h=> ⟨.at h,fun j hj=>by omega⟩⟩
theorem Tn(sy:∀u v,R u v→R v u)(ir:∀u,¬R u u)(least:∀M,Ring R M→s≤M.length)(hR:∀u v,v∈nb u↔R u v)(hn:∀u,(nb u).Nodup)(hb:∀u v,R u v→0≤v∧v<n)(hd:∀u,0≤u→u<n→(nb u).length=d+1)(hp:0≤p∧p<n){F:Nat→List Int}(hF:∀i,LV R [p] i (F i))(k:Nat)(hk:2*k<s):Ca (fun i=> (F i).length) (k+1)=1+Ca (fun i=> (d+1)*d^i) k:=by
 rw[Ht,Qb (hF 0),Iz k fun i hi=>QY sy ir least hR hn hb hd hp hF i (by omega)]
theorem To(sy:∀u v,R u v→R v u)(ir:∀u,¬R u u)(least:∀M,Ring R M→s≤M.length)(hR:∀u v,v∈nb u↔R u v)(hn:∀u,(nb u).Nodup)(hb:∀u v,R u v→0≤v∧v<n)(hd:∀u,0≤u→u<n→(nb u).length=d+1)(r:R a b){F:Nat→List Int}(hF:∀i,LV R [a,b] i (F i))(k:Nat)(hk:2*k≤s):Ca (fun i=> (F i).length) k=Ca (fun i=>2*d^i) k:=Iz k fun i hi=>QZ sy ir least hR hn hb hd r hF i (by omega)
end GrR
namespace K19
open PySem L2 L2.TL PySem.Spec PyProof.Rows
def top(i:Nat):Stmt:=dO.main.body.getD i (.Pass ⟨0,0,0,0⟩)
abbrev Lq:Stmt:=top 7
abbrev JA:Stmt:=top 8
abbrev Lr:Stmt:=top 13
abbrev Qc:Stmt:=top 14
abbrev JB:Stmt:=top 15
abbrev Hu:Stmt:=top 16
abbrev Ls:Stmt:=top 17
abbrev ND:Stmt:=top 18
abbrev ES:Stmt:=top 12
abbrev Cb:Stmt:=top 21
abbrev JC:Stmt:=top 9
abbrev Tp:Stmt:=top 19
abbrev JD:Stmt:=top 20
abbrev Qd:Stmt:=top 26
abbrev Qe:Stmt:=top 27
abbrev bH:Stmt:=top 28
abbrev Wo:Stmt:=top 29
abbrev Lu:Stmt:=top 30
abbrev Wp:Stmt:=top 31
abbrev Qf:Stmt:=top 32
abbrev Wq:Stmt:=top 33
abbrev NF:Stmt:=top 34
abbrev Qg:Stmt:=top 35
abbrev NG:Stmt:=top 36
abbrev Wr:Stmt:=top 37
abbrev Lv:Stmt:=top 38
abbrev Hv:Stmt:=top 49
abbrev Gc:Stmt:=top 50
structure Txt(mg:Str→Option Value):Prop where
 nInt:mg "int" =none
 nBool:mg "bool" =none
 nTuple:mg "tuple" =none
 nList:mg "list" =none
 nSet:mg "set" =none
 nRange:mg "range" =none
 nIsi:mg "isinstance" =none
 nMax:mg "max" =none
 nMin:mg "min" =none
 nLen:mg "len" =none
 nAll:mg "all" =none
 nSorted:mg "sorted" =none
 nRepr:mg "repr" =none
 nVE:mg "ValueError" =none
 nAny:mg "any" =none
 nEnum:mg "enumerate" =none
 iLT:∃t:Tok,mg "LEAST_TIES" =some (.int 2 t)
 iMT:∃t:Tok,mg "MOST_TIES" =some (.int 15 t)
 iLR:∃t:Tok,mg "LEAST_RING" =some (.int 3 t)
 iMR:∃t:Tok,mg "MOST_RING" =some (.int 16 t)
def DV(t:T)(a b:Int):Bool:=match t with
 | .int i=>decide (a≤i)&&decide (i≤b)
 |_=>false
def AL(n:Int)(p:Int×Int):Prop:=0≤p.1∧p.1<p.2∧p.2<n
theorem EW.cast{Z:Zx}{ρ:List (Option T)}{O:AI}{e:Expr}{k l:Bool}(h:EW Z ρ O e k)(z:k=l):EW Z ρ O e l:=z▸h
theorem EB.cast{Z:Zx}{ρ:List (Option T)}{O:AI}{e:Expr}{k l:Bool}(h:EB Z ρ O e k)(z:k=l):EB Z ρ O e l:=z▸h
theorem ET.cast{Z:Zx}{ρ:List (Option T)}{O:AI}{e:Expr}{k l:T}(h:ET Z ρ O e k)(z:k=l):ET Z ρ O e l:=z▸h
section
variable{P:Program}{w:World}{K:a5}{mg:Str→Option Value}{base:Heap}
def JE:Bu:=KN fun ts r=>∃t a b,ts=[t,.int a,.int b]∧Az t=false∧r=.bl (DV t a b)
theorem Tq:FnScope ["thing","least","most"] ["thing","least","most"] (AA Lq):=⟨rfl,rfl,rfl,by decide+kernel,rfl,by decide+kernel,by decide+kernel⟩
theorem Qh{f:Addr}{fd:dM}(F:Fun K "is_whole" "is_whole" Lq f fd)(T:Txt mg):FnOk P w K mg base (CXe P w) 1 f fd ["thing","least","most"] (Ce K JE):=by
 refine AY F Tq ?_ ?_
 ·rintro ts O Φ Ξ ⟨r,⟨t,a,b,rfl,_⟩,_⟩
  rfl
 ·rintro cdv A outer s H E O Ξ hr xf _ Φ ⟨_,⟨t,a,b,rfl,ht,rfl⟩,q⟩
  refine AD (Af (EW.eb (BR (BS (Iq T.nIsi T.nInt Yy TB (ev 0) ht)) fun _=>Cr (Iq T.nIsi T.nBool Yz QF (ev 0) ht))) (fun h=>AH (AM (Ml _ ?_))) (fun h=>Ah ?_))
  ·have:DV t a b=false:=by
    cases t<;>first|rfl|cases h
   rw[this] at q;exact q
  ·cases t with
   |int i=>exact AH (AM (Sx (ev 1) (ev 0) (ev 2) (by with_unfolding_all rfl) _ q))
   |bl i=>cases h
   |raw i=>cases ht
   |_=>cases h
theorem NH{t:T}{a b:Int}(h:DV t a b=true):∃i,t=.int i:=by
 cases t<;>first|exact⟨_,rfl⟩|cases h
end
abbrev Qi:Stmt:=top 40
abbrev Qj:Stmt:=top 41
abbrev Ws:Stmt:=top 42
abbrev Qk:Stmt:=top 43
def FN(xs:List T):Prop:=∃a b c:Int,xs=[.int a,.int b,.int c]∧0≤a∧0≤c∧c<2147483648
section
variable{P:Program}{w:World}{K:a5}{mg:Str→Option Value}{base:Heap}
def Gd(K:a5):Sp:=fun vs H Q _=>∃(a:Addr) (ns:List Int),vs=[.ref a,.int 0]∧Dj K H a (ns.map V.int)∧∀i,Q (.int i) H
theorem Wt:FnScope ["_law_script","_law_k"] ["_law_script","_law_k"] (AA Qi):=⟨rfl,rfl,rfl,by decide+kernel,rfl,by decide+kernel,by decide+kernel⟩
theorem Tr{f:Addr}{fd:dM}(F:Fun K "_law_cell_at" "_law_cell_at" Qi f fd)(T:Txt mg):FnOk P w K mg base (CXe P w) 1 f fd ["_law_script","_law_k"] (Gd K):=by
 refine F.okX Wt (fun vs H Q E h=>?_) (fun cdv A outer s H vs Q E hr h=>?_)
 ·obtain⟨a,ns,rfl,_⟩:=h
  rfl
 ·obtain⟨a,ns,rfl,hS,k⟩:=h
  refine⟨_,Jf (UZ (MS Ox (pv 1) (Fn Cg (by rfl) T.nLen Wd (DY (pv 0) Ei)) (Ad _)) (IL (IM (Uc Dy (pv 0) (pv 1) (fun _ _=>rfl)))) MN) (IL (IM Oo)),?_⟩
  refine⟨_,rfl,_,rfl,a,_,rfl,.inl hS,_,_,rfl,rfl,_,rfl,?_⟩
  refine SZ (fun h1=>?_) (fun h1=>?_)
  ·have h1:(0:Int)< ((ns.map V.int).length:Int):=by simpa using h1
   cases ns with
   |nil=>simp at h1
   |cons n ns=>exact⟨_,rfl,_,rfl,a,_,0,.int n,rfl,rfl,hS,Bd (j:=0) rfl,k n⟩
  ·exact k 0
def Ql:Bu:=fun ts O Φ _=>∃n:Int,ts=[.int n]∧∀m:Int,0≤m→m<2147483629→Φ (.int m) O
theorem Qm:FnScope ["_law_seed"] ["_law_seed"] (AA Qj):=⟨rfl,rfl,rfl,by decide+kernel,rfl,by decide+kernel,by decide+kernel⟩
theorem Ts{f:Addr}{fd:dM}(F:Fun K "_law_next" "_law_next" Qj f fd):FnOk P w K mg base (CXe P w) 1 f fd ["_law_seed"] (Ce K Ql):=by
 refine AY F Qm ?_ ?_
 ·rintro ts O Φ Ξ ⟨n,rfl,_⟩
  rfl
 ·rintro cdv A outer s H E O Ξ hr xf _ Φ ⟨n,rfl,q⟩
  have b1:=ig (n+7919) (show(2147483647:Int)≠0 by decide)
  have b2:=gG (n+7919) (show(0:Int)<2147483647 by decide)
  refine AD (AS 0 (ET.we (Cq (Au (ev 0) AB) AB (by decide)) ?_) Qm.nd)
  exact AH (AM (ET.we (Cq (Au (Au (Ds (ev 0) (ev 0) (.inl ⟨by omega,by omega⟩)) (Ds AB (ev 0) (.inl ⟨by decide,by decide⟩))) AB) AB (by decide)) (q _ (ig _ (by decide)) (gG _ (by decide)))))
def Ur:Bu:=fun ts O Φ _=>∃c:Int,ts=[.int c]∧∀(p:Addr) (xs:List T),O p=none→FN xs→Φ (.raw (.ref p)) (Ac O p xs)
theorem Us:FnScope ["_law_cell","_law_left"] ["_law_cell"] (AA Ws):=⟨rfl,rfl,rfl,by decide+kernel,rfl,by decide+kernel,by decide+kernel⟩
theorem Wu{f:Addr}{fd:dM}(F:Fun K "_law_pen_of" "_law_pen_of" Ws f fd)(T:Txt mg):FnOk P w K mg base (CXe P w) 1 f fd ["_law_cell"] (Ce K Ur):=by
 refine AY F Us ?_ ?_
 ·rintro ts O Φ Ξ ⟨n,rfl,_⟩
  rfl
 ·rintro cdv A outer s H E O Ξ hr xf _ Φ ⟨n,rfl,q⟩
  refine AD (AS 1 (ET.we (FW T.nMax rfl (ev 0) (CF AB (ev 0))) ?_) Us.nd)
  refine AH (AM (FS (EA.wa (AJ (ev 1) (AJ (TK T.nInt (Yt (ev 1) (WK AB AB ⟨by decide,by decide,by decide⟩))) (AJ (Cq (ev 1) AB (by decide)) AC))) ⟨by show 3≤sizeLine;decide,fun a ha=>q a _ ha ?_⟩)))
  have b1:=ig (max n (0-n)) (show(1000003:Int)≠0 by decide)
  have b2:=gG (max n (0-n)) (show(0:Int)<1000003 by decide)
  exact⟨_,_,_,rfl,by omega,b1,by omega⟩
def Aq:Bu:=fun ts O Φ _=>∃(p:Addr) (xs:List T) (m:Int),ts=[.raw (.ref p),.int m]∧O p=some xs∧FN xs∧0<m∧m<1000∧∀(r:Int) (xs':List T),0≤r→r<m→FN xs'→Φ (.int r) (Ac O p xs')
theorem Qn:FnScope ["_law_pen","_law_many","_law_found"] ["_law_pen","_law_many"] (AA Qk):=⟨rfl,rfl,rfl,by decide+kernel,rfl,by decide+kernel,by decide+kernel⟩
theorem Tt{f:Addr}{fd:dM}(F:Fun K "_law_draw" "_law_draw" Qk f fd)(G:FnT P w K mg base "_law_next" 1 ["_law_seed"] Ql):FnOk P w K mg base (CXe P w) 2 f fd ["_law_pen","_law_many"] (Ce K Aq):=by
 refine AY F Qn ?_ ?_
 ·rintro ts O Φ Ξ ⟨p,xs,m,rfl,_⟩
  rfl
 ·rintro cdv A outer s H E O Ξ hr xf _ Φ ⟨p,_,m,rfl,hp,⟨a,b,c,rfl,a0,c0,c1⟩,m0,m1,q⟩
  refine AD (Af (CI (DS hp (ev 0) AB) AB) (fun h=>?_) (fun h=>Ah ?_))
  ·refine AD (AS 2 (ET.we (Cq (DS hp (ev 0) AB) (ev 1) m0) ?_) Qn.nd)
   refine AD (GS (ET.we (Bq (DS hp (ev 0) AB) (ev 1) ⟨m0,by omega⟩) (ET.we (ev 0) ⟨p,rfl,ET.we AB ⟨_,0,0,rfl,hp,rfl,?_⟩⟩)))
   exact AH (AM (ET.we (ev 2) (q _ _ (ig _ (by omega)) (gG _ m0) ⟨a/m,b,c,rfl,Int.ediv_nonneg a0 (by omega),c0,c1⟩)))
  ·refine AD (GS (AO G hr xf (BW (FI Eh (AO G hr xf (EA.wa (AJ (DS hp (ev 0) AB) AC) ⟨c,rfl,fun u u0 u1=>?_⟩))))))
   refine ET.we AB (GO _ (Ae ⟨u+7,rfl,fun r r0 r1=>ET.we (ev 0) ⟨p,rfl,ET.we AB ⟨_,2,2,rfl,hp,rfl,?_⟩⟩⟩))
   exact AH (AM (ET.we (Cq (Bq (DS AG (ev 0) AB) AB ⟨by decide,by decide⟩) (ev 1) m0) (q _ _ (ig _ (by omega)) (gG _ m0) ⟨a,b,r,rfl,a0,r0,by omega⟩)))
end
abbrev Ex:Stmt:=top 44
abbrev EU:Stmt:=top 45
abbrev FZ:Stmt:=top 46
def Cz(ns:List Int)(i:Int):Int:=ns.getD i.toNat 0
def nm(ns:List Int)(p:Int×Int):Int×Int:=(min (Cz ns p.1) (Cz ns p.2),max (Cz ns p.1) (Cz ns p.2))
theorem EV{ns:List Int}{i:Int}(h0:0≤i)(h1:i<ns.length):atI (ns.map T.int) i=some (.int (Cz ns i)):=by
 obtain⟨j,rfl⟩:=dz h0
 have hj:j<ns.length:=by omega
 have:=Bd (xs:=ns.map T.int) (j:=j) (v:=.int (ns.getD j 0)) (by
  rw[b8,b9 hj]
  simp[hZ,hj])
 exact this
theorem Ey{α β:Type}(f:α→β):∀(l:List α) (i:Nat),(l.eraseIdx i).map f=(l.map f).eraseIdx i
 | [],_=>rfl
 |_::_,0=>rfl
 |a::l,i+1=>by
  show f a::(l.eraseIdx i).map f=f a::(l.map f).eraseIdx i
  rw[Ey f l i]
theorem Gi{α:Type}:∀(l:List α) (i:Nat) (h:i<l.length),(l[i]::l.eraseIdx i).Perm l
 |_::_,0,_=> .refl _
 |a::l,i+1,h=> (ie.swap a (l[i]'(by simpa using h)) (l.eraseIdx i)).trans ((Gi l i (by simpa using h)).cons a)
section
variable{P:Program}{w:World}{K:a5}{mg:Str→Option Value}{base:Heap}
def JF:Bu:=fun ts O Φ _=>∃(n:Int) (ps:List (Int×Int)) (ns:List Int),ts=[.tup [.int n,.tup (ps.map AF)],.tup (ns.map T.int)]∧ps.length≤300∧(∀p∈ps,0≤p.1∧p.1<ns.length∧0≤p.2∧p.2<ns.length)∧(∀z∈ns,0≤z∧z<65536)∧
 ∀qs:List (Int×Int),qs.Pairwise Dm→(∀q,q∈qs↔q∈ps.map (nm ns))→qs.length≤ps.length→Φ (.tup [.int n,.tup (qs.map AF)]) O
theorem NI:FnScope ["_law_web","_law_names","_law_ties"] ["_law_web","_law_names"] (AA Ex):=⟨rfl,rfl,rfl,by decide+kernel,rfl,by decide+kernel,by decide+kernel⟩
theorem ZJ:(Ag ["_law_one","_law_other"] [(("_law_names" :Str),1)]).Nodup:=by decide+kernel
theorem ZK:(Ag ["_law_tie"] []).Nodup:=by decide+kernel
theorem Df{ns:List Int}{i:Int}(h0:0≤i)(h1:i<ns.length):Cz ns i∈ns:=by
 unfold Cz
 have:i.toNat<ns.length:=by omega
 simp[hZ,this]
theorem Qo{f:Addr}{fd:dM}(F:Fun K "_law_named" "_law_named" Ex f fd)(Tx:Txt mg):FnOk P w K mg base (CXe P w) 2 f fd ["_law_web","_law_names"] (Ce K JF):=by
 refine AY F NI ?_ ?_
 ·rintro ts O Φ Ξ ⟨n,ps,ns,rfl,_⟩
  rfl
 ·rintro cdv A outer s H E O Ξ hr xf _ Φ ⟨n,ps,ns,rfl,hl,hp,hn,q⟩
  have hu:(A.deeper (iN "_law_named" (AA Ex) s.heap.objs.size f cdv)).units+8<cLine:=by have:=hr.un;omega
  have hz:ps.length≤sizeLine:=eY hl (by decide)
  refine AD (EJ (i:=2) (nc:=["_law_one","_law_other"]) (cap:=[("_law_names",1)]) (by rfl) NI.nd rfl (Bl (AA Ex) ["_law_web","_law_names","_law_ties"] (by decide+kernel)) (GU (Ao (ev 0) AB) _ (EL ps AF (fun p=>AF (Cz ns p.1,Cz ns p.2)) hz (fun x hx=> ⟨[some (.int x.1),some (.int x.2),some (.tup (ns.map T.int))],fun X' Oe He is O'=>?_⟩) ?_)))
  ·obtain⟨cl,s',H',fp,rfl⟩:=is
   have:=hp x hx
   exact⟨Cs 0 1 rfl ZJ (by decide) (by decide),BM (AJ (Ao (ev 2) (ev 0) (EV this.1 this.2.1)) (AJ (Ao (ev 2) (ev 1) (EV this.2.2.1 this.2.2.2)) AC))⟩
  ·refine AH (AM (Ba (BW (ET.we (Ao (ev 0) AB) (BW (BX Tx.nTuple (Cu (ps:=ps.map (nm ns)) Tx.nSorted Tx.nSet rfl hu ?_ (by simpa using hl) ?_ fun qs h1 h2 h3=> ⟨_,rfl,Ae ⟨by show 2≤sizeLine;decide,q qs h1 h2 (by simpa using h3)⟩⟩)))))))
   ·rw[eJ]
    refine CK ["_law_tie"] [] ps (fun p=>AF (Cz ns p.1,Cz ns p.2)) _ rfl (Bl (AA Ex) ["_law_web","_law_names","_law_ties"] (by decide+kernel)) (BG (ev 2)) hz fun x hx=> ⟨[some (AF (Cz ns x.1,Cz ns x.2))],fun X' Oe He is O'=>?_⟩
    obtain⟨cl,s',H',fp,rfl⟩:=is
    exact⟨AU 0 ZK (by decide),BM (AJ (TH Tx.nMin rfl (ev 0)) (AJ (TJ Tx.nMax rfl (ev 0)) AC))⟩
   ·intro z hz
    obtain⟨p,h1,rfl⟩:=di.mp hz
    have:=hp p h1
    have e1:=hn _ (Df this.1 this.2.1)
    have e2:=hn _ (Df this.2.2.1 this.2.2.2)
    show 0≤max _ _∧max _ _<65536
    omega
def Dg:Bu:=fun ts O Φ _=>∃(p:Addr) (xs:List T) (m:Int),ts=[.raw (.ref p),.int m]∧O p=some xs∧FN xs∧0≤m∧m<100∧∀(ns:List Int) (xs':List T),ns.Perm ((dv m.toNat).map fun(i:Nat)=> (i:Int))→FN xs'→Φ (.tup (ns.map T.int)) (Ac O p xs')
theorem Hw:FnScope ["_law_pen","_law_many","_law_left"] ["_law_pen","_law_many"] (AA EU):=⟨rfl,rfl,rfl,by decide+kernel,rfl,by decide+kernel,by decide+kernel⟩
theorem ZL:(Ag ["_law_place"] [(("_law_left" :Str),2),(("_law_pen" :Str),0)]).Nodup:=by decide+kernel
theorem Ke{f:Addr}{fd:dM}(F:Fun K "_law_names_by" "_law_names_by" EU f fd)(Tx:Txt mg)(G:FnT P w K mg base "_law_draw" 2 ["_law_pen","_law_many"] Aq):FnOk P w K mg base (CXe P w) 3 f fd ["_law_pen","_law_many"] (Ce K Dg):=by
 refine AY F Hw ?_ ?_
 ·rintro ts O Φ Ξ ⟨p,xs,m,rfl,_⟩
  rfl
 ·rintro cdv A outer s H E O Ξ hr xf _ Φ ⟨p,xs,m,rfl,hp,px,m0,m1,q⟩
  refine AD (AS 2 (QG (p1:=⟨0,0,0,0⟩) Tx.nList Tx.nRange rfl (ev 1) m0 (by omega) fun l hl=>?_) Hw.nd)
  have pl:p≠l:=Lj hp hl
  refine AH (Mx (l:=l) hl (BX Tx.nTuple (Hl (nc:=["_law_place"]) (cap:=[("_law_left",2),("_law_pen",0)]) rfl (Bl (AA EU) ["_law_pen","_law_many","_law_left"] (by decide+kernel)) (EI.wi (Am Tx.nRange (ev 1) ⟨by omega,by omega⟩) ?_))))
  refine⟨fun i acc O'=>i≤m.toNat∧∃(as rs:List Int) (xs':List T),acc=as.map T.int∧as.length=i∧(as++rs).Perm ((dv m.toNat).map fun(i:Nat)=> (i:Int))∧FN xs'∧O'=Ac (Ac O p xs') l (rs.map T.int),⟨fj _,[],(dv m.toNat).map fun(i:Nat)=> (i:Int),xs,rfl,rfl,.refl _,px,?_⟩,?_,?_⟩
  ·rw[KW hp,eJ]
   rfl
  ·rintro i t acc O' c e ⟨_,as,rs,xs',rfl,hi,pm,px',rfl⟩ hc
   obtain⟨hi2,rfl⟩:=BN e
   have hcl:c≠l:=fun z=>by rw[z,AG] at hc;cases hc
   have hcp:c≠p:=fun z=>by rw[z,AN pl,AG] at hc;cases hc
   refine⟨[some (.int (0+i)),some (.raw (.ref l)),some (.raw (.ref p))],fun X' Oe He is=>?_⟩
   have hlen:as.length+rs.length=m.toNat:=by
    have:=pm.length_eq
    simpa using this
   refine⟨?_,EH (IR fun X' Oe He is=>?_)⟩
   ·obtain⟨cl,s',H',fp,rfl⟩:=is
    exact AU 0 ZL (by decide)
   ·obtain⟨cl,s',H',fp,rfl⟩:=is
    have ol:(Ac (Ac (Ac O p xs') l (rs.map T.int)) c (as.map T.int)) l=some (rs.map T.int):=by rw[AN (Ne.symm hcl),AG]
    have op:(Ac (Ac (Ac O p xs') l (rs.map T.int)) c (as.map T.int)) p=some xs':=by rw[AN (Ne.symm hcp),AN pl,AG]
    refine KR (ET.we (ev 1) ⟨l,rfl,⟨_,ol⟩,AO G hr Bv (EA.wa (AJ (ev 2) (AJ (Mr Tx.nLen (ev 1) ol) AC)) ⟨p,xs',_,rfl,op,px',by simp;omega,by simp;omega,fun r xs2 r0 r1 px2=>?_⟩)⟩)
    have r1:r<rs.length:=by simpa using r1
    have hr':r.toNat<rs.length:=by omega
    refine⟨rs.map T.int,r,.int rs[r.toNat],rfl,?_,r0,by omega,by simpa using r1,by rw[b8,b9 hr'];rfl,?_⟩
    ·rw[AN (Ne.symm pl),ol]
    ·refine⟨Ac (Ac O p xs2) l ((rs.eraseIdx r.toNat).map T.int),?_,?_,?_,?_⟩
     ·have e1:(rs.map T.int).eraseIdx r.toNat=(rs.eraseIdx r.toNat).map T.int:=(Ey _ _ _).symm
      rw[e1]
      rw[BO (p:=c) (a:=p) (Ne.symm hcp),BO (p:=c) (a:=l) (Ne.symm hcl),BO (p:=l) (a:=p) pl,BA,BA]
     ·rw[AN hcl,AN hcp]
      rw[AN hcl,AN hcp] at hc
      exact hc
     ·rw[a9]
      have:(1000:Nat)<sizeLine:=by decide
      omega
     ·refine⟨hi2,as++[rs[r.toNat]],rs.eraseIdx r.toNat,xs2,by simp,by simp[hi],?_,px2,rfl⟩
      refine ie.trans ?_ pm
      rw[fM]
      exact(Gi rs _ hr').append_left as
  ·rintro acc O' ⟨_,as,rs,xs',rfl,hi,pm,px',rfl⟩
   rw[Ay] at hi
   have hlen:as.length+rs.length=m.toNat:=by
    have:=pm.length_eq
    simpa using this
   have:rs=[]:=List.length_eq_zero_iff.mp (by omega)
   subst this
   rw[ic] at pm
   refine⟨_,rfl,?_⟩
   rw[Hm hl pl]
   exact q as xs' pm px'
end
def bo(m s:Int)(j:Nat):Int×Int:=(min (0+(j:Int)) ((0+(j:Int)+s)%m),max (0+(j:Int)) ((0+(j:Int)+s)%m))
def JG(m:Int)(ss:List Int):List (Int×Int):=ss.flatMap fun s=> (dv m.toNat).map (bo m s)
section
variable{P:Program}{w:World}{K:a5}{mg:Str→Option Value}{base:Heap}
def Cc:Bu:=fun ts O Φ _=>∃(m:Int) (ss:List Int),ts=[.int m,.lst (ss.map T.int)]∧0<m∧m≤16∧ss.length≤16∧(∀s∈ss,1≤s∧s<m)∧
 ∀qs:List (Int×Int),qs.Pairwise Dm→(∀q∈qs,AL m q)→qs.length≤256→(∀q,q∈qs↔q∈JG m ss)→Φ (.tup [.int m,.tup (qs.map AF)]) O
theorem DW:FnScope ["_law_many","_law_steps","_law_ties","_law_step","_law_place","_law_other"] ["_law_many","_law_steps"] (AA FZ):=⟨rfl,rfl,rfl,by decide+kernel,rfl,by decide+kernel,by decide+kernel⟩
theorem Hx{m s j:Int}(hs:1≤s∧s<m)(hj:0≤j∧j<m):AL m (min j ((j+s)%m),max j ((j+s)%m)):=by
 unfold AL
 by_cases h:j+s<m
 ·rw[Int.emod_eq_of_lt (by omega) h]
  show 0≤min _ _∧min _ _<max _ _∧max _ _<_
  omega
 ·have e:j+s=(j+s-m)+m*1:=by omega
  rw[e,Int.add_mul_emod_self_left,Int.emod_eq_of_lt (by omega) (by omega)]
  show 0≤min _ _∧min _ _<max _ _∧max _ _<_
  omega
theorem AQ:(1000:Nat)<sizeLine:=by decide
theorem OW{f:Addr}{fd:dM}(F:Fun K "_law_turned" "_law_turned" FZ f fd)(Tx:Txt mg):FnOk P w K mg base (CXe P w) 2 f fd ["_law_many","_law_steps"] (Ce K Cc):=by
 refine AY F DW ?_ ?_
 ·rintro ts O Φ Ξ ⟨m,ss,rfl,_⟩
  rfl
 ·rintro cdv A outer s H E O Ξ hr xf _ Φ ⟨m,ss,rfl,m0,m1,hn,hs,q⟩
  have hu:(A.deeper (iN "_law_turned" (AA FZ) s.heap.objs.size f cdv)).units+8<cLine:=by have:=hr.un;omega
  have sb:=AQ
  refine AD (AS 2 (FS (Ae ⟨fj _,fun l hl=>?_⟩)) DW.nd)
  refine AD (CJ Aw.own rfl (BG (ev 1) _ ⟨fun i ρ' O'=>∃(qs:List (Int×Int)) (v3 v4 v5:Option T),ρ'=[some (.int m),some (.lst (ss.map T.int)),some (.raw (.ref l)),v3,v4,v5]∧O'=Ac O l (qs.map AF)∧(∀q∈qs,AL m q)∧qs.length≤16*i∧∀q,q∈qs↔q∈JG m (ss.take i),⟨[],none,none,none,rfl,rfl,by simp,by simp,fun q=>by simp[JG]⟩,?_,?_⟩))
  ·rintro i t _ _ e ⟨qs,v3,v4,v5,rfl,rfl,hq,hz,hm⟩
   rw[b8] at e
   cases es:ss[i]? with
   |none=>rw[es] at e;cases e
   |some st=>
    rw[es] at e
    cases e
    have hst:=hs st (dc es)
    have hi:=(dj.mp es).1
    refine⟨[some (.int m),some (.lst (ss.map T.int)),some (.raw (.ref l)),some (.int st),v4,v5],AU 3 DW.nd (by show 3<6;decide),AH (CJ Aw.own rfl (EI.wi (Am Tx.nRange (ev 0) ⟨by omega,by omega⟩) ⟨fun j ρ' O'=>∃(qs:List (Int×Int)) (v4 v5:Option T),ρ'=[some (.int m),some (.lst (ss.map T.int)),some (.raw (.ref l)),some (.int st),v4,v5]∧O'=Ac O l (qs.map AF)∧(∀q∈qs,AL m q)∧qs.length≤16*i+j∧∀q,q∈qs↔q∈JG m (ss.take i)∨q∈(dv j).map (bo m st),⟨qs,v4,v5,rfl,rfl,hq,by omega,fun q=>by rw[hm];simp⟩,?_,?_⟩))⟩
    ·rintro j t _ _ e ⟨qs,v4,v5,rfl,rfl,hq,hz,hm⟩
     obtain⟨hj,rfl⟩:=BN e
     refine⟨[some (.int m),some (.lst (ss.map T.int)),some (.raw (.ref l)),some (.int st),some (.int (0+j)),v5],AU 4 DW.nd (by show 4<6;decide),?_⟩
     refine AD (AS 5 (ET.we (Cq (Au (ev 4) (ev 3)) (ev 0) m0) ?_) DW.nd)
     refine AH (Ap (CW (ET.we (ev 2) ⟨l,rfl,⟨_,AG⟩,ET.we (BM (AJ (Ms Tx.nMin rfl (ev 4) (ev 5)) (AJ (FW Tx.nMax rfl (ev 4) (ev 5)) AC))) ⟨_,AG,?_,?_⟩⟩)))
     ·rw[a9];omega
     ·refine⟨qs++[(min (0+(j:Int)) ((0+(j:Int)+st)%m),max (0+(j:Int)) ((0+(j:Int)+st)%m))],_,_,rfl,?_,fun z hz=>?_,by simp;omega,fun z=>?_⟩
      ·rw[BA,eG];rfl
      ·rcases dw.mp hz with hz|hz
       ·exact hq z hz
       ·rw[a8.mp hz]
        exact Hx hst ⟨by omega,by omega⟩
      ·rw[dw,hm,List.range_succ,eG,dw,or_assoc]
       rfl
    ·rintro _ _ ⟨qs,v4,v5,rfl,rfl,hq,hz,hm⟩
     rw[Ay] at hz hm
     refine⟨qs,_,_,_,rfl,rfl,hq,by omega,fun z=>?_⟩
     rw[hm,fW,es]
     unfold JG
     rw[List.flatMap_append,dw]
     simp
  ·rintro _ _ ⟨qs,v3,v4,v5,rfl,rfl,hq,hz,hm⟩
   rw[a9] at hz hm
   rw[fR] at hm
   refine DT (p:=l) (n:=2) (ts:=qs.map AF) AG hl rfl ?_
   rw[BJ hl]
   refine AH (AM (Ba (BW (ET.we (ev 0) (BW (BX Tx.nTuple (Cu (ps:=qs) Tx.nSorted Tx.nSet rfl hu (ev 2) (by omega) (fun z hz=>?_) fun rs h1 h2 h3=> ⟨_,rfl,Ae ⟨by show 2≤sizeLine;decide,q rs h1 (fun z hz=>hq z ((h2 z).mp hz)) (by omega) (fun z=> (h2 z).trans (hm z))⟩⟩)))))))
   have:=hq z hz
   unfold AL at this
   omega
end
abbrev Bb:Stmt:=top 47
def PO(O0:AI)(p:Addr)(O:AI):Prop:=∃xs,O=Ac O0 p xs∧FN xs
theorem PO.at{O0 O:AI}{p:Addr}(h:PO O0 p O):∃xs,O p=some xs∧FN xs:=by
 obtain⟨xs,rfl,px⟩:=h
 exact⟨xs,AG,px⟩
theorem PO.step{O0 O:AI}{p:Addr}{xs:List T}(h:PO O0 p O)(px:FN xs):PO O0 p (Ac O p xs):=by
 obtain⟨ys,rfl,_⟩:=h
 exact⟨xs,BA,px⟩
theorem PO.start{O:AI}{p:Addr}{xs:List T}(h:O p=some xs)(px:FN xs):PO O p O:=⟨xs,(KW h).symm,px⟩
section
variable{P:Program}{w:World}{K:a5}{mg:Str→Option Value}{base:Heap}
section
variable{Z:Zx}{ρ:List (Option T)}{O O0 O1:AI}{a b:Expr}{Φ:BH}{pos q:Pos}{p c:Addr}{m:Int}{acc:List T}
theorem Fb(G:FnT Z.X.prog Z.X.w Z.X.K Z.X.mg Z.X.base "_law_draw" 2 ["_law_pen","_law_many"] Aq)(hr:Room 2 Z.X.A)(xf:XFly Z.X Z.W)(po:PO O0 p O)(ha:ET Z ρ O a (.raw (.ref p)))(hb:ET Z ρ O b (.int m))(m0:0<m)(m1:m<1000)(k:∀r O',0≤r→r<m→PO O0 p O'→Φ (.int r) O')(hg:Gl Z.X "_law_draw":=by rfl)
  (he:b4 [a,b] Z.X.env=(false,eval a Z.X.env)::b4 [b] Z.X.env:=by rfl) (he2:b4 [b] Z.X.env=(false,eval b Z.X.env)::b4 [] Z.X.env:=by rfl) (hpl:(gI pos (b4 [b] Z.X.env)).any (·.1)=false:=by rfl):WE Z ρ O (.Call (.Name "_law_draw" q) [a,b] [] pos) Φ:=by
 obtain⟨xs,hp,px⟩:=po.at
 exact AO G hr xf (EA.wa (AJ ha (AJ hb AC he2) he) ⟨p,xs,m,rfl,hp,px,m0,m1,fun r xs' r0 r1 px'=>k r _ r0 r1 (po.step px')⟩) hg (by decide) he hpl
theorem BZ(G:FnT Z.X.prog Z.X.w Z.X.K Z.X.mg Z.X.base "_law_draw" 2 ["_law_pen","_law_many"] Aq)(hr:Room 2 Z.X.A)(xf:XFly Z.X Z.W)(po:PO O0 p O)(hc:O c=none)(ha:ET Z ρ (Ac O c acc) a (.raw (.ref p)))(hb:ET Z ρ (Ac O c acc) b (.int m))(m0:0<m)(m1:m<1000)(k:∀r O',0≤r→r<m→PO O0 p O'→O' c=none→Φ (.int r) (Ac O' c acc))(hg:Gl Z.X "_law_draw":=by rfl)
  (he:b4 [a,b] Z.X.env=(false,eval a Z.X.env)::b4 [b] Z.X.env:=by rfl) (he2:b4 [b] Z.X.env=(false,eval b Z.X.env)::b4 [] Z.X.env:=by rfl) (hpl:(gI pos (b4 [b] Z.X.env)).any (·.1)=false:=by rfl):WE Z ρ (Ac O c acc) (.Call (.Name "_law_draw" q) [a,b] [] pos) Φ:=by
 obtain⟨xs,hp,px⟩:=po.at
 have hpc:p≠c:=Lj hp hc
 refine AO G hr xf (EA.wa (AJ ha (AJ hb AC he2) he) ⟨p,xs,m,rfl,by rw[AN hpc];exact hp,px,m0,m1,fun r xs' r0 r1 px'=>?_⟩) hg (by decide) he hpl
 rw[BO hpc]
 exact k r _ r0 r1 (po.step px') (by rw[AN (Ne.symm hpc)];exact hc)
end
def NJ:Bu:=fun ts O Φ _=>∃(p:Addr) (xs:List T) (most:Int),ts=[.raw (.ref p),.int most]∧O p=some xs∧FN xs∧1≤most∧most≤16∧∀(n:Int) (ps:List (Int×Int)) (O':AI),1≤n→n≤most→(∀q∈ps,AL n q)→ps.length≤256→PO O p O'→Φ (.tup [.int n,.tup (ps.map AF)]) O'
def DA:List Str:=["_law_pen","_law_most","_law_way","_law_many","_law_every","_law_other","_law_side","_law_ring"]
theorem Bx:FnScope DA ["_law_pen","_law_most"] (AA Bb):=⟨rfl,rfl,rfl,by decide+kernel,rfl,by decide+kernel,by decide+kernel⟩
theorem ZM:(Ag ["_law_one"] [(("_law_other" :Str),5)]).Nodup:=by decide+kernel
theorem ZN:(Ag ["_law_pair"] [(("_law_pen" :Str),0),(("_law_way" :Str),2)]).Nodup:=by decide+kernel
theorem ZO:(Ag ["_law_step"] [(("_law_pen" :Str),0)]).Nodup:=by decide+kernel
theorem ZP:(Ag ["_law_one","_law_other"] [(("_law_side" :Str),6)]).Nodup:=by decide+kernel
theorem Ut:(Ag ["_law_place"] []).Nodup:=by decide+kernel
theorem ZQ:(Ag ["_law_place"] [(("_law_pen" :Str),0)]).Nodup:=by decide+kernel
theorem ZR{r:Int}(r0:0≤r)(r1:r<3):∃m:Int,atI [T.int 2,T.int 3,T.int 6] r=some (.int m)∧0<m∧m<1000:=by
 have:r=0∨r=1∨r=2:=by omega
 rcases this with rfl|rfl|rfl
 ·exact⟨2,rfl,by decide,by decide⟩
 ·exact⟨3,rfl,by decide,by decide⟩
 ·exact⟨6,rfl,by decide,by decide⟩
def Ez(i:Nat):Stmt:=(Ai Bb).getD i (.Pass ⟨0,0,0,0⟩)
def ZS:Stmt→List Stmt
 | .If _ a _ _=>a
 |_=> []
abbrev zS(P:Program)(w:World)(K:a5)(mg:Str→Option Value)(base:Heap)(f:Addr)(cdv:Value)(A:dy)(outer:List Env)(s:a7)(H:Hp)(E:XK)(O:AI)(Ξ:Value→AI→Prop):Zx:=zB P w K mg base DA "_law_shape" (AA Bb) f cdv A outer s H E O Ξ
abbrev Dv(p:Addr)(most way n:Int)(es:List (Int×Int))(v5:Option T):List (Option T):=[some (.raw (.ref p)),some (.int most),some (.int way),some (.int n),some (.lst (es.map AF)),v5,none,none]
end
abbrev DB:Stmt:=top 48
section
variable{P:Program}{w:World}{K:a5}{mg:Str→Option Value}{base:Heap}
def Hy(n:Int)(p:Int×Int):Prop:=0≤p.1∧p.1<n∧0≤p.2∧p.2<n∧p.1≠p.2
def NK:Bu:=fun ts O Φ _=>∃(p:Addr) (xs:List T) (most:Int),ts=[.raw (.ref p),.int most]∧O p=some xs∧FN xs∧1≤most∧most≤16∧∀(n:Int) (ps:List (Int×Int)) (O':AI),1≤n→n≤most→(∀q∈ps,AL n q)→ps.Pairwise Dm→ps.length≤257→PO O p O'→Φ (.tup [.int n,.tup (ps.map AF)]) O'
def Gj:List Str:=["_law_pen","_law_most","_law_many","_law_ties","_law_way","_law_one"]
theorem EX:FnScope Gj ["_law_pen","_law_most"] (AA DB):=⟨rfl,rfl,rfl,by decide+kernel,rfl,by decide+kernel,by decide+kernel⟩
theorem Lw{n:Int}{ns:List Int}(n0:0≤n)(pm:ns.Perm ((dv n.toNat).map fun(i:Nat)=> (i:Int))):(ns.length:Int)=n∧(∀z∈ns,0≤z∧z<n)∧ns.Nodup:=by
 refine⟨?_,fun z hz=>?_,?_⟩
 ·have:=pm.length_eq
  simp at this
  omega
 ·obtain⟨i,hi,rfl⟩:=di.mp (pm.mem_iff.mp hz)
  have:=dW.mp hi
  omega
 ·refine pm.nodup_iff.mpr ?_
  show dX _ _
  rw[eT]
  exact(List.nodup_range).imp fun h z=>h (Int.ofNat.inj z)
theorem Wv{ns:List Int}(nd:ns.Nodup){i j:Int}(hi:0≤i∧i<ns.length)(hj:0≤j∧j<ns.length)(h:i≠j):Cz ns i≠Cz ns j:=by
 unfold Cz
 have h1:i.toNat<ns.length:=by omega
 have h2:j.toNat<ns.length:=by omega
 have e1:ns.getD i.toNat 0=ns[i.toNat]:=by simp[hZ,h1]
 have e2:ns.getD j.toNat 0=ns[j.toNat]:=by simp[hZ,h2]
 rw[e1,e2]
 intro z
 have pw:=e7.mp nd
 rcases Nat.lt_or_gt_of_ne (show i.toNat≠j.toNat by omega) with hl|hl
 ·exact pw _ _ h1 h2 hl z
 ·exact pw _ _ h2 h1 hl z.symm
theorem Tu{n:Int}{ns:List Int}(hl:(ns.length:Int)=n)(hb:∀z∈ns,0≤z∧z<n)(nd:ns.Nodup){q:Int×Int}(h:Hy n q):AL n (nm ns q):=by
 obtain⟨h1,h2,h3,h4,h5⟩:=h
 have e1:=hb _ (Df (ns:=ns) h1 (by omega))
 have e2:=hb _ (Df (ns:=ns) h3 (by omega))
 have e3:=Wv nd (i:=q.1) (j:=q.2) ⟨h1,by omega⟩ ⟨h3,by omega⟩ h5
 unfold AL nm
 show 0≤min _ _∧min _ _<max _ _∧max _ _<n
 omega
theorem Qp{f:Addr}{cdv:Value}{A:dy}{outer:List Env}{s:a7}{H:Hp}{E:XK}{O0 O1:AI}{Ξ:Value→AI→Prop}{p l:Addr}{most n:Int}{v4 v5:Option T}{Φ:BH}{qs:List (Int×Int)}
  (hr:Room 3 (zB P w K mg base Gj "_law_web_by" (AA DB) f cdv A outer s H E O0 Ξ).X.A) (xf:XFly (zB P w K mg base Gj "_law_web_by" (AA DB) f cdv A outer s H E O0 Ξ).X (zB P w K mg base Gj "_law_web_by" (AA DB) f cdv A outer s H E O0 Ξ).W)
  (Tx:Txt mg) (Gn:FnT P w K mg base "_law_named" 2 ["_law_web","_law_names"] JF) (Gb:FnT P w K mg base "_law_names_by" 3 ["_law_pen","_law_many"] Dg)
  (po:PO O0 p O1) (hl:O0 l=none) (hpl:p≠l) (n0:1≤n) (n1:n≤16) (hq:∀q∈qs,Hy n q) (hz:qs.length≤257)
  (q:∀(ps:List (Int×Int)) (O':AI),(∀q∈ps,AL n q)→ps.Pairwise Dm→ps.length≤257→PO O0 p O'→Φ (.tup [.int n,.tup (ps.map AF)]) O'):
  FU (zB P w K mg base Gj "_law_web_by" (AA DB) f cdv A outer s H E O0 Ξ) [some (.raw (.ref p)),some (.int most),some (.int n),some (.raw (.ref l)),v4,v5] (Ac O1 l (qs.map AF)) [(Ai DB).getD 5 (.Pass ⟨0,0,0,0⟩)] {nx:=fun _ O'=>Φ .non O',rt:=Φ}:=by
 obtain⟨xs,rfl,px⟩:=po
 have hp:Ac (Ac O0 p xs) l (qs.map AF) p=some xs:=by rw[AN hpl,AG]
 refine AH (Mx (l:=l) hl (AO Gn (hr.mono (by decide)) xf (BQ (ET.we (BM (AE (ev 2) (AE (OR Tx.nTuple AG (ev 3)) AC))) (BQ (AO Gb hr xf (EA.wa (AE (ev 0) (AE (ev 2) AC)) ⟨p,xs,n,rfl,hp,px,by omega,by omega,fun ns xs' pm px'=>Ae ?_⟩)))))))
 obtain⟨h1,h2,h3⟩:=Lw (by omega) pm
 refine⟨n,qs,ns,rfl,by omega,fun z hz=>?_,fun z hz=>?_,fun rs r1 r2 r3=>?_⟩
 ·have:=hq z hz
  unfold Hy at this
  omega
 ·have:=h2 z hz
  omega
 ·have e:Bo (Ac (Ac (Ac O0 p xs) l (qs.map AF)) p xs') l=Ac O0 p xs':=by
   rw[BO hpl,BA,Hm hl hpl]
  show Φ _ (Bo (Ac (Ac (Ac O0 p xs) l (qs.map AF)) p xs') l)
  rw[e]
  refine q rs _ (fun z hz=>?_) r1 (by omega) ⟨xs',rfl,px'⟩
  obtain⟨y,hy,rfl⟩:=di.mp ((r2 z).mp hz)
  exact Tu h1 h2 h3 (hq y hy)
theorem OX{f:Addr}{fd:dM}(F:Fun K "_law_web_by" "_law_web_by" DB f fd)(Tx:Txt mg)(G:FnT P w K mg base "_law_draw" 2 ["_law_pen","_law_many"] Aq)(Gs:FnT P w K mg base "_law_shape" 3 ["_law_pen","_law_most"] NJ)(Gn:FnT P w K mg base "_law_named" 2 ["_law_web","_law_names"] JF)(Gb:FnT P w K mg base "_law_names_by" 3 ["_law_pen","_law_many"] Dg):
  FnOk P w K mg base (CXe P w) 4 f fd ["_law_pen","_law_most"] (Ce K NK):=by
 refine AY F EX ?_ ?_
 ·rintro ts O Φ Ξ ⟨p,xs,m,rfl,_⟩
  rfl
 ·rintro cdv A outer s H E O0 Ξ hr xf _ Φ ⟨p,xs,most,rfl,hp,px,t0,t1,q⟩
  have hu:(A.deeper (iN "_law_web_by" (AA DB) s.heap.objs.size f cdv)).units<cLine:=by have:=hr.un;omega
  refine AD (WU (n:=6) (AO Gs hr xf (EA.wa (AE (ev 0) (AE (ev 1) AC)) ⟨p,xs,most,rfl,hp,px,t0,t1,fun n ps O1 n0 n1 hps hz po1=> ⟨[some (.raw (.ref p)),some (.int most),some (.int n),some (.tup (ps.map AF)),none,none],Cs 2 3 rfl EX.nd (by decide) (by decide),?_⟩⟩)))
  have q':∀(ps:List (Int×Int)) (O':AI),(∀q∈ps,AL n q)→ps.Pairwise Dm→ps.length≤257→PO O0 p O'→Φ (.tup [.int n,.tup (ps.map AF)]) O':=fun ps O' a b c d=>q n ps O' n0 n1 a b c d
  refine AD (AS 3 (OQ Tx.nList (ev 3) fun l hl1=>?_) EX.nd)
  have hl:O0 l=none:=by
   obtain⟨ys,rfl,_⟩:=po1
   by_cases hb:l=p
   ·rw[hb,AG] at hl1;cases hl1
   ·rw[AN hb] at hl1;exact hl1
  have hpl:p≠l:=Lj hp hl
  have hD:∀q∈ps,Hy n q:=fun z hz=>by
   have:=hps z hz
   unfold AL at this
   unfold Hy
   omega
  refine AD (AS 4 (BZ G (hr.mono (by decide)) xf po1 hl1 (ev 0) AB (by decide) (by decide) fun way O2 w0 w1 po2 hc2=>?_) EX.nd)
  refine AD (Mn (Ψ:={nx:=fun ρ' O'=>∃(qs:List (Int×Int)) (O3:AI),ρ'=[some (.raw (.ref p)),some (.int most),some (.int n),some (.raw (.ref l)),some (.int way),none]∧O'=Ac O3 l (qs.map AF)∧O3 l=none∧PO O0 p O3∧(∀q∈qs,Hy n q)∧qs.length≤256,rt:=Φ}) (Af (EW.eb (DR (CI (ev 4) AB) fun _=>Bt (QH hu AG (ev 3)))) (fun h=>?_) (fun h=>Ah ⟨ps,O2,rfl,rfl,hc2,po2,hD,hz⟩)) ?_ (fun _ _ z=>z) (fun _ _ z=>z) (fun _ _ z=>z))
  ·have h:(decide (way=0)&&!(ps.map AF).isEmpty)=true:=h
   have hne:0<ps.length:=by
    simp at h
    exact List.length_pos_iff.mpr h.2
   refine AH (Ap (KR (ET.we (ev 3) ⟨l,rfl,⟨_,AG⟩,BZ G (hr.mono (by decide)) xf po2 hc2 (ev 0) (Mr Tx.nLen (ev 3) AG) (by simp;omega) (by simp;omega) fun r O3 r0 r1 po3 hc3=>?_⟩)))
   have r1:r<ps.length:=by simpa using r1
   have hr':r.toNat<ps.length:=by omega
   refine⟨ps.map AF,r,AF ps[r.toNat],rfl,AG,r0,by omega,by simpa using r1,by rw[b8,b9 hr'];rfl,?_⟩
   refine⟨ps.eraseIdx r.toNat,O3,rfl,by rw[BA,Ey],hc3,po3,fun z hz=>hD z (List.mem_of_mem_eraseIdx hz),?_⟩
   have:=List.length_eraseIdx_le ps r.toNat
   omega
  ·rintro _ _ ⟨qs,O3,rfl,rfl,hc3,po3,hq,hz3⟩
   refine AD (Af (EW.eb (DR (CI (ev 4) AB) fun _=>Bt (KL (ev 2) AB))) (fun h=>?_) (fun h=>Ah (Qp hr xf Tx Gn Gb po3 hl hpl n0 (by omega) hq (by omega) q')))
   have h:(decide (way=1)&&decide (1<n))=true:=h
   have n2:1<n:=by simp at h;exact h.2
   refine AD (AS 5 (BZ G (hr.mono (by decide)) xf po3 hc3 (ev 0) (ev 2) (by omega) (by omega) fun one O4 o0 o1 po4 hc4=>?_) EX.nd)
   refine AH (Ap (CW (ET.we (ev 3) ⟨l,rfl,⟨_,AG⟩,?_⟩)))
   refine Ba (BQ (ET.we (ev 5) (BQ ?_)))
   refine FI Ow (FI Eh (ET.we (Au (ev 5) AB) ?_))
   refine BZ G (hr.mono (by decide)) xf po4 hc4 (ev 0) (CF (ev 2) AB) (by omega) (by omega) fun r O5 r0 r1 po5 hc5=>?_
   refine GO _ (ET.we (ev 2) (Pw (C:=fun _ j=>0<j) (show 0<n by omega) _ ?_))
   refine Ae ⟨by show 2≤sizeLine;decide,_,AG,?_,?_⟩
   ·rw[a9]
    have:=AQ
    omega
   ·rw[BA]
    have e:(qs.map AF++[T.tup [.int one,.int ((one+1+r)%n)]])=(qs++[(one,(one+1+r)%n)]).map AF:=by rw[eG];rfl
    rw[e]
    refine Qp hr xf Tx Gn Gb po5 hl hpl n0 (by omega) (fun z hz=>?_) (by simp;omega) q'
    rcases dw.mp hz with hz|hz
    ·exact hq z hz
    ·rw[a8.mp hz]
     have:=Hx (m:=n) (s:=1+r) (j:=one) ⟨by omega,by omega⟩ ⟨o0,o1⟩
     unfold AL at this
     have e2:one+1+r=one+(1+r):=by omega
     rw[e2]
     have b0:=ig (one+(1+r)) (show n≠0 by omega)
     have b1:=gG (one+(1+r)) (show 0<n by omega)
     show 0≤one∧one<n∧0≤(one+(1+r))%n∧(one+(1+r))%n<n∧one≠(one+(1+r))%n
     omega
end
open Gr
section
variable{P:Program}{w:World}{K:a5}{mg:Str→Option Value}{base:Heap}{CP:Addr}
def JH:Bu:=KN fun ts r=>∃n u t,ts=[.tup [.int n,u],t]∧Az t=false∧r=.bl (DV t 0 (n-1))
theorem Tv:FnScope ["web","thing"] ["web","thing"] (AA Lr):=⟨rfl,rfl,rfl,by decide+kernel,rfl,by decide+kernel,by decide+kernel⟩
theorem Qq{f:Addr}{fd:dM}(F:Fun K "is_place" "is_place" Lr f fd)(G:FnT P w K mg base "is_whole" 1 ["thing","least","most"] JE):FnOk P w K mg base (CXe P w) 2 f fd ["web","thing"] (Ce K JH):=by
 refine AY F Tv ?_ ?_
 ·rintro ts O Φ Ξ ⟨r,⟨n,u,t,rfl,_⟩,_⟩
  rfl
 ·rintro cdv A outer s H E O Ξ hr xf _ Φ ⟨_,⟨n,u,t,rfl,ht,rfl⟩,q⟩
  exact AH (AM (ET.we (Aa G hr xf (AE (ev 1) (AE AB (AE (CF (Ao (ev 0) AB) AB) AC))) ⟨t,0,n-1,rfl,ht,rfl⟩) q))
def Qr(CP:Addr):Bu:=fun ts O Φ Ξ=>∃n u t,ts=[.tup [.int n,u],t]∧Az t=false∧(DV t 0 (n-1)=true→Φ .non O)∧(DV t 0 (n-1)=false→Ξ (.ref CP) O)
theorem Ww:FnScope ["web","thing"] ["web","thing"] (AA Qc):=⟨rfl,rfl,rfl,by decide+kernel,rfl,by decide+kernel,by decide+kernel⟩
theorem Tw{f:Addr}{fd:dM}(F:Fun K "need_place" "need_place" Qc f fd)(mP:mg "NoPlace" =some (.ref CP))(xP:fQ K CP Ft "ValueError.__new__" =true)(G:FnT P w K mg base "is_place" 2 ["web","thing"] JH):FnOk P w K mg base (CXe P w) 3 f fd ["web","thing"] (Ce K (Qr CP)):=by
 refine FY F Ww ?_ ?_
 ·rintro ts O Φ Ξ ⟨n,u,t,rfl,_⟩
  rfl
 ·rintro cdv A outer s H E O Ξ hr xo _ Φ ⟨n,u,t,rfl,ht,q1,q2⟩
  refine AH (Af (BS (Br (Aa G hr xo.f (AE (ev 0) (AE (ev 1) AC)) ⟨n,u,t,rfl,ht,rfl⟩))) (fun h=>AH (BV xo rfl mP xP (q2 ?_))) (fun h=>Ah (q1 ?_)))
  ·cases z:DV t 0 (n-1) with
   |true=>rw[z] at h;cases h
   |false=>rfl
  ·cases z:DV t 0 (n-1) with
   |true=>rfl
   |false=>rw[z] at h;cases h
def AR(qs:List (Int×Int))(i:Nat):List Int:=qs.filterMap fun p=>if p.1=(i:Int) then some p.2 else if p.2=(i:Int) then some p.1 else none
theorem Kf{qs:List (Int×Int)}{p:Int×Int}{i:Nat}:AR (qs++[p]) i=AR qs i++(if p.1=(i:Int) then[p.2] else if p.2=(i:Int) then[p.1] else[]):=by
 unfold AR
 rw[List.filterMap_append]
 congr 1
 by_cases h:p.1=(i:Int)
 ·simp[h]
 ·by_cases h2:p.2=(i:Int)
  ·simp[h,h2]
  ·simp[h,h2]
theorem DC{qs:List (Int×Int)}{i:Nat}:(AR qs i).length≤qs.length:=List.length_filterMap_le ..
def FA(n:Int)(ps:List (Int×Int)):T:=.lst ((dv n.toNat).map fun i=> .lst ((AR ps i).map T.int))
structure Nst(n:Int)(O:AI)(l:Addr)(qs:List (Int×Int))(rs:List (Addr×List T)):Prop where
 len:(rs.length:Int)=n
 nd:(rs.map gi).Nodup
 ne:∀r∈rs,r.1≠l
 fr:∀r∈rs,O r.1=none
 val:∀(i:Nat) r,rs[i]?=some r→r.2=(AR qs i).map T.int
theorem EY{rs:List (Addr×List T)}{i:Nat}{r:Addr×List T}{vs:List T}(h:rs[i]?=some r):(rs.set i (r.1,vs)).map gi=rs.map gi:=TV (us:=r.2) h
theorem ZT{O:AI}{rs:List (Addr×List T)}{l:Addr}{i:Nat}{r:Addr×List T}{us:List T}(e:rs[i]?=some r)(hn:(rs.map gi).Nodup)(hl:∀r∈rs,r.1≠l):
  Ac (Ac (Jd O rs) l (rs.map HG)) r.1 us=Ac (Jd O (rs.set i (r.1,us))) l ((rs.set i (r.1,us)).map HG):=by
 rw[BO (hl r (dc e)),TU (us:=r.2) hn e]
 congr 1
 have:=EY (vs:=us) e
 have e1:∀rs:List (Addr×List T),rs.map HG=(rs.map gi).map fun a=>T.raw (.ref a):=fun rs=>by rw[eJ];rfl
 rw[e1,e1,this]
theorem Nst.set2{n:Int}{O:AI}{l:Addr}{qs:List (Int×Int)}{rs:List (Addr×List T)}(h:Nst n O l qs rs){a b:Nat}(hab:a≠b){ra rb:Addr×List T}(ea:rs[a]?=some ra)(eb:rs[b]?=some rb):
  Nst n O l (qs++[((a:Int),(b:Int))]) ((rs.set a (ra.1,ra.2++[T.int b])).set b (rb.1,rb.2++[T.int a])):=by
 have eb':(rs.set a (ra.1,ra.2++[T.int b]))[b]?=some rb:=by rw[ef hab];exact eb
 have m1:=EY (vs:=ra.2++[T.int b]) ea
 have m2:=EY (vs:=rb.2++[T.int a]) eb'
 have hm:∀r∈((rs.set a (ra.1,ra.2++[T.int b])).set b (rb.1,rb.2++[T.int a])),∃r'∈rs,r'.1=r.1:=fun r hr=>by
  have:r.1∈(((rs.set a (ra.1,ra.2++[T.int b])).set b (rb.1,rb.2++[T.int a])).map gi):=jT hr
  rw[m2,m1] at this
  obtain⟨r',h1,h2⟩:=di.mp this
  exact⟨r',h1,h2⟩
 refine⟨by rw[hV,hV];exact h.len,by rw[m2,m1];exact h.nd,fun r hr=>?_,fun r hr=>?_,fun i r e=>?_⟩
 ·obtain⟨r',h1,h2⟩:=hm r hr
  rw[←h2];exact h.ne r' h1
 ·obtain⟨r',h1,h2⟩:=hm r hr
  rw[←h2];exact h.fr r' h1
 ·have la:=(dj.mp ea).1
  have lb:=(dj.mp eb).1
  rw[Kf,eG]
  by_cases h1:i=b
  ·subst h1
   rw[eB (by rw[hV];exact lb)] at e
   cases e
   have:¬((a:Int)=(i:Int)):=by omega
   show rb.2++[T.int a]=_
   rw[h.val i rb eb]
   simp[this]
  ·rw[ef (fun z=>h1 z.symm)] at e
   by_cases h2:i=a
   ·subst h2
    rw[eB la] at e
    cases e
    show ra.2++[T.int b]=_
    rw[h.val i ra ea]
    simp
   ·rw[ef (fun z=>h2 z.symm)] at e
    have n1:¬((a:Int)=(i:Int)):=by omega
    have n2:¬((b:Int)=(i:Int)):=by omega
    rw[h.val i r e]
    simp[n1,n2]
theorem Nst.tree{n:Int}{O:AI}{l:Addr}{ps:List (Int×Int)}{rs:List (Addr×List T)}(h:Nst n O l ps rs):T.lst (rs.map fun r=>T.lst r.2)=FA n ps:=by
 have hl:=h.len
 unfold FA
 congr 1
 apply fA
 intro i
 rw[b8,b8]
 by_cases hi:i<rs.length
 ·rw[b9 hi,iE (by omega)]
  show some (T.lst rs[i].2)=_
  rw[h.val i rs[i] (b9 hi)]
  rfl
 ·rw[fo (by omega),fo (by rw[fk];omega)]
  rfl
def Fc:Bu:=KN fun ts r=>∃n ps,ts=[Bm n ps]∧0≤n∧n≤200∧GY n ps∧ps.length≤200∧r=FA n ps
theorem JI:FnScope ["web","nears","a","b"] ["web"] (AA JB):=⟨rfl,rfl,rfl,by decide+kernel,rfl,by decide+kernel,by decide+kernel⟩
theorem ZU:(Ag ["place"] []).Nodup:=by decide+kernel
theorem Qs{f:Addr}{fd:dM}(F:Fun K "nears_of" "nears_of" JB f fd)(Tx:Txt mg):FnOk P w K mg base (CXe P w) 1 f fd ["web"] (Ce K Fc):=by
 refine AY F JI ?_ ?_
 ·rintro ts O Φ Ξ ⟨r,⟨n,ps,rfl,_⟩,_⟩
  rfl
 ·rintro cdv A outer s H E O Ξ hr xf _ Φ ⟨_,⟨n,ps,rfl,n0,n1,hw,hl,rfl⟩,q⟩
  have sb:=AQ
  refine AD (Hq (i:=1) (nc:=["place"]) (cap:=[]) (by rfl) JI.nd rfl (Bl (AA JB) ["web","nears","a","b"] (by decide+kernel)) (EI.wi (Am Tx.nRange (Ao (ev 0) AB) ⟨by omega,by omega⟩) ?_))
  refine⟨fun i acc O'=>i≤200∧∃as:List Addr,acc=(as.map fun a=> (a,([]:List T))).map HG∧as.length=i∧as.Nodup∧(∀a∈as,O a=none)∧O'=Jd O (as.map fun a=> (a,[])),⟨by omega,[],rfl,rfl,by simp,(fun _ h=>by cases h),rfl⟩,?_,?_⟩
  ·rintro i t acc O' c e ⟨_,as,rfl,hal,hnd,hfr,rfl⟩ hc
   obtain⟨hi,rfl⟩:=BN e
   refine⟨[some (.int (0+(i:Int)))],fun X' Oe He is=> ⟨?_,EH (IR fun X' Oe He is=>?_)⟩⟩
   ·obtain⟨cl,s',H',fp,rfl⟩:=is
    exact AU 0 ZU (by decide)
   ·obtain⟨cl,s',H',fp,rfl⟩:=is
    refine FS (Ae ⟨fj _,fun p hp=>?_⟩)
    have hpc:p≠c:=fun z=>by rw[z,AG] at hp;cases hp
    rw[AN hpc] at hp
    have hpa:p∉as:=fun z=>by
     rw[Du (rs:=as.map fun a=> (a,[])) (r:=(p,[])) (by rw[eJ];simpa[Function.comp_def] using hnd) (jT z)] at hp
     cases hp
    have hpO:O p=none:=by
     rw[De fun r hr=>by
      obtain⟨a,ha,rfl⟩:=di.mp hr
      exact fun z=>hpa (z▸ha)] at hp
     exact hp
    refine⟨Ac (Jd O (as.map fun a=> (a,[]))) p [],BO hpc,by rw[AN hpc.symm];exact hc,by rw[a9,a9];omega,by omega,as++[p],by rw[eG,eG];rfl,by simp;omega,?_,fun a ha=>?_,?_⟩
    ·rw[eH]
     refine⟨hnd,by simp,fun a ha b hb z=>?_⟩
     rw[a8.mp hb] at z
     exact hpa (z▸ha)
    ·rcases dw.mp ha with ha|ha
     ·exact hfr a ha
     ·rw[a8.mp ha];exact hpO
    ·rw[eG];exact(QQ (r:=(p,[]))).symm
  ·rintro acc O' ⟨_,as,rfl,hal,hnd,hfr,rfl⟩ l hlO
   rw[Ay] at hal
   have hkeys:((as.map fun a=> (a,([]:List T))).map gi)=as:=by rw[eJ];simp[Function.comp_def]
   have nst0:Nst n O l [] (as.map fun a=> (a,([]:List T))):=by
    refine⟨by rw[a9];omega,by rw[hkeys];exact hnd,fun r hr z=>?_,fun r hr=>?_,fun i r e=>?_⟩
    ·rw[←z,Du (by rw[hkeys];exact hnd) hr] at hlO
     cases hlO
    ·obtain⟨a,ha,rfl⟩:=di.mp hr
     exact hfr a ha
    ·have:=dc e
     obtain⟨a,ha,rfl⟩:=di.mp this
     rfl
   have hlO':O l=none:=by
    rw[De nst0.ne] at hlO
    exact hlO
   refine AD (CJ Aw.own rfl (EI.wi (GU (Ao (ev 0) AB)) ⟨fun j ρ' O'=>∃rs v2 v3,ρ'=[some (Bm n ps),some (.raw (.ref l)),v2,v3]∧O'=Ac (Jd O rs) l (rs.map HG)∧Nst n O l (ps.take j) rs,⟨_,none,none,rfl,rfl,by rw[lN];exact nst0⟩,?_,?_⟩))
   ·rintro j t _ _ e ⟨rs,v2,v3,rfl,rfl,nst⟩
    rw[b8] at e
    cases ec:ps[j]? with
    |none=>rw[ec] at e;cases e
    |some z=>
     rw[ec] at e
     cases e
     have hb:=hw z (dc ec)
     have hlen:=nst.len
     have htl:(ps.take j).length≤200:=by rw[eU];omega
     obtain⟨a,ea⟩:=dz hb.1
     obtain⟨b,eb⟩:=dz (show 0≤z.2 by omega)
     have ha:a<rs.length:=by omega
     have hb':b<rs.length:=by omega
     have hab:a≠b:=by omega
     have ga:=b9 ha
     have gb:(rs.set a (rs[a].1,rs[a].2++[T.int b]))[b]?=some rs[b]:=by rw[ef hab];exact b9 hb'
     have m1:=EY (vs:=rs[a].2++[T.int b]) ga
     have nd1:((rs.set a (rs[a].1,rs[a].2++[T.int b])).map gi).Nodup:=by rw[m1];exact nst.nd
     have ne1:∀r∈rs.set a (rs[a].1,rs[a].2++[T.int b]),r.1≠l:=fun r hr=>by
      have:r.1∈(rs.set a (rs[a].1,rs[a].2++[T.int b])).map gi:=jT hr
      rw[m1] at this
      obtain⟨r',h1,h2⟩:=di.mp this
      rw[←h2];exact nst.ne r' h1
     have la:rs[a].2.length≤200:=by rw[nst.val a rs[a] ga,a9];exact eY DC htl
     have lb:rs[b].2.length≤200:=by rw[nst.val b rs[b] (b9 hb'),a9];exact eY DC htl
     have ez:z=((a:Int),(b:Int)):=by rw[←ea,←eb]
     subst ez
     refine⟨[some (Bm n ps),some (.raw (.ref l)),some (.int a),some (.int b)],Cs 2 3 rfl JI.nd (by show 2<4;decide) (by show 3<4;decide),?_⟩
     refine AD (Ap (CW (ET.we (DS (ts:=rs.map HG) AG (ev 1) (ev 2) (Bd (by rw[b8,ga];rfl))) ⟨rs[a].1,rfl,⟨rs[a].2,?_⟩,ET.we (ev 3) ⟨rs[a].2,?_,by omega,?_⟩⟩)))
     ·rw[AN (nst.ne _ (fI ha))];exact Du nst.nd (fI ha)
     ·rw[AN (nst.ne _ (fI ha))];exact Du nst.nd (fI ha)
     ·rw[ZT ga nst.nd nst.ne]
      refine AH (Ap (CW (ET.we (DS (ts:=(rs.set a (rs[a].1,rs[a].2++[T.int b])).map HG) AG (ev 1) (ev 3) (Bd (by rw[b8,gb];rfl))) ⟨rs[b].1,rfl,⟨rs[b].2,?_⟩,ET.we (ev 2) ⟨rs[b].2,?_,by omega,?_⟩⟩)))
      ·rw[AN (ne1 _ (dc gb))];exact Du nd1 (dc gb)
      ·rw[AN (ne1 _ (dc gb))];exact Du nd1 (dc gb)
      ·rw[ZT gb nd1 ne1]
       refine⟨_,_,_,rfl,rfl,?_⟩
       have:ps.take (j+1)=ps.take j++[((a:Int),(b:Int))]:=by
        rw[fW,ec];rfl
       rw[this]
       exact nst.set2 hab ga (b9 hb')
   ·rintro _ _ ⟨rs,v2,v3,rfl,rfl,nst⟩
    rw[a9,fR] at nst
    refine QS nst.nd nst.ne nst.fr nst.fr ?_
    refine DT (p:=l) (n:=1) (ts:=rs.map fun r=>T.lst r.2) AG hlO' rfl ?_
    rw[BJ hlO']
    refine AH (AM (ET.we (ev 1) ?_))
    show Φ (T.lst (rs.map fun r=>T.lst r.2)) O
    rw[nst.tree]
    exact q
end
section
variable{P:Program}{w:World}{K:a5}{mg:Str→Option Value}{base:Heap}{CP:Addr}
theorem Cd{n:Int}{ps:List (Int×Int)}(hw:GY n ps){i:Nat}{v:Int}:v∈AR ps i↔Adj ps (i:Int) v:=by
 unfold AR Adj
 rw[gF]
 constructor
 ·rintro⟨p,hp,e⟩
  by_cases h:p.1=(i:Int)
  ·rw[if_pos h] at e
   cases e
   exact .inl (by rw[←h];exact hp)
  ·rw[if_neg h] at e
   by_cases h2:p.2=(i:Int)
   ·rw[if_pos h2] at e
    cases e
    exact .inr (by rw[←h2];exact hp)
   ·rw[if_neg h2] at e;cases e
 ·rintro(h|h)
  ·exact⟨_,h,by simp⟩
  ·have:=hw _ h
   simp only at this
   exact⟨_,h,by rw[if_neg (by omega)];simp⟩
theorem JJ{m:Nat}{i:Nat}(h:i<m):PH m (i:Int)=some i:=by
 unfold PH
 rw[if_pos (by omega),if_pos (by omega)]
 rfl
structure WebN(n:Int)(ps:List (Int×Int)):Prop where
 n0:0≤n
 n1:n≤200
 hw:GY n ps
 hl:ps.length≤200
theorem Qt{n:Int}{t:T}(h:DV t 0 (n-1)=true):∃i:Nat,t=.int i∧(i:Int)<n:=by
 obtain⟨i,rfl⟩:=NH h
 have h:(decide (0≤i)&&decide (i≤n-1))=true:=h
 simp at h
 obtain⟨m,rfl⟩:=dz h.1
 exact⟨m,rfl,by omega⟩
def As:Option Nat→T
 |none=> .non
 |some d=> .int d
theorem Kg{x:Option Nat}:Az (As x)=false:=by cases x<;>rfl
theorem Kh{x:Option Nat}:Dn (As x)=x.isNone:=by cases x<;>rfl
def Qu:Bu:=fun ts O Φ _=>∃n ps S,ts=[FA n ps,.lst (S.map T.int)]∧WebN n ps∧(∀z∈S,0≤z∧z<n)∧∀fs,All n ps S fs→Φ (.lst (fs.map As)) O
def Qv:List Str:=["nears","starts","fars","start","border","steps","beyond","place","near"]
theorem CO:FnScope Qv ["nears","starts"] (AA Hu):=⟨rfl,rfl,rfl,by decide+kernel,rfl,by decide+kernel,by decide+kernel⟩
theorem ZV:(Ag ["near"] []).Nodup:=by decide+kernel
def bp(i:Nat):Stmt:=(Ai Hu).getD i (.Pass ⟨0,0,0,0⟩)
def Ki:Stmt→List Stmt
 | .While _ b _ _=>b
 | .For _ _ b _ _=>b
 |_=> []
def bu(i:Nat):Stmt:=(Ki (bp 4)).getD i (.Pass ⟨0,0,0,0⟩)
variable{f:Addr}{cdv:Value}{A:dy}{outer:List Env}{s:a7}{H:Hp}{E:XK}{O:AI}{Ξ:Value→AI→Prop}{n:Int}{ps:List (Int×Int)}{S bs:List Int}{l lb:Addr}
abbrev zF(P:Program)(w:World)(K:a5)(mg:Str→Option Value)(base:Heap)(f:Addr)(cdv:Value)(A:dy)(outer:List Env)(s:a7)(H:Hp)(E:XK)(O:AI)(Ξ:Value→AI→Prop):Zx:=zB P w K mg base Qv "fars_from" (AA Hu) f cdv A outer s H E O Ξ
abbrev FO(O:AI)(l lb:Addr)(fs:List (Option Nat))(BC:List Int):AI:=Ac (Ac O l (fs.map As)) lb (BC.map T.int)
end
section
variable{P:Program}{w:World}{K:a5}{mg:Str→Option Value}{base:Heap}{CP:Addr}{f:Addr}{cdv:Value}{A:dy}{outer:List Env}{s:a7}{H:Hp}{E:XK}{O:AI}{Ξ:Value→AI→Prop}{n:Int}{ps:List (Int×Int)}{S bs:List Int}{l lb:Addr}
def JK(CP:Addr):Bu:=fun ts O Φ Ξ=>∃n ps t u,ts=[Bm n ps,t,u]∧Az t=false∧Az u=false∧WebN n ps∧(∀i j:Nat,t=.int i→u=.int j→(i:Int)<n→(j:Int)<n→∀fs,All n ps [(i:Int)] fs→∀x,fs[j]?=some x→Φ (As x) O)∧(DV t 0 (n-1)=false∨DV u 0 (n-1)=false→Ξ (.ref CP) O)
theorem Tz:FnScope ["web","one","other"] ["web","one","other"] (AA Ls):=⟨rfl,rfl,rfl,by decide+kernel,rfl,by decide+kernel,by decide+kernel⟩
theorem OY{fd:dM}(F:Fun K "far_of" "far_of" Ls f fd)(Gn:FnT P w K mg base "need_place" 3 ["web","thing"] (Qr CP))(G:FnT P w K mg base "nears_of" 1 ["web"] Fc)(Gf:FnT P w K mg base "fars_from" 1 ["nears","starts"] Qu):FnOk P w K mg base (CXe P w) 4 f fd ["web","one","other"] (Ce K (JK CP)):=by
 refine AY F Tz ?_ ?_
 ·rintro ts O Φ Ξ ⟨n,ps,t,u,rfl,_⟩
  rfl
 ·rintro cdv A outer s H E O Ξ hr xf _ Φ ⟨n,ps,t,u,rfl,ht,hu,wn,q1,q2⟩
  refine AD (Ap (AO Gn hr xf (EA.wa (AE (ev 0) (AE (ev 1) AC)) ⟨n,_,t,rfl,ht,fun h=>?_,fun h=>q2 (.inl h)⟩)))
  refine AD (Ap (AO Gn hr xf (EA.wa (AE (ev 0) (AE (ev 2) AC)) ⟨n,_,u,rfl,hu,fun h2=>?_,fun h=>q2 (.inr h)⟩)))
  obtain⟨i,rfl,hi⟩:=Qt h
  obtain⟨j,rfl,hj⟩:=Qt h2
  refine AH (AM (Pt Dy (fun _ _=>rfl) (AO Gf (hr.mono (by decide)) xf (EA.wa (AE (Aa G (hr.mono (by decide)) xf (AE (ev 0) AC) ⟨n,ps,rfl,wn.n0,wn.n1,wn.hw,wn.hl,rfl⟩) (AE (DQ (ts:=[(i:Int)].map T.int) (AE (ev 1) AC) (by show 1≤sizeLine;decide)) AC)) ⟨n,ps,[(i:Int)],rfl,wn,fun z hz=>?_,fun fs al=>?_⟩))))
  ·rw[a8.mp hz];omega
  ·have hl:=al.len
   have hlt:j<fs.length:=by omega
   exact ET.we (ev 2) (Le (t:=As fs[j]) (Bd (by rw[b8,b9 hlt];rfl)) _ (q1 i j rfl rfl hi hj fs al fs[j] (b9 hlt)))
end
open GrR
abbrev Gk(rows:List (List Int)):T:=.lst (rows.map fun r=> .lst (r.map T.int))
def Rw(rows:List (List Int))(u v:Int):Prop:=0≤u∧v∈rows.getD u.toNat []
structure RowsN(n:Int)(rows:List (List Int)):Prop where
 len:(rows.length:Int)=n
 n1:n≤200
 hw:ZF n (Rw rows)
theorem Kj{rows:List (List Int)}{i:Nat}{v:Int}:v∈rows.getD i []↔Rw rows (i:Int) v:=by
 unfold Rw
 rw[dY]
 exact⟨fun h=> ⟨by omega,h⟩,fun h=>h.2⟩
theorem NL{rows:List (List Int)}{i:Nat}(h:i<rows.length):atI (rows.map fun r=>T.lst (r.map T.int)) (i:Int)=some (.lst ((rows.getD i []).map T.int)):=
 Bd (by rw[b8,b9 h];simp[hZ,h])
theorem Qw{R:Int→Int→Prop}{S:List Int}{v:Int}:IsD R S v 0↔v∈S:=by
 constructor
 ·rintro⟨w,_⟩
  cases w with
  |«at» h=>exact h
 ·intro h
  exact⟨.at h,fun j hj=>by omega⟩
section
variable{P:Program}{w:World}{K:a5}{mg:Str→Option Value}{base:Heap}{f:Addr}{cdv:Value}{A:dy}{outer:List Env}{s:a7}{H:Hp}{E:XK}{O:AI}{Ξ:Value→AI→Prop}{n:Int}{rows:List (List Int)}{S bs:List Int}{l lb:Addr}
def JL:Bu:=fun ts O Φ _=>∃n rows S,ts=[Gk rows,.lst (S.map T.int)]∧RowsN n rows∧(∀z∈S,0≤z∧z<n)∧∀fs,All n (Rw rows) S fs→Φ (.lst (fs.map As)) O
abbrev FP(n:Int)(rows:List (List Int))(S:List Int)(l:Addr)(v3:Option T)(bs:List Int)(k:Nat)(v6 v7 v8:Option T):List (Option T):=[some (Gk rows),some (.lst (S.map T.int)),some (.raw (.ref l)),v3,some (.lst (bs.map T.int)),some (.int (k:Int)),v6,v7,v8]
theorem OZ{v3 v7:Option T}{k:Nat}{fs:List (Option Nat)}{BC ds:List Int}{u:Int}{v:Nat}{Φ:BH}{N Bk Ct:HE}(hll:lb≠l)(n1:n≤200)(hv:(v:Int)<n)(m:Mid n (Rw rows) S k fs BC ds)(nd:BC.Nodup)(hw:ZF n (Rw rows))(hS:∀z∈S,0≤z∧z<n)(hu:IsD (Rw rows) S u k)(a:Rw rows u v)
  (q:∀fs BC,Mid n (Rw rows) S k fs BC (ds++[(v:Int)])→BC.Nodup→N (FP n rows S l v3 bs (k+1) (some (.raw (.ref lb))) v7 (some (.int v))) (FO O l lb fs BC)):
  FU (zF P w K mg base f cdv A outer s H E O Ξ) (FP n rows S l v3 bs (k+1) (some (.raw (.ref lb))) v7 (some (.int v))) (FO O l lb fs BC) (Ki ((Ki (bu 2)).getD 0 (.Pass ⟨0,0,0,0⟩))) {nx:=N,rt:=Φ,bk:=Bk,ct:=Ct}:=by
 have sb:=AQ
 have hl:=m.len
 have hlt:v<fs.length:=by omega
 have gl:FO O l lb fs BC l=some (fs.map As):=by
  show Ac (Ac O l _) lb _ l=_
  rw[AN hll.symm,AG]
 have gv:atI (fs.map As) (v:Int)=some (As fs[v]):=Bd (by rw[b8,b9 hlt];rfl)
 refine AH (Af (CM Kg (DS gl (ev 2) (ev 8) gv)) (fun h=>?_) (fun h=>Ah ?_))
 ·rw[Kh] at h
  have hn:fs[(v:Int).toNat]?=some none:=by
   rw[dY,b9 hlt]
   cases z:fs[v] with
   |none=>rfl
   |some d=>rw[z] at h;cases h
  have hb:BC.length≤n.toNat:=Gr.Eu nd fun z hz=> (m.sub z hz).1.inb hw hS
  refine AD (GS (ET.we (ev 5) (ET.we (ev 2) ⟨l,rfl,ET.we (ev 8) ⟨_,_,v,rfl,gl,by rw[a9];exact JJ hlt,?_⟩⟩)))
  have eo:Ac (FO O l lb fs BC) l ((fs.map As).set v (.int ((k+1:Nat):Int)))=FO O l lb (fs.set v (some (k+1))) BC:=by
   show Ac (Ac (Ac O l _) lb _) l _=_
   rw[BO hll.symm,BA]
   show _=Ac (Ac O l ((fs.set v (some (k+1))).map As)) lb _
   rw[k4]
   rfl
  rw[eo]
  refine AH (Ap (CW (ET.we (ev 6) ⟨lb,rfl,⟨_,AG⟩,ET.we (ev 8) ⟨BC.map T.int,AG,by rw[a9];omega,?_⟩⟩)))
  have m2:=m.hit (v:=(v:Int)) (by omega) hv hn hu a
  rw[dY] at m2
  have:=q _ _ m2 (by
   rw[eH]
   refine⟨nd,by simp,fun x hx y hy z=>?_⟩
   rw[a8.mp hy] at z
   exact m.fresh (by omega) hv hn (z▸hx))
  have e2:Ac (FO O l lb (fs.set v (some (k+1))) BC) lb (BC.map T.int++[T.int v])=FO O l lb (fs.set v (some (k+1))) (BC++[(v:Int)]):=by
   show Ac (Ac (Ac O l _) lb _) lb _=Ac (Ac O l _) lb _
   rw[BA,eG]
   rfl
  rw[e2]
  exact this
 ·rw[Kh] at h
  cases z:fs[v] with
  |none=>rw[z] at h;cases h
  |some d=>exact q fs BC (m.miss (by omega) hv (d:=d) (by rw[dY,b9 hlt,z])) nd
theorem Lx{v3 v8:Option T}{k:Nat}{fs:List (Option Nat)}{BC ds:List Int}{u:Nat}{Φ:BH}{N Bk Ct:HE}(hll:lb≠l)(hrl:(rows.length:Int)=n)(n1:n≤200)(hu0:(u:Int)<n)(m:Mid n (Rw rows) S k fs BC ds)(nd:BC.Nodup)(hw:ZF n (Rw rows))(hS:∀z∈S,0≤z∧z<n)(hu:IsD (Rw rows) S u k)
  (q:∀v8 fs BC ds',Mid n (Rw rows) S k fs BC ds'→BC.Nodup→(∀v∈ds,v∈ds')→(∀v,Rw rows u v→v∈ds')→N (FP n rows S l v3 bs (k+1) (some (.raw (.ref lb))) (some (.int u)) v8) (FO O l lb fs BC)):
  FU (zF P w K mg base f cdv A outer s H E O Ξ) (FP n rows S l v3 bs (k+1) (some (.raw (.ref lb))) (some (.int u)) v8) (FO O l lb fs BC) (Ki (bu 2)) {nx:=N,rt:=Φ,bk:=Bk,ct:=Ct}:=by
 refine AH (CJ Aw.own rfl (EI.wi (BG (Il (ev 0) (ev 7) (NL (by omega)))) ⟨fun j ρ' O'=>∃v8 fs BC ds',ρ'=FP n rows S l v3 bs (k+1) (some (.raw (.ref lb))) (some (.int u)) v8∧O'=FO O l lb fs BC∧Mid n (Rw rows) S k fs BC ds'∧BC.Nodup∧(∀v∈ds,v∈ds')∧∀v∈(rows.getD u []).take j,v∈ds',⟨v8,fs,BC,ds,rfl,rfl,m,nd,fun _ h=>h,fun v h=>by simp at h⟩,?_,?_⟩))
 ·rintro j t _ _ e ⟨v8,fs,BC,ds',rfl,rfl,m,nd,h1,h2⟩
  rw[b8] at e
  cases ec:(rows.getD u [])[j]? with
  |none=>rw[ec] at e;cases e
  |some z=>
   rw[ec] at e
   cases e
   have a:=Kj.mp (dc ec)
   have hb:=hw _ _ a
   obtain⟨v,rfl⟩:=dz hb.1
   refine⟨FP n rows S l v3 bs (k+1) (some (.raw (.ref lb))) (some (.int u)) (some (.int v)),AU 8 CO.nd (by show 8<9;decide),OZ hll n1 hb.2 m nd hw hS hu a fun fs' bey' m' nd'=> ⟨_,_,_,_,rfl,rfl,m',nd',fun x hx=>gk _ (h1 x hx),fun x hx=>?_⟩⟩
   rw[fW,ec] at hx
   rcases dw.mp hx with hx|hx
   ·exact gk _ (h2 x hx)
   ·exact eS _ hx
 ·rintro _ _ ⟨v8,fs,BC,ds',rfl,rfl,m,nd,h1,h2⟩
  rw[a9,fR] at h2
  exact q v8 fs BC ds' m nd h1 fun v a=>h2 v (Kj.mpr a)
theorem Ly{v3 v6 v7 v8:Option T}{k:Nat}{fs:List (Option Nat)}{Φ:BH}{N Bk Ct:HE}(hlO:O l=none)(wn:RowsN n rows)(hS:∀z∈S,0≤z∧z<n)(h:Fr n (Rw rows) S k fs)(hb:∀v,v∈bs↔IsD (Rw rows) S v k)
  (q:∀v6 v7 v8 fs BC,Fr n (Rw rows) S (k+1) fs→(∀v,v∈BC↔IsD (Rw rows) S v (k+1))→N (FP n rows S l v3 BC (k+1) v6 v7 v8) (Ac O l (fs.map As))):
  FU (zF P w K mg base f cdv A outer s H E O Ξ) (FP n rows S l v3 bs k v6 v7 v8) (Ac O l (fs.map As)) (Ki (bp 4)) {nx:=N,rt:=Φ,bk:=Bk,ct:=Ct}:=by
 have sb:=AQ
 refine AD (Lg 5 Ot rfl (ET.we AB (fun H v w Q ok r1 r2 acc=> ⟨_,_,r1.int_inv,r2.int_inv,acc _ H (.int (((k+1:Nat):Int))) _ ?_ (.refl ok) (.int _)⟩)) CO.nd)
 refine AD (AS 6 (FS (Ae ⟨fj _,fun lb hlb=>?_⟩)) CO.nd)
 have hll:lb≠l:=fun z=>by rw[z,AG] at hlb;cases hlb
 have hlb':O lb=none:=by rw[AN hll] at hlb;exact hlb
 refine AD (CJ Aw.own rfl (EI.wi (BG (ev 4)) ⟨fun i ρ' O'=>∃v7 v8 fs BC ds,ρ'=FP n rows S l v3 bs (k+1) (some (.raw (.ref lb))) v7 v8∧O'=FO O l lb fs BC∧Mid n (Rw rows) S k fs BC ds∧BC.Nodup∧∀u∈bs.take i,∀v,Rw rows u v→v∈ds,⟨v7,v8,fs,[],[],rfl,rfl,h.mid,by simp,fun u hu=>by simp at hu⟩,?_,?_⟩))
 ·rintro i t _ _ e ⟨v7,v8,fs,BC,ds,rfl,rfl,m,nd,h1⟩
  rw[b8] at e
  cases ec:bs[i]? with
  |none=>rw[ec] at e;cases e
  |some z=>
   rw[ec] at e
   cases e
   have hz:=(hb z).mp (dc ec)
   have hi:=hz.1.inb wn.hw hS
   obtain⟨u,rfl⟩:=dz hi.1
   refine⟨FP n rows S l v3 bs (k+1) (some (.raw (.ref lb))) (some (.int u)) v8,AU 7 CO.nd (by show 7<9;decide),Lx hll wn.len wn.n1 hi.2 m nd wn.hw hS hz fun v8 fs' bey' ds' m' nd' g1 g2=> ⟨_,_,_,_,ds',rfl,rfl,m',nd',fun x hx v a=>?_⟩⟩
   rw[fW,ec] at hx
   rcases dw.mp hx with hx|hx
   ·exact g1 v (h1 x hx v a)
   ·have:x=(u:Int):=by simpa using hx
    rw[this] at a
    exact g2 v a
 ·rintro _ _ ⟨v7,v8,fs,BC,ds,rfl,rfl,m,nd,h1⟩
  rw[a9,fR] at h1
  obtain⟨h2,h3⟩:=m.done fun u v hu a=>h1 u ((hb u).mpr hu) v a
  refine DT (p:=lb) (n:=6) (ts:=BC.map T.int) AG hlb' rfl ?_
  rw[show Bo (FO O l lb fs BC) lb=Ac O l (fs.map As) from BJ (by rw[AN hll];exact hlb')]
  exact AH (AS 4 (ET.we (ev 6) (q _ _ _ fs BC h2 h3)) CO.nd)
theorem Qx{fd:dM}(F:Fun K "fars_from" "fars_from" Hu f fd):FnOk P w K mg base (CXe P w) 1 f fd ["nears","starts"] (Ce K JL):=by
 refine AY F CO ?_ ?_
 ·rintro ts O Φ Ξ ⟨n,rows,S,rfl,_⟩
  rfl
 ·rintro cdv A outer s H E O Ξ hr xf _ Φ ⟨n,rows,S,rfl,wn,hS,q⟩
  have sb:=AQ
  have n0:=wn.len
  have n1:=wn.n1
  refine AD (Hq (i:=2) (nc:=["near"]) (cap:=[]) (by rfl) CO.nd rfl (Bl (AA Hu) Qv (by decide+kernel)) (EI.wi (BG (ev 0)) ?_))
  refine⟨fun i acc O'=>i≤200∧acc=(fu i (none:Option Nat)).map As∧O=O',⟨by omega,rfl,rfl⟩,?_,?_⟩
  ·rintro i t acc _ c e ⟨_,rfl,rfl⟩ hc
   have hi:i<rows.length:=by
    have:=(dj.mp e).1
    simpa using this
   refine⟨[some t],fun X' Oe He is=> ⟨?_,EH (IR fun X' Oe He is=>?_)⟩⟩
   ·obtain⟨cl,s',H',fp,rfl⟩:=is
    exact AU 0 ZV (by decide)
   ·obtain⟨cl,s',H',fp,rfl⟩:=is
    exact ET.we Bj ⟨O,rfl,hc,by rw[a9,gC];omega,by omega,by rw[List.replicate_succ',eG];rfl,rfl⟩
  ·rintro acc _ ⟨_,rfl,rfl⟩ l hlO
   rw[a9]
   refine AD (CJ Aw.own rfl (EI.wi (BG (ev 1)) ⟨fun j ρ' O'=>∃(fs:List (Option Nat)) (v3:Option T),ρ'=[some (Gk rows),some (.lst (S.map T.int)),some (.raw (.ref l)),v3,none,none,none,none,none]∧O'=Ac O l (fs.map As)∧(fs.length:Int)=n∧∀v:Int,0≤v→v<n→∀d,fs[v.toNat]?=some (some d)↔(d=0∧v∈S.take j),⟨_,none,rfl,rfl,by rw[gC];omega,fun v v0 v1 d=>?_⟩,?_,?_⟩))
   ·rw[gm]
    simp
   ·rintro j t _ _ e ⟨fs,v3,rfl,rfl,hl,hf⟩
    rw[b8] at e
    cases ec:S[j]? with
    |none=>rw[ec] at e;cases e
    |some z=>
     rw[ec] at e
     cases e
     have hz:=hS z (dc ec)
     obtain⟨v,rfl⟩:=dz hz.1
     have hlt:v<fs.length:=by omega
     refine⟨[some (Gk rows),some (.lst (S.map T.int)),some (.raw (.ref l)),some (.int v),none,none,none,none,none],AU 3 CO.nd (by show 3<9;decide),?_⟩
     refine AH (GS (ET.we AB (ET.we (ev 2) ⟨l,rfl,ET.we (ev 3) ⟨_,_,v,rfl,AG,by rw[a9];exact JJ hlt,?_⟩⟩)))
     refine⟨fs.set v (some 0),_,rfl,by rw[BA,k4];rfl,by rw[hV];exact hl,fun y y0 y1 d=>?_⟩
     rw[fW,ec]
     by_cases hy:y=(v:Int)
     ·subst hy
      rw[dY,eB hlt]
      simp[eq_comm]
     ·rw[ef (by omega),hf y y0 y1 d]
      simp[hy]
   ·rintro _ _ ⟨fs,v3,rfl,rfl,hl,hf⟩
    rw[a9,fR] at hf
    have fr:Fr n (Rw rows) S 0 fs:=TX hl hf
    refine AD (AS 4 (ET.we (ev 1) ?_) CO.nd)
    refine AD (AS 5 (ET.we AB ?_) CO.nd)
    refine AD (QP Aw.own (fun m ρ' O'=>∃(k:Nat) (bs:List Int) (fs:List (Option Nat)) (v3 v6 v7 v8:Option T),ρ'=FP n rows S l v3 bs k v6 v7 v8∧O'=Ac O l (fs.map As)∧Fr n (Rw rows) S k fs∧(∀v,v∈bs↔IsD (Rw rows) S v k)∧m=n.toNat+1-k) ⟨_,0,S,fs,v3,none,none,none,rfl,rfl,fr,fun v=>Qw.symm,rfl⟩ ?_)
    rintro m _ _ ⟨k,bs,fs,v3,v6,v7,v8,rfl,rfl,fr,hb,rfl⟩
    refine(show EB (zF P w K mg base f cdv A outer s H E O Ξ) (FP n rows S l v3 bs k v6 v7 v8) (Ac O l (fs.map As)) _ (!(bs.map T.int).isEmpty) from KJ (t:=T.lst (bs.map T.int)) (ev 4) rfl) _ ?_
    cases bs with
    |nil=>
     refine Nx ?_
     have al:=fr.all_end fun v hv=>by
      have:=(hb v).mpr hv
      cases this
     refine DT (p:=l) (n:=2) (ts:=fs.map As) AG hlO rfl ?_
     rw[BJ hlO]
     exact AH (AM (ET.we (ev 2) (q fs al)))
    |cons b bs'=>
     refine IR (Ly hlO wn hS fr hb fun v6 v7 v8 fs' BC fr' hb'=> ⟨_,?_,k+1,BC,fs',_,v6,v7,v8,rfl,rfl,fr',hb',rfl⟩)
     have:=((hb b).mp (by simp)).lt wn.hw hS
     omega
end
end K19
namespace L2.TL
open PySem PySem.Spec PyProof.Rows
section
variable{Z:Zx}{ρ:List (Option T)}{O:AI}{e:Expr}{p pos:Pos}{ns:List Int}{i:Int}
theorem UA(hi:GJ ns i)(m:Z.X.mg "min" =none)(hc:Z.X.calm=true)(h:ET Z ρ O e (.lst (ns.map T.int)))(hg:Gl Z.X "min":=by rfl)(he:b4 [e] Z.X.env=(false,eval e Z.X.env)::b4 [] Z.X.env:=by rfl):ET Z ρ O (.Call (.Name "min" p) [e] [] pos) (.int i):=
 BE (Hg hc) m TC (AJ h AC he) (fun Φ q H vs Q ok r k=>by
  obtain⟨v,rfl,r1⟩:=r.one_inv
  obtain⟨a,xs,rfl,h1,o1,r1⟩:=r1.lst_inv
  cases Reps.ints r1
  refine⟨a,ns,rfl,.inl (.inl (.inl h1)),jz hi.1,fun n hn=>?_⟩
  have:n=i:=lz (hn.2 i hi.1) (hi.2 n hn.1)
  rw[this]
  exact k _ H _ O q (.refl ok) (.int _)) hg (by decide) (by decide) he
theorem NM(hi:Mk ns i)(m:Z.X.mg "max" =none)(hc:Z.X.calm=true)(h:ET Z ρ O e (.lst (ns.map T.int)))(hg:Gl Z.X "max":=by rfl)(he:b4 [e] Z.X.env=(false,eval e Z.X.env)::b4 [] Z.X.env:=by rfl):ET Z ρ O (.Call (.Name "max" p) [e] [] pos) (.int i):=
 BE (Hi hc) m Wc (AJ h AC he) (fun Φ q H vs Q ok r k=>by
  obtain⟨v,rfl,r1⟩:=r.one_inv
  obtain⟨a,xs,rfl,h1,o1,r1⟩:=r1.lst_inv
  cases Reps.ints r1
  refine⟨a,ns,rfl,.inl (.inl (.inl h1)),jz hi.1,fun n hn=>?_⟩
  have:n=i:=lz (hi.2 n hn.1) (hn.2 i hi.1)
  rw[this]
  exact k _ H _ O q (.refl ok) (.int _)) hg (by decide) (by decide) he
theorem Kl:∀{ns:List Int},ns≠[]→∃i,GJ ns i
 | [],h=>absurd rfl h
 | [a],_=> ⟨a,by simp,fun n hn=>by rw[a8.mp hn];exact gR _⟩
 |a::b::ns,_=>by
  obtain⟨i,h1,h2⟩:=Kl (ns:=b::ns) (by simp)
  refine⟨min a i,?_,fun n hn=>?_⟩
  ·rcases ja a i with h|h
   ·rw[jQ h];simp
   ·rw[jF h];exact df _ h1
  ·rcases dh.mp hn with rfl|hn
   ·exact Int.min_le_left ..
   ·exact gQ (Int.min_le_right ..) (h2 n hn)
theorem JM:∀{ns:List Int},ns≠[]→∃i,Mk ns i
 | [],h=>absurd rfl h
 | [a],_=> ⟨a,by simp,fun n hn=>by rw[a8.mp hn];exact gR _⟩
 |a::b::ns,_=>by
  obtain⟨i,h1,h2⟩:=JM (ns:=b::ns) (by simp)
  refine⟨max a i,?_,fun n hn=>?_⟩
  ·rcases ja a i with h|h
   ·rw[kP h];exact df _ h1
   ·rw[lu h];simp
  ·rcases dh.mp hn with rfl|hn
   ·exact Int.le_max_left ..
   ·exact gQ (h2 n hn) (Int.le_max_right ..)
end
end L2.TL
namespace K19
open PySem L2 L2.TL PySem.Spec PyProof.Rows Gr
section
variable{P:Program}{w:World}{K:a5}{mg:Str→Option Value}{base:Heap}{CN:Addr}
def Qy(CN:Addr):Bu:=fun ts O Φ Ξ=>∃t a b,ts=[t,.int a,.int b]∧Az t=false∧(DV t a b=true→Φ .non O)∧(DV t a b=false→Ξ (.ref CN) O)
theorem ZW:FnScope ["thing","least","most"] ["thing","least","most"] (AA JA):=⟨rfl,rfl,rfl,by decide+kernel,rfl,by decide+kernel,by decide+kernel⟩
theorem Wx{f:Addr}{fd:dM}(F:Fun K "need_number" "need_number" JA f fd)(mN:mg "NoNumber" =some (.ref CN))(xN:fQ K CN Ft "ValueError.__new__" =true)(G:FnT P w K mg base "is_whole" 1 ["thing","least","most"] JE):FnOk P w K mg base (CXe P w) 2 f fd ["thing","least","most"] (Ce K (Qy CN)):=by
 refine FY F ZW ?_ ?_
 ·rintro ts O Φ Ξ ⟨t,a,b,rfl,_⟩
  rfl
 ·rintro cdv A outer s H E O Ξ hr xo _ Φ ⟨t,a,b,rfl,ht,q1,q2⟩
  refine AH (Af (BS (Br (Aa G hr xo.f (AE (ev 0) (AE (ev 1) (AE (ev 2) AC))) ⟨t,a,b,rfl,ht,rfl⟩))) (fun h=>AH (BV xo rfl mN xN (q2 ?_))) (fun h=>Ah (q1 ?_)))
  ·cases z:DV t a b with
   |true=>rw[z] at h;cases h
   |false=>rfl
  ·cases z:DV t a b with
   |true=>rfl
   |false=>rw[z] at h;cases h
def Bc(n:Int)(ps:List (Int×Int)):List Int:=(dv n.toNat).map fun i=> ((AR ps i).length:Int)
def ZX(cs:List Int):T:=if cs.all (fun c=>decide (c=cs.headD 0))=true then .int (cs.headD 0) else .non
def FB:Bu:=KN fun ts r=>∃n ps,ts=[Bm n ps]∧WebN n ps∧1≤n∧r=ZX (Bc n ps)
theorem Qz:FnScope ["web","counts"] ["web"] (AA ND):=⟨rfl,rfl,rfl,by decide+kernel,rfl,by decide+kernel,by decide+kernel⟩
theorem ZY:(Ag ["near"] []).Nodup:=by decide+kernel
theorem Wy{cs:List Int}{a b:Int}(ha:GJ cs a)(hb:Mk cs b):cs.all (fun c=>decide (c=cs.headD 0))=decide (a=b):=by
 have hne:cs≠[]:=fun z=>by rw[z] at ha;cases ha.1
 have hh:cs.headD 0∈cs:=by
  cases cs with
  |nil=>exact absurd rfl hne
  |cons x xs=>simp
 by_cases h:a=b
 ·subst h
  rw[decide_eq_true rfl,e6]
  intro c hc
  have h1:=ha.2 c hc
  have h2:=hb.2 c hc
  have h3:=ha.2 _ hh
  have h4:=hb.2 _ hh
  exact decide_eq_true (by omega)
 ·rw[decide_eq_false h]
  cases z:cs.all (fun c=>decide (c=cs.headD 0)) with
  |false=>rfl
  |true=>
   rw[e6] at z
   have h1:=of_decide_eq_true (z a ha.1)
   have h2:=of_decide_eq_true (z b hb.1)
   omega
theorem UB{f:Addr}{fd:dM}(F:Fun K "even_by" "even_by" ND f fd)(Tx:Txt mg)(G:FnT P w K mg base "nears_of" 1 ["web"] Fc):FnOk P w K mg base (CXe P w) 2 f fd ["web"] (Ce K FB):=by
 refine AY F Qz ?_ ?_
 ·rintro ts O Φ Ξ ⟨r,⟨n,ps,rfl,_⟩,_⟩
  rfl
 ·rintro cdv A outer s H E O Ξ hr xf _ Φ ⟨_,⟨n,ps,rfl,wn,n0,rfl⟩,q⟩
  have sb:=AQ
  have n1:=wn.n1
  have hlen:(Bc n ps).length=n.toNat:=by simp[Bc]
  have hne:Bc n ps≠[]:=fun z=>by rw[z] at hlen;simp at hlen;omega
  obtain⟨a,ha⟩:=Kl hne
  obtain⟨b,hb⟩:=JM hne
  have e0:atI ((Bc n ps).map T.int) 0=some (.int ((Bc n ps).headD 0)):=by
   cases z:Bc n ps with
   |nil=>exact absurd z hne
   |cons x xs=>
    show atI _ ((0:Nat):Int)=_
    exact Bd rfl
  refine AD (EJ (i:=1) (nc:=["near"]) (cap:=[]) (by rfl) Qz.nd rfl (Bl (AA ND) ["web","counts"] (by decide+kernel)) (EI.wi (BG (Aa G hr xf (AE (ev 0) AC) ⟨n,ps,rfl,wn.n0,wn.n1,wn.hw,wn.hl,rfl⟩)) (EL (dv n.toNat) (fun i=>T.lst ((AR ps i).map T.int)) (fun i=>T.int (((AR ps i).map T.int).length:Int)) (by simp;omega) (fun x hx=> ⟨[some (.lst ((AR ps x).map T.int))],fun X' Oe He is O'=>?_⟩) ?_)))
  ·obtain⟨cl,s',H',fp,rfl⟩:=is
   exact⟨AU 0 ZY (by decide),TF Tx.nLen (ev 0)⟩
  ·have e1:(dv n.toNat).map (fun i=>T.int (((AR ps i).map T.int).length:Int))=(Bc n ps).map T.int:=by simp[Bc]
   rw[e1]
   refine AH (AM (ET.we (KM (CI (UA ha Tx.nMin rfl (ev 1)) (NM hb Tx.nMax rfl (ev 1))) (fun _=>Il (ev 1) AB e0) (fun _=>Bj)) ?_))
   have:(if decide (a=b)=true then T.int ((Bc n ps).headD 0) else T.non)=ZX (Bc n ps):=by
    unfold ZX
    rw[Wy ha hb]
   rw[this]
   exact q
end
theorem JN{n:Int}{ps:List (Int×Int)}{i:Nat}(hw:GY n ps)(hp:ps.Pairwise Dm):(AR ps i).Pairwise (· < ·):=by
 unfold AR
 rw[List.pairwise_filterMap]
 refine fJ ?_ hp
 intro p q hp hq h x hx y hy
 have a:=hw p hp
 have b:=hw q hq
 unfold Dm at h
 have f:∀(r:Int×Int) (z:Int),(if r.1=(i:Int) then some r.2 else if r.2=(i:Int) then some r.1 else none)=some z→(r.1=(i:Int)∧r.2=z)∨(r.1≠(i:Int)∧r.2=(i:Int)∧r.1=z):=fun r z e=>by
  by_cases h:r.1=(i:Int)
  ·rw[if_pos h] at e
   cases e
   exact .inl ⟨h,rfl⟩
  ·rw[if_neg h] at e
   by_cases h2:r.2=(i:Int)
   ·rw[if_pos h2] at e
    cases e
    exact .inr ⟨h,h2,rfl⟩
   ·rw[if_neg h2] at e;cases e
 rcases f p x hx with c|c<;>rcases f q y hy with d|d<;>omega
def mm(p:Int×Int):Int×Int:=(min p.1 p.2,max p.1 p.2)
section
variable{P:Program}{w:World}{K:a5}{mg:Str→Option Value}{base:Heap}{CP CL:Addr}
theorem Wz:(Ag ["a","b"] []).Nodup:=by decide+kernel
def Km:Bu:=fun ts O Φ _=>∃ps:List (Int×Int),ts=[.lst (ps.map AF)]∧ps.length≤300∧(∀p∈ps,(0≤p.1∧p.1<65536)∧0≤p.2∧p.2<65536)∧
 ∀qs:List (Int×Int),qs.Pairwise Dm→(∀q,q∈qs↔q∈ps.map mm)→qs.length≤ps.length→Φ (.tup (qs.map AF)) O
theorem RA:FnScope ["pairs"] ["pairs"] (AA ES):=⟨rfl,rfl,rfl,by decide+kernel,rfl,by decide+kernel,by decide+kernel⟩
theorem Lz{f:Addr}{fd:dM}(F:Fun K "ties_of" "ties_of" ES f fd)(Tx:Txt mg):FnOk P w K mg base (CXe P w) 1 f fd ["pairs"] (Ce K Km):=by
 refine AY F RA ?_ ?_
 ·rintro ts O Φ Ξ ⟨ps,rfl,_⟩
  rfl
 ·rintro cdv A outer s H E O Ξ hr xf _ Φ ⟨ps,rfl,hl,hp,q⟩
  have hu:(A.deeper (iN "ties_of" (AA ES) s.heap.objs.size f cdv)).units+8<cLine:=by have:=hr.un;omega
  have hz:ps.length≤sizeLine:=eY hl (by decide)
  refine AH (AM (BX Tx.nTuple (Cu (ps:=ps.map mm) Tx.nSorted Tx.nSet rfl hu ?_ (by simpa using hl) ?_ fun qs h1 h2 h3=> ⟨_,rfl,q qs h1 h2 (by simpa using h3)⟩)))
  ·rw[eJ]
   refine CK ["a","b"] [] ps AF _ rfl (Bl (AA ES) ["pairs"] (by decide+kernel)) (BG (ev 0)) hz fun x hx=> ⟨[some (.int x.1),some (.int x.2)],fun X' Oe He is O'=>?_⟩
   obtain⟨cl,s',H',fp,rfl⟩:=is
   exact⟨Cs 0 1 rfl Wz (by decide) (by decide),BM (AE (Ms Tx.nMin rfl (ev 0) (ev 1)) (AE (FW Tx.nMax rfl (ev 0) (ev 1)) AC))⟩
  ·intro z hz
   obtain⟨p,h1,rfl⟩:=di.mp hz
   have:=hp p h1
   show 0≤max _ _∧max _ _<65536
   omega
end
section
variable{P:Program}{w:World}{K:a5}{mg:Str→Option Value}{base:Heap}{CP CL:Addr}
end
end K19
namespace L2.TL
open PySem PySem.Spec PyProof.Rows
section
variable{Z:Zx}{ρ:List (Option T)}{O:AI}{a:Expr}{t:T}{us:List T}{K:a5}{p1 pos:Pos}
theorem UC{j:Nat}(hr:Az t=false)(ha:ET Z ρ O a t):EB Z ρ O (.Compare a [.IsNot] [.Constant .none j p1] pos) (!Dn t):=CH MR (Ad _) (fun Φ p H v w Q ok r1 r2 q=>by
 refine⟨r2.non_inv,?_⟩
 have e:decide (v=V.non)=Dn t:=by
  cases r1<;>first|rfl|cases hr
 rw[e]
 exact q _ H _ O p (.refl ok) (.bl _)) ha Bj
end
theorem EI.cast{Z:Zx}{ρ:List (Option T)}{O:AI}{tg iter:Expr}{ts us:List T}(h:EI Z ρ O tg iter ts)(e:ts=us):EI Z ρ O tg iter us:=e▸h
end L2.TL
namespace K19
open PySem L2 L2.TL PySem.Spec PyProof.Rows Gr
def EZ(fs:List (Option Nat)):List Int:=(fs.filter kK).map fun x=> ((x.getD 0:Nat):Int)
theorem Gm:∀{fs:List (Option Nat)},(fs.filter kK).map As=(EZ fs).map T.int
 | []=>rfl
 |none::fs=>Gm (fs:=fs)
 |some d::fs=>by
  show T.int (d:Int)::(fs.filter kK).map As=T.int (d:Int)::(EZ fs).map T.int
  rw[Gm]
theorem UD{fs:List (Option Nat)}{z:Int}:z∈EZ fs↔∃(i d:Nat),fs[i]?=some (some d)∧z=d:=by
 unfold EZ
 rw[di]
 constructor
 ·rintro⟨x,hx,rfl⟩
  obtain⟨h1,h2⟩:=et.mp hx
  cases x with
  |none=>cases h2
  |some d=>
   obtain⟨i,hi⟩:=eD h1
   exact⟨i,d,hi,rfl⟩
 ·rintro⟨i,d,h,rfl⟩
  exact⟨some d,et.mpr ⟨dc h,rfl⟩,rfl⟩
section
variable{P:Program}{w:World}{K:a5}{mg:Str→Option Value}{base:Heap}{CP CL:Addr}
end
end K19
namespace StT
open PySem PySem.SetTable PyProof.Rows
section
variable{prog:Program}{w:World}{A:dy}{E:Value→a7→Prop}{s:a7}
variable{a:Addr}{xs:List (Int×Tok)}{o:Obj}{es:Array (Int×Value)}{ep:Nat}{t:fh}
end
section
variable{prog:Program}{w:World}{A:dy}{E:Value→a7→Prop}{s:a7}
variable{a:Addr}{xs:List (Int×Tok)}{o:Obj}{es:Array (Int×Value)}{ep:Nat}{t:fh}
end
section
variable{prog:Program}{w:World}{A:dy}{E:Value→a7→Prop}{s:a7}
end
open PySem.Calls PySem.W
section
variable{prog:Program}{w:World}{A:dy}{E:Value→a7→Prop}{s:a7}
end
end StT
namespace L2
open PySem PySem.Spec PySem.Calls PyProof.Rows
section
variable{X:Cx}
end
end L2
namespace L2.TL
open PySem PySem.Spec PySem.Calls PyProof.Rows
section
variable{Z:Zx}{ρ:List (Option T)}{O:AI}{e:Expr}{Φ:BH}{pos p p1 pos1:Pos}
end
end L2.TL
namespace K19
open PySem L2 L2.TL PySem.Spec PyProof.Rows Gr
def BD(ps:List (Int×Int))(x:Int):List Int:=(ps.filter fun p=>decide (x∈[p.1,p.2])).map fun p=>p.1+p.2-x
theorem Hz{ps:List (Int×Int)}{x v:Int}:v∈BD ps x↔Adj ps x v:=by
 unfold BD
 rw[di]
 constructor
 ·rintro⟨p,hp,rfl⟩
  obtain⟨h1,h2⟩:=et.mp hp
  have h2:x=p.1∨x=p.2:=by simpa using h2
  rcases h2 with h|h
  ·refine .inl ?_
   have e:(x,p.1+p.2-x)=p:=fZ h (by show p.1+p.2-x=p.2;omega)
   rw[e];exact h1
  ·refine .inr ?_
   have e:(p.1+p.2-x,x)=p:=fZ (by show p.1+p.2-x=p.1;omega) h
   rw[e];exact h1
 ·rintro(h|h)
  ·exact⟨_,et.mpr ⟨h,by simp⟩,by show x+v-x=v;omega⟩
  ·exact⟨_,et.mpr ⟨h,by simp⟩,by show v+x-x=v;omega⟩
section
variable{P:Program}{w:World}{K:a5}{mg:Str→Option Value}{base:Heap}
variable{f:Addr}{cdv:Value}{A:dy}{outer:List Env}{s:a7}{H:Hp}{E:XK}{O:AI}{Ξ:Value→AI→Prop}{n:Int}{ps:List (Int×Int)}{S bs:List Int}{l:Addr}
end
end K19
namespace L2.TL
open PySem PySem.Spec PyProof.Rows
section
variable{Z:Zx}{ρ:List (Option T)}{O:AI}{e:Expr}{Φ:BH}{pos p:Pos}{ts:List T}
theorem Oa(m:Z.X.mg "list" =none)(h:ET Z ρ O e (.lst ts))(q:∀a,O a=none→Φ (.raw (.ref a)) (Ac O a ts))(hg:Gl Z.X "list":=by rfl)(he:b4 [e] Z.X.env=(false,eval e Z.X.env)::b4 [] Z.X.env:=by rfl):WE Z ρ O (.Call (.Name "list" p) [e] [] pos) Φ:=
 Dc GL m KQ (AJ h AC he _ (fun H vs Q ok r k=>by
  obtain⟨v,rfl,r1⟩:=r.one_inv
  obtain⟨a,xs,rfl,h1,_,r1⟩:=r1.lst_inv
  exact⟨a,xs,rfl,.inl (.inl (.inl h1)),fun p hp=>k _ _ _ _ (q p (ok.none_of hp)) (.newO ok hp r1) (.raw _)⟩)) hg (by decide) (by decide) he
end
end L2.TL
namespace K19
open PySem L2 L2.TL PySem.Spec PyProof.Rows GrR
def Kn:List Int→Option Int
 | []=>none
 |x::xs=>some (match Kn xs with|none=>x|some m=>min x m)
theorem Fd:∀(ns:List Int),Ew ns (Kn ns)
 | []=>rfl
 |x::xs=>by
  have h:=Fd xs
  show Ew (x::xs) (some (match Kn xs with|none=>x|some m=>min x m))
  cases e:Kn xs with
  |none=>
   rw[e] at h
   rw[show xs=[] from h]
   exact⟨by simp,fun n hn=>by rw[a8.mp hn];exact gR _⟩
  |some m=>
   rw[e] at h
   refine⟨?_,fun n hn=>?_⟩
   ·rcases ja x m with hx|hx
    ·show min x m∈_
     rw[jQ hx];simp
    ·show min x m∈_
     rw[jF hx];exact df _ h.1
   ·rcases dh.mp hn with rfl|hn
    ·exact Int.min_le_left ..
    ·exact gQ (Int.min_le_right ..) (h.2 n hn)
def Gq(rows:List (List Int))(a b:Int):List (List Int):=rows.set a.toNat ((rows.getD a.toNat []).filter fun v=>decide (v≠b))
def Gu(rows:List (List Int))(a b:Int):Option Nat:=(Hr (Rw (Gq rows a b)) [a] b).map (· +1)
theorem MA{rows:List (List Int)}{a b u v:Int}(a0:0≤a)(a1:a<rows.length):Rw (Gq rows a b) u v↔Rw rows u v∧¬(u=a∧v=b):=by
 unfold Rw Gq
 have hlt:a.toNat<rows.length:=by omega
 by_cases hu:u=a
 ·subst hu
  rw[eK,eB hlt]
  simp only[Option.getD_some,et,decide_eq_true_eq]
  constructor
  ·rintro⟨h0,h1,h2⟩
   exact⟨⟨h0,h1⟩,fun z=>h2 z.2⟩
  ·rintro⟨⟨h0,h1⟩,h2⟩
   exact⟨h0,h1,fun z=>h2 ⟨trivial,z⟩⟩
 ·constructor
  ·rintro⟨h0,h1⟩
   rw[eK,ef (by omega),←eK] at h1
   exact⟨⟨h0,h1⟩,fun z=>hu z.1⟩
  ·rintro⟨⟨h0,h1⟩,_⟩
   refine⟨h0,?_⟩
   rw[eK,ef (by omega),←eK]
   exact h1
theorem XA{n:Int}{rows:List (List Int)}{a b:Int}(rn:RowsN n rows)(a0:0≤a)(a1:a<n):RowsN n (Gq rows a b):=
 ⟨by unfold Gq;rw[hV];exact rn.len,rn.n1,fun u v h=>rn.hw u v ((MA a0 (by have:=rn.len;omega)).mp h).1⟩
def BP(n:Int)(ps:List (Int×Int)):List (List Int):=(dv n.toNat).map fun i=>AR ps i
theorem IA{n:Int}{ps:List (Int×Int)}:FA n ps=Gk (BP n ps):=by
 unfold FA BP
 show _=T.lst (((dv n.toNat).map fun i=>AR ps i).map fun r=>T.lst (r.map T.int))
 rw[eJ]
 rfl
theorem Ko{n:Int}{ps:List (Int×Int)}{i:Nat}(h:(i:Int)<n):(BP n ps).getD i []=AR ps i:=by
 unfold BP
 rw[eK,b8,iE (by omega)]
 rfl
theorem Fe{n:Int}{ps:List (Int×Int)}(hw:Gr.GY n ps){u v:Int}:Rw (BP n ps) u v↔Gr.Adj ps u v:=by
 constructor
 ·rintro⟨h0,h⟩
  obtain⟨i,rfl⟩:=dz h0
  rw[dY] at h
  by_cases hi:(i:Int)<n
  ·rw[Ko hi] at h
   exact(Cd hw).mp h
  ·unfold BP at h
   rw[eK,b8,fo (by rw[fk];omega)] at h
   cases h
 ·intro a
  have hb:=a.symm.inb hw
  obtain⟨i,rfl⟩:=dz hb.1
  refine⟨by omega,?_⟩
  rw[dY,Ko hb.2.1]
  exact(Cd hw).mpr a
theorem JO{n:Int}{ps:List (Int×Int)}(wn:WebN n ps):RowsN n (BP n ps):=
 ⟨by have:=wn.n0;unfold BP;simp;omega,wn.n1,fun u v h=>by have:=((Fe wn.hw).mp h).inb wn.hw;exact⟨this.1,this.2.1⟩⟩
section
variable{P:Program}{w:World}{K:a5}{mg:Str→Option Value}{base:Heap}{CP CL:Addr}
def Uu:Bu:=KN fun ts r=>∃xs:List (Option Nat),ts=[.lst (xs.map As)]∧xs.length≤300∧r=Ga (Kn (EZ xs))
theorem ZZ:FnScope ["numbers"] ["numbers"] (AA JC):=⟨rfl,rfl,rfl,by decide+kernel,rfl,by decide+kernel,by decide+kernel⟩
theorem Za:(Ag ["number"] []).Nodup:=by decide+kernel
theorem RB{f:Addr}{fd:dM}(F:Fun K "least_told" "least_told" JC f fd)(Tx:Txt mg):FnOk P w K mg base (CXe P w) 1 f fd ["numbers"] (Ce K Uu):=by
 refine AY F ZZ ?_ ?_
 ·rintro ts O Φ Ξ ⟨r,⟨xs,rfl,_⟩,_⟩
  rfl
 ·rintro cdv A outer s H E O Ξ hr xf _ Φ ⟨_,⟨xs,rfl,hl,rfl⟩,q⟩
  have sb:=AQ
  refine AH (AM (ET.we (Th (Fd _) Tx.nMin rfl (ET.cast (Li ["number"] [] xs As As kK rfl (Bl (AA JC) ["numbers"] (by decide+kernel)) (BG (ev 0)) (by omega) fun x hx=> ⟨[some (As x)],fun X' Oe He is O'=>?_⟩) (by rw[Gm]))) q))
  obtain⟨cl,s',H',fp,rfl⟩:=is
  refine⟨AU 0 Za (by decide),EB.cast (UC Kg (ev 0)) ?_,fun _=>ev 0⟩
  cases x<;>rfl
def Uv:Bu:=KN fun ts r=>∃(n:Int) (rows:List (List Int)) (a b:Int),ts=[Gk rows,.int a,.int b]∧RowsN n rows∧(∀r∈rows,r.length≤300)∧(0≤a∧a<n)∧(0≤b∧b<n)∧r=As (Gu rows a b)
def Zb:List Str:=["nears","a","b","cut","far"]
theorem RC:FnScope Zb ["nears","a","b"] (AA Tp):=⟨rfl,rfl,rfl,by decide+kernel,rfl,by decide+kernel,by decide+kernel⟩
theorem Zc:(Ag ["near"] [(("b" :Str),2)]).Nodup:=by decide+kernel
theorem XB{f:Addr}{fd:dM}(F:Fun K "ring_by_tie" "ring_by_tie" Tp f fd)(Tx:Txt mg)(G:FnT P w K mg base "fars_from" 1 ["nears","starts"] JL):FnOk P w K mg base (CXe P w) 2 f fd ["nears","a","b"] (Ce K Uv):=by
 refine AY F RC ?_ ?_
 ·rintro ts O Φ Ξ ⟨r,⟨n,rows,a,b,rfl,_⟩,_⟩
  rfl
 ·rintro cdv A outer s H E O Ξ hr xf _ Φ ⟨_,⟨n,rows,a,b,rfl,rn,hlr,ha,hb,rfl⟩,q⟩
  have sb:=AQ
  have hl:=rn.len
  have n1:=rn.n1
  obtain⟨i,rfl⟩:=dz ha.1
  obtain⟨j,rfl⟩:=dz hb.1
  have hi:i<rows.length:=by omega
  have hri:(rows.getD i []).length≤300:=hlr _ (by rw[eK,b9 hi];exact fI hi)
  refine AD (AS 3 (Oa Tx.nList (ev 0) fun l hlO=>?_) RC.nd)
  refine AD (GS (ET.we (t:=.lst (((rows.getD i []).filter fun v=>decide (v≠(j:Int))).map T.int)) (Li ["near"] [("b",2)] (rows.getD i []) T.int T.int (fun v=>decide (v≠(j:Int))) rfl (Bl (AA Tp) Zb (by decide+kernel)) (BG (Il (ev 0) (ev 1) (NL hi))) (by omega) fun x hx=> ⟨[some (.int x),some (.int (j:Int))],fun X' Oe He is O'=>?_⟩) (ET.we (ev 3) ⟨l,rfl,ET.we (ev 1) ⟨_,_,i,rfl,AG,by rw[a9];exact JJ hi,?_⟩⟩)))
  ·obtain⟨cl,s',H',fp,rfl⟩:=is
   refine⟨AU 0 Zc (by decide),EB.cast (Ld (ev 0) (ev 1)) ?_,fun _=>ev 0⟩
   by_cases h:x=(j:Int)<;>simp[h]
  ·rw[BA]
   have eset:(rows.map fun r=>T.lst (r.map T.int)).set i (.lst (((rows.getD i []).filter fun v=>decide (v≠(j:Int))).map T.int))=(Gq rows (i:Int) (j:Int)).map fun r=>T.lst (r.map T.int):=by
    unfold Gq
    rw[k4,dY]
   rw[eset]
   refine DT (p:=l) (n:=3) AG hlO rfl ?_
   rw[BJ hlO]
   refine AD (AS 4 (Pt Dy (fun _ _=>rfl) (AO G hr xf (EA.wa (AE (ev 3) (AE (DQ (ts:=[(i:Int)].map T.int) (AE (ev 1) AC) (by show 1≤sizeLine;decide)) AC)) ⟨n,Gq rows i j,[(i:Int)],rfl,XA rn ha.1 ha.2,fun z hz=>?_,fun fs al=>?_⟩))) RC.nd)
   ·rw[a8.mp hz];exact ha
   ·have hlf:=al.len
    have hg:=al.get hb.1 hb.2
    rw[dY] at hg
    refine ET.we (ev 2) (Le (t:=As (Hr (Rw (Gq rows i j)) [(i:Int)] j)) (Bd (by rw[b8,hg];rfl)) _ ?_)
    unfold Gu at q
    generalize Hr (Rw (Gq rows i j)) [(i:Int)] j=x at q
    cases x with
    |none=>exact AH (AM (ET.we (KM (x:=true) (ta:=.non) (tb:=.non) (CM (t:=.non) rfl (ev 4)) (fun _=>Bj) (fun h=>by cases h)) q))
    |some d=>exact AH (AM (ET.we (KM (x:=false) (ta:=.non) (tb:=.int ((d:Int)+1)) (CM (t:=.int (d:Int)) rfl (ev 4)) (fun h=>by cases h) (fun _=>Au (ev 4) AB)) q))
theorem RD{n:Int}{ps:List (Int×Int)}(wn:WebN n ps):∀r∈BP n ps,r.length≤300:=fun r hr=>by
 unfold BP at hr
 obtain⟨i,_,rfl⟩:=di.mp hr
 have:=DC (qs:=ps) (i:=i)
 have:=wn.hl
 omega
end
end K19
namespace L2.TL
open PySem PySem.Spec PyProof.Rows
section
variable{Z:Zx}{ρ:List (Option T)}{O:AI}{a:Expr}{t:T}{p1 pos:Pos}
theorem XC{j:Nat}(hr:Az t=false)(ha:ET Z ρ O a t):ET Z ρ O (.Compare a [.Is] [.Constant .none j p1] pos) (.bl (Dn t)):=CD Oz (Ad _) (fun Φ p H v w Q ok r1 r2 q=>by
 refine⟨r2.non_inv,?_⟩
 have e:decide (v=V.non)=Dn t:=by
  cases r1<;>first|rfl|cases hr
 rw[e]
 exact q _ H _ O p (.refl ok) (.bl _)) ha Bj
end
end L2.TL
namespace K19
open PySem L2 L2.TL PySem.Spec PyProof.Rows GrR
def FJ(ps:List (Int×Int))(t:Int×Int):List (Int×Int):=ps.filter fun q=>decide (q≠t)
def Ea(ps:List (Int×Int))(t:Int×Int):Option Nat:=(Hr (Gr.Adj (FJ ps t)) [t.1] t.2).map (· +1)
theorem Eb{n:Int}{ps:List (Int×Int)}(hw:Gr.GY n ps){a b u v:Int}:Gr.Adj (FJ ps (mm (a,b))) u v↔Gr.Adj ps u v∧¬(u=a∧v=b)∧¬(u=b∧v=a):=by
 have key:∀x y:Int,(x,y)∈FJ ps (mm (a,b))↔(x,y)∈ps∧¬(x=a∧y=b)∧¬(x=b∧y=a):=fun x y=>by
  unfold FJ
  rw[et,decide_eq_true_eq]
  constructor
  ·rintro⟨h,hne⟩
   have hxy:=(hw _ h).2.1
   simp only at hxy
   refine⟨h,fun⟨e1,e2⟩=>hne ?_,fun⟨e1,e2⟩=>hne ?_⟩
   ·subst e1 e2;exact fZ (by show x=min x y;omega) (by show y=max x y;omega)
   ·subst e1 e2;exact fZ (by show x=min y x;omega) (by show y=max y x;omega)
  ·rintro⟨h,h1,h2⟩
   refine⟨h,fun e=>?_⟩
   have e1:x=min a b:=congrArg gi e
   have e2:y=max a b:=congrArg Prod.snd e
   rcases ja a b with hab|hab
   ·exact h1 ⟨by omega,by omega⟩
   ·exact h2 ⟨by omega,by omega⟩
 unfold Gr.Adj
 rw[key,key]
 constructor
 ·rintro(⟨h,h1,h2⟩| ⟨h,h1,h2⟩)
  ·exact⟨.inl h,h1,h2⟩
  ·exact⟨.inr h,fun z=>h2 ⟨z.2,z.1⟩,fun z=>h1 ⟨z.2,z.1⟩⟩
 ·rintro⟨h|h,h1,h2⟩
  ·exact .inl ⟨h,h1,h2⟩
  ·exact .inr ⟨h,fun z=>h2 ⟨z.2,z.1⟩,fun z=>h1 ⟨z.2,z.1⟩⟩
theorem RE{n:Int}{ps:List (Int×Int)}(wn:WebN n ps){a b:Int}(ad:Gr.Adj ps a b):Gu (BP n ps) a b=Ea ps (mm (a,b)):=by
 have ha:=ad.symm.inb wn.hw
 have hl:=(JO wn).len
 have e1:Hr (Rw (Gq (BP n ps) a b)) [a] b=Hr (Gr.Adj (FJ ps (mm (a,b)))) [a] b:=Hs fun d=>TY
  (fun u v h=> (MA ha.1 (by omega)).mpr ⟨(Fe wn.hw).mpr ((Eb wn.hw).mp h).1,((Eb wn.hw).mp h).2.1⟩)
  (fun u v h=>by
   obtain⟨h1,h2⟩:=(MA ha.1 (by omega)).mp h
   by_cases hu:u=b∧v=a
   ·exact .inr hu.1
   ·exact .inl ((Eb wn.hw).mpr ⟨(Fe wn.hw).mp h1,h2,hu⟩))
 unfold Gu Ea
 rw[e1]
 congr 1
 rcases ja a b with hab|hab
 ·have:mm (a,b)=(a,b):=fZ (by show min a b=a;omega) (by show max a b=b;omega)
  rw[this]
 ·have:mm (a,b)=(b,a):=fZ (by show min a b=b;omega) (by show max a b=a;omega)
  rw[this]
  exact Hs fun d=>TZ fun u v h=>Gr.Adj.symm h
theorem Uw{n:Int}{ps:List (Int×Int)}(hw:Gr.GY n ps){p:Int×Int}(h:p∈ps):mm p=p∧mm (p.2,p.1)=p:=by
 have:=(hw _ h).2.1
 exact⟨fZ (by show min p.1 p.2=p.1;omega) (by show max p.1 p.2=p.2;omega),fZ (by show min p.2 p.1=p.1;omega) (by show max p.2 p.1=p.2;omega)⟩
section
variable{P:Program}{w:World}{K:a5}{mg:Str→Option Value}{base:Heap}{CP CL:Addr}
end
end K19
namespace L2.TL
open PySem PySem.Spec PyProof.Rows
section
variable{Z:Zx}{ρ:List (Option T)}{O:AI}{e lo:Expr}{p2 pos:Pos}{ts:List T}{i:Int}
end
end L2.TL
namespace K19
open PySem L2 L2.TL PySem.Spec PyProof.Rows Gr
def HH(b:Int):Nat→Int
 |0=>0
 |n+1=>HH b n+b^n
def grown(d:Int)(g:Nat):Int:=if g%2=1 then 1+d*HH (d-1) (g/2) else 2*HH (d-1) (g/2)
section
variable{P:Program}{w:World}{K:a5}{mg:Str→Option Value}{base:Heap}{CN CE CP CL:Addr}
def UE(CN:Addr)(a b:Int):Bu:=fun ts O Φ Ξ=>∃t,ts=[t]∧Az t=false∧(DV t a b=true→Φ .non O)∧(DV t a b=false→Ξ (.ref CN) O)
theorem XD:FnScope ["d"] ["d"] (AA Qd):=⟨rfl,rfl,rfl,by decide+kernel,rfl,by decide+kernel,by decide+kernel⟩
theorem UF{f:Addr}{fd:dM}(F:Fun K "need_ties" "need_ties" Qd f fd)(Tx:Txt mg)(G:FnT P w K mg base "need_number" 2 ["thing","least","most"] (Qy CN)):FnOk P w K mg base (CXe P w) 3 f fd ["d"] (Ce K (UE CN 2 15)):=by
 refine AY F XD ?_ ?_
 ·rintro ts O Φ Ξ ⟨t,rfl,_⟩
  rfl
 ·rintro cdv A outer s H E O Ξ hr xf _ Φ ⟨t,rfl,ht,q1,q2⟩
  exact AH (Ap (AO G hr xf (EA.wa (AE (ev 0) (AE (EG Tx.iLT) (AE (EG Tx.iMT) AC))) ⟨t,2,15,rfl,ht,q1,q2⟩)))
theorem XE:FnScope ["g"] ["g"] (AA Qe):=⟨rfl,rfl,rfl,by decide+kernel,rfl,by decide+kernel,by decide+kernel⟩
theorem UG{f:Addr}{fd:dM}(F:Fun K "need_ring" "need_ring" Qe f fd)(Tx:Txt mg)(G:FnT P w K mg base "need_number" 2 ["thing","least","most"] (Qy CN)):FnOk P w K mg base (CXe P w) 3 f fd ["g"] (Ce K (UE CN 3 16)):=by
 refine AY F XE ?_ ?_
 ·rintro ts O Φ Ξ ⟨t,rfl,_⟩
  rfl
 ·rintro cdv A outer s H E O Ξ hr xf _ Φ ⟨t,rfl,ht,q1,q2⟩
  exact AH (Ap (AO G hr xf (EA.wa (AE (ev 0) (AE (EG Tx.iLR) (AE (EG Tx.iMR) AC))) ⟨t,3,16,rfl,ht,q1,q2⟩)))
def UH(CN:Addr):Bu:=fun ts O Φ Ξ=>∃t u,ts=[t,u]∧Az t=false∧Az u=false∧(DV t 2 15=true→DV u 3 16=true→Φ .non O)∧(DV t 2 15=false∨DV u 3 16=false→Ξ (.ref CN) O)
theorem bI:FnScope ["d","g"] ["d","g"] (AA bH):=⟨rfl,rfl,rfl,by decide+kernel,rfl,by decide+kernel,by decide+kernel⟩
theorem Zd{f:Addr}{fd:dM}(F:Fun K "need_ties_and_ring" "need_ties_and_ring" bH f fd)(G:FnT P w K mg base "need_ties" 3 ["d"] (UE CN 2 15))(G2:FnT P w K mg base "need_ring" 3 ["g"] (UE CN 3 16)):FnOk P w K mg base (CXe P w) 4 f fd ["d","g"] (Ce K (UH CN)):=by
 refine AY F bI ?_ ?_
 ·rintro ts O Φ Ξ ⟨t,u,rfl,_⟩
  rfl
 ·rintro cdv A outer s H E O Ξ hr xf _ Φ ⟨t,u,rfl,ht,hu,q1,q2⟩
  refine AD (Ap (AO G hr xf (EA.wa (AE (ev 0) AC) ⟨t,rfl,ht,fun h=>?_,fun h=>q2 (.inl h)⟩)))
  exact AH (Ap (AO G2 hr xf (EA.wa (AE (ev 1) AC) ⟨u,rfl,hu,fun h2=>q1 h h2,fun h=>q2 (.inr h)⟩)))
def Ux:Bu:=KN fun ts r=>∃(b:Int) (m:Nat),ts=[.int b,.int (m:Int)]∧(0≤b∧b<100)∧m≤100∧r=.int (HH b m)
def bJ:List Str:=["base","many","total","power","step"]
theorem IB:FnScope bJ ["base","many"] (AA Wo):=⟨rfl,rfl,rfl,by decide+kernel,rfl,by decide+kernel,by decide+kernel⟩
theorem XF{f:Addr}{fd:dM}(F:Fun K "sum_of_powers" "sum_of_powers" Wo f fd)(Tx:Txt mg):FnOk P w K mg base (CXe P w) 1 f fd ["base","many"] (Ce K Ux):=by
 refine AY F IB ?_ ?_
 ·rintro ts O Φ Ξ ⟨r,⟨b,m,rfl,_⟩,_⟩
  rfl
 ·rintro cdv A outer s H E O Ξ hr xf _ Φ ⟨_,⟨b,m,rfl,hb,hm,rfl⟩,q⟩
  refine AD (AS 2 (ET.we AB ?_) IB.nd)
  refine AD (AS 3 (ET.we AB ?_) IB.nd)
  refine AD (CJ Aw.own rfl (EI.wi (Am Tx.nRange (ev 1) ⟨by omega,by omega⟩) ⟨fun i ρ' O'=>∃v4,ρ'=[some (.int b),some (.int (m:Int)),some (.int (HH b i)),some (.int (b^i)),v4]∧O=O',⟨none,by rw[Int.pow_zero];rfl,rfl⟩,?_,?_⟩))
  ·rintro i t _ _ e ⟨v4,rfl,rfl⟩
   refine⟨[some (.int b),some (.int (m:Int)),some (.int (HH b i)),some (.int (b^i)),some t],AU 4 IB.nd (by show 4<5;decide),?_⟩
   refine AD (Lg 2 Ot rfl (ET.we (ev 3) (fun H v w Q ok r1 r2 acc=> ⟨_,_,r1.int_inv,r2.int_inv,acc _ H (.int (HH b (i+1))) _ ?_ (.refl ok) (.int _)⟩)) IB.nd)
   refine AH (Lg 3 Vw rfl (ET.we (ev 0) (fun H v w Q ok r1 r2 acc=> ⟨_,_,r1.int_inv,r2.int_inv,.inr ⟨by omega,by omega⟩,acc _ H (.int (b^(i+1))) _ ⟨_,rfl,rfl⟩ (.refl ok) (by rw[mD];exact .int _)⟩)) IB.nd)
  ·rintro _ _ ⟨v4,rfl,rfl⟩
   refine AH (AM (ET.we (t:=.int (HH b m)) (ev 2 ?_) q))
   rw[Ay,dY]
   rfl
def Ff:Bu:=KN fun ts r=>∃(d:Int) (g:Nat),ts=[.int d,.int (g:Int)]∧(1≤d∧d<100)∧g≤100∧r=.int (grown d g)
theorem NN:FnScope ["d","g","powers"] ["d","g"] (AA Lu):=⟨rfl,rfl,rfl,by decide+kernel,rfl,by decide+kernel,by decide+kernel⟩
theorem RF{f:Addr}{fd:dM}(F:Fun K "grown_places" "grown_places" Lu f fd)(G:FnT P w K mg base "sum_of_powers" 1 ["base","many"] Ux):FnOk P w K mg base (CXe P w) 2 f fd ["d","g"] (Ce K Ff):=by
 refine AY F NN ?_ ?_
 ·rintro ts O Φ Ξ ⟨r,⟨d,g,rfl,_⟩,_⟩
  rfl
 ·rintro cdv A outer s H E O Ξ hr xf _ Φ ⟨_,⟨d,g,rfl,hd,hg,rfl⟩,q⟩
  refine AD (AS 2 (ET.we (Aa G hr xf (AE (CF (ev 0) AB) (AE (Bq (ev 1) AB ⟨by decide,by decide⟩) AC)) ⟨d-1,g/2,rfl,⟨by omega,by omega⟩,by omega,rfl⟩) ?_) NN.nd)
  refine AH (AM (ET.we (ET.cast (KM (CI (Cq (ev 1) AB (by decide)) AB) (fun _=>Au AB (Ds (ev 0) (ev 2) (.inl ⟨by omega,by omega⟩))) (fun _=>Ds AB (ev 2) (.inl ⟨by decide,by decide⟩))) ?_) q))
  unfold grown
  by_cases h:g%2=1
  ·rw[if_pos h,decide_eq_true (by omega:(g:Int)%2=1)];rfl
  ·rw[if_neg h,decide_eq_false (by omega:¬(g:Int)%2=1)];rfl
def RG:Bu:=KN fun ts r=>∃(d:Int) (g:Nat),ts=[.int d,.int (g:Int)]∧(2≤d∧d≤15)∧3≤g∧g≤16∧r=.int (grown d g)
theorem Ze:FnScope ["d","g"] ["d","g"] (AA Wp):=⟨rfl,rfl,rfl,by decide+kernel,rfl,by decide+kernel,by decide+kernel⟩
theorem FK{i a b:Int}(h0:a≤i)(h1:i≤b):DV (.int i) a b=true:=by
 show(decide (a≤i)&&decide (i≤b))=true
 simp
 omega
theorem XG{f:Addr}{fd:dM}(F:Fun K "least_by_growth" "least_by_growth" Wp f fd)(G:FnT P w K mg base "need_ties_and_ring" 4 ["d","g"] (UH CN))(G2:FnT P w K mg base "grown_places" 2 ["d","g"] Ff):FnOk P w K mg base (CXe P w) 5 f fd ["d","g"] (Ce K RG):=by
 refine AY F Ze ?_ ?_
 ·rintro ts O Φ Ξ ⟨r,⟨d,g,rfl,_⟩,_⟩
  rfl
 ·rintro cdv A outer s H E O Ξ hr xf _ Φ ⟨_,⟨d,g,rfl,hd,h3,hg,rfl⟩,q⟩
  have h1:DV (.int d) 2 15=true:=FK hd.1 hd.2
  have h2:DV (.int (g:Int)) 3 16=true:=FK (by omega) (by omega)
  refine AD (Ap (AO G hr xf (EA.wa (AE (ev 0) (AE (ev 1) AC)) ⟨_,_,rfl,rfl,rfl,fun _ _=>?_,fun h=>?_⟩)))
  ·exact AH (AM (ET.we (Aa G2 (hr.mono (by decide)) xf (AE (ev 0) (AE (ev 1) AC)) ⟨d,g,rfl,⟨by omega,by omega⟩,by omega,rfl⟩) q))
  ·rw[h1,h2] at h
   rcases h with h|h<;>cases h
end
open GrR
variable{n:Int}{ps:List (Int×Int)}{s:Nat}
theorem MB:∀u v,Gr.Adj ps u v→Gr.Adj ps v u:=fun _ _ h=>h.symm
theorem DD:∀u v,v∈BD ps u↔Gr.Adj ps u v:=fun _ _=>Hz
theorem Dh(hw:Gr.GY n ps){i:Nat}:AR ps i=BD ps (i:Int):=by
 unfold AR BD
 induction ps with
 |nil=>rfl
 |cons p ps ih=>
  have ih:=ih fun q hq=>hw q (df _ hq)
  have hp:=hw p (by simp)
  by_cases h1:p.1=(i:Int)
  ·rw[fq,if_pos h1,kO,if_pos (by simp[h1]),dF,←ih,show p.1+p.2- (i:Int)=p.2 by omega]
  ·by_cases h2:p.2=(i:Int)
   ·rw[fq,if_neg h1,if_pos h2,kO,if_pos (by simp[h2]),dF,←ih,show p.1+p.2- (i:Int)=p.1 by omega]
   ·rw[fq,if_neg h1,if_neg h2,kO,if_neg (by simp only[dh,fv,or_false,decide_eq_true_eq];exact fun z=>z.elim (fun z=>h1 z.symm) (fun z=>h2 z.symm))]
    exact ih
theorem UI(hw:Gr.GY n ps){u:Int}(h:u<0):BD ps u=[]:=by
 cases e:BD ps u with
 |nil=>rfl
 |cons v l=>
  have:Gr.Adj ps u v:=Hz.mp (by rw[e];simp)
  have:=(this.symm.inb hw).1
  omega
theorem Ob(hw:Gr.GY n ps)(hp:ps.Pairwise Dm):∀u,(BD ps u).Pairwise (· < ·):=fun u=>by
 by_cases h:u<0
 ·rw[UI hw h];exact iw
 ·obtain⟨i,rfl⟩:=dz (show 0≤u by omega)
  rw[←Dh hw]
  exact JN hw hp
theorem Ec(hw:Gr.GY n ps):∀u v,Gr.Adj ps u v→0≤v∧v<n:=fun u v h=> ⟨(h.inb hw).1,(h.inb hw).2.1⟩
theorem Kq(hw:Gr.GY n ps)(hp:ps.Pairwise Dm):∀u,(BD ps u).Nodup:=fun u=>dX.imp (fun h=>by omega) (Ob hw hp u)
def Ed(ps:List (Int×Int)):Option Int:=Kn (EZ (ps.map fun p=>Ea ps p))
theorem Kr(hw:Gr.GY n ps){p:Int×Int}(hp:p∈ps):Gr.Adj (FJ ps p)=Uq (Gr.Adj ps) p.1 p.2:=by
 funext u v
 have:=Eb hw (a:=p.1) (b:=p.2) (u:=u) (v:=v)
 rw[(Uw hw hp).1] at this
 exact propext this
theorem Ks{z:Int}:z∈EZ (ps.map fun p=>Ea ps p)↔∃p∈ps,∃d:Nat,Hr (Gr.Adj (FJ ps p)) [p.1] p.2=some d∧z=d+1:=by
 rw[UD]
 constructor
 ·rintro⟨i,d,h,rfl⟩
  rw[b8] at h
  cases e:ps[i]? with
  |none=>rw[e] at h;cases h
  |some p=>
   rw[e] at h
   have h:Ea ps p=some d:=by simpa using h
   unfold Ea at h
   cases e2:Hr (Gr.Adj (FJ ps p)) [p.1] p.2 with
   |none=>rw[e2] at h;cases h
   |some d'=>
    rw[e2] at h
    have:d'+1=d:=by simpa using h
    exact⟨p,dc e,d',e2,by omega⟩
 ·rintro⟨p,hp,d,h,rfl⟩
  obtain⟨i,hi,rfl⟩:=jb hp
  refine⟨i,d+1,?_,by omega⟩
  rw[b8,b9 hi]
  unfold Ea
  simp[h]
theorem JP(hw:Gr.GY n ps){r:List Int}(h:Ring (Gr.Adj ps) r):∃m,Ed ps=some m∧m≤r.length:=by
 obtain⟨a,b,hab,w⟩:=Wn h
 have key:∃z,z∈EZ (ps.map fun p=>Ea ps p)∧z≤r.length:=by
  have hl:=h.len
  have fin:∀p∈ps,W (Uq (Gr.Adj ps) p.1 p.2) [p.1] (r.length-1) p.2→∃z,z∈EZ (ps.map fun p=>Ea ps p)∧z≤r.length:=fun p hp w=>by
   obtain⟨d,hd,hD⟩:=w.least
   rw[←Kr hw hp] at hD
   exact⟨d+1,Ks.mpr ⟨p,hp,d,DU hD,rfl⟩,by omega⟩
  have sy:∀u v,Uq (Gr.Adj ps) a b u v→Uq (Gr.Adj ps) a b v u:=fun u v c=> ⟨c.1.symm,fun e=>c.2.2 ⟨e.2,e.1⟩,fun e=>c.2.1 ⟨e.2,e.1⟩⟩
  have sw:∀u v,Uq (Gr.Adj ps) a b u v→Uq (Gr.Adj ps) b a u v:=fun u v c=> ⟨c.1,c.2.2,c.2.1⟩
  rcases hab with hm|hm
  ·exact fin (a,b) hm (w.rev sy)
  ·exact fin (b,a) hm (w.mono sw)
 obtain⟨z,hz,hle⟩:=key
 have hm:=Fd (EZ (ps.map fun p=>Ea ps p))
 unfold Ed
 cases e:Kn (EZ (ps.map fun p=>Ea ps p)) with
 |none=>rw[e] at hm;have hm:EZ (ps.map fun p=>Ea ps p)=[]:=hm;rw[hm] at hz;cases hz
 |some m=>
  rw[e] at hm
  exact⟨m,rfl,gQ (hm.2 z hz) hle⟩
theorem RH(hw:Gr.GY n ps){m:Int}(h:Ed ps=some m):∃r,Ring (Gr.Adj ps) r∧(r.length:Int)=m:=by
 have hm:=Fd (EZ (ps.map fun p=>Ea ps p))
 unfold Ed at h
 rw[h] at hm
 obtain⟨p,hp,d,hd,rfl⟩:=Ks.mp hm.1
 rw[Kr hw hp] at hd
 obtain⟨r,h1,h2⟩:=Tf MB (fun u hu=> (hu.inb hw).2.2 rfl) (show Gr.Adj ps p.1 p.2 from .inl hp) (EM.mp hd)
 exact⟨r,h1,by rw[h2];rfl⟩
theorem RI(hw:Gr.GY n ps){r:List Int}(h:Ring (Gr.Adj ps) r):(r.length:Int)≤n∧3≤r.length:=by
 have:=Gr.Eu (n:=n) h.nd (EO (Ec hw) h)
 have:=h.len
 omega
theorem Ee(hw:Gr.GY n ps){m:Int}(h:Ed ps=some m):∃k:Nat,m=k∧3≤k∧(k:Int)≤n∧(∀M,Ring (Gr.Adj ps) M→k≤M.length)∧∃r,Ring (Gr.Adj ps) r∧r.length=k:=by
 obtain⟨r,h1,h2⟩:=RH hw h
 have hl:=RI hw h1
 refine⟨r.length,h2.symm,hl.2,hl.1,fun M hM=>?_,r,h1,rfl⟩
 obtain⟨m',e,hle⟩:=JP hw hM
 rw[h] at e
 cases e
 omega
end K19
namespace L2
open PySem PySem.Spec PySem.Calls PyProof.Rows
section
variable{X:Cx}
end
end L2
namespace L2.TL
open PySem PySem.Spec PySem.Calls PyProof.Rows
section
variable{Z:Zx}{ρ:List (Option T)}{O:AI}{e:Expr}{p pos:Pos}{ns:List Int}
end
end L2.TL
namespace K19
open PySem L2 L2.TL PySem.Spec PyProof.Rows GrR
theorem Zf{n:Int}{ps:List (Int×Int)}(wn:WebN n ps):Kn (EZ (ps.map fun p=>Gu (BP n ps) p.1 p.2))=Ed ps:=by
 unfold Ed
 congr 2
 refine List.map_congr_left fun p hp=>?_
 rw[RE wn (show Gr.Adj ps p.1 p.2 from .inl hp)]
 exact congrArg (Ea ps) (Uw wn.hw hp).1
theorem Zg:(Ag ["a","b"] [(("nears" :Str),1)]).Nodup:=by decide+kernel
section
variable{P:Program}{w:World}{K:a5}{mg:Str→Option Value}{base:Heap}
def Fg:Bu:=KN fun ts r=>∃n ps,ts=[Bm n ps]∧WebN n ps∧r=Ga (Ed ps)
theorem NO:FnScope ["web","nears"] ["web"] (AA JD):=⟨rfl,rfl,rfl,by decide+kernel,rfl,by decide+kernel,by decide+kernel⟩
theorem RJ{f:Addr}{fd:dM}(F:Fun K "shortest" "shortest" JD f fd)(G:FnT P w K mg base "nears_of" 1 ["web"] Fc)(Gr:FnT P w K mg base "ring_by_tie" 2 ["nears","a","b"] Uv)(Gl:FnT P w K mg base "least_told" 1 ["numbers"] Uu):FnOk P w K mg base (CXe P w) 3 f fd ["web"] (Ce K Fg):=by
 refine AY F NO ?_ ?_
 ·rintro ts O Φ Ξ ⟨r,⟨n,ps,rfl,_⟩,_⟩
  rfl
 ·rintro cdv A outer s H E O Ξ hr xf _ Φ ⟨_,⟨n,ps,rfl,wn,rfl⟩,q⟩
  have sb:=AQ
  have hl:=wn.hl
  refine AD (AS 1 (ET.we (Aa G (hr.mono (by decide)) xf (AE (ev 0) AC) ⟨n,ps,rfl,wn.n0,wn.n1,wn.hw,wn.hl,rfl⟩) ?_) NO.nd)
  rw[IA,←Zf wn] at*
  refine AH (AM (ET.we (Aa Gl (hr.mono (by decide)) xf (AE (CK ["a","b"] [("nears",1)] ps AF (fun p=>As (Gu (BP n ps) p.1 p.2)) rfl (Bl (AA JD) ["web","nears"] (by decide+kernel)) (GU (Ao (ev 0) AB)) (by omega) fun p hp=> ⟨[some (.int p.1),some (.int p.2),some (Gk (BP n ps))],fun X' Oe He is O'=>?_⟩) AC) ⟨ps.map fun p=>Gu (BP n ps) p.1 p.2,by rw[eJ];rfl,by rw[a9];omega,rfl⟩) q))
  obtain⟨cl,s',H',fp,rfl⟩:=is
  have hb:=wn.hw p hp
  exact⟨Cs 0 1 rfl Zg (by decide) (by decide),Aa Gr hr Bv (AE (ev 2) (AE (ev 0) (AE (ev 1) AC))) ⟨n,BP n ps,p.1,p.2,rfl,JO wn,RD wn,by omega,by omega,rfl⟩⟩
end
structure WebR(n:Int)(ps:List (Int×Int)):Prop where
 wn:WebN n ps
 hp:ps.Pairwise Dm
 n0:1≤n
 n1:n≤20
section
variable{P:Program}{w:World}{K:a5}{mg:Str→Option Value}{base:Heap}
end
end K19
namespace L2
open PySem PySem.Spec PyProof.Rows
section
variable{X:Cx}{pos:Pos}
end
end L2
namespace L2.TL
open PySem PySem.Spec PyProof.Rows
section
variable{Z:Zx}{ρ:List (Option T)}{O:AI}{Ψ:Es}
variable{k:Nat}{x y z x2:Str}{ta tb tc td:T}{p1 p2 p3 p4 pos:Pos}
end
theorem JQ{Z:Zx}{ρ:List (Option T)}{O:AI}{a:Expr}{t:T}{p1 pos:Pos}{j:Nat}(hr:Az t=false)(ha:ET Z ρ O a t):ET Z ρ O (.Compare a [.IsNot] [.Constant .none j p1] pos) (.bl (!Dn t)):=CD MR (Ad _) (fun Φ p H v w Q ok r1 r2 q=>by
 refine⟨r2.non_inv,?_⟩
 have e:decide (v=V.non)=Dn t:=by
  cases r1<;>first|rfl|cases hr
 rw[e]
 exact q _ H _ O p (.refl ok) (.bl _)) ha Bj
end L2.TL
namespace K19
open PySem L2 L2.TL PySem.Spec PyProof.Rows GrR
def Zh(cs:List Int):Option Int:=if cs.all (fun c=>decide (c=cs.headD 0))=true then some (cs.headD 0) else none
theorem Uy{cs:List Int}:ZX cs=Ga (Zh cs):=by
 unfold ZX Zh
 by_cases h:cs.all (fun c=>decide (c=cs.headD 0))=true
 ·rw[if_pos h,if_pos h];rfl
 ·rw[if_neg h,if_neg h];rfl
theorem Kt{x:Option Int}{d:Int}:gX (dT (Ga x)) (dT (.int d))=decide (x=some d):=by
 cases x with
 |none=>rfl
 |some i=>
  show(i==d)=_
  rw[jj]
  simp
theorem NP{x:Option Int}:Dk (Ga x)=true:=by cases x<;> (unfold Ga;rw[Dk])
theorem NQ{x:Option Int}:(dT (Ga x)).depth≤100:=by cases x<;> (show 0≤100;decide)
def Di(n:Int)(ps:List (Int×Int)):Option Int:=Zh (Bc n ps)
def Ol(ps:List (Int×Int))(g:Int):Bool:=match Ed ps with
 |none=>false
 |some m=>decide (m<g)
def SI(n:Int)(ps:List (Int×Int))(d g:Int):Bool:=decide (Di n ps=some d)&&!Ol ps g
def Fh(n:Int)(ps:List (Int×Int)):Option (Int×Int):=match Di n ps,Ed ps with
 |some d,some g=>if 2≤d∧grown d g.toNat=n then some (d,g) else none
 |_,_=>none
def JR:Option (Int×Int)→T
 |none=> .non
 |some p=>AF p
theorem IC{n:Int}{ps:List (Int×Int)}(wr:WebR n ps){d:Int}(h:Di n ps=some d):0≤d∧d≤200∧∀i:Nat,(i:Int)<n→((AR ps i).length:Int)=d:=by
 unfold Di Zh at h
 split at h
 ·rename_i ha
  have h:=eu.inj h
  rw[h] at ha
  have all:∀i:Nat,(i:Int)<n→((AR ps i).length:Int)=d:=fun i hi=>of_decide_eq_true (e6.mp ha _ (di.mpr ⟨i,dW.mpr (by omega),rfl⟩))
  have h0:=all 0 (by have:=wr.n0;omega)
  have:=DC (qs:=ps) (i:=0)
  have:=wr.wn.hl
  exact⟨by omega,by omega,all⟩
 ·cases h
theorem XH{n:Int}{ps:List (Int×Int)}(wr:WebR n ps){d g:Int}(h:Di n ps=some d)(hs:Ed ps=some g):2≤d:=by
 obtain⟨k,rfl,h3,hkn,_,r,hr,hrl⟩:=Ee wr.wn.hw hs
 have hall:=(IC wr h).2.2
 match r,hr,hrl with
 | [],hr,_=>exact absurd hr.len (by decide)
 | [_],hr,_=>exact absurd hr.len (by show¬3≤1;decide)
 | [_,_],hr,_=>exact absurd hr.len (by show¬3≤2;decide)
 |x::y::z::L,hr,_=>
  have hx:=EO (Ec wr.wn.hw) hr x (by simp)
  obtain⟨i,rfl⟩:=dz hx.1
  have e:=hall i hx.2
  have hne:(z::L)≠[]:=by simp
  have hl:(Int.ofNat i::y::z::L).getLast?=some (lst (z::L)):=by
   rw[eP,eP];exact Cy hne
  have m1:y∈AR ps i:=(Cd wr.wn.hw).mpr hr.ch.1
  have m2:lst (z::L)∈AR ps i:=(Cd wr.wn.hw).mpr (MB _ _ (hr.cl _ _ rfl hl))
  have ne:y≠lst (z::L):=fun w=>by
   have nd:=hr.nd
   rw[dE,dE] at nd
   exact nd.2.1 (w▸gj (Cy hne))
  have:2≤(AR ps i).length:=by
   match hh:AR ps i,m1,m2 with
   | [a],m1,m2=>exact absurd ((a8.mp m1).trans (a8.mp m2).symm) ne
   |_::_::_,_,_=>simp
  omega
section
variable{P:Program}{w:World}{K:a5}{mg:Str→Option Value}{base:Heap}{CN CE CG CR:Addr}
def RL:Bu:=KN fun ts r=>∃n ps g,ts=[Bm n ps,.int g]∧WebR n ps∧r=.bl (Ol ps g)
theorem Uz:FnScope ["web","g","size"] ["web","g"] (AA Wq):=⟨rfl,rfl,rfl,by decide+kernel,rfl,by decide+kernel,by decide+kernel⟩
theorem XI{f:Addr}{fd:dM}(F:Fun K "has_shorter_ring" "has_shorter_ring" Wq f fd)(G:FnT P w K mg base "shortest" 3 ["web"] Fg):FnOk P w K mg base (CXe P w) 4 f fd ["web","g"] (Ce K RL):=by
 refine AY F Uz ?_ ?_
 ·rintro ts O Φ Ξ ⟨r,⟨n,ps,g,rfl,_⟩,_⟩
  rfl
 ·rintro cdv A outer s H E O Ξ hr xf _ Φ ⟨_,⟨n,ps,g,rfl,wr,rfl⟩,q⟩
  refine AD (AS 2 (ET.we (Aa G hr xf (AE (ev 0) AC) ⟨n,ps,rfl,wr.wn,rfl⟩) ?_) Uz.nd)
  unfold Ol at q
  cases e:Ed ps with
  |none=>
   rw[e] at q
   exact AH (AM (ET.we (ET.cast (Et (x:=false) (y:=false) (JQ (t:=.non) rfl (ev 2)) (fun h=>by cases h)) rfl) q))
  |some m=>
   rw[e] at q
   exact AH (AM (ET.we (ET.cast (Et (x:=true) (y:=decide (m<g)) (JQ (t:=.int m) rfl (ev 2)) (fun _=>Ik (Px (ev 2) (ev 1)))) (by simp)) q))
def RM:Bu:=KN fun ts r=>∃n ps d g,ts=[Bm n ps,.int d,.int g]∧WebR n ps∧r=.bl (SI n ps d g)
theorem XJ:FnScope ["web","d","g"] ["web","d","g"] (AA NF):=⟨rfl,rfl,rfl,by decide+kernel,rfl,by decide+kernel,by decide+kernel⟩
theorem MC{Z:Zx}{ρ:List (Option T)}{O:AI}{e:Expr}{n:Int}{ps:List (Int×Int)}{p pos:Pos}(G:FnT Z.X.prog Z.X.w Z.X.K Z.X.mg Z.X.base "even_by" 2 ["web"] FB)(hr:Room 2 Z.X.A)(xf:XFly Z.X Z.W)(wr:WebR n ps)(h:ET Z ρ O e (Bm n ps))(hn:BB e=true:=by rfl)(hg:Gl Z.X "even_by":=by rfl):ET Z ρ O (.Call (.Name "even_by" p) [e] [] pos) (Ga (Di n ps)):=
 ET.cast (Aa G hr xf (AE h AC hn) ⟨n,ps,rfl,wr.wn,wr.n0,rfl⟩ hg (he:=BU hn)) (Uy)
theorem UJ{f:Addr}{fd:dM}(F:Fun K "does_fit" "does_fit" NF f fd)(Ge:FnT P w K mg base "even_by" 2 ["web"] FB)(Gh:FnT P w K mg base "has_shorter_ring" 4 ["web","g"] RL):FnOk P w K mg base (CXe P w) 5 f fd ["web","d","g"] (Ce K RM):=by
 refine AY F XJ ?_ ?_
 ·rintro ts O Φ Ξ ⟨r,⟨n,ps,d,g,rfl,_⟩,_⟩
  rfl
 ·rintro cdv A outer s H E O Ξ hr xf _ Φ ⟨_,⟨n,ps,d,g,rfl,wr,rfl⟩,q⟩
  have hu:(A.deeper (iN "does_fit" (AA NF) s.heap.objs.size f cdv)).units+101<cLine:=by have:=hr.un;omega
  exact AH (AM (ET.we (Et (x:=decide (Di n ps=some d)) (y:=!Ol ps g) (ET.cast (CD (QN hu) (Ad _) (QO (u:=.int d) NP (by rw[Dk]) NQ) (MC Ge (hr.mono (by decide)) xf wr (ev 0)) (ev 1)) (by rw[Kt])) (fun _=>Ik (WO (Aa Gh (hr.mono (by decide)) xf (AE (ev 0) (AE (ev 2) AC)) ⟨n,ps,g,rfl,wr,rfl⟩)))) q))
def bw(t u:T)(Bad:Prop)(Q:Int→Nat→Prop):Prop:=Az t=false∧Az u=false∧(DV t 2 15=false∨DV u 3 16=false→Bad)∧∀(d:Int) (g:Nat),t=.int d→u=.int (g:Int)→2≤d→d≤15→3≤g→g≤16→Q d g
def MD(CN:Addr):Bu:=fun ts O Φ Ξ=>∃n ps t u,ts=[Bm n ps,t,u]∧WebR n ps∧bw t u (Ξ (.ref CN) O) fun d g=>Φ (.bl (SI n ps d g)) O
theorem NR{t:T}{a b:Int}(h:DV t a b=true):∃i,t=.int i∧a≤i∧i≤b:=by
 cases t<;>first| (exact⟨_,rfl,by simpa[DV] using h⟩)|cases h
theorem XM:FnScope ["web","d","g"] ["web","d","g"] (AA Qg):=⟨rfl,rfl,rfl,by decide+kernel,rfl,by decide+kernel,by decide+kernel⟩
theorem UK{f:Addr}{fd:dM}(F:Fun K "fits" "fits" Qg f fd)(Gn:FnT P w K mg base "need_ties_and_ring" 4 ["d","g"] (UH CN))(G:FnT P w K mg base "does_fit" 5 ["web","d","g"] RM):FnOk P w K mg base (CXe P w) 6 f fd ["web","d","g"] (Ce K (MD CN)):=by
 refine AY F XM ?_ ?_
 ·rintro ts O Φ Ξ ⟨n,ps,t,u,rfl,_⟩
  rfl
 ·rintro cdv A outer s H E O Ξ hr xf _ Φ ⟨n,ps,t,u,rfl,wr,ht,hu,q1,q2⟩
  refine AD (Ap (AO Gn (hr.mono (by decide)) xf (EA.wa (AE (ev 1) (AE (ev 2) AC)) ⟨t,u,rfl,ht,hu,fun h1 h2=>?_,q1⟩)))
  obtain⟨d,rfl,d1,d2⟩:=NR h1
  obtain⟨g,rfl,g1,g2⟩:=NR h2
  obtain⟨k,rfl⟩:=dz (show 0≤g by omega)
  exact AH (AM (ET.we (Aa G hr xf (AE (ev 0) (AE (ev 1) (AE (ev 2) AC))) ⟨n,ps,d,k,rfl,wr,rfl⟩) (q2 d k rfl rfl d1 d2 (by omega) (by omega))))
structure Sur(n:Int)(ps:List (Int×Int))(d:Int)(g:Nat)(Ne Nr Ok:Prop):Prop where
 ne:Di n ps≠some d→Ne
 nr:Di n ps=some d→Ol ps g=true→Nr
 ok:Di n ps=some d→Ol ps g=false→Ok
def RN(CN CE CG:Addr):Bu:=fun ts O Φ Ξ=>∃n ps t u,ts=[Bm n ps,t,u]∧WebR n ps∧bw t u (Ξ (.ref CN) O) fun d g=>Sur n ps d g (Ξ (.ref CE) O) (Ξ (.ref CG) O) (Φ (.int (n-grown d g)) O)
theorem Zi:FnScope ["web","d","g"] ["web","d","g"] (AA NG):=⟨rfl,rfl,rfl,by decide+kernel,rfl,by decide+kernel,by decide+kernel⟩
theorem XN{f:Addr}{fd:dM}(F:Fun K "surplus" "surplus" NG f fd)(mE:mg "NotEven" =some (.ref CE))(xE:fQ K CE Ft "ValueError.__new__" =true)(mG:mg "NoRing" =some (.ref CG))(xG:fQ K CG Ft "ValueError.__new__" =true)(Gn:FnT P w K mg base "need_ties_and_ring" 4 ["d","g"] (UH CN))(Ge:FnT P w K mg base "even_by" 2 ["web"] FB)(Gh:FnT P w K mg base "has_shorter_ring" 4 ["web","g"] RL)(Gg:FnT P w K mg base "grown_places" 2 ["d","g"] Ff):FnOk P w K mg base (CXe P w) 6 f fd ["web","d","g"] (Ce K (RN CN CE CG)):=by
 refine FY F Zi ?_ ?_
 ·rintro ts O Φ Ξ ⟨n,ps,t,u,rfl,_⟩
  rfl
 ·rintro cdv A outer s H E O Ξ hr xo _ Φ ⟨n,ps,t,u,rfl,wr,ht,hu',q1,q2⟩
  have xf:=xo.f
  have hu:(A.deeper (iN "surplus" (AA NG) s.heap.objs.size f cdv)).units+101<cLine:=by have:=hr.un;omega
  refine AD (Ap (AO Gn (hr.mono (by decide)) xf (EA.wa (AE (ev 1) (AE (ev 2) AC)) ⟨t,u,rfl,ht,hu',fun h1 h2=>?_,q1⟩)))
  obtain⟨d,rfl,d1,d2⟩:=NR h1
  obtain⟨g,rfl,g1,g2⟩:=NR h2
  obtain⟨k,rfl⟩:=dz (show 0≤g by omega)
  have q:=q2 d k rfl rfl d1 d2 (by omega) (by omega)
  refine AD (Af (k:=!decide (Di n ps=some d)) (EB.cast (CH (Lm hu) (Ad _) (QO (u:=.int d) NP (by rw[Dk]) NQ) (MC Ge (hr.mono (by decide)) xf wr (ev 0)) (ev 1)) (by rw[Kt])) (fun h=>?_) (fun h=>Ah ?_))
  ·exact AH (BV xo rfl mE xE (q.ne (by simpa using h)))
  ·have he:Di n ps=some d:=by simpa using h
   refine AD (Af (k:=Ol ps (k:Int)) (Br (Aa Gh (hr.mono (by decide)) xf (AE (ev 0) (AE (ev 2) AC)) ⟨n,ps,k,rfl,wr,rfl⟩)) (fun h=>?_) (fun h=>Ah ?_))
   ·exact AH (BV xo rfl mG xG (q.nr he h))
   ·exact AH (AM (ET.we (CF (Ao (t:=.int n) (ev 0) AB) (Aa Gg (hr.mono (by decide)) xf (AE (ev 1) (AE (ev 2) AC)) ⟨d,k,rfl,by omega,by omega,rfl⟩)) (q.ok he h)))
def NS:Bu:=KN fun ts r=>∃n ps,ts=[Bm n ps]∧WebR n ps∧r=JR (Fh n ps)
theorem RO:FnScope ["web","d","g"] ["web"] (AA Wr):=⟨rfl,rfl,rfl,by decide+kernel,rfl,by decide+kernel,by decide+kernel⟩
theorem XO{f:Addr}{fd:dM}(F:Fun K "tight_by" "tight_by" Wr f fd)(Tx:Txt mg)(Ge:FnT P w K mg base "even_by" 2 ["web"] FB)(Gs:FnT P w K mg base "shortest" 3 ["web"] Fg)(Gg:FnT P w K mg base "grown_places" 2 ["d","g"] Ff):FnOk P w K mg base (CXe P w) 4 f fd ["web"] (Ce K NS):=by
 refine AY F RO ?_ ?_
 ·rintro ts O Φ Ξ ⟨r,⟨n,ps,rfl,_⟩,_⟩
  rfl
 ·rintro cdv A outer s H E O Ξ hr xf _ Φ ⟨_,⟨n,ps,rfl,wr,rfl⟩,q⟩
  have n1:=wr.n1
  refine AD (AS 1 (ET.we (MC Ge (hr.mono (by decide)) xf wr (ev 0)) ?_) RO.nd)
  refine AD (AS 2 (ET.we (Aa Gs hr xf (AE (ev 0) AC) ⟨n,ps,rfl,wr.wn,rfl⟩) ?_) RO.nd)
  unfold Fh at q
  cases e1:Di n ps with
  |none=>
   rw[e1] at q
   exact AD (Af (k:=true) (EW.eb (EW.cast (BR (x:=true) (y:=true) (EB.cast (CM (t:=.non) rfl (ev 1)) rfl) (fun h=>by cases h)) rfl)) (fun _=>AH (AM (ET.we Bj q))) (fun h=>by cases h))
  |some d=>
   cases e2:Ed ps with
   |none=>
    rw[e1,e2] at q
    exact AD (Af (k:=true) (EW.eb (EW.cast (BR (x:=false) (y:=true) (EB.cast (CM (t:=.int d) rfl (ev 1)) rfl) (fun _=>EW.cast (BR (x:=true) (y:=true) (EB.cast (CM (t:=.non) rfl (ev 2)) rfl) (fun h=>by cases h)) rfl)) rfl)) (fun _=>AH (AM (ET.we Bj q))) (fun h=>by cases h))
   |some g=>
    have hd:=(IC wr e1).1
    have h2:=XH wr e1 e2
    have hd2:=(IC wr e1).2.2 0 (by have:=wr.n0;omega)
    have hd3:d<100:=by
     have:=Gr.Eu (n:=n) (L:=AR ps 0) (by rw[Dh wr.wn.hw];exact Kq wr.wn.hw wr.hp _) (fun z hz=>Ec wr.wn.hw _ _ ((Cd wr.wn.hw).mp hz))
     omega
    obtain⟨k,rfl,h3,hkn,_⟩:=Ee wr.wn.hw e2
    rw[e1,e2] at q
    have q:Φ (JR (if 2≤d∧grown d (k:Int).toNat=n then some (d,(k:Int)) else none)) O:=q
    rw[dY] at q
    refine AD (Af (k:=!decide (grown d k=n)) (EW.eb (EW.cast (BR (x:=false) (EB.cast (CM (t:=.int d) rfl (ev 1)) rfl) (fun _=>BR (x:=false) (EB.cast (CM (t:=.int (k:Int)) rfl (ev 2)) rfl) (fun _=>BR (EB.cast (Hj (ev 1) (EG Tx.iLT)) (decide_eq_false (show¬d<2 by omega))) fun _=>Cr (Ld (Aa Gg (hr.mono (by decide)) xf (AE (ev 1) (AE (ev 2) AC)) ⟨d,k,rfl,by omega,by omega,rfl⟩) (Ao (t:=.int n) (ev 0) AB))))) rfl)) (fun h=>?_) (fun h=>Ah ?_))
    ·rw[if_neg (fun z=>by rw[decide_eq_true z.2] at h;cases h)] at q
     exact AH (AM (ET.we Bj q))
    ·rw[if_pos ⟨h2,by simpa using h⟩] at q
     exact AH (AM (ET.we (BM (AE (ev 1) (AE (ev 2) AC))) q))
def NT:Bu:=KN fun ts r=>∃n ps,ts=[Bm n ps]∧WebR n ps∧r=.bl (Fh n ps).isSome
theorem UL:FnScope ["web"] ["web"] (AA Lv):=⟨rfl,rfl,rfl,by decide+kernel,rfl,by decide+kernel,by decide+kernel⟩
theorem RQ{f:Addr}{fd:dM}(F:Fun K "tight" "tight" Lv f fd)(G:FnT P w K mg base "tight_by" 4 ["web"] NS):FnOk P w K mg base (CXe P w) 5 f fd ["web"] (Ce K NT):=by
 refine AY F UL ?_ ?_
 ·rintro ts O Φ Ξ ⟨r,⟨n,ps,rfl,_⟩,_⟩
  rfl
 ·rintro cdv A outer s H E O Ξ hr xf _ Φ ⟨_,⟨n,ps,rfl,wr,rfl⟩,q⟩
  refine AH (AM (ET.we (ET.cast (JQ (t:=JR (Fh n ps)) (by cases Fh n ps<;>rfl) (Aa G hr xf (AE (ev 0) AC) ⟨n,ps,rfl,wr,rfl⟩)) ?_) q))
  cases Fh n ps<;>rfl
end
def rg(n:Int):List Int:=(dv n.toNat).map fun(i:Nat)=> (i:Int)
section
variable{P:Program}{w:World}{K:a5}{mg:Str→Option Value}{base:Heap}{CP:Addr}
theorem UM:(Ag ["a","b"] [(("names" :Str),1)]).Nodup:=by decide+kernel
theorem Zj:(Ag ["name"] [(("web" :Str),0)]).Nodup:=by decide+kernel
def Fj(n:Int)(t:T)(ns:List Int):Prop:=t=.tup (ns.map T.int)∧ns.Perm (rg n)
structure Askq(n:Int)(ps:List (Int×Int))(t:T):Prop where
 n0:1≤n
 n1:n≤16
 hp:∀p∈ps,AL n p
 hl:ps.length≤300
 pl:SH t=true
 sz:∀us,t=.tup us→us.length≤60
def bK(n:Int)(ps:List (Int×Int))(t:T)(O:AI)(Φ:BH)(X:Prop):Prop:=
 (∀ns,Fj n t ns→∀qs:List (Int×Int),qs.Pairwise Dm→(∀q,q∈qs↔q∈ps.map (nm ns))→qs.length≤ps.length→Φ (.tup [.int n,.tup (qs.map AF)]) O)∧((∀ns,¬Fj n t ns)→X)
def ID(CP:Addr):Bu:=fun ts O Φ Ξ=>∃(n:Int) (ps:List (Int×Int)) (t:T),ts=[.tup [.int n,.tup (ps.map AF)],t]∧Askq n ps t∧bK n ps t O Φ (Ξ (.ref CP) O)
theorem Oc:FnScope ["web","names"] ["web","names"] (AA Cb):=⟨rfl,rfl,rfl,by decide+kernel,rfl,by decide+kernel,by decide+kernel⟩
theorem Ku{a b:Int}:∀{us:List T},(us.map fun t=>DV t a b).all id=true→∃ns:List Int,us=ns.map T.int∧∀z∈ns,a≤z∧z≤b
 | [],_=> ⟨[],rfl,fun _ h=>by cases h⟩
 |t::us,h=>by
  have h:(DV t a b&&(us.map fun t=>DV t a b).all id)=true:=h
  rw[dS] at h
  obtain⟨i,rfl⟩:=NH h.1
  obtain⟨ns,rfl,h2⟩:=Ku h.2
  have h1:(decide (a≤i)&&decide (i≤b))=true:=h.1
  simp at h1
  exact⟨i::ns,rfl,fun z hz=>by
   rcases dh.mp hz with rfl|hz
   ·exact h1
   ·exact h2 z hz⟩
theorem Gv:∀{ns ms:List Int},ns.map T.int=ms.map T.int→ns=ms
 | [],[],_=>rfl
 | [],_::_,e=>by cases e
 |_::_,[],e=>by cases e
 |p::ps,q::qs,e=>by
  rw[dF,dF] at e
  injection e with e1 e2
  injection e1 with e1
  rw[e1,Gv e2]
theorem RS{n z:Int}(h:z∈rg n):0≤z∧z<n:=by
 obtain⟨i,hi,rfl⟩:=di.mp h
 have:=dW.mp hi
 omega
theorem RU{n:Int}:(rg n).length=n.toNat:=by simp[rg]
theorem UN{n:Int}:(rg n).Pairwise (·≤·):=by
 unfold rg
 rw[eT]
 exact gw.imp fun h=>by omega
theorem ME{f:Addr}{fd:dM}(F:Fun K "renamed" "renamed" Cb f fd)(Tx:Txt mg)(mP:mg "NoPlace" =some (.ref CP))(xP:fQ K CP Ft "ValueError.__new__" =true)(Gp:FnT P w K mg base "is_place" 2 ["web","thing"] JH)(Gt:FnT P w K mg base "ties_of" 2 ["pairs"] Km):FnOk P w K mg base (CXe P w) 3 f fd ["web","names"] (Ce K (ID CP)):=by
 refine FY F Oc ?_ ?_
 ·rintro ts O Φ Ξ ⟨n,ps,t,rfl,_⟩
  rfl
 ·rintro cdv A outer s H E O Ξ hr xo _ Φ ⟨n,ps,t,rfl,ask,told⟩
  have xf:=xo.f
  have n0:=ask.n0
  have n1:=ask.n1
  have hu:(A.deeper (iN "renamed" (AA Cb) s.heap.objs.size f cdv)).units<cLine:=by have:=hr.un;omega
  cases hT:Um t with
  |false=>
   have no:∀ns,¬Fj n t ns:=fun ns z=>by rw[z.1] at hT;cases hT
   refine AD (Af (k:=true) (EW.eb (EW.cast (BR (y:=true) (BS (Iq Tx.nIsi Tx.nTuple Io Mq (ev 1) (Mv ask.pl))) fun h=>?_) (by rw[hT];rfl))) (fun h=>AH (BV xo rfl mP xP (told.2 no))) (fun h=>by cases h))
   rw[hT] at h;cases h
  |true=>
   obtain⟨us,rfl⟩:∃us,t=.tup us:=by cases t<;>first|exact⟨_,rfl⟩|cases hT
   have hl:=ask.sz us rfl
   have sb:=AQ
   have pl:=Mw.mp ask.pl
   refine AD (Af (EW.eb (BR (BS (Iq Tx.nIsi Tx.nTuple Io Mq (ev 1) rfl)) fun _=>Cr (BS (Br (Wf (bs:=us.map fun t=>DV t 0 (n-1)) Tx.nAll rfl ?_))))) (fun h=>AH (BV xo rfl mP xP (told.2 fun ns z=>?_))) (fun h=>Ah ?_))
   ·rw[eJ]
    refine CK ["name"] [("web",0)] us id _ rfl (Bl (AA Cb) ["web","names"] (by decide+kernel)) (by rw[mR];exact GU (ev 1)) (by omega) fun x hx=> ⟨[some x,some (.tup [.int n,.tup (ps.map AF)])],fun X' Oe He is O'=>?_⟩
    obtain⟨cl,s',H',fp,rfl⟩:=is
    exact⟨AU 0 Zj (by decide),Aa Gp hr Bv (AE (ev 1) (AE (ev 0) AC)) ⟨n,_,x,rfl,Mv (pl x hx),rfl⟩⟩
   ·obtain⟨e,pm⟩:=z
    injection e with e
    subst e
    have:((ns.map T.int).map fun t=>DV t 0 (n-1)).all id=true:=by
     rw[eJ,List.all_map,e6]
     intro z hz
     have:=RS (pm.mem_iff.mp hz)
     show(decide (0≤z)&&decide (z≤n-1))=true
     simp
     omega
    rw[this] at h;cases h
   ·have h:(us.map fun t=>DV t 0 (n-1)).all id=true:=by
     cases z:(us.map fun t=>DV t 0 (n-1)).all id with
     |true=>rfl
     |false=>rw[z] at h;cases h
    obtain⟨ns,rfl,hz⟩:=Ku h
    have hl:ns.length≤60:=by simpa using hl
    refine AD (Mo (Er (Wi hu) (Ad _) (Ll Tx.nSorted (ev 1) (by omega) fun ms pm pw=>ET.we (QM Tx.nList Tx.nRange rfl (Ao (ev 0) AB) (by omega) (by omega)) (ZD _ ⟨_,rfl,?_⟩))))
    by_cases hm:ms=rg n
    ·have e:(!decide (ms=rg n))=false:=by rw[decide_eq_true hm];rfl
     show if(!decide (ms=rg n))=true then _ else _
     rw[e,if_neg b6]
     have isn:Fj n (.tup (ns.map T.int)) ns:=⟨rfl,hm▸pm.symm⟩
     have hlen:(ns.length:Int)=n:=by
      have:=isn.2.length_eq
      rw[RU] at this
      omega
     refine Ah (AH (AM (Ba (BQ (ET.we (Ao (ev 0) AB) (BQ (AO Gt hr xf (EA.wa (AE (CK ["a","b"] [("names",1)] ps AF (fun p=>AF (Cz ns p.1,Cz ns p.2)) rfl (Bl (AA Cb) ["web","names"] (by decide+kernel)) (GU (Ao (ev 0) AB)) (by have:=ask.hl;omega) fun x hx=> ⟨[some (.int x.1),some (.int x.2),some (.tup (ns.map T.int))],fun X' Oe He is O'=>?_⟩) AC) ⟨ps.map fun p=> (Cz ns p.1,Cz ns p.2),?_,by simpa using ask.hl,?_,fun qs q1 q2 q3=>Ae ⟨by show 2≤sizeLine;decide,told.1 ns isn qs q1 (fun z=>?_) (by simpa using q3)⟩⟩))))))))
     ·obtain⟨cl,s',H',fp,rfl⟩:=is
      have:=ask.hp x hx
      unfold AL at this
      exact⟨Cs 0 1 rfl UM (by decide) (by decide),BM (AE (Ao (ev 2) (ev 0) (EV (by omega) (by omega))) (AE (Ao (ev 2) (ev 1) (EV (by omega) (by omega))) AC))⟩
     ·rw[eJ];rfl
     ·intro z hz'
      obtain⟨p,hp,rfl⟩:=di.mp hz'
      have:=ask.hp p hp
      unfold AL at this
      have a1:=hz _ (Df (ns:=ns) (i:=p.1) (by omega) (by omega))
      have a2:=hz _ (Df (ns:=ns) (i:=p.2) (by omega) (by omega))
      show(0≤Cz ns p.1∧Cz ns p.1<65536)∧0≤Cz ns p.2∧Cz ns p.2<65536
      omega
     ·rw[q2 z,eJ];rfl
    ·have e:(!decide (ms=rg n))=true:=by rw[decide_eq_false hm];rfl
     show if(!decide (ms=rg n))=true then _ else _
     rw[e,if_pos rfl]
     refine AH (BV xo rfl mP xP (told.2 fun ns' z=>?_))
     obtain⟨e,pm'⟩:=z
     injection e with e
     cases Gv e
     exact hm ((PySem.W.eq_sortI pm pw).trans (PySem.W.eq_sortI pm'.symm UN).symm)
end
section
variable{P:Program}{w:World}{K:a5}{mg:Str→Option Value}{base:Heap}{f:Addr}{cdv:Value}{A:dy}{outer:List Env}{s:a7}{H:Hp}{E:XK}{O0 O2:AI}{Ξ:Value→AI→Prop}{p:Addr}{most way n:Int}{es:List (Int×Int)}{v5:Option T}{Φ:BH}{N:HE}
theorem cu(hr:Room 2 (zS P w K mg base f cdv A outer s H E O0 Ξ).X.A)(xf:XFly (zS P w K mg base f cdv A outer s H E O0 Ξ).X (zS P w K mg base f cdv A outer s H E O0 Ξ).W)(Tx:Txt mg)(G:FnT P w K mg base "_law_draw" 2 ["_law_pen","_law_many"] Aq)(po2:PO O0 p O2)(w0:0≤way)(n0:1≤n)(n1:n≤16)(he:∀q∈es,AL n q)(hz:es.length≤256)
  (q:∀(ps:List (Int×Int)) (O':AI),(∀q∈ps,AL n q)→ps.length≤256→PO O0 p O'→Φ (.tup [.int n,.tup (ps.map AF)]) O') (w3:way<3):HS (zS P w K mg base f cdv A outer s H E O0 Ξ) (Dv p most way n es v5) O2 (ZS (Ez 4)) {nx:=N,rt:=Φ}:=by
 have sb:=AQ
 refine⟨?_⟩
 obtain⟨mm,em,mm0,mm1⟩:=ZR w0 w3
 refine AH (AM (Ba (BQ (ET.we (ev 3) (BQ (BX Tx.nTuple (Hl (nc:=["_law_pair"]) (cap:=[("_law_pen",0),("_law_way",2)]) rfl (Bl (AA Bb) DA (by decide+kernel)) (EI.wi (BG (ev 4)) ?_))))))))
 refine⟨fun i acc O'=>∃qs:List (Int×Int),acc=qs.map AF∧(∀z∈qs,AL n z)∧qs.length≤i∧i≤256∧PO O0 p O',⟨[],rfl,by simp,by simp,by omega,po2⟩,?_,?_⟩
 ·rintro i t acc O' c e ⟨qs,rfl,hq,hl,_,po⟩ hc
  rw[b8] at e
  cases ee:es[i]? with
  |none=>rw[ee] at e;cases e
  |some z=>
   rw[ee] at e
   cases e
   have hi:=(dj.mp ee).1
   refine⟨[some (AF z),some (.raw (.ref p)),some (.int way)],fun X' Oe He is=>?_⟩
   obtain⟨cl,s',H',fp,rfl⟩:=is
   refine⟨AU 0 ZN (by decide),FV (Er Ji (Ad _) (BZ G hr Bv po hc (ev 1) (Il (DQ (AE AB (AE AB (AE AB AC))) (by show 3≤sizeLine;decide)) (ev 2) em) mm0 mm1 fun r O3 r0 r1 po3 hc3=>ET.we AB (GQ _ ⟨_,rfl,?_⟩)))⟩
   refine SZ (fun h=>?_) (fun h=>?_)
   ·rintro X' Oe He ⟨cl,s',H',fp,rfl⟩
    refine ET.we (ev 0) ⟨O3,rfl,hc3,by rw[a9];omega,qs++[z],by rw[eG];rfl,fun y hy=>?_,by simp;omega,by omega,po3⟩
    rcases dw.mp hy with hy|hy
    ·exact hq y hy
    ·rw[a8.mp hy];exact he z (dc ee)
   ·exact⟨O3,rfl,hc3,qs,rfl,hq,by omega,by omega,po3⟩
 ·rintro acc O' ⟨qs,rfl,hq,hl,_,po⟩
  rw[a9] at hl
  exact⟨_,rfl,Ae ⟨by show 2≤sizeLine;decide,q qs O' hq (by omega) po⟩⟩
end
section
variable{P:Program}{w:World}{K:a5}{mg:Str→Option Value}{base:Heap}{f:Addr}{cdv:Value}{A:dy}{outer:List Env}{s:a7}{H:Hp}{E:XK}{O0 O2:AI}{Ξ:Value→AI→Prop}{p:Addr}{most way n:Int}{es:List (Int×Int)}{v5:Option T}{Φ:BH}{N:HE}
theorem cw(hr:Room 2 (zS P w K mg base f cdv A outer s H E O0 Ξ).X.A)(xf:XFly (zS P w K mg base f cdv A outer s H E O0 Ξ).X (zS P w K mg base f cdv A outer s H E O0 Ξ).W)(Tx:Txt mg)(G:FnT P w K mg base "_law_draw" 2 ["_law_pen","_law_many"] Aq)(po2:PO O0 p O2)(w0:0≤way)(n0:1≤n)(n1:n≤16)(he:∀q∈es,AL n q)(hz:es.length≤256)
  (q:∀(ps:List (Int×Int)) (O':AI),(∀q∈ps,AL n q)→ps.length≤256→PO O0 p O'→Φ (.tup [.int n,.tup (ps.map AF)]) O') (n2:2<n) (Gt:FnT P w K mg base "_law_turned" 2 ["_law_many","_law_steps"] Cc):HS (zS P w K mg base f cdv A outer s H E O0 Ξ) (Dv p most way n es v5) O2 (ZS (Ez 5)) {nx:=N,rt:=Φ}:=by
 have sb:=AQ
 refine⟨?_⟩
 refine AH (AM (AO Gt hr xf (BQ (ET.we (ev 3) (BQ (Hl (nc:=["_law_step"]) (cap:=[("_law_pen",0)]) rfl (Bl (AA Bb) DA (by decide+kernel)) (EI.wi (Dd Tx.nRange AB (Au (Bq (ev 3) AB ⟨by decide,by decide⟩) AB) ⟨by decide,by decide,by omega,by omega⟩) ?_)))))))
 refine⟨fun i acc O'=>∃ss:List Int,acc=ss.map T.int∧(∀z∈ss,1≤z∧z<n)∧ss.length≤i∧i≤16∧PO O0 p O',⟨[],rfl,by simp,by simp,by omega,po2⟩,?_,?_⟩
 ·rintro i t acc O' c e ⟨qs,rfl,hq,hl,_,po⟩ hc
  obtain⟨hi,rfl⟩:=BN e
  refine⟨[some (.int (1+i)),some (.raw (.ref p))],fun X' Oe He is=>?_⟩
  obtain⟨cl,s',H',fp,rfl⟩:=is
  refine⟨AU 0 ZO (by decide),FV (Er Ji (Ad _) (BZ G hr Bv po hc (ev 1) AB (by decide) (by decide) fun r O3 r0 r1 po3 hc3=>ET.we AB (GQ _ ⟨_,rfl,?_⟩)))⟩
  refine SZ (fun h=>?_) (fun h=>?_)
  ·rintro X' Oe He ⟨cl,s',H',fp,rfl⟩
   refine ET.we (ev 0) ⟨O3,rfl,hc3,by rw[a9];omega,qs++[1+(i:Int)],by rw[eG];rfl,fun y hy=>?_,by simp;omega,by omega,po3⟩
   rcases dw.mp hy with hy|hy
   ·exact hq y hy
   ·rw[a8.mp hy];omega
  ·exact⟨O3,rfl,hc3,qs,rfl,hq,by omega,by omega,po3⟩
 ·rintro acc O' ⟨ss,rfl,hq,hl,hl2,po⟩
  exact Ae ⟨n,ss,rfl,by omega,by omega,by omega,hq,fun qs _ h2 h3 _=>q qs O' h2 h3 po⟩
end
section
variable{P:Program}{w:World}{K:a5}{mg:Str→Option Value}{base:Heap}{f:Addr}{cdv:Value}{A:dy}{outer:List Env}{s:a7}{H:Hp}{E:XK}{O0 O2:AI}{Ξ:Value→AI→Prop}{p:Addr}{most way n:Int}{es:List (Int×Int)}{v5:Option T}{Φ:BH}{N:HE}
theorem dA(hr:Room 2 (zS P w K mg base f cdv A outer s H E O0 Ξ).X.A)(xf:XFly (zS P w K mg base f cdv A outer s H E O0 Ξ).X (zS P w K mg base f cdv A outer s H E O0 Ξ).W)(Tx:Txt mg)(G:FnT P w K mg base "_law_draw" 2 ["_law_pen","_law_many"] Aq)(po2:PO O0 p O2)(w0:0≤way)(n0:1≤n)(n1:n≤16)(he:∀q∈es,AL n q)(hz:es.length≤256)
  (q:∀(ps:List (Int×Int)) (O':AI),(∀q∈ps,AL n q)→ps.length≤256→PO O0 p O'→Φ (.tup [.int n,.tup (ps.map AF)]) O')  :HS (zS P w K mg base f cdv A outer s H E O0 Ξ) (Dv p most way n es v5) O2 (ZS (Ez 6)) {nx:=N,rt:=Φ}:=by
 have sb:=AQ
 refine⟨?_⟩
 refine AD (AS 6 (FI Eh (ET.we AB (Fb G hr xf po2 (ev 0) (ev 3) (by omega) (by omega) fun side O3 u0 u1 po3=>GO _ ?_))) Bx.nd)
 refine AH (AM (Ba (BQ (ET.we (ev 3) (BQ (ET.we (EK Tx.nTuple (Li ["_law_one","_law_other"] [("_law_side",6)] es AF AF (fun z=>!(decide (z.1<1+side)==decide (z.2<1+side))) rfl (Bl (AA Bb) DA (by decide+kernel)) (BG (ev 4)) (by omega) fun x hx=> ⟨[some (.int x.1),some (.int x.2),some (.int (1+side))],fun X' Oe He is O'=>?_⟩)) (Ae ⟨by show 2≤sizeLine;decide,?_⟩)))))))
 ·obtain⟨cl,s',H',fp,rfl⟩:=is
  exact⟨Cs 0 1 rfl ZP (by decide) (by decide),Pz (Px (ev 0) (ev 2)) (Px (ev 1) (ev 2)),fun _=>Bw (ev 0) (ev 1)⟩
 ·exact q _ O3 (fun z hz=>he z (et.mp hz).1) (eY (jA _ _) hz) po3
end
section
variable{P:Program}{w:World}{K:a5}{mg:Str→Option Value}{base:Heap}{f:Addr}{cdv:Value}{A:dy}{outer:List Env}{s:a7}{H:Hp}{E:XK}{O0 O2:AI}{Ξ:Value→AI→Prop}{p:Addr}{most way n:Int}{es:List (Int×Int)}{v5:Option T}{Φ:BH}{N:HE}
theorem dB(hr:Room 2 (zS P w K mg base f cdv A outer s H E O0 Ξ).X.A)(xf:XFly (zS P w K mg base f cdv A outer s H E O0 Ξ).X (zS P w K mg base f cdv A outer s H E O0 Ξ).W)(Tx:Txt mg)(G:FnT P w K mg base "_law_draw" 2 ["_law_pen","_law_many"] Aq)(po2:PO O0 p O2)(w0:0≤way)(n0:1≤n)(n1:n≤16)(he:∀q∈es,AL n q)(hz:es.length≤256)
  (q:∀(ps:List (Int×Int)) (O':AI),(∀q∈ps,AL n q)→ps.length≤256→PO O0 p O'→Φ (.tup [.int n,.tup (ps.map AF)]) O') (q10:∀(ps:List (Int×Int)) (O':AI),(∀q∈ps,AL 10 q)→ps.length≤256→PO O0 p O'→Φ (.tup [.int 10,.tup (ps.map AF)]) O'):HS (zS P w K mg base f cdv A outer s H E O0 Ξ) (Dv p most way n es v5) O2 (ZS (Ez 7)) {nx:=N,rt:=Φ}:=by
 have sb:=AQ
 refine⟨?_⟩
 refine AD ?_
 refine My (ts:=List.map AF [(0,1),(1,2),(2,3),(3,4),(0,4),(5,7),(7,9),(6,9),(6,8),(5,8)]) 7 ?hE ?hl ?hk Bx.nd ?ha ?hb ?hc
 case ha=>rfl
 case hb=>exact kg rfl
 case hc=>exact .inl rfl
 case hE=>exact CPs.hea (ps:=[(0,1),(1,2),(2,3),(3,4),(0,4),(5,7),(7,9),(6,9),(6,8),(5,8)]) (.cons (.cons (.cons (.cons (.cons (.cons (.cons (.cons (.cons (.cons .nil))))))))))
 case hl=>
  rw[a9]
  exact eY (show 10≤1000 by decide) (iu sb)
 refine AH ?_
 refine AM ?_
 refine Ba ?_
 refine BQ (ET.we AB ?_)
 refine BQ ?_
 refine ET.we (t:=.tup (List.map AF [(0,1),(1,2),(2,3),(3,4),(0,4),(5,7),(7,9),(6,9),(6,8),(5,8)]++(dv 5).map fun(j:Nat)=>AF (0+(j:Int),0+(j:Int)+5))) ?u3 ?u4
 case u3=>
  refine EK Tx.nTuple ?_
  refine FX (ev 7) ?_ (by rw[a9,a9];exact eY (show 15≤1000 by decide) (iu sb))
  refine CK ["_law_place"] [] (dv 5) (fun(j:Nat)=> .int (0+(j:Int))) (fun(j:Nat)=>AF (0+(j:Int),0+(j:Int)+5)) rfl (Bl (AA Bb) DA (by decide+kernel)) ?_ (by show 5≤sizeLine;decide) ?_
  ·exact Am (k:=5) Tx.nRange AB ⟨by decide,by decide⟩
  ·intro x hx
   refine⟨[some (.int (0+x))],fun X' Oe He is O'=>?_⟩
   obtain⟨cl,s',H',fp,rfl⟩:=is
   exact⟨AU 0 Ut (by decide),Bw (ev 0) (Au (ev 0) AB)⟩
 refine Ae ⟨by show 2≤sizeLine;decide,?_⟩
 refine q10 [(0,1),(1,2),(2,3),(3,4),(0,4),(5,7),(7,9),(6,9),(6,8),(5,8),(0,5),(1,6),(2,7),(3,8),(4,9)] O2 ?_ (by decide) po2
 unfold AL
 decide
end
section
variable{P:Program}{w:World}{K:a5}{mg:Str→Option Value}{base:Heap}{f:Addr}{cdv:Value}{A:dy}{outer:List Env}{s:a7}{H:Hp}{E:XK}{O0 O2:AI}{Ξ:Value→AI→Prop}{p:Addr}{most way n:Int}{es:List (Int×Int)}{v5:Option T}{Φ:BH}{N:HE}
theorem dC(hr:Room 2 (zS P w K mg base f cdv A outer s H E O0 Ξ).X.A)(xf:XFly (zS P w K mg base f cdv A outer s H E O0 Ξ).X (zS P w K mg base f cdv A outer s H E O0 Ξ).W)(Tx:Txt mg)(G:FnT P w K mg base "_law_draw" 2 ["_law_pen","_law_many"] Aq)(po2:PO O0 p O2)(w0:0≤way)(n0:1≤n)(n1:n≤16)(he:∀q∈es,AL n q)(hz:es.length≤256)
  (q:∀(ps:List (Int×Int)) (O':AI),(∀q∈ps,AL n q)→ps.length≤256→PO O0 p O'→Φ (.tup [.int n,.tup (ps.map AF)]) O') (n2:2<n):HS (zS P w K mg base f cdv A outer s H E O0 Ξ) (Dv p most way n es v5) O2 (ZS (Ez 8)) {nx:=N,rt:=Φ}:=by
 have sb:=AQ
 refine⟨?_⟩
 refine AH (AM (Ba (BQ (ET.we (ev 3) (BQ (ET.we (EK Tx.nTuple (FX (us:=[AF (0,n-1)]) (CK ["_law_place"] [] (dv (n-1).toNat) (fun j=> .int (0+j)) (fun j=>AF (0+j,0+j+1)) rfl (Bl (AA Bb) DA (by decide+kernel)) (Am Tx.nRange (CF (ev 3) AB) ⟨by omega,by omega⟩) (by simp;omega) fun x hx=> ⟨[some (.int (0+x))],fun X' Oe He is O'=>?_⟩) (DQ (AE (Bw AB (CF (ev 3) AB)) AC) (by show 1≤sizeLine;decide)) (by simp;omega))) (Ae ⟨by show 2≤sizeLine;decide,?_⟩)))))))
 ·obtain⟨cl,s',H',fp,rfl⟩:=is
  exact⟨AU 0 Ut (by decide),Bw (ev 0) (Au (ev 0) AB)⟩
 ·have:=q ((dv (n-1).toNat).map (fun(j:Nat)=> (0+(j:Int),0+(j:Int)+1))++[(0,n-1)]) O2 (fun z hz=>by
   rcases dw.mp hz with hz|hz
   ·obtain⟨j,hj,rfl⟩:=di.mp hz
    have:=dW.mp hj
    show 0≤0+(j:Int)∧0+(j:Int)<0+(j:Int)+1∧0+(j:Int)+1<n
    omega
   ·rw[a8.mp hz]
    show(0:Int)≤0∧0<n-1∧n-1<n
    omega) (by simp;omega) po2
  rw[eG,eJ] at this
  exact this
end
section
variable{P:Program}{w:World}{K:a5}{mg:Str→Option Value}{base:Heap}{f:Addr}{cdv:Value}{A:dy}{outer:List Env}{s:a7}{H:Hp}{E:XK}{O0 O2:AI}{Ξ:Value→AI→Prop}{p:Addr}{most way n:Int}{es:List (Int×Int)}{v5:Option T}{Φ:BH}{N:HE}
theorem dD(hr:Room 2 (zS P w K mg base f cdv A outer s H E O0 Ξ).X.A)(xf:XFly (zS P w K mg base f cdv A outer s H E O0 Ξ).X (zS P w K mg base f cdv A outer s H E O0 Ξ).W)(Tx:Txt mg)(G:FnT P w K mg base "_law_draw" 2 ["_law_pen","_law_many"] Aq)(po2:PO O0 p O2)(w0:0≤way)(n0:1≤n)(n1:n≤16)(he:∀q∈es,AL n q)(hz:es.length≤256)
  (q:∀(ps:List (Int×Int)) (O':AI),(∀q∈ps,AL n q)→ps.length≤256→PO O0 p O'→Φ (.tup [.int n,.tup (ps.map AF)]) O')  :HS (zS P w K mg base f cdv A outer s H E O0 Ξ) (Dv p most way n es v5) O2 ([Ez 9]) {nx:=N,rt:=Φ}:=by
 have sb:=AQ
 refine⟨?_⟩
 refine AH (AM (Ba (BQ (ET.we (ev 3) (BQ (BX Tx.nTuple (Hl (nc:=["_law_place"]) (cap:=[("_law_pen",0)]) rfl (Bl (AA Bb) DA (by decide+kernel)) (EI.wi (Dd Tx.nRange AB (ev 3) ⟨by decide,by decide,by omega,by omega⟩) ?_))))))))
 refine⟨fun i acc O'=>∃qs:List (Int×Int),acc=qs.map AF∧(∀z∈qs,AL n z)∧qs.length≤i∧i≤16∧PO O0 p O',⟨[],rfl,by simp,by simp,by omega,po2⟩,?_,?_⟩
 ·rintro i t acc O' c e ⟨qs,rfl,hq,hl,_,po⟩ hc
  obtain⟨hi,rfl⟩:=BN e
  refine⟨[some (.int (1+i)),some (.raw (.ref p))],fun X' Oe He is=>?_⟩
  obtain⟨cl,s',H',fp,rfl⟩:=is
  refine⟨AU 0 ZQ (by decide),EH (IR ?_)⟩
  rintro X' Oe He ⟨cl,s',H',fp,rfl⟩
  refine Ba (BQ (BZ G hr Bv po hc (ev 1) (ev 0) (by omega) (by omega) fun r O3 r0 r1 po3 hc3=>EA.wa (AE (ev 0) AC) ⟨by show 2≤sizeLine;decide,O3,rfl,hc3,by rw[a9];omega,qs++[(r,1+(i:Int))],by rw[eG];rfl,fun y hy=>?_,by simp;omega,by omega,po3⟩))
  rcases dw.mp hy with hy|hy
  ·exact hq y hy
  ·rw[a8.mp hy]
   show 0≤r∧r<1+(i:Int)∧1+(i:Int)<n
   omega
 ·rintro acc O' ⟨qs,rfl,hq,hl,hl2,po⟩
  exact⟨_,rfl,Ae ⟨by show 2≤sizeLine;decide,q qs O' hq (by omega) po⟩⟩
end
section
variable{P:Program}{w:World}{K:a5}{mg:Str→Option Value}{base:Heap}{f:Addr}{cdv:Value}{A:dy}{outer:List Env}{s:a7}{H:Hp}{E:XK}{O0 O2:AI}{Ξ:Value→AI→Prop}{p:Addr}{most way n:Int}{es:List (Int×Int)}{v5:Option T}{Φ:BH}{N:HE}
theorem t9(hr:Room 2 (zS P w K mg base f cdv A outer s H E O0 Ξ).X.A)(xf:XFly (zS P w K mg base f cdv A outer s H E O0 Ξ).X (zS P w K mg base f cdv A outer s H E O0 Ξ).W)(Tx:Txt mg)(G:FnT P w K mg base "_law_draw" 2 ["_law_pen","_law_many"] Aq)(po2:PO O0 p O2)(w0:0≤way)(n0:1≤n)(n1:n≤16)(he:∀q∈es,AL n q)(hz:es.length≤256)
  (q:∀(ps:List (Int×Int)) (O':AI),(∀q∈ps,AL n q)→ps.length≤256→PO O0 p O'→Φ (.tup [.int n,.tup (ps.map AF)]) O'):HS (zS P w K mg base f cdv A outer s H E O0 Ξ) (Dv p most way n es v5) O2 ([Ez 9]) {nx:=N,rt:=Φ}:=by
 exact dD hr xf Tx G po2 w0 n0 n1 he hz q
theorem t8(hr:Room 2 (zS P w K mg base f cdv A outer s H E O0 Ξ).X.A)(xf:XFly (zS P w K mg base f cdv A outer s H E O0 Ξ).X (zS P w K mg base f cdv A outer s H E O0 Ξ).W)(Tx:Txt mg)(G:FnT P w K mg base "_law_draw" 2 ["_law_pen","_law_many"] Aq)(po2:PO O0 p O2)(w0:0≤way)(n0:1≤n)(n1:n≤16)(he:∀q∈es,AL n q)(hz:es.length≤256)
  (q:∀(ps:List (Int×Int)) (O':AI),(∀q∈ps,AL n q)→ps.length≤256→PO O0 p O'→Φ (.tup [.int n,.tup (ps.map AF)]) O'):HS (zS P w K mg base f cdv A outer s H E O0 Ξ) (Dv p most way n es v5) O2 ([Ez 8,Ez 9]) {nx:=N,rt:=Φ}:=by
 refine KY (EW.eb (DR (CI (ev 2) AB) fun _=>Bt (KL (ev 3) AB))) (fun h=>?_) (fun h=>t9 hr xf Tx G po2 w0 n0 n1 he hz q)
 have h:(decide (way=6)&&decide (2<n))=true:=h
 have n2:2<n:=by simp at h;exact h.2
 exact dC hr xf Tx G po2 w0 n0 n1 he hz q n2
theorem t7(hr:Room 2 (zS P w K mg base f cdv A outer s H E O0 Ξ).X.A)(xf:XFly (zS P w K mg base f cdv A outer s H E O0 Ξ).X (zS P w K mg base f cdv A outer s H E O0 Ξ).W)(Tx:Txt mg)(G:FnT P w K mg base "_law_draw" 2 ["_law_pen","_law_many"] Aq)(po2:PO O0 p O2)(w0:0≤way)(n0:1≤n)(n1:n≤16)(he:∀q∈es,AL n q)(hz:es.length≤256)
  (q:∀(ps:List (Int×Int)) (O':AI),(∀q∈ps,AL n q)→ps.length≤256→PO O0 p O'→Φ (.tup [.int n,.tup (ps.map AF)]) O') (q10:9<most→∀(ps:List (Int×Int)) (O':AI),(∀q∈ps,AL 10 q)→ps.length≤256→PO O0 p O'→Φ (.tup [.int 10,.tup (ps.map AF)]) O'):HS (zS P w K mg base f cdv A outer s H E O0 Ξ) (Dv p most way n es v5) O2 ([Ez 7,Ez 8,Ez 9]) {nx:=N,rt:=Φ}:=by
 refine KY (EW.eb (DR (CI (ev 2) AB) fun _=>Bt (KL (ev 1) AB))) (fun h=>?_) (fun h=>t8 hr xf Tx G po2 w0 n0 n1 he hz q)
 have h:(decide (way=5)&&decide (9<most))=true:=h
 have n2:9<most:=by simp at h;exact h.2
 exact dB hr xf Tx G po2 w0 n0 n1 he hz q (q10 n2)
theorem t6(hr:Room 2 (zS P w K mg base f cdv A outer s H E O0 Ξ).X.A)(xf:XFly (zS P w K mg base f cdv A outer s H E O0 Ξ).X (zS P w K mg base f cdv A outer s H E O0 Ξ).W)(Tx:Txt mg)(G:FnT P w K mg base "_law_draw" 2 ["_law_pen","_law_many"] Aq)(po2:PO O0 p O2)(w0:0≤way)(n0:1≤n)(n1:n≤16)(he:∀q∈es,AL n q)(hz:es.length≤256)
  (q:∀(ps:List (Int×Int)) (O':AI),(∀q∈ps,AL n q)→ps.length≤256→PO O0 p O'→Φ (.tup [.int n,.tup (ps.map AF)]) O') (q10:9<most→∀(ps:List (Int×Int)) (O':AI),(∀q∈ps,AL 10 q)→ps.length≤256→PO O0 p O'→Φ (.tup [.int 10,.tup (ps.map AF)]) O'):HS (zS P w K mg base f cdv A outer s H E O0 Ξ) (Dv p most way n es v5) O2 ([Ez 6,Ez 7,Ez 8,Ez 9]) {nx:=N,rt:=Φ}:=by
 exact KY (CI (ev 2) AB) (fun h=>dA hr xf Tx G po2 w0 n0 n1 he hz q) (fun h=>t7 hr xf Tx G po2 w0 n0 n1 he hz q q10)
theorem t5(hr:Room 2 (zS P w K mg base f cdv A outer s H E O0 Ξ).X.A)(xf:XFly (zS P w K mg base f cdv A outer s H E O0 Ξ).X (zS P w K mg base f cdv A outer s H E O0 Ξ).W)(Tx:Txt mg)(G:FnT P w K mg base "_law_draw" 2 ["_law_pen","_law_many"] Aq)(po2:PO O0 p O2)(w0:0≤way)(n0:1≤n)(n1:n≤16)(he:∀q∈es,AL n q)(hz:es.length≤256)
  (q:∀(ps:List (Int×Int)) (O':AI),(∀q∈ps,AL n q)→ps.length≤256→PO O0 p O'→Φ (.tup [.int n,.tup (ps.map AF)]) O') (q10:9<most→∀(ps:List (Int×Int)) (O':AI),(∀q∈ps,AL 10 q)→ps.length≤256→PO O0 p O'→Φ (.tup [.int 10,.tup (ps.map AF)]) O') (Gt:FnT P w K mg base "_law_turned" 2 ["_law_many","_law_steps"] Cc):HS (zS P w K mg base f cdv A outer s H E O0 Ξ) (Dv p most way n es v5) O2 ([Ez 5,Ez 6,Ez 7,Ez 8,Ez 9]) {nx:=N,rt:=Φ}:=by
 refine KY (EW.eb (DR (CI (ev 2) AB) fun _=>Bt (KL (ev 3) AB))) (fun h=>?_) (fun h=>t6 hr xf Tx G po2 w0 n0 n1 he hz q q10)
 have h:(decide (way=3)&&decide (2<n))=true:=h
 have n2:2<n:=by simp at h;exact h.2
 exact cw hr xf Tx G po2 w0 n0 n1 he hz q n2 Gt
theorem t4(hr:Room 2 (zS P w K mg base f cdv A outer s H E O0 Ξ).X.A)(xf:XFly (zS P w K mg base f cdv A outer s H E O0 Ξ).X (zS P w K mg base f cdv A outer s H E O0 Ξ).W)(Tx:Txt mg)(G:FnT P w K mg base "_law_draw" 2 ["_law_pen","_law_many"] Aq)(po2:PO O0 p O2)(w0:0≤way)(n0:1≤n)(n1:n≤16)(he:∀q∈es,AL n q)(hz:es.length≤256)
  (q:∀(ps:List (Int×Int)) (O':AI),(∀q∈ps,AL n q)→ps.length≤256→PO O0 p O'→Φ (.tup [.int n,.tup (ps.map AF)]) O') (q10:9<most→∀(ps:List (Int×Int)) (O':AI),(∀q∈ps,AL 10 q)→ps.length≤256→PO O0 p O'→Φ (.tup [.int 10,.tup (ps.map AF)]) O') (Gt:FnT P w K mg base "_law_turned" 2 ["_law_many","_law_steps"] Cc):HS (zS P w K mg base f cdv A outer s H E O0 Ξ) (Dv p most way n es v5) O2 ([Ez 4,Ez 5,Ez 6,Ez 7,Ez 8,Ez 9]) {nx:=N,rt:=Φ}:=by
 exact KY (Hj (ev 2) AB) (fun h=>cu hr xf Tx G po2 w0 n0 n1 he hz q (of_decide_eq_true h)) (fun h=>t5 hr xf Tx G po2 w0 n0 n1 he hz q q10 Gt)
end
section
variable{P:Program}{w:World}{K:a5}{mg:Str→Option Value}{base:Heap}
theorem RV{f:Addr}{fd:dM}(F:Fun K "_law_shape" "_law_shape" Bb f fd)(Tx:Txt mg)(G:FnT P w K mg base "_law_draw" 2 ["_law_pen","_law_many"] Aq)(Gt:FnT P w K mg base "_law_turned" 2 ["_law_many","_law_steps"] Cc):FnOk P w K mg base (CXe P w) 3 f fd ["_law_pen","_law_most"] (Ce K NJ):=by
 refine TN F Bx ?_ ?_
 ·rintro ts O Φ Ξ ⟨p,xs,m,rfl,_⟩
  rfl
 ·rintro cdv A outer s H E O0 Ξ hr xf _ Φ ⟨p,xs,most,rfl,hp,px,t0,t1,q⟩
  have sb:=AQ
  refine AW (AS 2 (Fb G hr xf (PO.start hp px) (ev 0) AB (by decide) (by decide) fun way O1 w0 w1 po1=>?_) Bx.nd)
  refine AW (AS 3 (FI Eh (ET.we AB (Fb G hr xf po1 (ev 0) (ev 1) (by omega) (by omega) fun mm O2 u0 u1 po2=>GO _ ?_))) Bx.nd)
  have n0:1≤1+mm:=by omega
  have n1:1+mm≤most:=by omega
  generalize 1+mm=n at n0 n1
  clear u0 u1 po1 mm
  have q':∀(ps:List (Int×Int)) (O':AI),(∀q∈ps,AL n q)→ps.length≤256→PO O0 p O'→Φ (.tup [.int n,.tup (ps.map AF)]) O':=fun ps O' a b c=>q n ps O' n0 n1 a b c
  refine AW (AS 4 (ET.we (DQ AC (fj _)) ?_) Bx.nd)
  refine AW (CJ Aw.own rfl (EI.wi (Am Tx.nRange (ev 3) ⟨by omega,by omega⟩) ⟨fun i ρ' O'=>∃(es:List (Int×Int)) (v5:Option T),ρ'=Dv p most way n es v5∧O'=O2∧(∀q∈es,AL n q)∧es.length≤16*i,⟨[],none,rfl,rfl,by simp,by simp⟩,?_,?_⟩))
  ·rintro i t _ _ e ⟨es,v5,rfl,rfl,he,hz⟩
   obtain⟨hi,rfl⟩:=BN e
   refine⟨Dv p most way n es (some (.int (0+i))),AU 5 Bx.nd (by show 5<8;decide),?_⟩
   refine AH (AS 4 (ET.we (FX (ev 4) (CK ["_law_one"] [("_law_other",5)] (dv (0+(i:Int)).toNat) (fun j=> .int (0+j)) (fun j=>AF (0+j,0+i)) rfl (Bl (AA Bb) DA (by decide+kernel)) (Am Tx.nRange (ev 5) ⟨by omega,by omega⟩) (by simp;omega) fun x hx=> ⟨[some (.int (0+x)),some (.int (0+i))],fun X' Oe He is O'=>?_⟩) (by simp;omega)) ?_) Bx.nd)
   ·obtain⟨cl,s',H',fp,rfl⟩:=is
    exact⟨AU 0 ZM (by decide),Bw (ev 0) (ev 1)⟩
   ·refine⟨es++(dv (0+(i:Int)).toNat).map fun(j:Nat)=> (0+(j:Int),0+(i:Int)),some (.int (0+(i:Int))),?_,rfl,fun z hz=>?_,by simp;omega⟩
    ·unfold Dv
     rw[eG,eJ];rfl
    ·rcases dw.mp hz with hz|hz
     ·exact he z hz
     ·obtain⟨j,hj,rfl⟩:=di.mp hz
      have:=dW.mp hj
      show 0≤0+(j:Int)∧0+(j:Int)<0+(i:Int)∧0+(i:Int)<n
      omega
  ·rintro _ _ ⟨es,v5,rfl,rfl,he,hz⟩
   rw[Ay] at hz
   have hz:es.length≤256:=by omega
   have n16:n≤16:=by omega
   exact t4 hr xf Tx G po2 w0 n0 n16 he hz q' (fun n2 ps O' a b c=>q 10 ps O' (by decide) (by omega) a b c) Gt
end
end K19
namespace GrR
variable{R R':Int→Int→Prop}{S L:List Int}{a b u v:Int}{i j k d s:Nat}{nb:Int→List Int}{n:Int}{σ:Int→Int}
theorem RW(h:∀u v,R u v→R' (σ u) (σ v)):∀{L:List Int},Ch R L→Ch R' (L.map σ)
 | [],_=>trivial
 | [_],_=>trivial
 |a::b::L,c=> ⟨h _ _ c.1,RW h (L:=b::L) c.2⟩
theorem RX(h:∀u v,R u v→R' (σ u) (σ v))(inj:∀u∈L,∀v∈L,σ u=σ v→u=v)(r:Ring R L):Ring R' (L.map σ):=by
 refine⟨by rw[a9];exact r.len,?_,RW h r.ch,fun a z ha hz=>?_⟩
 ·rw[fw,eT]
  have:=fw.mp r.nd
  exact this.imp_of_mem fun{x y} hx hy ne e=>ne (inj x hx y hy e)
 ·rw[List.head?_map] at ha
  rw[List.getLast?_map] at hz
  cases e1:L.head? with
  |none=>rw[e1] at ha;cases ha
  |some x=>
   cases e2:L.getLast? with
   |none=>rw[e2] at hz;cases hz
   |some y=>
    rw[e1] at ha
    rw[e2] at hz
    have ha:σ x=a:=by simpa using ha
    have hz:σ y=z:=by simpa using hz
    rw[←ha,←hz]
    exact h _ _ (r.cl x y e1 e2)
theorem UO{l:List Int}(h1:a∈l)(h2:b∈l)(ne:a≠b):2≤l.length:=by
 match l,h1,h2 with
 | [x],h1,h2=>exact absurd ((a8.mp h1).trans (a8.mp h2).symm) ne
 |_::_::_,_,_=>simp
theorem RY(hR:∀u v,v∈nb u↔R u v)(sy:∀u v,R u v→R v u)(r:Ring R L):∃x∈L,2≤(nb x).length:=by
 match L,r with
 |x::y::z::L,r=>
  obtain⟨t,ht⟩:∃t,(x::y::z::L).getLast?=some t:=⟨_,List.getLast?_cons⟩
  have hm:t∈z::L:=by
   rw[eP,eP] at ht
   exact gj ht
  have nd:=r.nd
  refine⟨x,by simp,UO ((hR x y).mpr r.ch.1) ((hR x t).mpr (sy _ _ (r.cl x t rfl ht))) fun e=>?_⟩
  rw[e] at nd
  have:=(dE.mp (dE.mp nd).2).1
  exact this hm
 | [],r=>exact absurd r.len (by decide)
 | [_],r=>exact absurd r.len (by simp)
 | [_,_],r=>exact absurd r.len (by simp)
theorem Zk(h:R a b)(w:W R [a,b] k v):∃j,j≤k+1∧W R [a] j v:=by
 induction w with
 |«at» hm=>
  simp only[dh,fv,or_false] at hm
  rcases hm with rfl|rfl
  ·exact⟨0,by omega,.at (by simp)⟩
  ·exact⟨1,by omega,.go (.at (by simp)) h⟩
 |go _ r ih=>
  obtain⟨j,hj,w⟩:=ih
  exact⟨j+1,by omega,.go w r⟩
end GrR
namespace K19
open PySem L2 L2.TL PySem.Spec PyProof.Rows
variable{n:Int}{ps:List (Int×Int)}{d:Int}{k:Nat}
theorem RZ(hw:Gr.GY n ps):∀u,¬Gr.Adj ps u u:=fun u h=> (h.inb hw).2.2 rfl
theorem FD{c d:Nat}:∀k,((GrR.Ca (fun i=>c*d^i) k:Nat):Int)=c*HH d k
 |0=>by show(0:Int)=c*0;omega
 |k+1=>by
  show((GrR.Ca (fun i=>c*d^i) k+c*d^k:Nat):Int)=c*(HH d k+(d:Int)^k)
  rw[Int.natCast_add,FD k,Int.mul_add,lj,Int.natCast_pow]
theorem XQ(wr:WebR n ps){u:Int}(u0:0≤u)(u1:u<n):((BD ps u).length:Int)≤n-1:=by
 have:=Gr.Eu (n:=n) (L:=u::BD ps u) (dE.mpr ⟨fun h=>RZ wr.wn.hw u ((DD u u).mp h),Kq wr.wn.hw wr.hp u⟩) fun z hz=>by
  rcases dh.mp hz with rfl|hz
  ·exact⟨u0,u1⟩
  ·exact Ec wr.wn.hw u z ((DD u z).mp hz)
 rw[dm] at this
 omega
theorem JS(wr:WebR n ps):Di n ps=some d↔∀u:Int,0≤u→u<n→((BD ps u).length:Int)=d:=by
 have n0:=wr.n0
 constructor
 ·intro h u u0 u1
  obtain⟨i,rfl⟩:=dz u0
  rw[←Dh wr.wn.hw]
  exact(IC wr h).2.2 i u1
 ·intro h
  have e:∀c∈Bc n ps,c=d:=fun c hc=>by
   obtain⟨i,hi,rfl⟩:=di.mp hc
   have:=dW.mp hi
   rw[Dh wr.wn.hw]
   exact h i (by omega) (by omega)
  have hne:(Bc n ps).headD 0=d:=by
   cases z:Bc n ps with
   |nil=>
    have:=congrArg List.length z
    unfold Bc at this
    rw[a9,fk] at this
    simp at this
    omega
   |cons x xs=>exact e x (by rw[z];simp)
  unfold Di Zh
  rw[if_pos,hne]
  rw[e6]
  intro c hc
  rw[hne,e c hc]
  simp
theorem JT{a:Int}:∀{N:Nat},0≤a→((dv N).map fun(i:Nat)=>if a=(i:Int) then(1:Nat) else 0).sum=if a<N then 1 else 0
 |0,h=>by rw[if_neg (by omega)];rfl
 |N+1,h=>by
  rw[List.range_succ,eG,List.sum_append,JT h]
  show _+((if a=(N:Int) then 1 else 0)+0)=_
  by_cases c:a=(N:Int)
  ·rw[if_neg (by omega),if_pos c,if_pos (by omega)]
   rfl
  ·by_cases c2:a< (N:Int)
   ·rw[if_pos c2,if_neg c,if_pos (by omega)]
    rfl
   ·rw[if_neg c2,if_neg c,if_neg (by omega)]
    rfl
theorem JU{f g:Nat→Nat}:∀{xs:List Nat},(xs.map fun i=>f i+g i).sum=(xs.map f).sum+(xs.map g).sum
 | []=>rfl
 |x::xs=>by
  show f x+g x+(xs.map fun i=>f i+g i).sum=f x+(xs.map f).sum+(g x+(xs.map g).sum)
  rw[JU]
  omega
theorem bL(hw:Gr.GY n ps):((dv n.toNat).map fun i=> (AR ps i).length).sum=2*ps.length:=by
 induction ps with
 |nil=>
  have:((dv n.toNat).map fun i=> (AR [] i).length)=fu n.toNat 0:=by
   rw[List.eq_replicate_iff]
   refine⟨by simp,fun x hx=>?_⟩
   obtain⟨i,_,rfl⟩:=di.mp hx
   rfl
  rw[this]
  simp
 |cons p ps ih=>
  have ih:=ih fun q hq=>hw q (df _ hq)
  have hp:=hw p (by simp)
  have e:∀i:Nat,(AR (p::ps) i).length=((if p.1=(i:Int) then 1 else 0)+(if p.2=(i:Int) then 1 else 0))+(AR ps i).length:=fun i=>by
   unfold AR
   rw[fq]
   by_cases c1:p.1=(i:Int)
   ·rw[if_pos c1,if_pos c1,if_neg (by omega)]
    simp only[dm]
    omega
   ·rw[if_neg c1,if_neg c1]
    by_cases c2:p.2=(i:Int)
    ·rw[if_pos c2,if_pos c2]
     simp only[dm]
     omega
    ·rw[if_neg c2,if_neg c2]
     simp only
     omega
  rw[show(fun i=> (AR (p::ps) i).length)=fun(i:Nat)=> ((if p.1=(i:Int) then 1 else 0)+(if p.2=(i:Int) then 1 else 0))+(AR ps i).length from funext e,JU,JU,JT hp.1,JT (by omega),ih,if_pos (by omega),if_pos (by omega),dm]
  omega
theorem Ra(wr:WebR n ps)(h:Di n ps=some d):(n*d)%2=0:=by
 have e:=bL wr.wn.hw
 have n0:=wr.n0
 have:=(IC wr h).2.2
 obtain⟨D,rfl⟩:∃D:Nat,d=D:=⟨d.toNat,by have:=(IC wr h).1;omega⟩
 rw[show((dv n.toNat).map fun i=> (AR ps i).length)=fu n.toNat D from by
  rw[List.eq_replicate_iff]
  refine⟨by simp,fun x hx=>?_⟩
  obtain⟨i,hi,rfl⟩:=di.mp hx
  have:=this i (by have:=dW.mp hi;omega)
  omega,List.sum_replicate_nat] at e
 have e2:n*(D:Int)=((n.toNat*D:Nat):Int):=by rw[lj,iF (by omega)]
 rw[e2,e]
 omega
structure Fit(n:Int)(ps:List (Int×Int))(d:Int)(k:Nat):Prop where
 d2:2≤d
 dn:d≤n-1
 k3:3≤k
 kn:(k:Int)≤n
 gr:grown d k≤n
 ev2:(n*d)%2=0
 tg:grown d k=n→∀v:Int,0≤v→v<n→∃i,i≤k/2∧Gr.IsD ps [0] v i
theorem XR(wr:WebR n ps)(he:Di n ps=some d)(hs:Ed ps=some (k:Int)):Fit n ps d k:=by
 have wn:=wr.wn
 have n0:=wr.n0
 have hd:=(JS wr).mp he
 obtain⟨k',e,k3,kn,least,r,rr,rk⟩:=Ee wn.hw hs
 have:k'=k:=by omega
 subst this
 have sy:=MB (ps:=ps)
 have ir:=RZ wn.hw
 have hR:=DD (ps:=ps)
 have hn:=Kq wn.hw wr.hp
 have hb:=Ec wn.hw
 have h0:(0:Int)≤0∧(0:Int)<n:=⟨by omega,by omega⟩
 have S0:∀z∈[(0:Int)],0≤z∧z<n:=fun z hz=>by rw[a8.mp hz];exact h0
 have d2:2≤d:=by
  obtain⟨x,hx,h2⟩:=GrR.RY hR sy rr
  have hi:=GrR.EO hb rr x hx
  have:=hd x hi.1 hi.2
  omega
 obtain⟨D,rfl⟩:∃D:Nat,d=(D:Int)+1:=⟨(d-1).toNat,by omega⟩
 have hd':∀u,0≤u→u<n→(BD ps u).length=D+1:=fun u u0 u1=>by have:=hd u u0 u1;omega
 have dn:(D:Int)+1≤n-1:=by
  have:=XQ wr (u:=0) (by omega) (by omega)
  rw[hd 0 (by omega) (by omega)] at this
  exact this
 obtain⟨b,hb0⟩:∃b,b∈BD ps 0:=List.exists_mem_of_length_pos (by rw[hd' 0 (by omega) (by omega)];omega)
 have ad:Gr.Adj ps 0 b:=(hR 0 b).mp hb0
 have bi:=hb _ _ ad
 have Sb:∀z∈[(0:Int),b],0≤z∧z<n:=fun z hz=>by
  simp only[dh,fv,or_false] at hz
  rcases hz with rfl|rfl
  ·exact h0
  ·exact bi
 have e1:=FD (c:=D+1) (d:=D) (k'/2)
 have e2:=FD (c:=2) (d:=D) (k'/2)
 rw[Int.natCast_add,show((1:Nat):Int)=1 from rfl] at e1
 rw[show((2:Nat):Int)=2 from rfl] at e2
 have g1:k'%2=1→grown ((D:Int)+1) k'=((1+GrR.Ca (fun i=> (D+1)*D^i) (k'/2):Nat):Int):=fun c=>by
  unfold grown
  rw[if_pos c,show(D:Int)+1-1=D by omega,←e1]
  omega
 have g2:k'%2≠1→grown ((D:Int)+1) k'=((GrR.Ca (fun i=>2*D^i) (k'/2):Nat):Int):=fun c=>by
  unfold grown
  rw[if_neg c,show(D:Int)+1-1=D by omega,←e2]
 have b1:=GrR.Tn sy ir least hR hn hb hd' h0 (GrR.OV hb S0) (k'/2)
 have b2:=GrR.To sy ir least hR hn hb hd' ad (GrR.OV hb Sb) (k'/2) (by omega)
 refine⟨d2,dn,k3,kn,?_,Ra wr he,fun ht v v0 v1=>?_⟩
 ·by_cases c:k'%2=1
  ·have:=GrR.Qa hb S0 (GrR.OV hb S0) (k'/2+1)
   rw[b1 (by omega)] at this
   rw[g1 c]
   omega
  ·have:=GrR.Qa hb Sb (GrR.OV hb Sb) (k'/2)
   rw[b2] at this
   rw[g2 c]
   omega
 ·by_cases c:k'%2=1
  ·rw[g1 c] at ht
   obtain⟨i,hi,q⟩:=GrR.NC hb S0 (GrR.OV hb S0) (k'/2+1) (by rw[b1 (by omega)];omega) v0 v1
   exact⟨i,by omega,GrR.Iv.mpr q⟩
  ·rw[g2 c] at ht
   obtain⟨i,hi,q⟩:=GrR.NC hb Sb (GrR.OV hb Sb) (k'/2) (by rw[b2];omega) v0 v1
   obtain⟨j,hj,w⟩:=GrR.Zk ad q.1
   obtain⟨m,hm,z⟩:=w.least
   exact⟨m,by omega,GrR.Iv.mpr z⟩
theorem Rb{qs:List (Int×Int)}(hw:Gr.GY n ps)(hw':Gr.GY n qs){σ:Int→Int}(h:∀u v,Gr.Adj ps u v→Gr.Adj qs (σ u) (σ v))(inj:∀u v,0≤u→u<n→0≤v→v<n→σ u=σ v→u=v){m:Int}(hm:Ed ps=some m):∃m',Ed qs=some m'∧m'≤m:=by
 obtain⟨r,rr,rl⟩:=RH hw hm
 have hi:=GrR.EO (Ec hw) rr
 obtain⟨m',e,l⟩:=JP hw' (GrR.RX h (fun u hu v hv=>inj u v (hi u hu).1 (hi u hu).2 (hi v hv).1 (hi v hv).2) rr)
 rw[a9,rl] at l
 exact⟨m',e,l⟩
theorem Rc{qs:List (Int×Int)}(wr:WebR n ps)(wq:WebR n qs){σ τ:Int→Int}(hσ:∀u v,Gr.Adj ps u v→Gr.Adj qs (σ u) (σ v))(hτ:∀u v,Gr.Adj qs u v→Gr.Adj ps (τ u) (τ v))(st:∀u,0≤u→u<n→σ (τ u)=u∧0≤τ u∧τ u<n)(ts:∀u,0≤u→u<n→τ (σ u)=u∧0≤σ u∧σ u<n):Fh n qs=Fh n ps:=by
 have injS:∀u v,0≤u→u<n→0≤v→v<n→σ u=σ v→u=v:=fun u v u0 u1 v0 v1 e=>by
  rw[←(ts u u0 u1).1,←(ts v v0 v1).1,e]
 have injT:∀u v,0≤u→u<n→0≤v→v<n→τ u=τ v→u=v:=fun u v u0 u1 v0 v1 e=>by
  rw[←(st u u0 u1).1,←(st v v0 v1).1,e]
 have esh:Ed qs=Ed ps:=by
  cases e1:Ed ps with
  |none=>
   cases e2:Ed qs with
   |none=>rfl
   |some m=>
    obtain⟨m',h,_⟩:=Rb wq.wn.hw wr.wn.hw hτ injT e2
    rw[e1] at h
    cases h
  |some m=>
   obtain⟨m',h,l⟩:=Rb wr.wn.hw wq.wn.hw hσ injS e1
   obtain⟨m2,h2,l2⟩:=Rb wq.wn.hw wr.wn.hw hτ injT h
   rw[e1] at h2
   cases h2
   rw[h]
   exact congrArg some (by omega)
 have deg:∀u,0≤u→u<n→(BD qs u).length=(BD ps (τ u)).length:=fun u u0 u1=>by
  rw[←a9 (f:=σ) (as:=BD ps (τ u))]
  refine GrR.CZ (Kq wq.wn.hw wq.hp u) ?_ fun v=>?_
  ·have hi:∀v∈BD ps (τ u),0≤v∧v<n:=fun v hv=>Ec wr.wn.hw _ v ((DD _ v).mp hv)
   rw[fw,eT]
   exact(fw.mp (Kq wr.wn.hw wr.hp (τ u))).imp_of_mem fun{x y} hx hy ne e=>ne (injS x y (hi x hx).1 (hi x hx).2 (hi y hy).1 (hi y hy).2 e)
  ·rw[DD,di]
   constructor
   ·intro a
    have b:=Ec wq.wn.hw _ _ a
    exact⟨τ v,(DD _ _).mpr (hτ _ _ a),(st v b.1 b.2).1⟩
   ·rintro⟨x,hx,rfl⟩
    have:=hσ _ _ ((DD _ _).mp hx)
    rwa[(st u u0 u1).1] at this
 have eev:Di n qs=Di n ps:=by
  have key:∀d,Di n qs=some d↔Di n ps=some d:=fun d=>by
   rw[JS wq,JS wr]
   constructor
   ·intro h u u0 u1
    have:=h (σ u) (ts u u0 u1).2.1 (ts u u0 u1).2.2
    rw[deg _ (ts u u0 u1).2.1 (ts u u0 u1).2.2,(ts u u0 u1).1] at this
    exact this
   ·intro h u u0 u1
    rw[deg u u0 u1]
    exact h _ (st u u0 u1).2.1 (st u u0 u1).2.2
  cases e:Di n ps with
  |some d=>exact(key d).mpr e
  |none=>
   cases e2:Di n qs with
   |none=>rfl
   |some d=>rw[(key d).mp e2] at e;cases e
 unfold Fh
 rw[esh,eev]
variable{n:Int}{ps:List (Int×Int)}
def Re(ps:List (Int×Int))(u v:Int):Bool:=decide ((u,v)∈ps)||decide ((v,u)∈ps)
theorem NU{u v:Int}(h:Re ps u v=true):Gr.Adj ps u v:=by
 unfold Re at h
 rw[jR] at h
 rcases h with h|h
 ·exact .inl (of_decide_eq_true h)
 ·exact .inr (of_decide_eq_true h)
def aH(ps:List (Int×Int)):List Int→Bool
 |a::b::L=>Re ps a b&&aH ps (b::L)
 |_=>true
theorem Rf:∀{L:List Int},aH ps L=true→GrR.Ch (Gr.Adj ps) L
 | [],_=>trivial
 | [_],_=>trivial
 |a::b::L,h=>by
  have h:(Re ps a b&&aH ps (b::L))=true:=h
  rw[dS] at h
  exact⟨NU h.1,Rf h.2⟩
def Rg(ps:List (Int×Int))(r:List Int):Bool:=decide (3≤r.length)&&(decide r.Nodup&&(aH ps r&&Re ps (GrR.lst r) (r.headD 0)))
theorem Rh{r:List Int}(h:Rg ps r=true):GrR.Ring (Gr.Adj ps) r:=by
 unfold Rg at h
 rw[dS,dS,dS] at h
 obtain⟨h1,h2,h3,h4⟩:=h
 refine⟨of_decide_eq_true h1,of_decide_eq_true h2,Rf h3,fun a z ha hz=>?_⟩
 have:=NU h4
 rw[GrR.QU hz,List.headD_eq_head?_getD,ha] at this
 exact this
def bz(ps:List (Int×Int))(n:Nat)(s:Nat):Bool:=(dv n).all fun(i:Nat)=> (GrR.aG (BD ps) (fun _ _=>true) (i:Int) (s-1)).all fun r=>!decide ((i:Int)∈BD ps (GrR.lst r))
theorem XS{s:Nat}(hw:Gr.GY n ps)(hs:3≤s)(h:bz ps n.toNat s=true):∀M,GrR.Ring (Gr.Adj ps) M→M.length≠s:=fun M r e=>by
 obtain⟨p,hp,p0,p1⟩:=GrR.OS (Ec hw) r
 obtain⟨i,rfl⟩:=dz p0
 have hM:M∈GrR.aG (BD ps) (fun _ _=>true) (i:Int) (s-1):=(GrR.Te DD).mpr ⟨by omega,hp,r.nd,r.ch,fun _ _ _ _=>rfl⟩
 have:=e6.mp (e6.mp h i (dW.mpr (by omega))) M hM
 have hne:M≠[]:=fun z=>by rw[z] at e;simp at e;omega
 have ad:=r.cl (i:Int) (GrR.lst M) hp (GrR.Cy hne)
 rw[decide_eq_true ((DD _ _).mpr ad)] at this
 cases this
def chk(n:Nat)(ps:List (Int×Int))(d k:Nat)(r:List Int):Bool:=(dv n).all (fun(i:Nat)=>decide ((BD ps (i:Int)).length=d))&&(Rg ps r&&(decide (r.length=k)&&((dv k).all (fun s=>decide (s<3)||bz ps n s)&&(decide (grown d k=(n:Int))&&decide (2≤d)))))
theorem JV{N d k:Nat}{r:List Int}(wr:WebR (N:Int) ps)(h:chk N ps d k r=true):Fh (N:Int) ps=some ((d:Int),(k:Int)):=by
 unfold chk at h
 simp only[dS] at h
 obtain⟨h1,h2,h3,h4,h5,h6⟩:=h
 have h3:=of_decide_eq_true h3
 have h5:=of_decide_eq_true h5
 have h6:=of_decide_eq_true h6
 have ee:Di (N:Int) ps=some (d:Int):=(JS wr).mpr fun u u0 u1=>by
  obtain⟨i,rfl⟩:=dz u0
  have:=of_decide_eq_true (e6.mp h1 i (dW.mpr (by omega)))
  omega
 have es:Ed ps=some (k:Int):=by
  obtain⟨m,hm,hl⟩:=JP wr.wn.hw (Rh h2)
  obtain⟨j,rfl,j3,_,least,r',rr,rl⟩:=Ee wr.wn.hw hm
  rw[hm]
  by_cases c:j<k
  ·have:=e6.mp h4 j (dW.mpr c)
   rw[jR] at this
   rcases this with h|h
   ·have:=of_decide_eq_true h
    omega
   ·exact absurd rl (XS wr.wn.hw j3 (by rw[dY];exact h) r' rr)
  ·exact congrArg some (by omega)
 unfold Fh
 rw[ee,es]
 show(if 2≤(d:Int)∧grown d ((k:Int)).toNat=(N:Int) then some ((d:Int),(k:Int)) else none)=_
 rw[if_pos ⟨by omega,by rw[dY];exact h5⟩]
theorem JW:∀{xs ys:List (Int×Int)},xs.Pairwise Dm→ys.Pairwise Dm→(∀v,v∈xs↔v∈ys)→xs=ys
 | [],[],_,_,_=>rfl
 | [],y::ys,_,_,h=>by have:=(h y).mpr (by simp);cases this
 |x::xs,[],_,_,h=>by have:=(h x).mp (by simp);cases this
 |x::xs,y::ys,h1,h2,h=>by
  have a:=iO.mp h1
  have b:=iO.mp h2
  have irr:∀{p q:Int×Int},Dm p q→Dm q p→False:=fun{p q} h1 h2=>by unfold Dm at h1 h2;omega
  have e:x=y:=by
   rcases dh.mp ((h x).mp (by simp)) with e|hx
   ·exact e
   ·rcases dh.mp ((h y).mpr (by simp)) with e|hy
    ·exact e.symm
    ·exact(irr (a.1 y hy) (b.1 x hx)).elim
  subst e
  rw[JW a.2 b.2 fun v=>?_]
  constructor
  ·intro hv
   rcases dh.mp ((h v).mp (by simp[hv])) with e|hv'
   ·subst e;exact(irr (a.1 v hv) (a.1 v hv)).elim
   ·exact hv'
  ·intro hv
   rcases dh.mp ((h v).mpr (by simp[hv])) with e|hv'
   ·subst e;exact(irr (b.1 v hv) (b.1 v hv)).elim
   ·exact hv'
def Ri(m:Nat):List (Int×Int):=(dv m).flatMap fun(a:Nat)=> ((dv m).filter fun b=>decide (a<b)).map fun(b:Nat)=> ((a:Int),(b:Int))
theorem NV{m:Nat}:(Ri m).Pairwise Dm:=by
 unfold Ri
 rw[List.pairwise_flatMap]
 constructor
 ·intro a _
  rw[eT]
  exact(iZ _ gw).imp fun{x y} h=> .inr ⟨rfl,by show(x:Int)<y;omega⟩
 ·refine gw.imp fun{a b} h x hx y hy=>?_
  obtain⟨u,_,rfl⟩:=di.mp hx
  obtain⟨v,_,rfl⟩:=di.mp hy
  exact .inl (by show(a:Int)<b;omega)
theorem Kv{m:Nat}{q:Int×Int}(h:AL (m:Int) q):q∈Ri m:=by
 unfold AL at h
 exact i8.mpr ⟨q.1.toNat,dW.mpr (by omega),di.mpr ⟨q.2.toNat,et.mpr ⟨dW.mpr (by omega),decide_eq_true (by omega)⟩,fZ (by show((q.1.toNat:Nat):Int)=q.1;omega) (by show((q.2.toNat:Nat):Int)=q.2;omega)⟩⟩
def UP(m:Nat)(ss:List Int):List (Int×Int):=(Ri m).filter fun q=>decide (q∈JG (m:Int) ss)
theorem NW{m:Nat}{ss:List Int}{qs:List (Int×Int)}(h1:qs.Pairwise Dm)(h2:∀q∈qs,AL (m:Int) q)(h3:∀q,q∈qs↔q∈JG (m:Int) ss):qs=UP m ss:=
 JW h1 (iZ _ NV) fun q=>by
  unfold UP
  rw[et,decide_eq_true_eq,h3]
  exact⟨fun h=> ⟨Kv (h2 q ((h3 q).mpr h)),h⟩,fun h=>h.2⟩
theorem Kw{N:Nat}(n0:1≤N)(n1:N≤16)(h1:ps.Pairwise Dm)(h2:∀q∈ps,AL (N:Int) q):WebR (N:Int) ps:=by
 have hl:ps.length≤200:=by
  have e:=JW h1 (iZ (fun q=>decide (q∈ps)) (NV (m:=N))) fun q=>by
   rw[et,decide_eq_true_eq]
   exact⟨fun h=> ⟨Kv (h2 q h),h⟩,fun h=>h.2⟩
  have key:∀m,m≤16→(Ri m).length≤200:=by decide+kernel
  rw[e]
  exact eY (jA ..) (key N n1)
 exact⟨⟨by omega,by omega,h2,hl⟩,h1,by omega,by omega⟩
def UQ:List (Int×Int):=[(0,1),(0,4),(0,5),(1,2),(1,6),(2,3),(2,7),(3,4),(3,8),(4,9),(5,7),(5,8),(6,8),(6,9),(7,9)]
def VA(m:Nat):List (Int×Int):=(dv (m*m)).map fun(k:Nat)=> (((k/m:Nat):Int),((m+k%m:Nat):Int))
def Rj(m:Nat):List Int:=(dv (m/2)).map fun(i:Nat)=>1+(i:Int)
def bM(n:Nat)(ps:List (Int×Int)):Bool:=ps.all fun p=>decide (0≤p.1)&&(decide (p.1<p.2)&&decide (p.2< (n:Int)))
def Zl:List (Int×Int)→Bool
 |p::q::L=> (decide (p.1<q.1)|| (decide (p.1=q.1)&&decide (p.2<q.2)))&&Zl (q::L)
 |_=>true
theorem Rm{N:Nat}(h:bM N ps=true):∀q∈ps,AL (N:Int) q:=fun q hq=>by
 have:=e6.mp h q hq
 simp only[dS,decide_eq_true_eq] at this
 exact this
theorem JX:∀{L:List (Int×Int)},Zl L=true→L.Pairwise Dm
 | [],_=> .nil
 | [_],_=>by simp
 |p::q::L,h=>by
  have h:((decide (p.1<q.1)|| (decide (p.1=q.1)&&decide (p.2<q.2)))&&Zl (q::L))=true:=h
  rw[dS] at h
  have ih:=JX h.2
  have h1:Dm p q:=by
   have:=h.1
   simp only[jR,dS,decide_eq_true_eq] at this
   exact this
  refine iO.mpr ⟨fun x hx=>?_,ih⟩
  rcases dh.mp hx with rfl|hx
  ·exact h1
  ·have:=(iO.mp ih).1 x hx
   unfold Dm at*
   omega
theorem MF:(bM 10 UQ&&(Zl UQ&&chk 10 UQ 3 5 [0,1,2,3,4]))=true:=by decide+kernel
theorem XT:∀i,i<6→chk (i+3) (UP (i+3) [1]) 2 (i+3) ((dv (i+3)).map fun(j:Nat)=> (j:Int))=true:=by decide+kernel
theorem XU:∀i,i<6→chk (i+3) (UP (i+3) (Rj (i+3))) (i+2) 3 [0,1,2]=true:=by decide+kernel
theorem XW:∀i,i<6→(bM (2*(i+3)) (VA (i+3))&&(Zl (VA (i+3))&&chk (2*(i+3)) (VA (i+3)) (i+3) 4 [0,((i+3:Nat):Int),1,((i+4:Nat):Int)]))=true:=by decide+kernel
end K19
namespace L2.TL
open PySem PySem.Spec PyProof.Rows
section
variable{X:Cx}{Z:Zx}{ρ:List (Option T)}{O:AI}{a b:Expr}{pos:Pos}{i j:Int}{x y:Bool}
theorem XX:DF X (fm .Is) (fun x y H Q=>∃a b,x=.bl a∧y=.bl b∧Q (.bl (a==b)) H):=by
 intro pins s σ H x y v u Q I rx ry h
 obtain⟨a,b,rfl,rfl,q⟩:=h
 cases rx
 cases ry
 exact is_bool (AV I q (by cases a<;>cases b<;>rfl))
theorem XY(ha:ET Z ρ O a (.bl x))(hb:ET Z ρ O b (.bl y)):ET Z ρ O (.Compare a [.Is] [b] pos) (.bl (x==y)):=CD XX (Ad _) (fun Φ p H v w Q ok r1 r2 q=> ⟨x,y,r1.bl_inv,r2.bl_inv,q _ H _ O p (.refl ok) (.bl _)⟩) ha hb
theorem UR(ha:ET Z ρ O a (.int i))(hb:ET Z ρ O b (.int j)):ET Z ρ O (.Compare a [.Eq] [b] pos) (.bl (decide (i=j))):=CD Ji (Ad _) GQ ha hb
end
end L2.TL
namespace K19
open PySem L2 L2.TL PySem.Spec PyProof.Rows
variable{n:Int}{ps:List (Int×Int)}{O:AI}{Φ:BH}{Ξ:Value→AI→Prop}{CE CP CG CN:Addr}{d:Int}{k:Nat}
def Xs(d:Int)(g:Nat):Int:=if max (grown d g) (d+1)*d%2=0 then max (grown d g) (d+1) else max (grown d g) (d+1)+1
section
variable{P:Program}{w:World}{K:a5}{mg:Str→Option Value}{base:Heap}
def VB:Bu:=KN fun ts r=>∃(d:Int) (g:Nat),ts=[.int d,.int (g:Int)]∧(2≤d∧d≤15)∧3≤g∧g≤16∧r=.int (Xs d g)
theorem VC:FnScope ["d","g","many"] ["d","g"] (AA Qf):=⟨rfl,rfl,rfl,by decide+kernel,rfl,by decide+kernel,by decide+kernel⟩
theorem XZ{f:Addr}{fd:dM}(F:Fun K "least_fit" "least_fit" Qf f fd)(Tx:Txt mg)(G:FnT P w K mg base "least_by_growth" 5 ["d","g"] RG):FnOk P w K mg base (CXe P w) 6 f fd ["d","g"] (Ce K VB):=by
 refine AY F VC ?_ ?_
 ·rintro ts O Φ Ξ ⟨r,⟨d,g,rfl,_⟩,_⟩
  rfl
 ·rintro cdv A outer s H E O Ξ hr xf _ Φ ⟨_,⟨d,g,rfl,hd,g0,g1,rfl⟩,q⟩
  refine AD (AS 2 (ET.we (FW Tx.nMax rfl (Aa G hr xf (AE (ev 0) (AE (ev 1) AC)) ⟨d,g,rfl,hd,g0,g1,rfl⟩) (Au (ev 0) AB)) ?_) VC.nd)
  refine AH (AM (ET.we (ET.cast (KM (x:=decide (max (grown d g) (d+1)*d%2=0)) (CI (Cq (Ds (ev 2) (ev 0) (.inr ⟨by omega,by omega⟩)) AB (by decide)) AB) (fun _=>ev 2) (fun _=>Au (ev 2) AB)) ?_) q))
  unfold Xs
  by_cases c:max (grown d g) (d+1)*d%2=0
  ·rw[decide_eq_true c,if_pos rfl,if_pos c]
  ·rw[decide_eq_false c,if_neg b6,if_neg c]
end
theorem Zm(f:Fit n ps d k):Xs d k≤n:=by
 have h1:=f.gr
 have h2:=f.dn
 unfold Xs
 split
 ·omega
 ·rename_i c
  by_cases e:max (grown d k) (d+1)=n
  ·rw[e] at c
   exact absurd f.ev2 c
  ·omega
theorem Zo:grown d k≤Xs d k:=by unfold Xs;split<;>omega
theorem Xa(he:Di n ps=some d)(hs:Ed ps=some (k:Int))(d2:2≤d):Fh n ps=if grown d k=n then some (d,(k:Int)) else none:=by
 unfold Fh
 rw[he,hs]
 show(if 2≤d∧grown d ((k:Int)).toNat=n then some (d,(k:Int)) else none)=_
 rw[dY]
 by_cases c:grown d k=n
 ·rw[if_pos ⟨d2,c⟩,if_pos c]
 ·rw[if_neg (fun h=>c h.2),if_neg c]
theorem US(h:Di n ps=none∨Ed ps=none):Fh n ps=none:=by
 unfold Fh
 rcases h with h|h
 ·rw[h]
 ·rw[h]
  cases Di n ps<;>rfl
theorem Od{g:Nat}(wr:WebR n ps)(d2:2≤d)(d1:d≤15)(g3:3≤g)(g1:g≤16)(q:Φ (.bl (SI n ps d g)) O):MD CN [Bm n ps,.int d,.int (g:Int)] O Φ Ξ:=
 ⟨n,ps,_,_,rfl,wr,rfl,rfl,(fun h=>by rw[FK d2 d1,FK (by omega) (by omega)] at h;rcases h with h|h<;>cases h),fun d' g' e1 e2 _ _ _ _=>by
  cases e1
  have:g'=g:=by injection e2 with e;omega
  subst this
  exact q⟩
theorem Rn{g:Nat}(wr:WebR n ps)(d2:2≤d)(d1:d≤15)(g3:3≤g)(g1:g≤16)(he:Di n ps=some d)(hh:Ol ps g=false)(q:Φ (.int (n-grown d g)) O):RN CN CE CG [Bm n ps,.int d,.int (g:Int)] O Φ Ξ:=
 ⟨n,ps,_,_,rfl,wr,rfl,rfl,(fun h=>by rw[FK d2 d1,FK (by omega) (by omega)] at h;rcases h with h|h<;>cases h),fun d' g' e1 e2 _ _ _ _=>by
  cases e1
  have:g'=g:=by injection e2 with e;omega
  subst this
  exact⟨fun h=>absurd he h,(fun _ h=>by rw[hh] at h;cases h),fun _ _=>q⟩⟩
theorem Ro{i j:Nat}{x:Option Nat}{fs:List (Option Nat)}(wn:WebN n ps)(h1:(i:Int)<n)(h2:(j:Int)<n)(al:Gr.All n ps [(i:Int)] fs)(hx:fs[j]?=some x)(q:Φ (As x) O):JK CP [Bm n ps,.int (i:Int),.int (j:Int)] O Φ Ξ:=
 ⟨n,ps,_,_,rfl,rfl,rfl,wn,fun i' j' e1 e2 _ _ gs ag y hy=>by
  have:i'=i:=by injection e1 with e;omega
  subst this
  have:j'=j:=by injection e2 with e;omega
  subst this
  rw[ag.uniq al,hx] at hy
  cases hy
  exact q,fun h=>by rw[FK (by omega) (by omega),FK (by omega) (by omega)] at h;rcases h with h|h<;>cases h⟩
theorem Xb{S:List Int}(wn:WebN n ps):∃fs,Gr.All n ps S fs:=by
 have hn:=wn.n0
 refine⟨(dv n.toNat).map fun(j:Nat)=>GrR.Hr (Gr.Adj ps) S (j:Int),by rw[a9,fk];omega,fun v v0 v1 d=>?_⟩
 rw[b8,iE (by omega),GrR.Iv,←GrR.EM]
 show some (GrR.Hr (Gr.Adj ps) S ((v.toNat:Nat):Int))=some (some d)↔_
 rw[iF v0]
 exact⟨eu.inj,congrArg some⟩
theorem MG{fs:List (Option Nat)}(f:Fit n ps d k)(ht:grown d k=n)(al:Gr.All n ps [0] fs):∃ds:List Nat,fs=ds.map some∧∀x∈ds,x≤k/2:=by
 have key:∀x∈fs,∃i,x=some i∧i≤k/2:=fun x hx=>by
  obtain⟨j,hj⟩:=eD hx
  have hl:=al.len
  have:=(dj.mp hj).1
  obtain⟨i,hi,q⟩:=f.tg ht (j:Int) (by omega) (by omega)
  have:=(al.eq (j:Int) (by omega) (by omega) i).mpr q
  rw[dY,hj] at this
  exact⟨i,eu.inj this,hi⟩
 clear al
 induction fs with
 |nil=>exact⟨[],rfl,fun _ h=>by cases h⟩
 |cons x fs ih=>
  obtain⟨ds,rfl,h⟩:=ih fun y hy=>key y (df _ hy)
  obtain⟨i,rfl,hi⟩:=key x (by simp)
  exact⟨i::ds,rfl,fun y hy=>by
   rcases dh.mp hy with rfl|hy
   ·exact hi
   ·exact h y hy⟩
variable{n:Int}{ps:List (Int×Int)}{O:AI}{Φ:BH}{Ξ:Value→AI→Prop}{CE CP CG CN:Addr}{d:Int}{k:Nat}
theorem NX{x:Option Int}:Dn (Ga x)=x.isNone:=by cases x<;>rfl
theorem NY{x:Option Int}:Az (Ga x)=false:=by cases x<;>rfl
theorem NZ(he:Di n ps=some d)(hs:Ed ps=some (k:Int)){g:Int}(h:g≤k):SI n ps d g=true:=by
 unfold SI Ol
 rw[he,hs]
 show(decide (some d=some d)&&!decide ((k:Int)<g))=true
 rw[decide_eq_true rfl,decide_eq_false (by omega)]
 rfl
theorem UT(hs:Ed ps=some (k:Int)){g:Int}(h:(k:Int)<g):SI n ps d g=false:=by
 unfold SI Ol
 rw[hs]
 show(_&&!decide ((k:Int)<g))=false
 rw[decide_eq_true h]
 simp
theorem Zp(he:Di n ps=some d){g:Int}:SI n ps (d+1) g=false:=by
 unfold SI
 rw[he,decide_eq_false fun h=>by have:=eu.inj h;omega]
 rfl
theorem Rp(hs:Ed ps=some (k:Int)):Ol ps (k:Int)=false:=by
 unfold Ol
 rw[hs]
 exact decide_eq_false (by omega)
theorem Of{ds:List Nat}:((dTs ((ds.map some).map As)).any fun y=>gX y (dT .non))=false:=by
 induction ds with
 |nil=>rfl
 |cons x ds ih=>
  show(gX (dT (.int (x:Int))) (dT .non)|| (dTs ((ds.map some).map As)).any fun y=>gX y (dT .non))=false
  rw[ih]
  rfl
theorem MH{ds:List Nat}:rdBs ((ds.map some).map As)=true:=by
 induction ds with
 |nil=>rfl
 |cons x ds ih=>
  show rdBs (T.int (x:Int)::(ds.map some).map As)=true
  rw[rdBs,ih,Dk]
  rfl
theorem Gw{a b:Int}:gX (dT (AF (a,b))) (dT (AF (a,b)))=true:=by
 show(gE.eqvAll [.int a,.int b] [.int a,.int b])=true
 simp[gE.eqvAll,gX]
theorem Ef{a b:Int}:Dk (AF (a,b))=true:=by
 show Dk (.tup [.int a,.int b])=true
 simp[Dk,rdBs]
theorem Dw{a b:Int}:(dT (AF (a,b))).depth≤100:=by
 show(gE.tuple [.int a,.int b]).depth≤100
 simp[gE.depth,gE.depthAll]
theorem MI{fs:List (Option Nat)}{N:Nat}(h:fs.length=N):(dv N).map (fun i=>As (fs.getD i none))=fs.map As:=by
 subst h
 apply fA
 intro m
 rw[b8,b8]
 by_cases hm:m<fs.length
 ·rw[iE hm,b9 hm]
  simp[hZ,hm]
 ·rw[fo (show(dv fs.length).length≤m by rw[fk];omega),fo (by omega)]
  rfl
section
variable{P:Program}{w:World}{K:a5}{mg:Str→Option Value}{base:Heap}
structure Fns(P:Program)(w:World)(K:a5)(mg:Str→Option Value)(base:Heap)(CN CE CG CP:Addr):Prop where
 tx:Txt mg
 ge:FnT P w K mg base "even_by" 2 ["web"] FB
 gs:FnT P w K mg base "shortest" 3 ["web"] Fg
 gt:FnT P w K mg base "tight" 5 ["web"] NT
 gb:FnT P w K mg base "tight_by" 4 ["web"] NS
 gf:FnT P w K mg base "fits" 6 ["web","d","g"] (MD CN)
 gl:FnT P w K mg base "least_fit" 6 ["d","g"] VB
 gg:FnT P w K mg base "least_by_growth" 5 ["d","g"] RG
 gu:FnT P w K mg base "surplus" 6 ["web","d","g"] (RN CN CE CG)
 gr:FnT P w K mg base "far_of" 4 ["web","one","other"] (JK CP)
def VD:Bu:=KN fun ts r=>∃(n:Int) (ps:List (Int×Int)),ts=[Bm n ps]∧WebR n ps∧n≤16∧r=.bl true
def Xc:List Str:=["_law_web","_law_d","_law_g","_law_spread"]
theorem Rq:FnScope Xc ["_law_web"] (AA Hv):=⟨rfl,rfl,rfl,by decide+kernel,rfl,by decide+kernel,by decide+kernel⟩
theorem Zq:(Ag ["_law_place"] [(("_law_web" :Str),0)]).Nodup:=by decide+kernel
variable{f:Addr}{cdv:Value}{A:dy}{outer:List Env}{s:a7}{H:Hp}{E:XK}
abbrev Rr(P:Program)(w:World)(K:a5)(mg:Str→Option Value)(base:Heap)(f:Addr)(cdv:Value)(A:dy)(outer:List Env)(s:a7)(H:Hp)(E:XK)(O:AI)(Ξ:Value→AI→Prop):Zx:=zB P w K mg base Xc "_law_fit_right" (AA Hv) f cdv A outer s H E O Ξ
theorem Rt{N Bk Ct:HE}(B:Fns P w K mg base CN CE CG CP)(hr:Room 6 (Rr P w K mg base f cdv A outer s H E O Ξ).X.A)(xf:XFly (Rr P w K mg base f cdv A outer s H E O Ξ).X (Rr P w K mg base f cdv A outer s H E O Ξ).W)(wr:WebR n ps)(n1:n≤16)(he:Di n ps=some d)(hs:Ed ps=some (k:Int))(q:Φ (.bl true) O):
  HS (Rr P w K mg base f cdv A outer s H E O Ξ) [some (Bm n ps),some (.int d),some (.int (k:Int)),none] O ((Ai Hv).drop 2) {nx:=N,rt:=Φ,bk:=Bk,ct:=Ct}:=by
 have F:=XR wr he hs
 have d2:=F.d2
 have dn:=F.dn
 have k3:=F.k3
 have kn:=F.kn
 have n0:=wr.n0
 have wn:=wr.wn
 have sb:=AQ
 have hu:(Rr P w K mg base f cdv A outer s H E O Ξ).X.A.units+102<cLine:=by have:=hr.un;omega
 have hu1:=Nat.lt_of_succ_lt hu
 have tv:=Xa he hs d2
 have fit:∀{ρ:List (Option T)} {a b c:Expr} {p pos:Pos} {d':Int} {g:Nat},ET (Rr P w K mg base f cdv A outer s H E O Ξ) ρ O a (Bm n ps)→BB a=true→ET (Rr P w K mg base f cdv A outer s H E O Ξ) ρ O b (.int d')→BB b=true→ET (Rr P w K mg base f cdv A outer s H E O Ξ) ρ O c (.int (g:Int))→BB c=true→2≤d'→d'≤15→3≤g→g≤16→ET (Rr P w K mg base f cdv A outer s H E O Ξ) ρ O (.Call (.Name "fits" p) [a,b,c] [] pos) (.bl (SI n ps d' g)):=fun ha na hb nb hc nc h1 h2 h3 h4=>
  FT B.gf hr xf (AE ha (AE hb (AE hc AC nc) nb) na) (fun Φ q=>Od wr h1 h2 h3 h4 q) (he:=BU na) (hpl:=by rw[BU nb,BU nc];rfl)
 have e0:BB (.Name "_law_web" ⟨0,0,0,0⟩)=true:=rfl
 refine AW (Af (k:=false) (EW.eb (EW.cast (BR (x:=false) (y:=false) (EB.cast (BS (k:=true) (EB.cast (Br (fit (ev 0) rfl (ev 1) rfl (ev 2) rfl d2 (by omega) k3 (by omega))) (NZ he hs (by omega)))) rfl) fun _=>EW.cast (BR (x:=false) (y:=false) (EB.cast (Hj (Ao (ev 0) AB) (Aa B.gl hr xf (AE (ev 1) (AE (ev 2) AC)) ⟨d,k,rfl,⟨d2,by omega⟩,k3,by omega,rfl⟩)) (decide_eq_false (by have:=Zm F;omega))) fun _=>Cr (EB.cast (Hj (Aa B.gl hr xf (AE (ev 1) (AE (ev 2) AC)) ⟨d,k,rfl,⟨d2,by omega⟩,k3,by omega,rfl⟩) (Aa B.gg (hr.mono (by decide)) xf (AE (ev 1) (AE (ev 2) AC)) ⟨d,k,rfl,⟨d2,by omega⟩,k3,by omega,rfl⟩)) (decide_eq_false (by have:=Zo (d:=d) (k:=k);omega)))) rfl) rfl)) (fun h=>by cases h) fun _=>Ah ?_)
 refine AW (Af (k:=false) (EW.eb (EW.cast (BR (x:=false) (y:=false) (EW.eb (EW.cast (DR (x:=decide (3< (k:Int))) (y:=false) (KL (ev 2) AB) fun h=>Bt (EB.cast (BS (k:=true) (EB.cast (Br (fit (g:=k-1) (ev 0) rfl (ev 1) rfl (ET.cast (CF (ev 2) AB) (by have:=of_decide_eq_true h;congr 1;omega)) rfl d2 (by omega) (by have:=of_decide_eq_true h;omega) (by omega))) (NZ he hs (by omega)))) rfl)) (by simp))) fun _=>EW.cast (BR (x:=false) (y:=false) (EW.eb (EW.cast (DR (x:=decide ((k:Int)<16)) (y:=false) (Hj (ev 2) AB) fun h=>Bt (EB.cast (Br (fit (g:=k+1) (ev 0) rfl (ev 1) rfl (ET.cast (Au (ev 2) AB) (by congr 1)) rfl d2 (by omega) (by omega) (by have:=of_decide_eq_true h;omega))) (UT hs (by omega)))) (by simp))) fun _=>Cr (EW.eb (EW.cast (DR (x:=decide (d<15)) (y:=false) (Hj (ev 1) AB) fun h=>Bt (EB.cast (Br (fit (g:=k) (ev 0) rfl (Au (ev 1) AB) rfl (ev 2) rfl (by omega) (by have:=of_decide_eq_true h;omega) k3 (by omega))) (Zp he))) (by simp)))) rfl) rfl)) (fun h=>by cases h) fun _=>Ah ?_)
 have sur:∀{ρ:List (Option T)} {p pos p1 p2 p3:Pos},ρ=[some (Bm n ps),some (.int d),some (.int (k:Int)),none]→ET (Rr P w K mg base f cdv A outer s H E O Ξ) ρ O (.Call (.Name "surplus" p) [.Name "_law_web" p1,.Name "_law_d" p2,.Name "_law_g" p3] [] pos) (.int (n-grown d k)):=fun e=>by
  subst e
  exact FT B.gu (hr.mono (by decide)) xf (AE (ev 0) (AE (ev 1) (AE (ev 2) AC))) fun Φ q=>Rn wr d2 (by omega) k3 (by omega) he (Rp hs) q
 have isS:(Fh n ps).isSome=decide (n-grown d k=0):=by
  rw[tv]
  by_cases c:grown d k=n
  ·rw[if_pos c,decide_eq_true (by omega)];rfl
  ·rw[if_neg c,decide_eq_false (by omega)];rfl
 refine AW (Af (k:=false) (EW.eb (EW.cast (BR (x:=false) (y:=false) (EB.cast (Ld (sur rfl) (CF (Ao (ev 0) AB) (Aa B.gg (hr.mono (by decide)) xf (AE (ev 1) (AE (ev 2) AC)) ⟨d,k,rfl,⟨d2,by omega⟩,k3,by omega,rfl⟩))) (by rw[decide_eq_true rfl];rfl)) fun _=>Cr (EB.cast (Pz (Aa B.gt (hr.mono (by decide)) xf (AE (ev 0) AC) ⟨n,ps,rfl,wr,rfl⟩) (UR (sur rfl) AB)) (by rw[isS];simp))) rfl)) (fun h=>by cases h) fun _=>Ah ?_)
 by_cases ht:grown d k=n
 ·have tt:Fh n ps=some (d,(k:Int)):=by rw[tv,if_pos ht]
  refine AW (Af (k:=false) (EB.cast (BS (k:=true) (EB.cast (Br (Aa B.gt (hr.mono (by decide)) xf (AE (ev 0) AC) ⟨n,ps,rfl,wr,rfl⟩)) (by rw[tt];rfl))) rfl) (fun h=>by cases h) fun _=>Ah ?_)
  obtain⟨fs,al⟩:=Xb (S:=[(0:Int)]) wn
  obtain⟨ds,rfl,hds⟩:=MG F ht al
  have hl:=al.len
  rw[a9] at hl
  refine AW (EJ (i:=3) (nc:=["_law_place"]) (cap:=[("_law_web",0)]) (by rfl) Rq.nd rfl (Bl (AA Hv) Xc (by decide+kernel)) (EI.wi (ts:=(dv n.toNat).map fun i=>T.int ((i:Nat):Int)) (EI.cast (Am B.tx.nRange (Ao (ev 0) AB) ⟨by omega,by omega⟩) (by unfold GT;simp)) (EL (dv n.toNat) (fun i=>T.int ((i:Nat):Int)) (fun i=>As ((ds.map some).getD i none)) (by rw[fk];omega) (fun x hx=> ⟨[some (.int (x:Int)),some (Bm n ps)],fun X' Oe He is O'=>?_⟩) ?_)))
  ·obtain⟨cl,s',H',fp,rfl⟩:=is
   have hx:=dW.mp hx
   refine⟨AU 0 Zq (by decide),FT B.gr (hr.mono (by decide)) Bv (AE (ev 1) (AE AB (AE (ev 0) AC))) fun Φ q=>Ro (i:=0) (j:=x) wn (by omega) (by omega) al ?_ q⟩
   have hxl:x< (ds.map some).length:=by rw[a9];omega
   rw[eK,b9 hxl]
   rfl
  ·rw[MI (by rw[a9];omega)]
   have hne:(ds.map fun(x:Nat)=> (x:Int))≠[]:=fun z=>by
    have:=congrArg List.length z
    rw[a9] at this
    have:ds.length=0:=this
    omega
   obtain⟨m,hm⟩:=JM hne
   have hmk:m≤(k:Int)/2:=by
    obtain⟨x,hx,rfl⟩:=di.mp hm.1
    have:=hds x hx
    omega
   exact Ir (AM (ET.we (ET.cast (Et (x:=true) (y:=true) (ET.cast (CD (QN hu1) (Ad _) (QO (t:=AF (d,(k:Int))) (u:=AF (d,(k:Int))) Ef Ef Dw) (ET.cast (Aa B.gb (hr.mono (by decide)) xf (AE (ev 0) AC) ⟨n,ps,rfl,wr,rfl⟩) (by rw[tt];rfl)) (BM (AE (ev 1) (AE (ev 2) AC)) (by show 2≤sizeLine;decide))) (by rw[Gw])) fun _=>ET.cast (Et (x:=true) (y:=true) (ET.cast (CD (Wl hu) rfl (Wm (t:=.non) (us:=(ds.map some).map As) (by rw[Dk]) MH (by show 0≤100;decide)) Bj (ev 3)) (by rw[Of];rfl)) fun _=>Ik (ET.cast (Ys (NM hm B.tx.nMax rfl (ET.cast (ev 3) (by rw[eJ,eJ];rfl))) (Bq (ev 2) AB ⟨by decide,by decide⟩)) (by rw[decide_eq_true hmk]))) rfl) rfl) q))
 ·have tt:Fh n ps=none:=by rw[tv,if_neg ht]
  exact AW (Af (k:=true) (EB.cast (BS (k:=false) (EB.cast (Br (Aa B.gt (hr.mono (by decide)) xf (AE (ev 0) AC) ⟨n,ps,rfl,wr,rfl⟩)) (by rw[tt];rfl))) rfl) (fun _=>AH (AM (ET.we Ml q))) fun h=>by cases h)
theorem Xd{fd:dM}(F:Fun K "_law_fit_right" "_law_fit_right" Hv f fd)(B:Fns P w K mg base CN CE CG CP):FnOk P w K mg base (CXe P w) 7 f fd ["_law_web"] (Ce K VD):=by
 refine AY F Rq ?_ ?_
 ·rintro ts O Φ Ξ ⟨r,⟨n,ps,rfl,_⟩,_⟩
  rfl
 ·rintro cdv A outer s H E O Ξ hr xf _ Φ ⟨_,⟨n,ps,rfl,wr,n1,rfl⟩,q⟩
  refine HS.out (Z:=Rr P w K mg base f cdv A outer s H E O Ξ) ?_
  refine AW (QV 1 2 rfl Rq.nd (EA.wa (AE (ET.cast (Aa B.ge (hr.mono (by decide)) xf (AE (ev 0) AC) ⟨n,ps,rfl,wr.wn,wr.n0,rfl⟩) Uy) (AE (Aa B.gs (hr.mono (by decide)) xf (AE (ev 0) AC) ⟨n,ps,rfl,wr.wn,rfl⟩) AC)) ⟨_,_,rfl,?_⟩))
  refine AW (Af (k:=(Di n ps).isNone|| (Ed ps).isNone) (EW.eb (EW.cast (BR (CM NY (ev 1)) fun _=>Cr (CM NY (ev 2))) (by rw[NX,NX];rfl))) (fun h=>?_) (fun h=>Ah ?_))
  ·have tn:=US (n:=n) (ps:=ps) (by
    rw[jR] at h
    rcases h with h|h
    ·exact .inl (Option.isNone_iff_eq_none.mp h)
    ·exact .inr (Option.isNone_iff_eq_none.mp h))
   exact AH (AM (ET.we (ET.cast (Et (x:=true) (y:=true) (ET.cast (XY (Aa B.gt (hr.mono (by decide)) xf (AE (ev 0) AC) ⟨n,ps,rfl,wr,rfl⟩) Ml) (by rw[tn];rfl)) fun _=>Ik (ET.cast (XC (t:=.non) rfl (ET.cast (Aa B.gb (hr.mono (by decide)) xf (AE (ev 0) AC) ⟨n,ps,rfl,wr,rfl⟩) (by rw[tn];rfl))) rfl)) rfl) q))
  ·rw[Bool.or_eq_false_iff] at h
   cases he:Di n ps with
   |none=>rw[he] at h;cases h.1
   |some d=>
    cases hs:Ed ps with
    |none=>rw[hs] at h;cases h.2
    |some m=>
     obtain⟨k,rfl,_⟩:=Ee wr.wn.hw hs
     have:=Rt (f:=f) (cdv:=cdv) (A:=A) (outer:=outer) (s:=s) (H:=H) (E:=E) (O:=O) (Ξ:=Ξ) (Φ:=Φ) (N:=fun _ O'=>Φ .non O') (Bk:=fun _ _=>False) (Ct:=fun _ _=>False) B hr xf wr n1 he hs q
     unfold Di at he
     rw[he]
     exact this
end
variable{n:Int}{ps qs:List (Int×Int)}{ns:List Int}
theorem MJ(n0:1≤n)(n1:n≤16)(h1:ps.Pairwise Dm)(h2:∀q∈ps,AL n q):WebR n ps:=by
 obtain⟨N,rfl⟩:=dz (show 0≤n by omega)
 exact Kw (by omega) (by omega) h1 h2
theorem Na{i:Nat}(h:i<ns.length):Cz ns (i:Int)=ns[i]:=by
 unfold Cz
 rw[dY,eK,b9 h]
 rfl
theorem Ru(wr:WebR n ps)(n1:n≤16)(pm:ns.Perm (rg n))(q1:qs.Pairwise Dm)(q2:∀q,q∈qs↔q∈ps.map (nm ns)):WebR n qs∧Fh n qs=Fh n ps:=by
 have n0:=wr.n0
 have hl:ns.length=n.toNat:=by rw[pm.length_eq,RU]
 have nd:ns.Nodup:=pm.nodup_iff.mpr (by
  rw[fw]
  unfold rg
  rw[eT]
  exact gw.imp fun h=>by omega)
 have hin:∀z∈ns,0≤z∧z<n:=fun z hz=>RS (pm.mem_iff.mp hz)
 have ts:∀u:Int,0≤u→u<n→((ns.idxOf (Cz ns u):Nat):Int)=u∧0≤Cz ns u∧Cz ns u<n:=fun u u0 u1=>by
  obtain⟨i,rfl⟩:=dz u0
  have hi:i<ns.length:=by omega
  rw[Na hi]
  refine⟨?_,hin _ (fI hi)⟩
  rw[nd.idxOf_getElem i hi]
 have st:∀u:Int,0≤u→u<n→Cz ns ((ns.idxOf u:Nat):Int)=u∧0≤((ns.idxOf u:Nat):Int)∧((ns.idxOf u:Nat):Int)<n:=fun u u0 u1=>by
  have hm:u∈ns:=pm.mem_iff.mpr (by
   unfold rg
   exact di.mpr ⟨u.toNat,dW.mpr (by omega),by omega⟩)
  have hi:=List.idxOf_lt_length_iff.mpr hm
  refine⟨?_,by omega,by omega⟩
  rw[Na hi,List.getElem_idxOf]
 have hP:∀q∈qs,AL n q:=fun q hq=>by
  obtain⟨p,hp,rfl⟩:=di.mp ((q2 q).mp hq)
  have h:=wr.wn.hw p hp
  have a:=ts p.1 (by omega) (by omega)
  have b:=ts p.2 (by omega) (by omega)
  have ne:Cz ns p.1≠Cz ns p.2:=fun e=>by
   have:=a.1.symm.trans ((congrArg (fun z=> ((ns.idxOf z:Nat):Int)) e).trans b.1)
   omega
  unfold nm AL
  simp only
  omega
 have wq:=MJ n0 n1 q1 hP
 refine⟨wq,Rc (σ:=Cz ns) (τ:=fun v=> ((ns.idxOf v:Nat):Int)) wr wq (fun u v h=>?_) (fun u v h=>?_) st ts⟩
 ·have key:∀u v,(u,v)∈ps→Gr.Adj qs (Cz ns u) (Cz ns v):=fun u v h=>by
   have:=(q2 _).mpr (di.mpr ⟨_,h,rfl⟩)
   unfold nm at this
   simp only at this
   rcases ja (Cz ns u) (Cz ns v) with c|c
   ·rw[jQ c,kP c] at this
    exact .inl this
   ·rw[jF c,lu c] at this
    exact .inr this
  rcases h with h|h
  ·exact key u v h
  ·exact(key v u h).symm
 ·have key:∀u v,(u,v)∈qs→Gr.Adj ps ((ns.idxOf u:Nat):Int) ((ns.idxOf v:Nat):Int):=fun u v h=>by
   obtain⟨p,hp,e⟩:=di.mp ((q2 _).mp h)
   have hw:=wr.wn.hw p hp
   have a:=ts p.1 (by omega) (by omega)
   have b:=ts p.2 (by omega) (by omega)
   unfold nm at e
   have e1:=congrArg gi e
   have e2:=congrArg Prod.snd e
   simp only at e1 e2
   rcases ja (Cz ns p.1) (Cz ns p.2) with c|c
   ·rw[jQ c] at e1
    rw[kP c] at e2
    rw[←e1,←e2,a.1,b.1]
    exact .inl hp
   ·rw[jF c] at e1
    rw[lu c] at e2
    rw[←e1,←e2,a.1,b.1]
    exact .inr hp
  rcases h with h|h
  ·exact key u v h
  ·exact(key v u h).symm
end K19
namespace SrtG
open PySem PySem.Calls PySem.W PyProof.Rows
def Kx(h:Heap)(v:Value)(r:List Int):Prop:=∃x o xs n,v=.ref x∧h.get? x=some o∧o.cls=.type "tuple"∧o.data=.seq (jZ xs) n∧IntsAre xs r
def Xe:Value→Option Int
 | .int a _=>some a
 |_=>none
theorem Nb:∀{vs:List Value} {ns:List Int},IntsAre vs ns→vs.filterMap Xe=ns
 |_,_,.nil=>rfl
 |_,_,.cons n t r=>by rw[fq];show n::_=_;rw[Nb r]
def Zr(h:Heap)(v:Value):Int:=match v with
  | .ref x=>match h.get? x with
    |some o=>match o.data with
     | .seq xs _=>GrR.rk (xs.toList.filterMap Xe)
     |_=>0
    |_=>0
  |_=>0
theorem FE{h:Heap}{v:Value}{r:List Int}(p:Kx h v r):Zr h v=GrR.rk r:=by
 obtain⟨x,o,xs,n,e1,e2,_,e3,e4⟩:=p
 unfold Zr
 rw[e1]
 dsimp only
 rw[e2]
 dsimp only
 rw[e3]
 show GrR.rk (xs.filterMap Xe)=_
 rw[Nb e4]
theorem Dx:∀(r:List Int) (a:Int),r.foldl (fun a v=>a*32+v) a=a*32^r.length+GrR.rk r
 | [],a=>by show a=a*1+0;omega
 |v::r,a=>by
  show r.foldl (fun a v=>a*32+v) (a*32+v)=_
  have e:GrR.rk (v::r)=v*32^r.length+GrR.rk r:=by
   show r.foldl (fun a v=>a*32+v) (0*32+v)=_
   rw[Dx r,Int.zero_mul,Int.zero_add]
  rw[Dx r,e,dm,mD,mS,Int.mul_comm (32^r.length) 32,←Int.mul_assoc,Int.add_assoc]
theorem DE{v:Int}{r:List Int}:GrR.rk (v::r)=v*32^r.length+GrR.rk r:=by
 show r.foldl (fun a v=>a*32+v) (0*32+v)=_
 rw[Dx r,Int.zero_mul,Int.zero_add]
theorem Rv:∀{r:List Int},(∀z∈r,0≤z∧z<32)→0≤GrR.rk r∧GrR.rk r<32^r.length
 | [],_=>by show(0:Int)≤0∧(0:Int)<1;omega
 |v::r,h=>by
  have h1:=h v (by simp)
  have h2:=Rv (r:=r) fun z hz=>h z (df _ hz)
  rw[DE,dm,mD]
  have hp:(0:Int)<32^r.length:=Int.pow_pos (by decide)
  have e1:=Int.mul_nonneg h1.1 (gH hp)
  have e2:v*32^r.length≤31*32^r.length:=iK (by omega) (gH hp)
  omega
theorem VE{a c:Int}{r q:List Int}(hl:r.length=q.length)(hr:∀z∈r,0≤z∧z<32)(hq:∀z∈q,0≤z∧z<32)(h:a≠c):decide (a<c)=decide (GrR.rk (a::r)<GrR.rk (c::q)):=by
 have h1:=Rv hr
 have h2:=Rv hq
 rw[DE,DE,hl]
 rw[hl] at h1
 generalize (32:Int)^q.length=B at*
 refine decide_eq_decide.mpr ⟨fun z=>?_,fun z=>?_⟩
 ·have:(a+1)*B≤c*B:=iK (by omega) (by omega)
  rw[mS,Int.one_mul] at this
  omega
 ·by_cases z2:a<c
  ·exact z2
  ·have:(c+1)*B≤a*B:=iK (by omega) (by omega)
   rw[mS,Int.one_mul] at this
   omega
variable{prog:Program}{w:World}{A:dy}{E:Value→a7→Prop}{s:a7}
theorem Nc{Q:Bool→a7→Prop}:∀{xs ys:List Value} {ns ms:List Int} {i:Nat},IntsAre xs ns→IntsAre ys ms→ns.length=ms.length→(∀z∈ns,0≤z∧z<32)→(∀z∈ms,0≤z∧z<32)→Q (decide (GrR.rk ns<GrR.rk ms)) s→KatLex prog w A true false Q (xs.zip ys) (i+1) s
 |_,_,_,_,_,.nil,.nil,_,_,_,h=>kat_nil (by simpa using h)
 |_,_,_,_,_,.nil,.cons _ _ _,hl,_,_,_=>by cases hl
 |_,_,_,_,_,.cons _ _ _,.nil,hl,_,_,_=>by cases hl
 |_,_,_,_,_,@IntsAre.cons a t vs ns hx,@IntsAre.cons c u us ms hy,hl,hr,hq,h=>by
  have hl':ns.length=ms.length:=by simpa using hl
  have hr':=fun z (hz:z∈ns)=>hr z (df _ hz)
  have hq':=fun z (hz:z∈ms)=>hq z (df _ hz)
  refine kat_cons (i5 (kat_go (fun e=>kat_yes ?_) fun e=>?_))
  ·have e':=eq_of_beq e
   subst e'
   refine Nc hx hy hl' hr' hq' ?_
   rw[DE,DE,hl'] at h
   rw[show decide (GrR.rk ns<GrR.rk ms)=decide (a*32^ms.length+GrR.rk ns<a*32^ms.length+GrR.rk ms) from decide_eq_decide.mpr (by omega)]
   exact h
  ·have e':a≠c:=fun q=>by rw[q] at e;simp at e
   exact kat_no (kat_one _ _ (lt_int (by rw[VE hl' hr' hq' e'];exact h)))
def bN(k:Nat)(h:Heap)(v:Value):Prop:=∃r,Kx h v r∧r.length=k+1∧∀z∈r,0≤z∧z<32
theorem UU{k:Nat}:Rk prog w (bN k) Zr (.type "int") where
 cmp:=by
  intro A E s st x y Q hk hx hy h
  obtain⟨r,px,lx,bx⟩:=hx
  obtain⟨q,py,ly,bY⟩:=hy
  have h:Q (some (decide (Zr s.heap x.1<Zr s.heap y.1))) st:=h
  rw[FE px,FE py] at h
  obtain⟨p,o,xs,n,e1,e2,_,e3,e4⟩:=px
  obtain⟨p',o',ys,n',e1',e2',_,e3',e4'⟩:=py
  rw[lt'_eq]
  refine b7 (jg ?_)
  rw[hk,e1,e1']
  refine b7 (jJ (je ?_))
  refine PySem.W.kat_lt e2 e3 e2' e3' ?_
  have fin:∀b:Bool,b=decide (GrR.rk r<GrR.rk q)→(s=s∧wpS (model prog w) A E s (match (Except.ok b:Except Value Bool) with
    | .ok b=>pure (some b)
    | .error e=>do
     modify (fun s=>kc (kindOf s) (arrOf s) (pendingOf s) (gallopOf s) (some e))
     pure none) Q st):=fun b hb=> ⟨rfl,by rw[hb];exact da h⟩
  cases e4 with
  |nil=>cases lx
  | @cons a t vs ns hx=>
   cases e4' with
   |nil=>cases ly
   | @cons c u us ms hy=>
    have hl:ns.length=ms.length:=by simp only[dm] at lx ly;omega
    have hv:vs.length=us.length:=by rw[hx.length,hy.length];exact hl
    have br:=fun z (hz:z∈ns)=>bx z (df _ hz)
    have bq:=fun z (hz:z∈ms)=>bY z (df _ hz)
    have sz:decide ((jr a t::vs).toArray.size< (jr c u::us).toArray.size)=false:=decide_eq_false (by simp[hv])
    rw[sz]
    refine kN (r:=vs.zip us) (i5 ?_)
    refine lK (fun e=>?_) (fun e=>?_)
    ·have e':=eq_of_beq e
     subst e'
     refine k8 (Nc hx hy hl br bq (fin _ ?_))
     rw[DE,DE,hl]
     exact decide_eq_decide.mpr (by omega)
    ·have e':a≠c:=fun q=>by rw[q] at e;simp at e
     exact lJ (oneLt_int (fin _ (VE hl br bq e')))
 kept:=by
  rintro h h' v ⟨r,p,q⟩ k
  have p':Kx h' v r:=by
   obtain⟨x,o,xs,n,e1,e2,e3,e4,e5⟩:=p
   exact⟨x,o,xs,n,e1,k _ _ e3 e2,e3,e4,e5⟩
  exact⟨⟨r,p',q⟩,by rw[FE p,FE p']⟩
 kat:=fun{h vs}=>by
  induction vs with
  |nil=>exact fun _=> ⟨[],mB.nil,rfl,fun v hv=>by cases hv⟩
  |cons v vs ih=>
   intro ok
   obtain⟨fs,k,hl,hf⟩:=ih fun v hv=>ok v (.tail _ hv)
   obtain⟨r,⟨x,o,xs,n,rfl,e,hc,hd,e5⟩,lr,_⟩:=ok v (.head _)
   cases e5 with
   |nil=>cases lr
   |cons a t hx=>
    exact⟨.int a t::fs,mB.cons e hc hd rfl k,by rw[dm,dm,hl],fun v hv=>by
     rcases dh.mp hv with rfl|hv
     ·exact fun M h'=>fun _ _ _ _ _ q=>b5 q
     ·exact hf v hv⟩
 t1:=rfl
 t2:=rfl
end SrtG
namespace L2
open PySem PySem.Spec PySem.Calls PyProof.Rows SrtG
section
variable{X:Cx}{pins:List (Addr×Obj)}{σ:St}{H:Hp}{s:a7}
theorem Inv.rowAt{x:Addr}{r:List Int}(I:Inv X pins σ H s)(h:IJ X.K H x (r.map V.int)):Kx s.heap (.ref x) r:=by
 obtain⟨its,rr,⟨o,ho,hc,n,hd⟩,hz⟩:=I.tuple h
 exact⟨x,o,its,n,rfl,ho,hc,hd,Fo rr⟩
theorem Gx:∀{ps:List (List Int×Addr)} {us:List Value},Vals (ps.map fun p=>V.ref p.2) us→us=ps.map fun p=>Value.ref p.2
 | [],us,r=>by rw[jy] at r;cases r;rfl
 |p::ps,us,r=>by
  rw[dF] at r
  cases r with
  |cons r1 r2=>
   rw[Gx r2]
   have r1:_=Value.ref p.2:=r1
   rw[r1]
   rfl
theorem Gy:∀(ps:List (List Int×Addr)),Vals (ps.map fun p=>V.ref p.2) (ps.map fun p=>Value.ref p.2)
 | []=> .nil
 |p::ps=> .cons rfl (Gy ps)
theorem JY:Av X (.builtin "sorted") (fun xs H Q=>∃(a:Addr) (ks:List (List Int×Addr)) (m:Nat),xs=[.ref a]∧Dj X.K H a (ks.map fun p=>V.ref p.2)∧(∀k x,(k,x)∈ks→IJ X.K H x (k.map V.int)∧k.length=m+1∧∀z∈k,0≤z∧z<32)∧ks.length≤9000000∧
  ∀(p:Addr) (ms:List (List Int×Addr)),H p=none→ms.Perm ks→ms.Pairwise (fun x y=>GrR.rk x.1≤GrR.rk y.1)→Q (.ref p) (upd H p (.lst (ms.map fun p=>V.ref p.2)))):=by
 intro pins s σ H xs us Q I r h
 obtain⟨a,ks,m,rfl,hS,hk,hn,q⟩:=h
 obtain⟨u,rfl,ru⟩:=Vals.one r
 cases ru
 obtain⟨its,rv,⟨o,n,e1,e2,_,e3⟩,_⟩:=I.list hS
 have ei:=Gx rv
 subst ei
 have at_:∀k x,(k,x)∈ks→Kx s.heap (.ref x) k:=fun k x h=>I.rowAt (hk k x h).1
 refine Ln e1 e2 e3 (UU (k:=m)) (fun v hv=>?_) (by rw[a9];omega) fun h' b out c hb hg kp pm pw=>?_
 ·obtain⟨⟨k,x⟩,hx,rfl⟩:=di.mp hv
  exact⟨k,at_ k x hx,(hk k x hx).2⟩
 ·obtain⟨ms,pm',rfl⟩:=BL pm rfl
  have hf:H b=none:=I.hok.none_of hb
  refine⟨.ref b,upd H b (.lst (ms.map fun p=>V.ref p.2)),I.laidF (t':=s.toks) kp hb ⟨?_,_,c,Gy ms,hg⟩,rfl,q b ms hf pm' ?_⟩
  ·rw[a9,pm'.length_eq,e8]
   omega
  ·rw[eT] at pw
   refine fJ (fun{x y} hx hy z=>?_) pw
   rw[FE (at_ x.1 x.2 (pm'.mem_iff.mp hx)),FE (at_ y.1 y.2 (pm'.mem_iff.mp hy))] at z
   exact z
end
end L2
namespace L2.TL
open PySem PySem.Spec PyProof.Rows SrtG
section
variable{K:a5}{O:AI}{H:Hp}
theorem IE:∀{ks:List (List Int)} {xs:List V},Reps K O H xs (ks.map fun r=>T.tup (r.map T.int))→∃qs:List (List Int×Addr),xs=qs.map (fun p=>V.ref p.2)∧qs.map (·.1)=ks∧∀k x,(k,x)∈qs→H x=some (.tup (k.map V.int))
 | [],xs,r=> ⟨[],r.nil_inv,rfl,fun _ _ h=>by cases h⟩
 |p::ks,xs,r=>by
  obtain⟨v,vs',rfl,h,r'⟩:=Reps.cons_inv r
  obtain⟨a,ys,rfl,ha,r2⟩:=h.tup_inv
  cases Reps.ints (ns:=p) r2
  obtain⟨qs,rfl,e,hk⟩:=IE r'
  refine⟨(p,a)::qs,rfl,by rw[dF,e],fun k x h=>?_⟩
  rcases dh.mp h with h|h
  ·cases h;exact ha
  ·exact hk k x h
theorem IF:∀{qs:List (List Int×Addr)},(∀k x,(k,x)∈qs→H x=some (.tup (k.map V.int)))→Reps K O H (qs.map fun p=>V.ref p.2) ((qs.map (·.1)).map fun r=>T.tup (r.map T.int))
 | [],_=> .nil
 | (k,x)::qs,h=> .cons (.tup (h k x (dR ..)) (CY _)) (IF fun k x hk=>h k x (df _ hk))
end
section
variable{Z:Zx}{ρ:List (Option T)}{O:AI}{e:Expr}{Φ:BH}{p pos:Pos}{ks:List (List Int)}
end
section
variable{Z:Zx}{ρ:List (Option T)}{O:AI}{e:Expr}{Φ:BH}{p pos:Pos}{ks:List (List Int)}
theorem MK{m:Nat}(mm:Z.X.mg "sorted" =none)(h:ET Z ρ O e (.lst (ks.map fun r=>T.tup (r.map T.int))))(hk:∀k∈ks,k.length=m+1∧∀z∈k,0≤z∧z<32)(hn:ks.length≤9000000)(k:∀ms:List (List Int),ms.Perm ks→ms.Pairwise (fun x y=>GrR.rk x≤GrR.rk y)→Φ (.lst (ms.map fun r=>T.tup (r.map T.int))) O)(hg:Gl Z.X "sorted":=by rfl)
  (he:b4 [e] Z.X.env=(false,eval e Z.X.env)::b4 [] Z.X.env:=by rfl):WE Z ρ O (.Call (.Name "sorted" p) [e] [] pos) Φ:=
 GR JY mm Ip (AJ h AC he _ (fun H vs Q ok r q'=>by
  obtain⟨v,rfl,r1⟩:=r.one_inv
  obtain⟨a,xs,rfl,h1,_,r1⟩:=r1.lst_inv
  obtain⟨qs,rfl,rfl,hq⟩:=IE r1
  refine⟨a,qs,m,rfl,.inl (.inl h1),fun k x hx=> ⟨.inl (.inl (hq k x hx)),hk k (di.mpr ⟨(k,x),hx,rfl⟩)⟩,by simpa using hn,fun p ms hp pm pw2=>?_⟩
  have r2:Reps Z.K O H (ms.map fun p=>V.ref p.2) ((ms.map (·.1)).map fun r=>T.tup (r.map T.int)):=IF fun k x hx=>hq k x (pm.mem_iff.mp hx)
  exact q' _ _ _ O (k (ms.map (·.1)) (pm.map _) (eT.mpr pw2)) (.new ok hp) (.lst AZ (ok.none_of hp) (r2.kp (Cp ok hp) ok)))) hg (by decide) (by decide) he
theorem ML{ps:List (Int×Int)}(mm:Z.X.mg "sorted" =none)(h:ET Z ρ O e (.lst (ps.map AF)))(hb:∀q∈ps,(0≤q.1∧q.1<32)∧0≤q.2∧q.2<32)(nd:ps.Nodup)(hn:ps.length≤9000000)(k:∀qs:List (Int×Int),qs.Perm ps→qs.Pairwise Dm→Φ (.lst (qs.map AF)) O)(hg:Gl Z.X "sorted":=by rfl)
  (he:b4 [e] Z.X.env=(false,eval e Z.X.env)::b4 [] Z.X.env:=by rfl):WE Z ρ O (.Call (.Name "sorted" p) [e] [] pos) Φ:=by
 have e2:∀qs:List (Int×Int),(qs.map fun q=> [q.1,q.2]).map (fun r=>T.tup (r.map T.int))=qs.map AF:=fun qs=>by rw[eJ];rfl
 refine MK (m:=1) (ks:=ps.map fun q=> [q.1,q.2]) mm (by rw[e2];exact h) (fun r hr=>?_) (by rw[a9];exact hn) (fun ms pm pw=>?_) hg he
 ·obtain⟨q,hq,rfl⟩:=di.mp hr
  refine⟨rfl,fun z hz=>?_⟩
  simp only[dh,fv,or_false] at hz
  rcases hz with rfl|rfl
  ·exact(hb q hq).1
  ·exact(hb q hq).2
 ·obtain⟨qs,pm',rfl⟩:=BL pm rfl
  rw[e2]
  refine k qs pm' ?_
  have nd':qs.Nodup:=pm'.nodup_iff.mpr nd
  rw[eT] at pw
  refine dX.imp ?_ (dX.and_mem.mp (dX.and pw nd'))
  rintro x y ⟨hx,hy,h1,h2⟩
  have b1:=hb x (pm'.mem_iff.mp hx)
  have b2:=hb y (pm'.mem_iff.mp hy)
  have h1:(0*32+x.1)*32+x.2≤(0*32+y.1)*32+y.2:=h1
  have h2:¬(x.1=y.1∧x.2=y.2):=fun z=>h2 (fZ z.1 z.2)
  unfold Dm
  omega
end
end L2.TL
namespace L2
open PySem PySem.Spec PyProof.Rows
section
variable{X:Cx}
theorem Ky:Av X (.type "range") (fun vs H Q=>∃k l:Int,vs=[.int k,.int l]∧∀p,H p=none→Q (.ref p) (upd H p (.rng k l))):=by
 intro pins s σ H vs us Q I r h
 obtain⟨k,l,rfl,q⟩:=h
 obtain⟨u1,u2,rfl,⟨t1,rfl⟩,⟨t2,rfl⟩⟩:=MU r
 have hf:H s.heap.objs.size=none:=I.hok.fresh (de _)
 exact call_range_2 ⟨.ref s.heap.objs.size,upd H s.heap.objs.size (.rng k l),I.laid (fun b u e=>c9 _ e) (de _) ⟨_,_,_,dN _ rfl⟩,rfl,q _ hf⟩
end
end L2
namespace L2.TL
open PySem PySem.Spec PyProof.Rows
section
variable{Z:Zx}{ρ:List (Option T)}{O:AI}{a b c:Expr}{p pos pos1:Pos}{i k l:Int}
end
end L2.TL
namespace L2
open PySem PySem.Spec PyProof.Rows
section
variable{X:Cx}
theorem Kz(hc:X.calm=true):Av X (.type "list") (fun vs H Q=>∃(a:Addr) (k:Int) (n:Nat),vs=[.ref a]∧H a=some (.rng k (k+n))∧0≤k∧k≤1000∧n≤1000∧∀p,H p=none→Q (.ref p) (upd H p (.lst ((dv n).map fun(i:Nat)=>V.int (k+i))))):=by
 intro pins s σ H vs us Q I r h
 obtain⟨a,k,n,rfl,ha,k0,k1,n1,q⟩:=h
 obtain⟨u,rfl,ru⟩:=DJ r
 cases ru
 obtain⟨t,u,v,hr⟩:=I.hok a _ ha
 have hf:H s.heap.objs.size=none:=I.hok.fresh (de _)
 have hn:js k (k+n) 1=n:=by rw[lV];split<;>omega
 refine call_list_range (I.ok.hd hc) hr (small_one (by omega) (by omega) (by omega) (by omega)) hn (by omega) fun h' tk acc c hk hD hacc=>?_
 refine⟨.ref s.heap.objs.size,_,I.laid (o:=.lst ((dv n).map fun(i:Nat)=>V.int (k+i))) (t':=tk) hk (de _) ⟨?_,acc.toList,c,?_,by rw[Array.toArray_toList];exact hD⟩,rfl,q _ hf⟩
 ·rw[a9,fk,e8];omega
 ·have all:∀(l:List Value) (n m:Nat),l.length=n→(∀i v,l[i]?=some v→∃t,v=jr (k+((m+i:Nat):Int)) t)→Vals ((List.range' m n).map fun(i:Nat)=>V.int (k+i)) l:=by
   intro l
   induction l with
   |nil=>intro n m e _;subst e;exact .nil
   |cons x l ih=>
    intro n m e hv
    subst e
    rw[dm,List.range'_succ,dF]
    refine .cons ?_ (ih l.length (m+1) rfl fun i v e=>?_)
    ·obtain⟨t,e⟩:=hv 0 x rfl
     exact⟨t,by rw[e];simp⟩
    ·obtain⟨t,e'⟩:=hv (i+1) v (by simpa using e)
     exact⟨t,by rw[e'];congr 1;omega⟩
  rw[List.range_eq_range']
  refine all acc.toList _ 0 (by rw[dg];exact hacc.1) fun i v e=>?_
  obtain⟨t,e'⟩:=hacc.2 i v (by rw[←dQ];exact e)
  exact⟨t,by rw[e'];congr 1<;>omega⟩
end
end L2
namespace L2.TL
open PySem PySem.Spec PyProof.Rows
section
variable{Z:Zx}{ρ:List (Option T)}{O:AI}{a b:Expr}{p p2 pos pos1:Pos}{k:Int}{n:Nat}
theorem Og(m:Z.X.mg "list" =none)(m2:Z.X.mg "range" =none)(hc:Z.X.calm=true)(ha:ET Z ρ O a (.int k))(hb:ET Z ρ O b (.int (k+n)))(h0:0≤k)(h1:k≤1000)(h2:n≤1000)
  (hg:Gl Z.X "list":=by rfl) (hg2:Gl Z.X "range":=by rfl) (he:b4 [a,b] Z.X.env=(false,eval a Z.X.env)::b4 [b] Z.X.env:=by rfl) (heb:b4 [b] Z.X.env=(false,eval b Z.X.env)::b4 [] Z.X.env:=by rfl) (hpl:(gI pos1 (b4 [b] Z.X.env)).any (·.1)=false:=by rfl) (he2:b4 [mL (.Name "range" p2) [a,b] [] pos1] Z.X.env=(false,eval (.Call (.Name "range" p2) [a,b] [] pos1) Z.X.env)::b4 [] Z.X.env:=by rfl):ET Z ρ O (.Call (.Name "list" p) [.Call (.Name "range" p2) [a,b] [] pos1] [] pos) (.lst (((dv n).map fun(i:Nat)=>k+(i:Int)).map T.int)):=fun Φ q=>by
 refine PE.weak (BI (Kz hc) hg m KQ (DY (BI Ky hg2 m2 Lh (HD (ρ:=ρ)) (by decide) (by decide) he hpl) Ei he2) (by decide) (by decide) he2) fun σ H Q kk=>?_
 refine⟨O,_,AJ ha (AJ hb AC heb) he (fun ts O'=>ts=[.int k,.int (k+n)]∧O'=O) ⟨rfl,rfl⟩,kk.1,?_⟩
 rintro vs H1 _ _ ⟨rfl,rfl⟩ f r
 obtain⟨v1,v2,rfl,r1,r2⟩:=r.two_inv
 cases r1.int_inv
 cases r2.int_inv
 refine⟨k,k+n,rfl,fun p hp=> ⟨p,k,n,rfl,AZ,h0,h1,h2,fun l hl=>?_⟩⟩
 have f1:=Frm.new (o:=.rng k (k+n)) f.ok hp
 refine kk.2 _ _ _ _ q (f.trans (f1.trans (.new f1.ok hl))) (.lst AZ (f1.ok.none_of hl) ?_)
 have e:((dv n).map fun(i:Nat)=>V.int (k+i))=(((dv n).map fun(i:Nat)=>k+(i:Int)).map V.int):=by rw[eJ];rfl
 rw[e]
 exact CY _
end
end L2.TL
namespace K19
open PySem L2 L2.TL PySem.Spec PyProof.Rows
def aI(i:Nat):Stmt:=(Ai Gc).getD i (.Pass ⟨0,0,0,0⟩)
def bO:Stmt→Expr
 | .For _ e _ _ _=>e
 |_=> .Constant .none 0 ⟨0,0,0,0⟩
def Xf:Stmt→List Stmt
 | .For _ _ b _ _=>b
 |_=> []
def MM:List Str:=["_law_script","_law_five","_law_size","_law_ring","_law_every","_law_sides","_law_cell","_law_pen","_law_web","_law_many","_law_steps"]
theorem DX:FnScope MM ["_law_script"] (AA Gc):=⟨rfl,rfl,rfl,by decide+kernel,rfl,by decide+kernel,by decide+kernel⟩
theorem Zs:(Ag ["_law_place"] []).Nodup:=by decide+kernel
theorem Zt:(Ag ["_law_k"] [(("_law_size" :Str),2)]).Nodup:=by decide+kernel
theorem Zu:(Ag ["_law_step"] [(("_law_pen" :Str),7)]).Nodup:=by decide+kernel
section
variable{P:Program}{w:World}{K:a5}{mg:Str→Option Value}{base:Heap}{f:Addr}{cdv:Value}{A:dy}{outer:List Env}{s:a7}{H:Hp}{E:XK}
abbrev zL(P:Program)(w:World)(K:a5)(mg:Str→Option Value)(base:Heap)(f:Addr)(cdv:Value)(A:dy)(outer:List Env)(s:a7)(H:Hp)(E:XK):Zx:=zB P w K mg base MM "law" (AA Gc) f cdv A outer s H E QK (fun _ _=>False)
structure Has(P:Program)(w:World)(K:a5)(mg:Str→Option Value)(base:Heap)(CP:Addr):Prop where
 tx:Txt mg
 gd:FnT P w K mg base "_law_draw" 2 ["_law_pen","_law_many"] Aq
 gp:FnT P w K mg base "_law_pen_of" 1 ["_law_cell"] Ur
 gy:FnT P w K mg base "_law_web_by" 4 ["_law_pen","_law_most"] NK
 gu:FnT P w K mg base "_law_turned" 2 ["_law_many","_law_steps"] Cc
 gn:FnT P w K mg base "_law_names_by" 3 ["_law_pen","_law_many"] Dg
 gr:FnT P w K mg base "renamed" 3 ["web","names"] (ID CP)
 gb:FnT P w K mg base "tight_by" 4 ["web"] NS
 gf:FnT P w K mg base "_law_fit_right" 7 ["_law_web"] VD
def Nd(K:a5):Sp:=fun vs H Q _=>∃(a:Addr) (ns:List Int),vs=[.ref a]∧Dj K H a (ns.map V.int)∧ns.length≤63∧∀H',Q (.bl true) H'
def bP:BH:=fun t _=>t=.bl true
theorem JZ{Z:Zx}{ρ:List (Option T)}{O:AI}{a b:Expr}{pos:Pos}{p:Int×Int}(hu:Z.X.A.units+101<cLine)(ha:ET Z ρ O a (JR (some p)))(hb:ET Z ρ O b (AF p)):EB Z ρ O (.Compare a [.NotEq] [b] pos) false:=
 EB.cast (CH (Lm hu) (Ad _) (QO Ef Ef Dw) ha hb) (by rw[show gX (dT (AF p)) (dT (AF p))=true from Gw];rfl)
def Xg:List (Int×Int):=[(0,1),(1,2),(2,3),(3,4),(0,4),(5,7),(7,9),(6,9),(6,8),(5,8)]
def UV:List (Int×Int):=Xg++(dv 5).map fun(j:Nat)=> (0+(j:Int),0+(j:Int)+5)
theorem UW:UV.Perm UQ:=List.isPerm_iff.mp (by decide+kernel)
theorem Zv{qs:List (Int×Int)}(pm:qs.Perm UV)(pw:qs.Pairwise Dm):qs=UQ:=by
 have c:=MF
 rw[dS,dS] at c
 exact JW pw (JX c.2.1) fun v=> (pm.trans UW).mem_iff
theorem Rx:WebR 10 UQ:=by
 have c:=MF
 rw[dS,dS] at c
 exact Kw (N:=10) (by decide) (by decide) (JX c.2.1) (Rm c.1)
theorem Zw:Fh 10 UQ=some (3,5):=by
 have c:=MF
 rw[dS,dS] at c
 exact JV (N:=10) Rx c.2.2
abbrev HI(a:Addr)(v1 v2 v3 v4 v5 v6 v7 v8 v9 v10:Option T):List (Option T):=[some (.raw (.ref a)),v1,v2,v3,v4,v5,v6,v7,v8,v9,v10]
theorem Ry{a:Addr}{CP:Addr}{Ψ:Es}(B:Has P w K mg base CP)(hr:Room 7 (zL P w K mg base f cdv A outer s H E).X.A)(xf:XFly (zL P w K mg base f cdv A outer s H E).X (zL P w K mg base f cdv A outer s H E).W)
  (k:∀v1,HS (zL P w K mg base f cdv A outer s H E) (HI a v1 none none none none none none none none none) QK ((Ai Gc).drop 3) Ψ):HS (zL P w K mg base f cdv A outer s H E) (Cv MM [.raw (.ref a)]) QK (Ai Gc) Ψ:=by
 have sb:=AQ
 have hu:(zL P w K mg base f cdv A outer s H E).X.A.units+101<cLine:=by have:=hr.un;omega
 refine AW ?_
 refine My (ts:=Xg.map AF) 1 ?hE ?hl ?hk DX.nd ?ha ?hb ?hc
 case ha=>rfl
 case hb=>exact kg rfl
 case hc=>exact .inl rfl
 case hE=>exact CPs.hea (ps:=Xg) (.cons (.cons (.cons (.cons (.cons (.cons (.cons (.cons (.cons (.cons .nil))))))))))
 case hl=>
  rw[a9]
  exact eY (show 10≤1000 by decide) (iu sb)
 refine AW (AS 1 (Ba (BQ (ET.we AB (BQ (BX B.tx.nTuple (ML (ps:=UV) B.tx.nSorted (ET.cast (FX (ev 1) (CK ["_law_place"] [] (dv 5) (fun(j:Nat)=> .int (0+(j:Int))) (fun(j:Nat)=>AF (0+(j:Int),0+(j:Int)+5)) rfl (Bl (AA Gc) MM (by decide+kernel)) (Am (k:=5) B.tx.nRange AB ⟨by decide,by decide⟩) (by show 5≤sizeLine;decide) fun x hx=> ⟨[some (.int (0+x))],fun X' Oe He is O'=>?c1⟩) (by rw[a9,a9];exact eY (show 15≤1000 by decide) (iu sb))) (by unfold UV;rw[eG,eJ];rfl)) (by decide+kernel) (by decide+kernel) (by decide+kernel) fun qs pm pw=> ⟨_,rfl,Ae ⟨by show 2≤sizeLine;decide,?c2⟩⟩)))))) DX.nd)
 case c1=>
  obtain⟨cl,s',H',fp,rfl⟩:=is
  exact⟨AU 0 Zs (by decide),Bw (ev 0) (Au (ev 0) AB)⟩
 case c2=>
  have:=Zv pm pw
  subst this
  exact AW (Af (k:=false) (EW.eb (EW.cast (BR (x:=false) (y:=false) (JZ hu (ET.cast (Aa B.gb (hr.mono (by decide)) xf (AE (ev 1) AC) ⟨10,UQ,rfl,Rx,rfl⟩) (by rw[Zw])) (BM (AE AB (AE AB AC)) (by show 2≤sizeLine;decide))) fun _=>Cr (EB.cast (BS (k:=true) (Br (Aa B.gf hr xf (AE (ev 1) AC) ⟨10,UQ,rfl,Rx,by decide,rfl⟩))) rfl)) rfl)) (fun h=>by cases h) fun _=>Ah (k _))
theorem Xh{i:Nat}(h:i<6):WebR ((2*(i+3):Nat):Int) (VA (i+3))∧Fh ((2*(i+3):Nat):Int) (VA (i+3))=some (((i+3:Nat):Int),((4:Nat):Int)):=by
 have c:=XW i h
 rw[dS,dS] at c
 have wr:=Kw (N:=2*(i+3)) (by omega) (by omega) (JX c.2.1) (Rm c.1)
 exact⟨wr,JV wr c.2.2⟩
theorem Xj{i:Nat}{qs:List (Int×Int)}(h:i<6)(h1:qs.Pairwise Dm)(h2:∀q∈qs,AL ((i+3:Nat):Int) q)(h3:∀q,q∈qs↔q∈JG ((i+3:Nat):Int) [1]):WebR ((i+3:Nat):Int) qs∧Fh ((i+3:Nat):Int) qs=some (((2:Nat):Int),((i+3:Nat):Int)):=by
 have wr:=Kw (N:=i+3) (by omega) (by omega) h1 h2
 refine⟨wr,?_⟩
 have:=NW h1 h2 h3
 subst this
 exact JV wr (XT i h)
theorem Xk{i:Nat}{qs:List (Int×Int)}(h:i<6)(h1:qs.Pairwise Dm)(h2:∀q∈qs,AL ((i+3:Nat):Int) q)(h3:∀q,q∈qs↔q∈JG ((i+3:Nat):Int) (Rj (i+3))):WebR ((i+3:Nat):Int) qs∧Fh ((i+3:Nat):Int) qs=some (((i+2:Nat):Int),((3:Nat):Int)):=by
 have wr:=Kw (N:=i+3) (by omega) (by omega) h1 h2
 refine⟨wr,?_⟩
 have:=NW h1 h2 h3
 subst this
 exact JV wr (XU i h)
theorem Rz{O:AI}{a CP:Addr}{i:Nat}{v1 v3 v4 v5 v6 v7 v8 v9 v10:Option T}{N Bk Ct:HE}{Φ:BH}(B:Has P w K mg base CP)(hr:Room 7 (zL P w K mg base f cdv A outer s H E).X.A)(xf:XFly (zL P w K mg base f cdv A outer s H E).X (zL P w K mg base f cdv A outer s H E).W)(hi:i<6)
  (k:∀v3 v4 v5,N (HI a v1 (some (.int ((i+3:Nat):Int))) v3 v4 v5 v6 v7 v8 v9 v10) O):HS (zL P w K mg base f cdv A outer s H E) (HI a v1 (some (.int ((i+3:Nat):Int))) v3 v4 v5 v6 v7 v8 v9 v10) O (Xf (aI 3)) {nx:=N,rt:=Φ,bk:=Bk,ct:=Ct}:=by
 have sb:=AQ
 have hu:(zL P w K mg base f cdv A outer s H E).X.A.units+101<cLine:=by have:=hr.un;omega
 have sq:(i+3)*(i+3)≤8*8:=Nat.mul_le_mul (by omega) (by omega)
 have sqi:((i+3:Nat):Int)*((i+3:Nat):Int)=(((i+3)*(i+3):Nat):Int):=(lj ..).symm
 refine AW (QV 3 4 rfl DX.nd (BQ (AO B.gu (hr.mono (by decide)) xf (EA.wa (AE (ev 2) (AE (DQ (ts:=[(1:Int)].map T.int) (AE AB AC) (by show 1≤sizeLine;decide)) AC)) ⟨((i+3:Nat):Int),[1],rfl,by omega,by omega,by decide,(fun s hs=>by rw[a8.mp hs];omega),fun rs r1 r2 _ r3=>BQ (AO B.gu (hr.mono (by decide)) xf (EA.wa (AE (ev 2) (AE (Og (k:=1) (n:=(i+3)/2) B.tx.nList B.tx.nRange rfl AB (ET.cast (Au (Bq (ev 2) AB ⟨by decide,by decide⟩) AB) (by congr 1;omega)) (by decide) (by decide) (by omega)) AC)) ⟨((i+3:Nat):Int),Rj (i+3),rfl,by omega,by omega,?_,(fun s hs=>?_),fun es e1 e2 _ e3=>Ae ⟨_,_,rfl,?_⟩⟩))⟩))))
 ·unfold Rj
  rw[a9,fk]
  omega
 ·unfold Rj at hs
  obtain⟨j,hj,rfl⟩:=di.mp hs
  have:=dW.mp hj
  omega
 obtain⟨wr1,t1⟩:=Xj hi r1 r2 r3
 obtain⟨wr2,t2⟩:=Xk hi e1 e2 e3
 obtain⟨wr3,t3⟩:=Xh hi
 refine AW (Af (k:=false) (EW.eb (EW.cast (BR (x:=false) (y:=false) (JZ hu (ET.cast (Aa B.gb (hr.mono (by decide)) xf (AE (ev 3) AC) ⟨_,rs,rfl,wr1,rfl⟩) (by rw[t1])) (BM (AE AB (AE (ev 2) AC)) (by show 2≤sizeLine;decide))) fun _=>EW.cast (BR (x:=false) (y:=false) (JZ hu (ET.cast (Aa B.gb (hr.mono (by decide)) xf (AE (ev 4) AC) ⟨_,es,rfl,wr2,rfl⟩) (by rw[t2])) (ET.cast (BM (AE (CF (ev 2) AB) (AE AB AC)) (by show 2≤sizeLine;decide)) (by unfold AF;congr 3;simp;omega))) fun _=>Cr (EB.cast (BS (k:=true) (Br (Aa B.gf hr xf (AE (ev 4) AC) ⟨_,es,rfl,wr2,by omega,rfl⟩))) rfl)) rfl) rfl)) (fun h=>by cases h) fun _=>Ah ?_)
 refine AW (AS 5 (ET.we (t:=Bm ((2*(i+3):Nat):Int) (VA (i+3))) (BM (AE (ET.cast (Ds AB (ev 2) (.inl ⟨by decide,by decide⟩)) (by congr 1)) (AE (EK B.tx.nTuple (ET.cast (CK ["_law_k"] [("_law_size",2)] (dv ((i+3)*(i+3))) (fun(j:Nat)=> .int (j:Int)) (fun(j:Nat)=>AF (((j/ (i+3):Nat):Int),((i+3+j%(i+3):Nat):Int))) rfl (Bl (AA Gc) MM (by decide+kernel)) (EI.cast (Am B.tx.nRange (Ds (ev 2) (ev 2) (.inl ⟨by omega,by omega⟩)) ⟨?_,?_⟩) ?_) ?_ fun x hx=> ⟨[some (.int (x:Int)),some (.int ((i+3:Nat):Int))],fun X' Oe He is O'=>?_⟩) ?_)) AC)) (by show 2≤sizeLine;decide)) ?_) DX.nd)
 ·rw[sqi];omega
 ·rw[sqi];omega
 ·rw[sqi]
  generalize (i+3)*(i+3)=M
  unfold GT
  simp
 ·rw[fk];omega
 ·obtain⟨cl,s',H',fp,rfl⟩:=is
  refine⟨AU 0 Zt (by decide),ET.cast (Bw (Bq (ev 0) (ev 1) ⟨by omega,by omega⟩) (Au (ev 1) (Cq (ev 0) (ev 1) (by omega)))) ?_⟩
  rfl
 ·unfold VA
  rw[eJ]
  rfl
 ·exact Ir (Af (k:=false) (JZ hu (ET.cast (Aa B.gb (hr.mono (by decide)) xf (AE (ev 5) AC) ⟨_,VA (i+3),rfl,wr3,rfl⟩) (by rw[t3])) (BM (AE (ev 2) (AE AB AC)) (by show 2≤sizeLine;decide))) (fun h=>by cases h) fun _=>Ah (k _ _ _))
theorem Nf{x:Option (Int×Int)}:Dk (JR x)=true:=by
 cases x with
 |none=>rw[JR,Dk]
 |some p=>exact Ef
theorem UX{x:Option (Int×Int)}:(dT (JR x)).depth≤100:=by
 cases x with
 |none=>show 0≤100;decide
 |some p=>exact Dw
theorem SA{x:Option (Int×Int)}:gX (dT (JR x)) (dT (JR x))=true:=by
 cases x with
 |none=>rfl
 |some p=>exact Gw
theorem SB{ρ:List (Option T)}{a:Addr}{ns:List Int}{Φ:BH}{fC:Addr}{fdC:dM}(hr:Room 7 (zL P w K mg base f cdv A outer s H E).X.A)(xf:XFly (zL P w K mg base f cdv A outer s H E).X (zL P w K mg base f cdv A outer s H E).W)(hS:Dj K H a (ns.map V.int))(hn:ns.length≤63)(hρ:ρ[0]?=some (some (.raw (.ref a))))
  (FC:FnOk P w K mg base (CXe P w) 1 fC fdC ["_law_script","_law_k"] (Gd K)) (mC:mg "_law_cell_at" =some (.ref fC)) (kC:gW K (.ref fC)=true) (bC:Binds K fdC ["_law_script","_law_k"] [])
  (k:∀ms:List Int,ms.length≤64→Φ (.lst (ms.map T.int)) QK):HWE (zL P w K mg base f cdv A outer s H E) ρ QK (bO (aI 4)) Φ:=by
 have sb:=AQ
 refine⟨?_⟩
 refine FI PL ?_
 refine Pv (BQ (QI FC mC kC bC (hr.mono (by decide)) xf (AE (ev 0 hρ) (AE AB AC)) ?_))
 intro σ H1 vs Q as r acc
 obtain⟨v,u,rfl,r1,r2⟩:=r.two_inv
 cases r1.raw_inv
 cases r2.int_inv
 refine⟨a,ns,rfl,Up as.fr.kp hS,fun c=>acc _ _ _ _ ?_ (.refl as.ok) (.int c)⟩
 refine Ae ⟨by show 1≤sizeLine;decide,?_⟩
 refine Wj rfl hS (ev 0 hρ) AB AB fun ms hm=>?_
 exact Mt (ts:=[T.int c]) (us:=ms.map T.int) (by simp;omega) _ (k (c::ms) (by simp;omega))
theorem SC{O:AI}{a CP:Addr}{v1 v2 v3 v4 v5 v7 v8 v9 v10:Option T}{c:Int}{Φ:BH}{N Bk Ct:HE}(B:Has P w K mg base CP)(hr:Room 7 (zL P w K mg base f cdv A outer s H E).X.A)(xf:XFly (zL P w K mg base f cdv A outer s H E).X (zL P w K mg base f cdv A outer s H E).W)
  (k:∀v7 v8 v9 v10 O',N (HI a v1 v2 v3 v4 v5 (some (.int c)) v7 v8 v9 v10) O'):HS (zL P w K mg base f cdv A outer s H E) (HI a v1 v2 v3 v4 v5 (some (.int c)) v7 v8 v9 v10) O (Xf (aI 4)) {nx:=N,rt:=Φ,bk:=Bk,ct:=Ct}:=by
 have sb:=AQ
 have hu:(zL P w K mg base f cdv A outer s H E).X.A.units+101<cLine:=by have:=hr.un;omega
 refine AW (AS 7 (AO B.gp (hr.mono (by decide)) xf (EA.wa (AE (ev 6) AC) ⟨c,rfl,fun p xs hp px=>?_⟩)) DX.nd)
 refine AW (AS 8 (AO B.gy (hr.mono (by decide)) xf (EA.wa (AE (ev 7) (AE AB AC)) ⟨p,xs,10,rfl,AG,px,by decide,by decide,fun n ps O1 n0 n1 hP pw hl po=>?_⟩)) DX.nd)
 have wr:=MJ n0 (by omega) pw hP
 have rr:EB (zL P w K mg base f cdv A outer s H E) (HI a v1 v2 v3 v4 v5 (some (.int c)) (some (.raw (.ref p))) (some (Bm n ps)) v9 v10) O1 (match (Xf (aI 4)).getD 2 (.Pass ⟨0,0,0,0⟩) with| .If (.BoolOp _ (c::_) _) _ _ _=>c|_=> .Constant .none 0 ⟨0,0,0,0⟩) false:=EB.cast (BS (k:=true) (Br (Aa B.gf hr xf (AE (ev 8) AC) ⟨n,ps,rfl,wr,by omega,rfl⟩))) rfl
 refine AW (Mo (WW.wt (Uj (rr _ ?_))))
 rw[if_neg b6]
 obtain⟨ys,hy,py⟩:=po.at
 refine QB (Er (Lm hu) (Ad _) (AO B.gb (hr.mono (by decide)) xf (BQ (AO B.gr (hr.mono (by decide)) xf (BQ (ET.we (ev 8) (BQ (AO B.gn (hr.mono (by decide)) xf (EA.wa (AE (ev 7) (AE (Ao (ev 8) AB) AC)) ⟨p,ys,n,rfl,hy,py,by omega,by omega,fun ns xs' pm px'=>Ae ?_⟩)))))))))
 have po2:PO (Ac O p xs) p (Ac O1 p xs'):=po.step px'
 refine⟨n,ps,_,rfl,⟨n0,by omega,hP,by have:=wr.wn.hl;omega,Mw.mpr fun u hu=> (by obtain⟨i,_,rfl⟩:=di.mp hu;rw[SH]),fun us e=>?_⟩,fun ns' h qs q1 q2 _=>Ae ?_,fun h=>absurd ⟨rfl,pm⟩ (h ns)⟩
 ·cases e
  rw[a9,pm.length_eq,a9,fk]
  omega
 ·have e:=Gv (show ns'.map T.int=ns.map T.int from by have:=h.1;injection this with e;exact e.symm)
  subst e
  obtain⟨wq,te⟩:=Ru wr (by omega) pm q1 q2
  refine⟨_,⟨n,qs,rfl,wq,rfl⟩,?_⟩
  refine ET.we (Aa B.gb (hr.mono (by decide)) xf (AE (ev 8) AC) ⟨n,ps,rfl,wr,rfl⟩) ?_
  rw[te]
  refine(QO Nf Nf UX) _ ⟨_,rfl,?_⟩
  rw[SA]
  refine Nx (Ah ?_)
  refine AW (AS 9 (FI Eh (ET.we AB (Fb B.gd (hr.mono (by decide)) xf po2 (ev 7) AB (by decide) (by decide) fun r1 O2 r10 r11 po3=>GO _ ?_))) DX.nd)
  refine AW (EJ (i:=10) (nc:=["_law_step"]) (cap:=[("_law_pen",7)]) (by rfl) DX.nd rfl (Bl (AA Gc) MM (by decide+kernel)) (EI.wi (Dd B.tx.nRange AB (Au (Bq (ev 9) AB ⟨by decide,by decide⟩) AB) ⟨by decide,by decide,by omega,by omega⟩) ?_))
  refine⟨fun i acc O'=>∃ss:List Int,acc=ss.map T.int∧(∀z∈ss,1≤z∧z<3+r1)∧ss.length≤i∧i≤16∧PO (Ac O p xs) p O',⟨[],rfl,by simp,by simp,by omega,po3⟩,?_,?_⟩
  ·rintro i t acc O' c e ⟨qs,rfl,hq,hl,_,po⟩ hc
   obtain⟨hi,rfl⟩:=BN e
   refine⟨[some (.int (1+i)),some (.raw (.ref p))],fun X' Oe He is=>?_⟩
   obtain⟨cl,s',H',fp,rfl⟩:=is
   refine⟨AU 0 Zu (by decide),FV (Er Ji (Ad _) (BZ B.gd (hr.mono (by decide)) Bv po hc (ev 1) AB (by decide) (by decide) fun r O3 r0 r1 po3 hc3=>ET.we AB (GQ _ ⟨_,rfl,?_⟩)))⟩
   refine SZ (fun h=>?_) (fun h=>?_)
   ·rintro X' Oe He ⟨cl,s',H',fp,rfl⟩
    refine ET.we (ev 0) ⟨O3,rfl,hc3,by rw[a9];omega,qs++[1+(i:Int)],by rw[eG];rfl,fun y hy=>?_,by simp;omega,by omega,po3⟩
    rcases dw.mp hy with hy|hy
    ·exact hq y hy
    ·rw[a8.mp hy];omega
   ·exact⟨O3,rfl,hc3,qs,rfl,hq,by omega,by omega,po3⟩
  ·rintro acc O' ⟨ss,rfl,hq,hl,hl2,po⟩
   refine Ir (Mo (QA (KI (AO B.gf hr xf (BQ (AO B.gu (hr.mono (by decide)) xf (EA.wa (AE (ev 9) (AE (ev 10) AC)) ⟨3+r1,ss,rfl,by omega,by omega,by omega,hq,fun es e1 e2 _ _=>Ae ⟨.bl true,⟨3+r1,es,rfl,MJ (by omega) (by omega) e1 e2,by omega,rfl⟩,true,rfl,?_⟩⟩)))))))
   exact Nx (Ah (k _ _ _ _ _))
theorem SD{a CP:Addr}{ns:List Int}{fC:Addr}{fdC:dM}(B:Has P w K mg base CP)(hr:Room 7 (zL P w K mg base f cdv A outer s H E).X.A)(xf:XFly (zL P w K mg base f cdv A outer s H E).X (zL P w K mg base f cdv A outer s H E).W)(hS:Dj K H a (ns.map V.int))(hn:ns.length≤63)
  (FC:FnOk P w K mg base (CXe P w) 1 fC fdC ["_law_script","_law_k"] (Gd K)) (mC:mg "_law_cell_at" =some (.ref fC)) (kC:gW K (.ref fC)=true) (bC:Binds K fdC ["_law_script","_law_k"] []):HS (zL P w K mg base f cdv A outer s H E) (Cv MM [.raw (.ref a)]) QK (Ai Gc) {nx:=fun _ O'=>bP .non O',rt:=bP}:=by
 refine Ry B hr xf fun v1=>?_
 refine AW (CJ Aw.own rfl (EI.wi (Dd B.tx.nRange AB AB ⟨by decide,by decide,by decide,by decide⟩) ⟨fun i ρ' O'=>∃v2 v3 v4 v5,ρ'=HI a v1 v2 v3 v4 v5 none none none none none∧QK=O',⟨none,none,none,none,rfl,rfl⟩,?_,?_⟩))
 ·rintro i t _ _ e ⟨v2,v3,v4,v5,rfl,rfl⟩
  obtain⟨hi,rfl⟩:=BN e
  have e3:(3:Int)+(i:Int)=((i+3:Nat):Int):=by omega
  rw[e3]
  exact⟨HI a v1 (some (.int ((i+3:Nat):Int))) v3 v4 v5 none none none none none,AU 2 DX.nd (by show 2<11;decide),(Rz B hr xf (by omega) fun _ _ _=> ⟨_,_,_,_,rfl,rfl⟩).out⟩
 ·rintro _ _ ⟨v2,v3,v4,v5,rfl,rfl⟩
  refine AW (TQ Aw.own rfl (SB hr xf hS hn rfl FC mC kC bC fun ms hm=> ⟨ms.map T.int,rfl,fun i ρ' O'=>∃v6 v7 v8 v9 v10,ρ'=HI a v1 v2 v3 v4 v5 v6 v7 v8 v9 v10,⟨none,none,none,none,none,rfl⟩,?_,?_⟩) (by intro _;rfl))
  ·rintro i t _ O1 e ⟨v6,v7,v8,v9,v10,rfl⟩
   rw[b8] at e
   cases ec:ms[i]? with
   |none=>rw[ec] at e;cases e
   |some c=>
    rw[ec] at e
    cases e
    exact⟨HI a v1 v2 v3 v4 v5 (some (.int c)) v7 v8 v9 v10,AU 6 DX.nd (by show 6<11;decide),SC B hr xf fun _ _ _ _ _=> ⟨_,_,_,_,_,rfl⟩⟩
  ·rintro _ _ ⟨v6,v7,v8,v9,v10,rfl⟩
   exact Ir (AM (ET.we Ml rfl))
theorem Xl{fd:dM}{CP fC:Addr}{fdC:dM}(F:Fun K "law" "law" Gc f fd)(B:Has P w K mg base CP)
  (FC:FnOk P w K mg base (CXe P w) 1 fC fdC ["_law_script","_law_k"] (Gd K)) (mC:mg "_law_cell_at" =some (.ref fC)) (kC:gW K (.ref fC)=true) (bC:Binds K fdC ["_law_script","_law_k"] []):
  FnOk P w K mg base (CXe P w) 8 f fd ["_law_script"] (Nd K):=by
 refine ZC F DX (fun vs H Q E h=>?_) (fun cdv A outer s H vs Q E hr h=>?_)
 ·obtain⟨a,ns,rfl,_⟩:=h
  rfl
 ·obtain⟨a,ns,rfl,hS,hn,k⟩:=h
  refine⟨[.raw (.ref a)],QK,bP,fun _ _=>False,.cons (.raw _) .nil,QL,fun xf=>SD B hr xf hS hn FC mC kC bC,fun v H' t O' p f r=>?_,fun cls O' H' z=>z.elim⟩
  have p:t=T.bl true:=p
  subst p
  cases r.bl_inv
  exact k H'
end
theorem Xm{P:Program}{w:World}{K:a5}{mg:Str→Option Value}{base:Heap}(G:FnT P w K mg base "fars_from" 1 ["nears","starts"] JL):FnT P w K mg base "fars_from" 1 ["nears","starts"] Qu:=by
 obtain⟨f,fd,h1,h2⟩:=G.ex
 refine⟨f,fd,h1.imp ?_,h2⟩
 rintro vs H Q E ⟨ts,O,Φ,Ξ,a,b,⟨n,ps,S,rfl,wn,hS,q⟩,d⟩
 refine⟨_,O,Φ,Ξ,a,b,⟨n,BP n ps,S,by rw[IA],JO wn,hS,fun fs al=>q fs ⟨al.len,fun v v0 v1 k=> (al.eq v v0 v1 k).trans ?_⟩⟩,d⟩
 have e:Rw (BP n ps)=Gr.Adj ps:=funext fun u=>funext fun v=>propext (Fe wn.hw)
 rw[e]
 exact GrR.Iv.symm
theorem Xn{l:lg}{w:World}{K:a5}{h:Heap}{mg:Str→Option Value}{fa CNoPlace CNoNumber CNoRing CNotEven:Addr}{tLEAST_TIES tMOST_TIES tLEAST_RING tMOST_RING:Tok}(X:K.In h)(G:h.Ns fg mg)(hfa:mg "law" =some (.ref fa))
  (H0:Fx K "is_whole" Lq) (H1:Fx K "need_number" JA) (H2:Fx K "least_told" JC) (H3:Fx K "ties_of" ES) (H4:Fx K "is_place" Lr) (H5:Fx K "need_place" Qc) (H6:Fx K "nears_of" JB) (H7:Fx K "fars_from" Hu) (H8:Fx K "far_of" Ls) (H9:Fx K "even_by" ND) (H10:Fx K "ring_by_tie" Tp) (H11:Fx K "shortest" JD) (H12:Fx K "renamed" Cb) (H13:Fx K "need_ties" Qd) (H14:Fx K "need_ring" Qe) (H15:Fx K "need_ties_and_ring" bH) (H16:Fx K "sum_of_powers" Wo) (H17:Fx K "grown_places" Lu) (H18:Fx K "least_by_growth" Wp) (H19:Fx K "least_fit" Qf) (H20:Fx K "has_shorter_ring" Wq) (H21:Fx K "does_fit" NF) (H22:Fx K "fits" Qg) (H23:Fx K "surplus" NG) (H24:Fx K "tight_by" Wr) (H25:Fx K "tight" Lv) (H26:Fx K "_law_cell_at" Qi) (H27:Fx K "_law_next" Qj) (H28:Fx K "_law_pen_of" Ws) (H29:Fx K "_law_draw" Qk) (H30:Fx K "_law_named" Ex) (H31:Fx K "_law_names_by" EU) (H32:Fx K "_law_turned" FZ) (H33:Fx K "_law_shape" Bb) (H34:Fx K "_law_web_by" DB) (H35:Fx K "_law_fit_right" Hv) (H36:Fx K "law" Gc)
  (zint:Zn K "int") (zbool:Zn K "bool") (ztuple:Zn K "tuple") (zlist:Zn K "list") (zset:Zn K "set") (zrange:Zn K "range") (zisinstance:Zn K "isinstance") (zmax:Zn K "max") (zmin:Zn K "min") (zlen:Zn K "len") (zall:Zn K "all") (zsorted:Zn K "sorted") (zrepr:Zn K "repr") (zValueError:Zn K "ValueError") (zany:Zn K "any") (zenumerate:Zn K "enumerate") (vLEAST_TIES:gP K fg "LEAST_TIES" =some (some (.int 2 tLEAST_TIES))) (vMOST_TIES:gP K fg "MOST_TIES" =some (some (.int 15 tMOST_TIES))) (vLEAST_RING:gP K fg "LEAST_RING" =some (some (.int 3 tLEAST_RING))) (vMOST_RING:gP K fg "MOST_RING" =some (some (.int 16 tMOST_RING))) (mNoPlace:Cn K "NoPlace" CNoPlace) (xNoPlace:fQ K CNoPlace Ft "ValueError.__new__" =true) (mNoNumber:Cn K "NoNumber" CNoNumber) (xNoNumber:fQ K CNoNumber Ft "ValueError.__new__" =true) (mNoRing:Cn K "NoRing" CNoRing) (xNoRing:fQ K CNoRing Ft "ValueError.__new__" =true) (mNotEven:Cn K "NotEven" CNotEven) (xNotEven:fQ K CNotEven Ft "ValueError.__new__" =true)
  :∃fd:dM,(∀(s:a7) (v:Value),mH s fd ⟨[v],[]⟩ [("_law_script",v)])∧∀base:Heap,K.In base→base.Ns fg mg→FnOk l.prog w K mg base (CXe l.prog w) 8 fa fd ["_law_script"] (Nd K):=by
 obtain⟨f0,d0,h0⟩:=H0
 obtain⟨f1,d1,h1⟩:=H1
 obtain⟨f2,d2,h2⟩:=H2
 obtain⟨f3,d3,h3⟩:=H3
 obtain⟨f4,d4,h4⟩:=H4
 obtain⟨f5,d5,h5⟩:=H5
 obtain⟨f6,d6,h6⟩:=H6
 obtain⟨f7,d7,h7⟩:=H7
 obtain⟨f8,d8,h8⟩:=H8
 obtain⟨f9,d9,h9⟩:=H9
 obtain⟨f10,d10,h10⟩:=H10
 obtain⟨f11,d11,h11⟩:=H11
 obtain⟨f12,d12,h12⟩:=H12
 obtain⟨f13,d13,h13⟩:=H13
 obtain⟨f14,d14,h14⟩:=H14
 obtain⟨f15,d15,h15⟩:=H15
 obtain⟨f16,d16,h16⟩:=H16
 obtain⟨f17,d17,h17⟩:=H17
 obtain⟨f18,d18,h18⟩:=H18
 obtain⟨f19,d19,h19⟩:=H19
 obtain⟨f20,d20,h20⟩:=H20
 obtain⟨f21,d21,h21⟩:=H21
 obtain⟨f22,d22,h22⟩:=H22
 obtain⟨f23,d23,h23⟩:=H23
 obtain⟨f24,d24,h24⟩:=H24
 obtain⟨f25,d25,h25⟩:=H25
 obtain⟨f26,d26,h26⟩:=H26
 obtain⟨f27,d27,h27⟩:=H27
 obtain⟨f28,d28,h28⟩:=H28
 obtain⟨f29,d29,h29⟩:=H29
 obtain⟨f30,d30,h30⟩:=H30
 obtain⟨f31,d31,h31⟩:=H31
 obtain⟨f32,d32,h32⟩:=H32
 obtain⟨f33,d33,h33⟩:=H33
 obtain⟨f34,d34,h34⟩:=H34
 obtain⟨f35,d35,h35⟩:=H35
 obtain⟨f36,d36,h36⟩:=H36
 have e:=hfa.symm.trans (PySem.W.mg_of X G h36.a)
 cases e
 have mm:∀{x:Str} {v:Value},gP K fg x=some (some v)→mg x=some v:=fun e=>PySem.W.mg_of X G e
 have nn:∀{x:Str},Zn K x→mg x=none:=fun e=>PySem.W.mg_none_of X G e
 have Tx:Txt mg:=⟨nn zint,nn zbool,nn ztuple,nn zlist,nn zset,nn zrange,nn zisinstance,nn zmax,nn zmin,nn zlen,nn zall,nn zsorted,nn zrepr,nn zValueError,nn zany,nn zenumerate,⟨tLEAST_TIES,mm vLEAST_TIES⟩,⟨tMOST_TIES,mm vMOST_TIES⟩,⟨tLEAST_RING,mm vLEAST_RING⟩,⟨tMOST_RING,mm vMOST_RING⟩⟩
 refine⟨d36,fun s v=>?_,fun base _ _=>?_⟩
 ·obtain⟨⟨_,_,_,_,_,_,_,_,_,rfl,_⟩,_⟩:=h36.F
  exact .of_eq rfl
 have M:Mg l.prog w K mg base:=⟨mm⟩
 have G0:=h0.t M (Qh h0.F Tx) (h0.b3 rfl fun _ _ _ _ _ _ _ _ _=>rfl)
 have G1:=h1.t M (Wx h1.F (mm mNoNumber) xNoNumber G0) (h1.b3 rfl fun _ _ _ _ _ _ _ _ _=>rfl)
 have G2:=h2.t M (RB h2.F Tx) (h2.b1 rfl fun _ _ _ _ _ _ _=>rfl)
 have G3:=h3.t M (FnOk.mono (k:=2) (Lz h3.F Tx) (by decide)) (h3.b1 rfl fun _ _ _ _ _ _ _=>rfl)
 have G4:=h4.t M (Qq h4.F G0) (h4.b2 rfl fun _ _ _ _ _ _ _ _=>rfl)
 have G5:=h5.t M (Tw h5.F (mm mNoPlace) xNoPlace G4) (h5.b2 rfl fun _ _ _ _ _ _ _ _=>rfl)
 have G6:=h6.t M (Qs h6.F Tx) (h6.b1 rfl fun _ _ _ _ _ _ _=>rfl)
 have G7:=h7.t M (Qx h7.F) (h7.b2 rfl fun _ _ _ _ _ _ _ _=>rfl)
 have A7:=Xm G7
 have G8:=h8.t M (OY h8.F G5 G6 A7) (h8.b3 rfl fun _ _ _ _ _ _ _ _ _=>rfl)
 have G9:=h9.t M (UB h9.F Tx G6) (h9.b1 rfl fun _ _ _ _ _ _ _=>rfl)
 have G10:=h10.t M (XB h10.F Tx G7) (h10.b3 rfl fun _ _ _ _ _ _ _ _ _=>rfl)
 have G11:=h11.t M (RJ h11.F G6 G10 G2) (h11.b1 rfl fun _ _ _ _ _ _ _=>rfl)
 have G12:=h12.t M (ME h12.F Tx (mm mNoPlace) xNoPlace G4 G3) (h12.b2 rfl fun _ _ _ _ _ _ _ _=>rfl)
 have G13:=h13.t M (UF h13.F Tx G1) (h13.b1 rfl fun _ _ _ _ _ _ _=>rfl)
 have G14:=h14.t M (UG h14.F Tx G1) (h14.b1 rfl fun _ _ _ _ _ _ _=>rfl)
 have G15:=h15.t M (Zd h15.F G13 G14) (h15.b2 rfl fun _ _ _ _ _ _ _ _=>rfl)
 have G16:=h16.t M (XF h16.F Tx) (h16.b2 rfl fun _ _ _ _ _ _ _ _=>rfl)
 have G17:=h17.t M (RF h17.F G16) (h17.b2 rfl fun _ _ _ _ _ _ _ _=>rfl)
 have G18:=h18.t M (XG h18.F G15 G17) (h18.b2 rfl fun _ _ _ _ _ _ _ _=>rfl)
 have G19:=h19.t M (XZ h19.F Tx G18) (h19.b2 rfl fun _ _ _ _ _ _ _ _=>rfl)
 have G20:=h20.t M (XI h20.F G11) (h20.b2 rfl fun _ _ _ _ _ _ _ _=>rfl)
 have G21:=h21.t M (UJ h21.F G9 G20) (h21.b3 rfl fun _ _ _ _ _ _ _ _ _=>rfl)
 have G22:=h22.t M (UK h22.F G15 G21) (h22.b3 rfl fun _ _ _ _ _ _ _ _ _=>rfl)
 have G23:=h23.t M (XN h23.F (mm mNotEven) xNotEven (mm mNoRing) xNoRing G15 G9 G20 G17) (h23.b3 rfl fun _ _ _ _ _ _ _ _ _=>rfl)
 have G24:=h24.t M (XO h24.F Tx G9 G11 G17) (h24.b1 rfl fun _ _ _ _ _ _ _=>rfl)
 have G25:=h25.t M (RQ h25.F G24) (h25.b1 rfl fun _ _ _ _ _ _ _=>rfl)
 have W26:FnOk l.prog w K mg base (CXe l.prog w) 1 f26 _ _ (Gd K):=Tr h26.F Tx
 have G27:=h27.t M (Ts h27.F) (h27.b1 rfl fun _ _ _ _ _ _ _=>rfl)
 have G28:=h28.t M (Wu h28.F Tx) (h28.b1 rfl fun _ _ _ _ _ _ _=>rfl)
 have G29:=h29.t M (Tt h29.F G27) (h29.b2 rfl fun _ _ _ _ _ _ _ _=>rfl)
 have G30:=h30.t M (Qo h30.F Tx) (h30.b2 rfl fun _ _ _ _ _ _ _ _=>rfl)
 have G31:=h31.t M (Ke h31.F Tx G29) (h31.b2 rfl fun _ _ _ _ _ _ _ _=>rfl)
 have G32:=h32.t M (OW h32.F Tx) (h32.b2 rfl fun _ _ _ _ _ _ _ _=>rfl)
 have G33:=h33.t M (RV h33.F Tx G29 G32) (h33.b2 rfl fun _ _ _ _ _ _ _ _=>rfl)
 have G34:=h34.t M (OX h34.F Tx G29 G33 G30 G31) (h34.b2 rfl fun _ _ _ _ _ _ _ _=>rfl)
 have G35:=h35.t M (Xd h35.F ⟨Tx,G9,G11,G25,G24,G22,G19,G18,G23,G8⟩) (h35.b1 rfl fun _ _ _ _ _ _ _=>rfl)
 exact Xl h36.F ⟨Tx,G29,G28,G34,G32,G31,G12,G24,G35⟩ W26 (mm h26.a) h26.F.kp (h26.b2 rfl fun _ _ _ _ _ _ _ _=>rfl)
theorem walk{l:lg}{q:Program}{loose:List Str}{XP:(Str→Option Value)→Heap→Prop}{YP:World→Heap→Prop}{d:DefRec}{K:Params→a5}(hn:l.most=some 63)(hdf:d.params.defaults=[])
  (hY:∀(w:World) (h:Heap),YP w h→(K w.params).In h)
  (F:∀(w:World) (mg:Str→Option Value) (fa:Addr) (h:Heap),(K w.params).In h→h.Ns fg mg→mg d.name=some (.ref fa)→
   ∃fd:dM,(∀(s:a7) (u:Value),mH s fd ⟨[u],[]⟩ [("_law_script",u)])∧∀base:Heap,(K w.params).In base→base.Ns fg mg→FnOk l.prog w (K w.params) mg base (CXe l.prog w) 8 fa fd ["_law_script"] (Nd (K w.params))):
  PySem.W.WalkO q loose XP YP l.row.toRowW d [] (fun f vs=>PySem.call f vs):=
 L2.SY (n:=63) (k:=8) (x:="_law_script") (CX:=fun w=>CXe l.prog w) (sp:=fun w=>Nd (K w.params)) hn (by decide) hdf ⟨rfl,by decide,by decide,rfl⟩ hY F (fun _ _ a ns hl _ hS=> ⟨a,ns,rfl,hS,hl,fun _=>rfl⟩) fun _ _ _ _ _ z=>z.never
end K19
open PySem PySem.W PyProof.Rows
set_option maxRecDepth 100000 in
set_option maxHeartbeats 0 in
theorem PySem.Challenge.cw_noshortring_k19_whole_fewest_places_holds : PySem.Challenge.rw_noshortring_k19_whole_fewest_places.Holds := by
 w_on;o_law
 refine PySem.W.holds_open (q:=K19.kq) (loose:=[]) (Xt:=fun s=>mq K19.kq [] s&&lY [] s) (XP:=PySem.W.XL K19.kq []) (Yf:=fun s=>K19.ka.map s.heap.get?) (Ya:=fun w=> (K19.Kk w.params).map fun(p:Addr×Obj)=>some p.2) (YP:=mQ K19.Kk) (N:=4516) K19.left (mQ.of fun _=>by kernel_rfl) mQ.keeps (fun s e=>xl_of s (Bool.and_eq_true_iff.mp e).1) XL.keeps (by rfl) (by rfl) (by rfl) (fun s e=>recFacts_of (Bool.and_eq_true_iff.mp e).2) (by rfl) (by first|assumption|decide+kernel) (by first|k_qdec|decide+kernel) ⟨rfl,rfl,rfl,rfl,rfl,by decide+kernel⟩ ?hw ?hc
 (case hw=>w_witness2)
 k_fill
 refine K19.walk (l:=PySem.Challenge.rw_noshortring_k19_whole_fewest_places) rfl rfl (fun w h Y=>Y) ?F
 case F=>
  intro w mg fa h KX G hmg
  refine' K19.Xn KX G hmg ?H0 ?H1 ?H2 ?H3 ?H4 ?H5 ?H6 ?H7 ?H8 ?H9 ?H10 ?H11 ?H12 ?H13 ?H14 ?H15 ?H16 ?H17 ?H18 ?H19 ?H20 ?H21 ?H22 ?H23 ?H24 ?H25 ?H26 ?H27 ?H28 ?H29 ?H30 ?H31 ?H32 ?H33 ?H34 ?H35 ?H36 ?zint ?zbool ?ztuple ?zlist ?zset ?zrange ?zisinstance ?zmax ?zmin ?zlen ?zall ?zsorted ?zrepr ?zValueError ?zany ?zenumerate ?vLEAST_TIES ?vMOST_TIES ?vLEAST_RING ?vMOST_RING ?mNoPlace ?xNoPlace ?mNoNumber ?xNoNumber ?mNoRing ?xNoRing ?mNotEven ?xNotEven
  case H0|H1|H2|H3|H4|H5|H6|H7|H8|H9|H10|H11|H12|H13|H14|H15|H16|H17|H18|H19|H20|H21|H22|H23|H24|H25|H26|H27|H28|H29|H30|H31|H32|H33|H34|H35|H36=> (refine' L2.TL.fi ?a ?l ?q ?k;(case a=>k_is);(case l=>k_is);(case q=>k_is);(case k=>k_is))
  case zint|zbool|ztuple|zlist|zset|zrange|zisinstance|zmax|zmin|zlen|zall|zsorted|zrepr|zValueError|zany|zenumerate=> (delta L2.TL.Zn;k_is)
  case mNoPlace|mNoNumber|mNoRing|mNotEven=> (delta L2.TL.Cn;k_is)
  case vLEAST_TIES=>k_is
  case vMOST_TIES=>k_is
  case vLEAST_RING=>k_is
  case vMOST_RING=>k_is
  case xNoPlace=>k_exc
  case xNoNumber=>k_exc
  case xNoRing=>k_exc
  case xNotEven=>k_exc
