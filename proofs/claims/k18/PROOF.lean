import PyProof.Rows.All
import Wide.All
import OpenK.AllK
import Wide.FinOn
import Lean
import PyProof.EqAt
import PyProof.EqKinds
import PyProof.TupleCall
import PySem.Challenge.RW_noshortring_k18_webs_that_fit
noncomputable section
set_option Elab.async false
set_option linter.all false
set_option maxRecDepth 100000
namespace L2
open PySem PySem.Spec PyProof.Rows
abbrev KG:=Sum Int Str
def Uh:KG→Value→Bool
 | .inl k,v=>Value.isInt k v
 | .inr x,v=>Value.isStrOf x v
def ag(w:World):KG→Int
 | .inl k=>hashInt k
 | .inr x=>hashStr w x
theorem Aq:∀{k:KG} {v:Value},Uh k v=true→(∃i t,k=Sum.inl i∧v=Value.int i t)∨(∃x t,k=Sum.inr x∧v=Value.str x t)
 | .inl i,v,h=>by
  obtain⟨t,e⟩:=Value.isInt_shape (k:=i) (v:=v) h
  exact .inl ⟨i,t,rfl,e⟩
 | .inr x,v,h=>by
  obtain⟨t,e⟩:=Value.isStrOf_shape (x:=x) (v:=v) h
  exact .inr ⟨x,t,rfl,e⟩
theorem VZ(a b:Int):decide ((Sum.inl a:KG)=Sum.inl b)=(a==b):=by
 by_cases e:a=b
 ·subst e;simp
 ·have h:¬(Sum.inl a:KG)=Sum.inl b:=fun q=>e (Sum.inl.inj q)
  rw[decide_eq_false h]
  exact(beq_eq_false_iff_ne.mpr e).symm
theorem Va(a b:Str):decide ((Sum.inr a:KG)=Sum.inr b)=decide (a=b):=by
 by_cases e:a=b
 ·subst e;simp
 ·have h:¬(Sum.inr a:KG)=Sum.inr b:=fun q=>e (Sum.inr.inj q)
  rw[decide_eq_false h,decide_eq_false e]
theorem Vb(a:Int)(b:Str):decide ((Sum.inl a:KG)=Sum.inr b)=false:=decide_eq_false (fun q=>nomatch q)
theorem Vc(a:Str)(b:Int):decide ((Sum.inr a:KG)=Sum.inl b)=false:=decide_eq_false (fun q=>nomatch q)
def JE(prog:Program)(w:World):PySem.KeyKind prog w KG where
 is:=Uh
 hash:=ag w
 inj:=fun v a b ha hb=>by
  rcases Aq ha with⟨i,t,rfl,rfl⟩| ⟨x,t,rfl,rfl⟩
  ·rcases Aq hb with⟨j,u,rfl,e⟩| ⟨y,u,rfl,e⟩
   ·injection e with e1 _;rw[e1]
   ·exact nomatch e
  ·rcases Aq hb with⟨j,u,rfl,e⟩| ⟨y,u,rfl,e⟩
   ·exact nomatch e
   ·injection e with e1 _;rw[e1]
 byValue:=fun k v h=>by
  rcases Aq h with⟨i,t,rfl,rfl⟩| ⟨x,t,rfl,rfl⟩<;>rfl
 pyHash:=fun hv h=>by
  rcases Aq hv with⟨i,t,rfl,rfl⟩| ⟨x,t,rfl,rfl⟩
  ·exact wpAny_pyHash_int h
  ·exact wpAny_pyHash_str h
 eqBool:=fun hu hv h=>by
  rcases Aq hu with⟨i,t,rfl,rfl⟩| ⟨x,t,rfl,rfl⟩
  ·rcases Aq hv with⟨j,u,rfl,rfl⟩| ⟨y,u,rfl,rfl⟩
   ·rw[VZ] at h;exact wpAny_eqBool_int h
   ·rw[Vb] at h;exact SeqAt.EqAt.int_str i t y u _ _ _ _ h
  ·rcases Aq hv with⟨j,u,rfl,rfl⟩| ⟨y,u,rfl,rfl⟩
   ·rw[Vc] at h;exact SeqAt.EqAt.str_int x t j u _ _ _ _ h
   ·rw[Va] at h;exact wpAny_eqBool_str h
 «strs»:=fun k x t v h=>by
  rcases Aq h with⟨i,u,rfl,e⟩| ⟨y,u,rfl,e⟩
  ·exact nomatch e
  ·injection e with e1 _
   subst e1
   cases v<;>rfl
inductive V where
 |non|bl (b:Bool)|int (i:Int)|str (x:Str)|byt (b:Array UInt8)|flt (b:UInt64)|ref (a:Addr)|ty (n:String)
 deriving DecidableEq
def RelV:V→Value→Prop
 | .non,u=>u=Value.none
 | .bl b,u=>u=Value.bool b
 | .int i,u=>∃t,u=Value.int i t
 | .str x,u=>∃t,u=Value.str x t
 | .byt b,u=>∃t,u=Value.bytes b t
 | .flt b,u=>∃t,u=Value.float b t
 | .ref a,u=>u=Value.ref a
 | .ty n,u=>u=Value.type n
abbrev Vals:List V→List Value→Prop:=Paired RelV
theorem Vals.length{xs:List V}{us:List Value}(r:Vals xs us):xs.length=us.length:=Paired.length r
theorem Vals.get:∀{xs:List V} {us:List Value} {i:Nat} {x:V},Vals xs us→xs[i]?=some x→∃u,us[i]?=some u∧RelV x u
 |_,_,_,_,.nil,e=>by simp at e
 |_,_,0,_,.cons r _,e=>by simp at e;subst e;exact⟨_,rfl,r⟩
 |_,_,i+1,x,.cons _ t,e=>by
  obtain⟨u,h1,h2⟩:=Vals.get (i:=i) (x:=x) t (by simpa using e)
  exact⟨u,by simpa using h1,h2⟩
theorem Vals.set{x:V}{u:Value}(r:RelV x u):∀{xs:List V} {us:List Value} (i:Nat),Vals xs us→Vals (xs.set i x) (us.set i u)
 |_,_,_,.nil=> .nil
 |_,_,0,.cons _ t=> .cons r t
 |_,_,i+1,.cons q t=> .cons q (Vals.set r i t)
theorem Vals.append:∀{xs ys:List V} {us ws:List Value},Vals xs us→Vals ys ws→Vals (xs++ys) (us++ws)
 |_,_,_,_,.nil,s=>s
 |_,_,_,_,.cons r t,s=> .cons r (Vals.append t s)
theorem Vals.take:∀{xs:List V} {us:List Value} (n:Nat),Vals xs us→Vals (xs.take n) (us.take n)
 |_,_,0,_=> .nil
 |_,_,_+1,.nil=> .nil
 |_,_,n+1,.cons r t=> .cons r (Vals.take n t)
theorem Vals.drop:∀{xs:List V} {us:List Value} (n:Nat),Vals xs us→Vals (xs.drop n) (us.drop n)
 |_,_,0,r=>r
 |_,_,_+1,.nil=> .nil
 |_,_,n+1,.cons _ t=>Vals.drop n t
def Sa:Option V→Option Value→Prop
 |some v,some u=>RelV v u
 |none,none=>True
 |_,_=>False
def KV{κ:Type}:List (κ×V)→List (κ×Value)→Prop:=Paired fun(p:κ×V) (q:κ×Value)=>p.1=q.1∧RelV p.2 q.2
def kV:KG→V
 | .inl i=> .int i
 | .inr x=> .str x
inductive HO where
 /-- a list -/
 | lst (xs:List V)
 /-- a tuple (never changes) -/
 | tup (xs:List V)
 /-- a dict whose keys are ints and texts; one whose keys are tuples of ints and texts (the empty one is both) -/
 | dK (kvs:List (KG × V)) | dT (kvs:List (List KG × V))
 /-- a set of ints: its members,its size -/
 | set (S:Int→Bool) (n:Nat)
 /-- an instance of the class at C,its dict at dx,its attributes -/
 | ins (C dx:Addr) (fs:List (Str × V))
 /-- the dict of the instance at x -/
 | own (x:Addr)
 /-- the dict of an exception -/
 | xd (fs:List (Str × V))
 /-- a bound method,f of x -/
 | met (f x:Addr)
 /-- a range object lo,lo + 1,.. below hi -/
 | rng (lo hi:Int)
 /-- a thing that is known to the object (the script; a dict while a loop walks it): read,never written while it is so -/
 | frz (o:Obj) (u:HO)
 /-- a code object's table -/
 | tbl (ps:Array Value)
 /-- any other thing,by what is true of its one object (a def of one's own: SetO a S n:=HO.ext fun h => ..) -/
 | ext (φ:Heap→Prop)
abbrev Hp:=Addr→Option HO
def upd(H:Hp)(a:Addr)(o:HO):Hp:=fun b=>if b=a then some o else H b
theorem AO{H:Hp}{a:Addr}{o:HO}:upd H a o a=some o:=by unfold upd;rw[if_pos rfl]
theorem AQ{H:Hp}{a b:Addr}{o:HO}(h:b≠a):upd H a o b=H b:=by unfold upd;rw[if_neg h]
theorem AV{H:Hp}{a b:Addr}{o:HO}(h:H a=some o)(h':H b=none):a≠b:=by
 intro e;subst e;rw[h] at h';cases h'
section
variable(P:Program)(w:World)
def ObjOk(H:Hp)(h:Heap)(a:Addr):HO→Prop
 | .lst xs=>xs.length≤sizeLine∧∃(its:List Value) (n:Nat),Vals xs its∧h.get? a=some {cls:=.type "list",data:=.seq its.toArray n}
 | .tup xs=>xs.length≤sizeLine∧∃its:List Value,Vals xs its∧IsTup h a its.toArray
 | .dK kvs=>kvs.length≤sizeLine∧(a==sysModules)=false∧∃vs,KV kvs vs∧h.DictOf (JE P w) a vs
 | .dT kvs=>kvs.length≤sizeLine∧(a==sysModules)=false∧∃xs:List (List KG×Addr×Value),
   Paired (fun(p:List KG×V) (q:List KG×Addr×Value)=>p.1=q.1∧H q.2.1=some (.tup (p.1.map kV))∧RelV p.2 q.2.2) kvs xs∧
   ∃o es ep,h.get? a=some o∧o.ExactDict∧o.data=.dict es ep∧es.toList=xs.map (entryOfKey (tupleKind (JE P w)))∧(xs.map (·.1)).Nodup
 | .set S n=>h.SetOf (intKind P w) a S n
 | .ins C dx fs=>H dx=some (.own a)∧fs.length≤1000∧dx≠a∧h.get? a=some (PySem.W.instObj C dx)∧
   ∃mA,h.Ns1 dx mA∧(∀f,Sa (fs.lookup f) (mA f))∧PySem.Within mA (fs.map (·.1))
 | .own _=>∃o,h.get? a=some o
 | .xd fs=>∃mA,h.Ns1 a mA∧∀f,Sa (fs.lookup f) (mA f)
 | .rng lo hi=>∃t u v,h.get? a=some {cls:=.type "range",data:=.fields #[.int lo t,.int hi u,.int 1 v]}
 | .frz o u=>h.get? a=some o∧ObjOk H h a u
 | .tbl ps=>h.get? a=some {cls:=.none,data:=.fields ps}
 | .met f x=>h.get? a=some (PySem.W.methodObj (.ref f) (.ref x))
 | .ext φ=>φ h∧(∃o,h.get? a=some o)∧∀h1 h2:Heap,φ h1→(∀o,h1.get? a=some o→h2.get? a=some o)→φ h2
def HOk(H:Hp)(h:Heap):Prop:=∀a o,H a=some o→ObjOk P w H h a o
end
section
variable{P:Program}{w:World}{H H':Hp}{h h':Heap}{a:Addr}{o:HO}
theorem ObjOk.lt(x:ObjOk P w H h a o):a<h.objs.size:=by
 cases o with
 |lst xs=>obtain⟨_,_,_,_,e⟩:=x;exact Heap.lt_size e
 |tup xs=>obtain⟨_,_,_,p⟩:=x;exact p.lt
 |dK kvs=>obtain⟨_,_,_,_,o,_,_,e,_⟩:=x;exact Heap.lt_size e
 |dT kvs=>obtain⟨_,_,_,_,o,_,_,e,_⟩:=x;exact Heap.lt_size e
 |set S n=>obtain⟨o,_,_,_,e,_⟩:=x;exact Heap.lt_size e
 |ins C dx fs=>obtain⟨_,_,_,e,_⟩:=x;exact Heap.lt_size e
 |own y=>obtain⟨_,e⟩:=x;exact Heap.lt_size e
 |xd fs=>obtain⟨_,⟨_,_,_,e,_⟩,_⟩:=x;exact Heap.lt_size e
 |rng lo hi=>obtain⟨_,_,_,e⟩:=x;exact Heap.lt_size e
 |frz ob u=>obtain⟨e,_⟩:=x;exact Heap.lt_size e
 |tbl ps=>exact Heap.lt_size (show h.get? a=some _ from x)
 |met f y=>exact Heap.lt_size (show h.get? a=some _ from x)
 |ext φ=>obtain⟨_,⟨_,e⟩,_⟩:=x;exact Heap.lt_size e
theorem Paired.mapP{α β:Type}{F G:α→β→Prop}:∀{l₁:List α} {l₂:List β},Paired F l₁ l₂→(∀a b,F a b→G a b)→Paired G l₁ l₂
 |_,_,.nil,_=> .nil
 |_,_,.cons r t,f=> .cons (f _ _ r) (Paired.mapP t f)
theorem ObjOk.stay(x:ObjOk P w H h a o)(k:∀b u,(b=a∨H b=some (.own a))→h.get? b=some u→h'.get? b=some u)
  (ho:∀b,H b=some (.own a)→H' b=some (.own a)) (ht:∀b xs,H b=some (.tup xs)→H' b=some (.tup xs)):ObjOk P w H' h' a o:=by
 induction o with
 |lst xs=>obtain⟨z,its,n,r,e⟩:=x;exact⟨z,its,n,r,k _ _ (.inl rfl) e⟩
 |tup xs=>obtain⟨z,its,r,ob,e,c⟩:=x;exact⟨z,its,r,ob,k _ _ (.inl rfl) e,c⟩
 |dK kvs=>obtain⟨z,y,vs,r,ob,es,ep,e,c⟩:=x;exact⟨z,y,vs,r,ob,es,ep,k _ _ (.inl rfl) e,c⟩
 |dT kvs=>
  obtain⟨z,y,xs,r,ob,es,ep,e,c⟩:=x
  exact⟨z,y,xs,Paired.mapP r fun p q z=> ⟨z.1,ht _ _ z.2.1,z.2.2⟩,ob,es,ep,k _ _ (.inl rfl) e,c⟩
 |set S n=>obtain⟨ob,es,ep,t,e,c⟩:=x;exact⟨ob,es,ep,t,k _ _ (.inl rfl) e,c⟩
 |ins C dx fs=>
  obtain⟨d,z,ne,e,mA,⟨od,es,ep,e2,c⟩,r⟩:=x
  exact⟨ho _ d,z,ne,k _ _ (.inl rfl) e,mA,⟨od,es,ep,k _ _ (.inr d) e2,c⟩,r⟩
 |own y=>obtain⟨ob,e⟩:=x;exact⟨ob,k _ _ (.inl rfl) e⟩
 |xd fs=>obtain⟨mA,⟨od,es,ep,e,c⟩,r⟩:=x;exact⟨mA,⟨od,es,ep,k _ _ (.inl rfl) e,c⟩,r⟩
 |rng lo hi=>obtain⟨t,u,v,e⟩:=x;exact⟨t,u,v,k _ _ (.inl rfl) e⟩
 |frz ob u ih=>obtain⟨e,q⟩:=x;exact⟨k _ _ (.inl rfl) e,ih q⟩
 |tbl ps=>
  have e:h.get? a=some {cls:=.none,data:=.fields ps}:=x
  show h'.get? a=some {cls:=.none,data:=.fields ps}
  exact k a _ (.inl rfl) e
 |met f y=>
  have e:h.get? a=some (PySem.W.methodObj (.ref f) (.ref y)):=x
  show h'.get? a=some (PySem.W.methodObj (.ref f) (.ref y))
  exact k a _ (.inl rfl) e
 |ext φ=>obtain⟨p,⟨o,e⟩,st⟩:=x;exact⟨st _ _ p fun o q=>k _ _ (.inl rfl) q,⟨o,k _ _ (.inl rfl) e⟩,st⟩
theorem HOk.lt(x:HOk P w H h)(e:H a=some o):a<h.objs.size:=(x a o e).lt
theorem HOk.fresh(x:HOk P w H h)(e:h.objs.size≤a):H a=none:=by
 cases q:H a with
 |none=>rfl
 |some u=>exact absurd (Nat.lt_of_lt_of_le (x.lt q) e) (Nat.lt_irrefl _)
theorem HOk.kept(x:HOk P w H h)(k:∀b u,h.get? b=some u→h'.get? b=some u):HOk P w H h':=fun a o e=>
 (x a o e).stay (fun b u _ q=>k b u q) (fun _ q=>q) fun _ _ q=>q
theorem HOk.laid(x:HOk P w H h)(k:∀b u,h.get? b=some u→h'.get? b=some u)(hp:h.objs.size≤a)(new:ObjOk P w (upd H a o) h' a o):HOk P w (upd H a o) h':=fun b u e=>by
 have hn:=x.fresh hp
 by_cases hb:b=a
 ·subst hb;rw[AO] at e;cases e;exact new
 ·rw[AQ hb] at e
  exact(x b u e).stay (fun c v _ q=>k c v q) (fun c q=>by rw[AQ (AV q hn)];exact q) fun c xs q=>by rw[AQ (AV q hn)];exact q
end
def Rd(H:Hp)(a:Addr)(u:HO):Prop:=H a=some u∨∃o,H a=some (.frz o u)
theorem Rd.ok{P:Program}{w:World}{H:Hp}{h:Heap}{a:Addr}{u:HO}(r:Rd H a u)(x:HOk P w H h):ObjOk P w H h a u:=by
 rcases r with r| ⟨o,r⟩
 ·exact x a u r
 ·obtain⟨_,q⟩:=x a _ r
  exact q
def aQ:Option HO→Prop
 |some (.lst _)=>True
 |some (.dK _)=>True
 |some (.dT _)=>True
 |some (.set _ _)=>True
 |some (.ins _ _ _)=>True
 |some (.ext _)=>True
 |_=>False
section
variable{P:Program}{w:World}{H:Hp}{h h':Heap}{x e:Addr}{o':HO}
theorem HOk.write(ok:HOk P w H h)(mu:aQ (H x))(he:e=x∨H e=some (.own x))(k:∀b u,b≠e→h.get? b=some u→h'.get? b=some u)(heo:∃u,h'.get? e=some u)
  (new:ObjOk P w (upd H x o') h' x o'):HOk P w (upd H x o') h':=fun b u q=>by
 have nown:∀c y,H c=some (.own y)→c≠x:=fun c y r z=>by subst z;rw[r] at mu;exact mu
 have ntup:∀c xs,H c=some (.tup xs)→c≠x:=fun c xs r z=>by subst z;rw[r] at mu;exact mu
 by_cases hb:b=x
 ·subst hb;rw[AO] at q;cases q;exact new
 ·rw[AQ hb] at q
  by_cases hbe:b=e
  ·have q':H b=some (.own x):=by
    rcases he with z|z
    ·exact absurd (hbe.trans z) hb
    ·rw[hbe];exact z
   rw[q] at q';cases q'
   obtain⟨v,hv⟩:=heo
   exact⟨v,by rw[hbe];exact hv⟩
  ·refine(ok b u q).stay (fun c v hc r=>k c v ?_ r) (fun c r=>by rw[AQ (nown c b r)];exact r) fun c xs r=>by rw[AQ (ntup c xs r)];exact r
   rcases hc with rfl|hc
   ·exact hbe
   ·rintro rfl
    rcases he with z|z
    ·exact nown c b hc z
    ·rw[hc] at z;cases z;exact hb rfl
end
structure Un(fs ex:List Addr)(H H':Hp)(h h':Heap):Prop where
 keep:∀b o,h.get? b=some o→H b=none→b∉fs→b∉ex→h'.get? b=some o
 slot:∀b o,h.get? b=some o→H b=none→b∈fs→b∉ex→∃sl,h'.get? b=some {o with slots:=sl}
 free:∀b o,h.get? b=some o→H b=none→b∉ex→H' b=none
 there:∀b o,h.get? b=some o→b∉ex→∃o',h'.get? b=some o'
 tups:∀b xs,H b=some (.tup xs)→H' b=some (.tup xs)
 frzs:∀b o u,H b=some (.frz o u)→H' b=some (.frz o u)
 tbls:∀b ps,H b=some (.tbl ps)→∃more,H' b=some (.tbl (ps++more))
section
variable{fs fs' ex ex':List Addr}{H H1 H2:Hp}{h h1 h2 h':Heap}{a x e:Addr}{o:HO}
theorem Un.any(u:Un fs ex H H1 h h1){b:Addr}{ob:Obj}(q:h.get? b=some ob)(n:H b=none)(hx:b∉ex):∃sl,h1.get? b=some {ob with slots:=sl}:=by
 by_cases hb:b∈fs
 ·exact u.slot b ob q n hb hx
 ·exact⟨ob.slots,u.keep b ob q n hb hx⟩
theorem Un.kept(k:∀b u,h.get? b=some u→h'.get? b=some u):Un fs ex H H h h':=
 ⟨fun b ob q _ _ _=>k b ob q,fun b ob q _ _ _=> ⟨ob.slots,k b ob q⟩,fun _ _ _ n _=>n,fun b ob q _=> ⟨ob,k b ob q⟩,fun _ _ q=>q,fun _ _ _ q=>q,fun _ ps q=> ⟨#[],by rw[q];simp⟩⟩
theorem Un.refl:Un fs ex H H h h:=Un.kept fun _ _ q=>q
theorem Un.laid(k:∀b u,h.get? b=some u→h'.get? b=some u)(hp:h.objs.size≤a)(hn:H a=none):Un fs ex H (upd H a o) h h' where
 keep:=fun b u q _ _ _=>k b u q
 slot:=fun b u q _ _ _=> ⟨u.slots,k b u q⟩
 free:=fun b u q n _=>by rw[AQ (Nat.ne_of_lt (Nat.lt_of_lt_of_le (Heap.lt_size q) hp))];exact n
 there:=fun b u q _=> ⟨u,k b u q⟩
 tups:=fun b xs q=>by rw[AQ (AV q hn)];exact q
 frzs:=fun b u xs q=>by rw[AQ (AV q hn)];exact q
 tbls:=fun b ps q=> ⟨#[],by rw[AQ (AV q hn),q];simp⟩
theorem Un.write(mu:aQ (H x))(he:e=x∨H e=some (.own x))(k:∀b u,b≠e→h.get? b=some u→h'.get? b=some u)(heo:∃u,h'.get? e=some u):Un fs ex H (upd H x o) h h':=by
 have hx:∀b,H b=none→b≠x:=fun b n z=>by subst z;rw[n] at mu;exact mu
 have hb:∀b,H b=none→b≠e:=fun b n z=>by
  subst z
  rcases he with r|r
  ·exact hx b n r
  ·rw[n] at r;cases r
 have hm:∀b u,H b=some u→¬aQ (some u)→b≠x:=fun b u q nm z=>by subst z;rw[q] at mu;exact nm mu
 refine⟨fun b u q n _ _=>k b u (hb b n) q,fun b u q n _ _=> ⟨u.slots,k b u (hb b n) q⟩,fun b u q n _=>by rw[AQ (hx b n)];exact n,fun b u q _=>?_,
  fun b xs q=>by rw[AQ (hm b _ q fun z=>z)];exact q,fun b u xs q=>by rw[AQ (hm b _ q fun z=>z)];exact q,fun b ps q=> ⟨#[],by rw[AQ (hm b _ q fun z=>z),q];simp⟩⟩
 by_cases hbe:b=e
 ·subst hbe;exact heo
 ·exact⟨u,k b u hbe q⟩
end
def aR(h:Heap)(H:Hp):List Addr:=(List.range h.objs.size).filter fun a=> (H a).isSome
def JF(h:Heap)(H:Hp):Heap:=PySem.W.hideAll h (aR h H)
theorem OP(h:Heap)(H:Hp):(JF h H).objs.size=h.objs.size:=PySem.W.hideAll_size _ _
theorem PX{h:Heap}{H:Hp}{b:Addr}{o:Obj}(e:h.get? b=some o)(n:H b=none):(JF h H).get? b=some o:=
 PySem.W.hideAll_get _ e fun hm=>by
  have q:(H b).isSome=true:=(List.mem_filter.mp hm).2
  rw[n] at q;simp at q
theorem Sb{h:Heap}{H:Hp}{b:Addr}{o:Obj}(e:(JF h H).get? b=some o):h.get? b=some o∧H b=none:=by
 have e':h.get? b=some o:=PySem.W.of_hideAll (aR h H) e
 refine⟨e',?_⟩
 cases q:H b with
 |none=>rfl
 |some x=>
  have hm:b∈aR h H:=List.mem_filter.mpr ⟨List.mem_range.mpr (Heap.lt_size e'),by simp[q]⟩
  have z:(JF h H).get? b=none:=PySem.W.hideAll_none (aR h H) hm
  rw[z] at e;cases e
structure Mod(K:PySem.W.Frag)(mg:Str→Option Value)(base:Heap):Prop where
 kin:K.In base
 glob:base.Ns mainGlobals mg
 blt:∃mb,base.Ns builtinsNs mb∧∀x:Str,x≠"__name__"→mb x=bootBuiltins x
 nolimit:base.NoLimit
structure Cx where
 prog:Program
 w:World
 K:PySem.W.Frag
 mg:Str→Option Value
 base:Heap
 A:Around
 N:List Str
 s₀:Shared
 H₀:Hp
 env:Env
 outer:List Env
 stack:List Env
 ex:List Addr
 fn:Str→Bool
 calm:Bool
 pn:List (Addr×Obj)
 xe:Value→Shared→Prop
def FR(l:List Env):List Addr:=l.filterMap (·.frame)
abbrev Cx.fs(X:Cx):List Addr:=FR X.outer
def YA(sc:Scope)(x:Str):Prop:=sc.names.lookup x=some .local∨sc.names.lookup x=some .cell∨sc.names.lookup x=some .free
def PU(sc:Scope)(x:Str):Prop:=sc.names.lookup x=some .local∨sc.names.lookup x=some .cell
def ah(env:Env)(h:Heap)(m:Str→Option Value)(x:Str)(u:Value):Prop:=
 (env.kindOf x=some .local∧m x=some u)∨((env.kindOf x=some .cell∨env.kindOf x=some .free)∧∃c,env.cells.lookup x=some c∧h.IsCell c (some u))
structure Cx.Ok(X:Cx):Prop where
 mod:Mod X.K X.mg X.base
 kind:X.env.scope.kind=.function
 glob:X.env.globals=mainGlobals
 blt:X.env.builtins=builtinsNs
 above:X.s₀.heap.objs.size≤X.env.locals
 inj:∀x y c,X.env.cells.lookup x=some c→X.env.cells.lookup y=some c→x=y
 has:∀x,(X.env.kindOf x=some .cell∨X.env.kindOf x=some .free)→∃c,X.env.cells.lookup x=some c
 cab:∀x c,X.fn x=true→X.env.cells.lookup x=some c→X.s₀.heap.objs.size≤c
 hd:X.calm=true→X.A.handled=none
 frames:X.A.frames=some X.stack
 stk:X.stack=X.outer∨(X.stack=X.env::X.outer∧X.env.frame=some X.env.locals)
 exf:∀b∈X.ex,b≠X.env.locals∧∀x c,X.env.cells.lookup x=some c→c≠b
 bs:∀b o,X.base.get? b=some o→X.s₀.heap.get? b=some o∧X.H₀ b=none
 bsz:X.base.objs.size≤X.s₀.heap.objs.size
 noex:∀b o,X.base.get? b=some o→b∉X.ex
 exfs:∀b∈X.ex,b∉X.fs
 funs:X.s₀.heap.FunFrames X.base X.outer
 frf:∀b∈X.fs,X.H₀ b=none
structure Inv(X:Cx)(pins:List (Addr×Obj))(σ:List (Option V))(H:Hp)(s:Shared):Prop where
 ok:X.Ok
 os:s.os=X.s₀.os
 bare:AllBare s.gens
 base:Un X.fs X.ex X.H₀ H X.s₀.heap s.heap
 loc:∃m,s.heap.Ns X.env.locals m∧∀(i:Nat) (x:Str) (v:V),X.N[i]?=some x→σ[i]?=some (some v)→YA X.env.scope x→∃u,RelV v u∧ah X.env s.heap m x u
 cell:∀x c,X.env.cells.lookup x=some c→∃v,s.heap.IsCell c v
 free:H X.env.locals=none
 freeC:∀x c,X.env.cells.lookup x=some c→H c=none
 pin:∀p∈X.pn++pins,s.heap.get? p.1=some p.2∧H p.1=none∧p.1≠X.env.locals∧p.1∉X.fs∧∀v,p.2.data≠.cell v
 hok:HOk X.prog X.w H s.heap
 len:σ.length=X.N.length
section
variable{X:Cx}{pins:List (Addr×Obj)}{σ:List (Option V)}{H H':Hp}{s:Shared}{h':Heap}
theorem Cx.Ok.nofr(ok:X.Ok){b:Addr}{o:Obj}(e:X.base.get? b=some o):b∉X.fs:=fun hb=>by
 have:=(ok.funs.mem hb).1
 rw[e] at this;cases this
theorem Inv.bs(I:Inv X pins σ H s):∀b o,X.base.get? b=some o→s.heap.get? b=some o∧H b=none:=fun b o e=>
 ⟨I.base.keep b o (I.ok.bs b o e).1 (I.ok.bs b o e).2 (I.ok.nofr e) (I.ok.noex b o e),I.base.free b o (I.ok.bs b o e).1 (I.ok.bs b o e).2 (I.ok.noex b o e)⟩
theorem Inv.bk(I:Inv X pins σ H s):∀b o,X.base.get? b=some o→s.heap.get? b=some o:=fun b o e=> (I.bs b o e).1
theorem Inv.mod(I:Inv X pins σ H s):Mod X.K X.mg X.base:=I.ok.mod
theorem Inv.kIn(I:Inv X pins σ H s):X.K.In s.heap:=I.ok.mod.kin.keeps I.bk
theorem Inv.lt(I:Inv X pins σ H s):X.env.locals<s.heap.objs.size:=let⟨_,hn,_⟩:=I.loc;hn.lt
theorem Inv.sz(I:Inv X pins σ H s):X.s₀.heap.objs.size≤s.heap.objs.size:=Nat.le_trans I.ok.above (Nat.le_of_lt I.lt)
theorem Inv.nofs(I:Inv X pins σ H s){a:Addr}(h:s.heap.objs.size≤a):a∉X.fs:=fun hb=>by
 obtain⟨_,o,ho,_⟩:=I.ok.funs.mem hb
 exact absurd (Nat.lt_of_lt_of_le (Heap.lt_size ho) (Nat.le_trans I.sz h)) (Nat.lt_irrefl _)
theorem Inv.cne(I:Inv X pins σ H s):∀x c,X.env.cells.lookup x=some c→c≠X.env.locals:=fun x c e z=>by
 obtain⟨v,o,ho,hd⟩:=I.cell x c e
 obtain⟨m,⟨o',es,ep,ho',hd',_⟩,_⟩:=I.loc
 rw[z,ho'] at ho;cases ho;rw[hd'] at hd;cases hd
theorem Inv.funs(I:Inv X pins σ H s):s.heap.FunFrames X.base X.outer:=by
 have all:∀(l:List Env),(∀b∈FR l,b∈X.fs)→X.s₀.heap.FunFrames X.base l→s.heap.FunFrames X.base l:=by
  intro l
  induction l with
  |nil=>intro _ _;trivial
  |cons env r ih=>
   intro hs hl
   obtain⟨hk,⟨L,o,hf,hn,ho,hd⟩,hr⟩:=hl
   have hL:L∈X.fs:=hs L (by unfold FR;rw[List.filterMap_cons,hf];exact List.mem_cons_self)
   obtain⟨sl,e⟩:=I.base.slot L o ho (I.ok.frf L hL) hL fun z=>I.ok.exfs L z hL
   exact⟨hk,⟨L,_,hf,hn,e,hd⟩,ih (fun b hb=>hs b (by unfold FR;rw[List.filterMap_cons,hf];exact List.mem_cons_of_mem _ hb)) hr⟩
 exact all X.outer (fun _ hb=>hb) I.ok.funs
theorem Inv.stack(I:Inv X pins σ H s):s.heap.FunFrames X.base X.stack:=by
 rcases I.ok.stk with e| ⟨e,hf⟩
 ·rw[e];exact I.funs
 ·rw[e]
  obtain⟨m,hn,_⟩:=I.loc
  refine .cons (by rw[I.ok.kind];decide) hf hn ?_ I.funs
  exact Heap.get?_none_of_le (Nat.le_trans I.ok.bsz I.ok.above)
theorem Inv.stkSub(I:Inv X pins σ H s):∀b∈FR X.stack,b∈X.env.locals::X.fs:=fun b hb=>by
 rcases I.ok.stk with e| ⟨e,hf⟩
 ·rw[e] at hb;exact List.mem_cons_of_mem _ hb
 ·rw[e] at hb
  unfold FR at hb
  rw[List.filterMap_cons,hf] at hb
  exact hb
theorem Inv.stkFree(I:Inv X pins σ H s):∀b∈FR X.stack,H b=none:=fun b hb=>by
 rcases List.mem_cons.mp (I.stkSub b hb) with e|hb
 ·rw[e];exact I.free
 ·obtain⟨_,o,ho,_⟩:=I.ok.funs.mem hb
  exact I.base.free b o ho (I.ok.frf b hb) fun z=>I.ok.exfs b z hb
theorem Inv.step{g':Array GenState}{t':Nat}{d':Drawn}{ch:List Addr}(I:Inv X pins σ H s)
  (hch:∀b∈ch,(b∈X.ex∨X.s₀.heap.objs.size≤b)∧b≠X.env.locals∧(∀x c,X.env.cells.lookup x=some c→c≠b)∧∀p∈X.pn++pins,p.1≠b)
  (keep:∀b o,b≠X.env.locals→b∉X.fs→b∉ch→s.heap.get? b=some o→H b=none→h'.get? b=some o)
  (slot:∀b o,b≠X.env.locals→b∈X.fs→b∉ch→s.heap.get? b=some o→H b=none→∃sl,h'.get? b=some {o with slots:=sl}) (free:∀b o,b∉ch→s.heap.get? b=some o→H b=none→H' b=none)
  (there:∀b o,b∉ch→s.heap.get? b=some o→∃o',h'.get? b=some o')
  (tups:∀b xs,H b=some (.tup xs)→H' b=some (.tup xs)) (frzs:∀b o u,H b=some (.frz o u)→H' b=some (.frz o u)) (tbls:∀b ps,H b=some (.tbl ps)→∃more,H' b=some (.tbl (ps++more)))
  (ns:∀m,s.heap.Ns X.env.locals m→h'.Ns X.env.locals m) (hok:HOk X.prog X.w H' h') (hg:AllBare g'):
  Inv X pins σ H' {s with heap:=h',gens:=g',drawn:=d',toks:=t'}:=by
 have neL:∀b o,X.s₀.heap.get? b=some o→b≠X.env.locals:=fun b o e=>Nat.ne_of_lt (Nat.lt_of_lt_of_le (Heap.lt_size e) I.ok.above)
 have neC:∀b o,X.s₀.heap.get? b=some o→b∉X.ex→b∉ch:=fun b o e hx hb=>by
  rcases(hch b hb).1 with z|z
  ·exact hx z
  ·exact absurd (Nat.lt_of_lt_of_le (Heap.lt_size e) z) (Nat.lt_irrefl _)
 have cellK:∀x c,X.env.cells.lookup x=some c→∀v,s.heap.IsCell c v→h'.IsCell c v:=fun x c e v ⟨o,ho,hd⟩=>by
  have nch:c∉ch:=fun z=> (hch c z).2.2.1 x c e rfl
  by_cases hc:c∈X.fs
  ·obtain⟨sl,q⟩:=slot c o (I.cne x c e) hc nch ho (I.freeC x c e)
   exact⟨_,q,hd⟩
  ·exact⟨o,keep c o (I.cne x c e) hc nch ho (I.freeC x c e),hd⟩
 refine⟨I.ok,I.os,hg,⟨fun b o e n hb hx=>?_,fun b o e n hb hx=>?_,fun b o e n hx=>?_,fun b o e hx=>?_,fun b xs e=>tups b xs (I.base.tups b xs e),fun b o xs e=>frzs b o xs (I.base.frzs b o xs e),fun b ps e=>?_⟩,?_,fun x c e=>?_,?_,fun x c e=>?_,fun p hp=>?_,hok,I.len⟩
 ·exact keep b o (neL b o e) hb (neC b o e hx) (I.base.keep b o e n hb hx) (I.base.free b o e n hx)
 ·obtain⟨sl,e1⟩:=I.base.slot b o e n hb hx
  obtain⟨sl',e2⟩:=slot b _ (neL b o e) hb (neC b o e hx) e1 (I.base.free b o e n hx)
  exact⟨sl',e2⟩
 ·obtain⟨o',e1⟩:=I.base.there b o e hx
  exact free b o' (neC b o e hx) e1 (I.base.free b o e n hx)
 ·obtain⟨o',e1⟩:=I.base.there b o e hx
  exact there b o' (neC b o e hx) e1
 ·obtain⟨m1,e1⟩:=I.base.tbls b ps e
  obtain⟨m2,e2⟩:=tbls b _ e1
  exact⟨m1++m2,by rw[e2,Array.append_assoc]⟩
 ·obtain⟨m,hn,hl⟩:=I.loc
  refine⟨m,ns m hn,fun i x v e1 e2 e3=>?_⟩
  obtain⟨u,r,l⟩:=hl i x v e1 e2 e3
  refine⟨u,r,?_⟩
  rcases l with l| ⟨k,c,e,z⟩
  ·exact .inl l
  ·exact .inr ⟨k,c,e,cellK x c e _ z⟩
 ·obtain⟨v,z⟩:=I.cell x c e
  exact⟨v,cellK x c e v z⟩
 ·obtain⟨m,⟨o,_,_,ho,_⟩,_⟩:=I.loc
  exact free _ o (fun z=> (hch _ z).2.1 rfl) ho I.free
 ·obtain⟨v,o,ho,hd⟩:=I.cell x c e
  exact free c o (fun z=> (hch c z).2.2.1 x c e rfl) ho (I.freeC x c e)
 ·obtain⟨e,n,ne,nf,d⟩:=I.pin p hp
  have nch:p.1∉ch:=fun z=> (hch p.1 z).2.2.2 p hp rfl
  exact⟨keep p.1 p.2 ne nf nch e n,free p.1 p.2 nch e n,ne,nf,d⟩
theorem Inv.un{t':Nat}(I:Inv X pins σ H s)(u:Un X.fs [] H H' s.heap h')(hok:HOk X.prog X.w H' h'):Inv X pins σ H' {s with heap:=h',toks:=t'}:=by
 obtain⟨m,⟨o,es,ep,ho,r⟩,_⟩:=id I.loc
 obtain⟨sl,hL⟩:=u.any ho I.free (by simp)
 exact I.step (g':=s.gens) (d':=s.drawn) (ch:=[]) (fun _ z=>nomatch z) (fun b o _ hb _ e n=>u.keep b o e n hb (by simp)) (fun b o _ hb _ e n=>u.slot b o e n hb (by simp)) (fun b o _ e n=>u.free b o e n (by simp)) (fun b o _ e=>u.there b o e (by simp)) u.tups u.frzs u.tbls (fun m' hm=>by
  obtain⟨o',es',ep',ho',r'⟩:=hm
  rw[ho] at ho';cases ho'
  exact⟨_,es',ep',hL,r'⟩) hok I.bare
theorem Inv.call{g':Array GenState}{t':Nat}{d':Drawn}{ch:List Addr}(I:Inv X pins σ H s)(u:Un (FR X.stack) ch H H' s.heap h')(hok:HOk X.prog X.w H' h')(hg:AllBare g')
  (hch:∀b∈ch,(b∈X.ex∨X.s₀.heap.objs.size≤b)∧b≠X.env.locals∧(∀x c,X.env.cells.lookup x=some c→c≠b)∧∀p∈X.pn++pins,p.1≠b):
  Inv X pins σ H' {s with heap:=h',gens:=g',drawn:=d',toks:=t'}:=by
 obtain⟨m,⟨o,es,ep,ho,r⟩,_⟩:=id I.loc
 obtain⟨sl,hL⟩:=u.any ho I.free fun z=> (hch _ z).2.1 rfl
 exact I.step (ch:=ch) hch (fun b o hL hb hc e n=>u.keep b o e n (fun z=> (List.mem_cons.mp (I.stkSub b z)).elim hL hb) hc) (fun b o _ _ hc e n=>u.any e n hc) (fun b o hc e n=>u.free b o e n hc) (fun b o hc e=>u.there b o e hc) u.tups u.frzs u.tbls (fun m' hm=>by
  obtain⟨o',es',ep',ho',r'⟩:=hm
  rw[ho] at ho';cases ho'
  exact⟨_,es',ep',hL,r'⟩) hok hg
theorem Inv.turned{t':Nat}{it:Addr}(I:Inv X pins σ H s)(k:∀b o,b≠it→s.heap.get? b=some o→h'.get? b=some o)(hn:H it=none)(hL:it≠X.env.locals)
  (h1:it∈X.ex∨X.s₀.heap.objs.size≤it) (h2:∀x c,X.env.cells.lookup x=some c→c≠it) (h3:∀p∈X.pn++pins,p.1≠it):Inv X pins σ H {s with heap:=h',toks:=t'}:=by
 have nit:∀b u,H b=some u→b≠it:=fun b u e z=>by rw[z,hn] at e;cases e
 refine I.step (g':=s.gens) (d':=s.drawn) (ch:=[it]) (fun b hb=>?_) (fun b o _ _ hc e _=>k b o (fun z=>hc (by simp[z])) e) (fun b o _ _ hc e _=> ⟨o.slots,k b o (fun z=>hc (by simp[z])) e⟩) (fun _ _ _ _ n=>n)
  (fun b o hc e=> ⟨o,k b o (fun z=>hc (by simp[z])) e⟩) (fun _ _ e=>e) (fun _ _ _ e=>e) (fun b ps e=> ⟨#[],by rw[e];simp⟩) (fun m hm=>?_) (fun b u e=>?_) I.bare
 ·have e:b=it:=by simpa using hb
  subst e
  exact⟨h1,hL,h2,h3⟩
 ·obtain⟨o,es,ep,ho,r⟩:=hm
  exact⟨o,es,ep,k _ o (Ne.symm hL) ho,r⟩
 ·refine(I.hok b u e).stay (fun c v hc q=>k c v ?_ q) (fun _ q=>q) fun _ _ q=>q
  rcases hc with z|z
  ·rw[z];exact nit b u e
  ·exact nit c _ z
theorem Inv.tok(I:Inv X pins σ H s)(t:Nat):Inv X pins σ H {s with toks:=t}:=I.un (h':=s.heap) (t':=t) Un.refl I.hok
theorem Inv.kept{t':Nat}(I:Inv X pins σ H s)(k:∀b u,s.heap.get? b=some u→h'.get? b=some u):Inv X pins σ H {s with heap:=h',toks:=t'}:=I.un (Un.kept k) (I.hok.kept k)
theorem Inv.laid{a:Addr}{o:HO}{t':Nat}(I:Inv X pins σ H s)(k:∀b u,s.heap.get? b=some u→h'.get? b=some u)(hp:s.heap.objs.size≤a)(new:ObjOk X.prog X.w (upd H a o) h' a o):
  Inv X pins σ (upd H a o) {s with heap:=h',toks:=t'}:=I.un (Un.laid k hp (I.hok.fresh hp)) (I.hok.laid k hp new)
theorem Inv.write{x e:Addr}{o:HO}{t':Nat}(I:Inv X pins σ H s)(mu:aQ (H x))(he:e=x∨H e=some (.own x))(k:∀b u,b≠e→s.heap.get? b=some u→h'.get? b=some u)(heo:∃u,h'.get? e=some u)
  (new:ObjOk X.prog X.w (upd H x o) h' x o):Inv X pins σ (upd H x o) {s with heap:=h',toks:=t'}:=I.un (Un.write mu he k heo) (I.hok.write mu he k heo new)
theorem Inv.weak{σ':List (Option V)}(I:Inv X pins σ H s)(hl:σ'.length=σ.length)(w:∀(i:Nat) v,σ'[i]?=some (some v)→σ[i]?=some (some v)):Inv X pins σ' H s:=
 ⟨I.ok,I.os,I.bare,I.base,let⟨m,hn,hl'⟩:=I.loc;⟨m,hn,fun i x v e1 e2 e3=>hl' i x v e1 (w i v e2) e3⟩,I.cell,I.free,I.freeC,I.pin,I.hok,hl.trans I.len⟩
theorem Inv.pins_of{pins':List (Addr×Obj)}(I:Inv X pins σ H s)(h:∀p∈pins',s.heap.get? p.1=some p.2∧H p.1=none∧p.1≠X.env.locals∧p.1∉X.fs∧∀v,p.2.data≠.cell v):Inv X pins' σ H s:=
 ⟨I.ok,I.os,I.bare,I.base,I.loc,I.cell,I.free,I.freeC,fun p hp=> (List.mem_append.mp hp).elim (fun z=>I.pin p (List.mem_append_left _ z)) (h p),I.hok,I.len⟩
theorem GX{N:List Str}(hN:N.Nodup){i j:Nat}{x:Str}(a:N[i]?=some x)(b:N[j]?=some x):i=j:=by
 obtain⟨h1,e1⟩:=List.getElem?_eq_some_iff.mp a
 obtain⟨h2,e2⟩:=List.getElem?_eq_some_iff.mp b
 exact(List.getElem_inj hN).mp (e1.trans e2.symm)
theorem IG{M:Model}{A:Around}{E:Value→Shared→Prop}{i:Nat}{x:Str}{v:V}{u:Value}{Q:Unit→Shared→Prop}(I:Inv X pins σ H s)(hN:X.N.Nodup)(hi:X.N[i]?=some x)(hx:PU X.env.scope x)(r:RelV v u)
  (h:∀s',Inv X pins (σ.set i (some v)) H s'→(∃a,Heap.SameBut a s.heap s'.heap∧(a=X.env.locals∨X.env.cells.lookup x=some a))→Q () s') (hf:X.fn x=true∨X.env.scope.names.lookup x=some .local:=by first|exact .inl rfl|exact .inr rfl|assumption):wpAny M A (storeName X.env x u) Q E s:=by
 obtain⟨m,hn,hl⟩:=id I.loc
 have hcls:(X.env.scope.kind==.class|| (X.env.scope.kind==.module&&X.env.locals !=X.env.globals))=false:=by rw[I.ok.kind];rfl
 have hiσ:i<σ.length:=by rw[I.len];exact(List.getElem?_eq_some_iff.mp hi).1
 have cne:=I.cne
 have tracked:∀{a:Addr} {h':Heap},(∃o,s.heap.get? a=some o∧H a=none)→Heap.SameBut a s.heap h'→HOk X.prog X.w H h':=fun{a h'} ha hs b ob e=>by
  obtain⟨_,_,hfree⟩:=ha
  refine(I.hok b ob e).stay (fun c w' hc q=> (hs.2 c ?_).trans q) (fun _ q=>q) fun _ _ q=>q
  rintro rfl
  rcases hc with rfl|hc
  ·rw[hfree] at e;cases e
  ·rw[hfree] at hc;cases hc
 rcases hx with hk|hk
 ·refine wpAny_storeName_local hk hn (fun h' hn' hs=>?_) hcls
  obtain⟨oL,_,_,hoL,_⟩:=id hn
  refine h _ ⟨I.ok,I.os,I.bare,⟨fun b o e n hb hx=>?_,fun b o e n hb hx=>?_,I.base.free,fun b o e hx=>?_,I.base.tups,I.base.frzs,I.base.tbls⟩,⟨_,hn',fun j y v' e1 e2 e3=>?_⟩,fun y c e=>?_,I.free,I.freeC,fun p hp=>?_,tracked ⟨oL,hoL,I.free⟩ hs,by simpa using I.len⟩ ⟨_,hs,.inl rfl⟩
  ·exact(hs.2 b (Nat.ne_of_lt (Nat.lt_of_lt_of_le (Heap.lt_size e) I.ok.above))).trans (I.base.keep b o e n hb hx)
  ·obtain⟨sl,e1⟩:=I.base.slot b o e n hb hx
   exact⟨sl,(hs.2 b (Nat.ne_of_lt (Nat.lt_of_lt_of_le (Heap.lt_size e) I.ok.above))).trans e1⟩
  ·obtain⟨o',e1⟩:=I.base.there b o e hx
   exact⟨o',(hs.2 b (Nat.ne_of_lt (Nat.lt_of_lt_of_le (Heap.lt_size e) I.ok.above))).trans e1⟩
  ·by_cases hj:j=i
   ·subst hj
    rw[hi] at e1;cases e1
    rw[List.getElem?_set_self hiσ] at e2
    cases e2
    exact⟨u,r,.inl ⟨hk,by simp⟩⟩
   ·rw[List.getElem?_set_ne (Ne.symm hj)] at e2
    obtain⟨u',r',q⟩:=hl j y v' e1 e2 e3
    refine⟨u',r',?_⟩
    rcases q with⟨k,e⟩| ⟨k,c,e,z⟩
    ·refine .inl ⟨k,?_⟩
     have:y≠x:=fun e=>hj (GX hN e1 (e▸hi))
     simp[this,e]
    ·exact .inr ⟨k,c,e,z.sameBut hs (cne y c e)⟩
  ·obtain⟨w',z⟩:=I.cell y c e
   exact⟨w',z.sameBut hs (cne y c e)⟩
  ·obtain⟨e,n,ne,nf,d⟩:=I.pin p hp
   exact⟨(hs.2 p.1 ne).trans e,n,ne,nf,d⟩
 ·have hfn:X.fn x=true:=by
   rcases hf with z|z
   ·exact z
   ·rw[z] at hk;cases hk
  obtain⟨c,hc⟩:=I.ok.has x (.inl hk)
  obtain⟨w',z⟩:=I.cell x c hc
  refine wpAny_storeName_cell I.ok.kind hk hc z (fun h' hc' hs=>?_)
  obtain⟨oc,hoc,hocd⟩:=id z
  refine h {s with heap:=h'} ⟨I.ok,I.os,I.bare,⟨fun b o e n hb hx=>?_,fun b o e n hb hx=>?_,I.base.free,fun b o e hx=>?_,I.base.tups,I.base.frzs,I.base.tbls⟩,⟨m,hn.sameBut hs (Ne.symm (cne x c hc)),fun j y v' e1 e2 e3=>?_⟩,fun y c' e=>?_,I.free,I.freeC,fun p hp=>?_,tracked ⟨oc,hoc,I.freeC x c hc⟩ hs,by simpa using I.len⟩ ⟨c,hs,.inr hc⟩
  ·exact(hs.2 b (Nat.ne_of_lt (Nat.lt_of_lt_of_le (Heap.lt_size e) (I.ok.cab x c hfn hc)))).trans (I.base.keep b o e n hb hx)
  ·obtain⟨sl,e1⟩:=I.base.slot b o e n hb hx
   exact⟨sl,(hs.2 b (Nat.ne_of_lt (Nat.lt_of_lt_of_le (Heap.lt_size e) (I.ok.cab x c hfn hc)))).trans e1⟩
  ·obtain⟨o',e1⟩:=I.base.there b o e hx
   exact⟨o',(hs.2 b (Nat.ne_of_lt (Nat.lt_of_lt_of_le (Heap.lt_size e) (I.ok.cab x c hfn hc)))).trans e1⟩
  ·by_cases hj:j=i
   ·subst hj
    rw[hi] at e1;cases e1
    rw[List.getElem?_set_self hiσ] at e2
    cases e2
    exact⟨u,r,.inr ⟨.inl hk,c,hc,hc'⟩⟩
   ·rw[List.getElem?_set_ne (Ne.symm hj)] at e2
    obtain⟨u',r',q⟩:=hl j y v' e1 e2 e3
    refine⟨u',r',?_⟩
    rcases q with q| ⟨k,c',e,z'⟩
    ·exact .inl q
    ·refine .inr ⟨k,c',e,z'.sameBut hs ?_⟩
     rintro rfl
     exact hj (GX hN e1 (I.ok.inj _ _ _ e hc▸hi))
  ·by_cases hcc:c'=c
   ·subst hcc;exact⟨_,hc'⟩
   ·obtain⟨w2,z2⟩:=I.cell y c' e
    exact⟨w2,z2.sameBut hs hcc⟩
  ·obtain⟨e,n,ne,nf,d⟩:=I.pin p hp
   refine⟨(hs.2 p.1 ?_).trans e,n,ne,nf,d⟩
   intro q
   rw[q,hoc] at e
   have q':oc=p.2:=Option.some.inj e
   exact d w' (by rw[←q'];exact hocd)
theorem Eb{M:Model}{A:Around}{E:Value→Shared→Prop}{i:Nat}{x:Str}{v:V}{u:Value}{Q:Unit→Shared→Prop}(I:Inv X pins σ H s)(hN:X.N.Nodup)(hi:X.N[i]?=some x)(hx:PU X.env.scope x)(r:RelV v u)
  (h:∀s',Inv X pins (σ.set i (some v)) H s'→Q () s') (hf:X.fn x=true∨X.env.scope.names.lookup x=some .local:=by first|exact .inl rfl|exact .inr rfl|assumption):wpAny M A (storeName X.env x u) Q E s:=
 IG I hN hi hx r (fun s' I' _=>h s' I') hf
theorem Inv.call'{s':Shared}{ch:List Addr}(I:Inv X pins σ H s)(ho:s'.os=s.os)(u:Un (FR X.stack) ch H H' s.heap s'.heap)(hok:HOk X.prog X.w H' s'.heap)(hg:AllBare s'.gens)
  (hch:∀b∈ch,(b∈X.ex∨X.s₀.heap.objs.size≤b)∧b≠X.env.locals∧(∀x c,X.env.cells.lookup x=some c→c≠b)∧∀p∈X.pn++pins,p.1≠b):Inv X pins σ H' s':=by
 obtain⟨h',g',d',t',o'⟩:=s'
 have e:o'=s.os:=ho
 subst e
 exact I.call (g':=g') (t':=t') (d':=d') u hok hg hch
end
abbrev XK:=Value→Option Addr→Hp→Prop
abbrev St:=List (Option V)
abbrev VK:=V→Hp→Prop
abbrev TE:=St→Hp→VK→Prop
abbrev TT:=St→Hp→(Bool→Hp→Prop)→Prop
abbrev TA:=St→Hp→(List V→Hp→Prop)→Prop
structure Ends where
 nx:St→Hp→Prop
 rt:VK
 bk:St→Hp→Prop:=fun _ _=>False
 ct:St→Hp→Prop:=fun _ _=>False
abbrev TS:=Ends→St→Hp→Prop
def EP(X:Cx)(pins:List (Addr×Obj))(σ:St)(Q:VK)(u:Value)(s':Shared):Prop:=∃v H',Inv X pins σ H' s'∧RelV v u∧Q v H'
def TP(X:Cx)(pins:List (Addr×Obj))(σ:St)(Q:Bool→Hp→Prop)(b:Bool)(s':Shared):Prop:=∃H',Inv X pins σ H' s'∧Q b H'
def AP(X:Cx)(pins:List (Addr×Obj))(σ:St)(Q:List V→Hp→Prop)(us:List Value)(s':Shared):Prop:=∃vs H',Inv X pins σ H' s'∧Vals vs us∧Q vs H'
def SP(X:Cx)(pins:List (Addr×Obj))(D:Ends)(f:Flow)(s':Shared):Prop:=
 match f with
 | .next=>∃σ' H',Inv X pins σ' H' s'∧D.nx σ' H'
 | .brk=>∃σ' H',Inv X pins σ' H' s'∧D.bk σ' H'
 | .cont=>∃σ' H',Inv X pins σ' H' s'∧D.ct σ' H'
 | .ret u=>∃v σ' H',Inv X pins σ' H' s'∧RelV v u∧D.rt v H'
def PE(X:Cx)(e:Expr)(t:TE):Prop:=
 ∀(pins:List (Addr×Obj)) (s:Shared) (σ:St) (H:Hp) (Q:VK),Inv X pins σ H s→t σ H Q→wpAny (model X.prog X.w) X.A (eval e X.env) (EP X pins σ Q) X.xe s
def PT(X:Cx)(e:Expr)(t:TT):Prop:=
 ∀(pins:List (Addr×Obj)) (s:Shared) (σ:St) (H:Hp) (Q:Bool→Hp→Prop),Inv X pins σ H s→t σ H Q→wpAny (model X.prog X.w) X.A (isTrue e X.env (eval e X.env)) (TP X pins σ Q) X.xe s
def PW(X:Cx)(e:Expr)(t:TT):Prop:=
 ∀(whole:Sem Value) (pins:List (Addr×Obj)) (s:Shared) (σ:St) (H:Hp) (Q:Bool→Hp→Prop),Inv X pins σ H s→t σ H Q→wpAny (model X.prog X.w) X.A (isTrue e X.env whole) (TP X pins σ Q) X.xe s
theorem PW.pt{X:Cx}{e:Expr}{t:TT}(h:PW X e t):PT X e t:=h _
def PA(X:Cx)(es:List Expr)(t:TA):Prop:=
 ∀(pos:Pos) (pins:List (Addr×Obj)) (s:Shared) (σ:St) (H:Hp) (Q:List V→Hp→Prop),Inv X pins σ H s→t σ H Q→wpAny (model X.prog X.w) X.A (spliced (backTo pos (starEach es X.env))) (AP X pins σ Q) X.xe s
def PS(X:Cx)(st:Stmt)(t:TS):Prop:=
 ∀(pins:List (Addr×Obj)) (s:Shared) (σ:St) (H:Hp) (D:Ends),Inv X pins σ H s→t D σ H→wpAny (model X.prog X.w) X.A (exec st X.env) (SP X pins D) X.xe s
def PSs(X:Cx)(st:List Stmt)(t:TS):Prop:=
 ∀(pins:List (Addr×Obj)) (s:Shared) (σ:St) (H:Hp) (D:Ends),Inv X pins σ H s→t D σ H→wpAny (model X.prog X.w) X.A (execs st X.env) (SP X pins D) X.xe s
theorem Ay{α:Type}{t:Sem α}{Q Q':α→Shared→Prop}{M:Model}{A:Around}{E:Value→Shared→Prop}{s:Shared}(h:wpAny M A t Q E s)(hQ:∀a s,Q a s→Q' a s):wpAny M A t Q' E s:=wpAny_mono h hQ fun _ _ x=>x
section
variable{X:Cx}
def YF(i:Nat):TE:=fun σ H Q=>∃v,σ[i]?=some (some v)∧Q v H
def tC(v:V):TE:=fun _ H Q=>Q v H
theorem PY{i:Nat}{x:Str}{pos:Pos}(hN:X.N[i]?=some x)(hv:YA X.env.scope x)(hd:(x==("__debug__" :Str))=false:=by decide)(hcd:(x==("__classdict__" :Str))=false:=by decide):PE X (.Name x pos) (YF i):=by
 intro pins s σ H Q I h
 obtain⟨v,e,h⟩:=h
 obtain⟨m,hn,hl⟩:=I.loc
 obtain⟨u,r,l⟩:=hl i x v hN e hv
 have fin:EP X pins σ Q u s:=⟨v,H,I,r,h⟩
 rcases l with⟨hk,hm⟩| ⟨hk,c,hc,hcell⟩
 ·exact wpAny_Name (wpAny_loadName_local I.ok.kind hk hn hm fin) hd
 ·rcases hk with hk|hk
  ·exact wpAny_Name (wpAny_loadName_cell I.ok.kind hk hc hcell fin) hd
  ·exact wpAny_Name (wpAny_loadName_free I.ok.kind hk hc hcell fin hcd) hd
theorem Lg{i j pos}:PE X (.Constant (.int i) j pos) (tC (.int i)):=fun _ _ _ H _ I h=>wpAny_Constant_int ⟨.int i,H,I.tok _,⟨_,rfl⟩,h⟩
theorem PZ{b j pos}:PE X (.Constant (.bool b) j pos) (tC (.bl b)):=fun _ _ _ H _ I h=>Constant_bool ⟨.bl b,H,I,rfl,h⟩
theorem Vd{j pos}:PE X (.Constant .none j pos) (tC .non):=fun _ _ _ H _ I h=>Constant_none ⟨.non,H,I,rfl,h⟩
theorem Ca{x j pos}:PE X (.Constant (.str x) j pos) (tC (.str x)):=fun _ _ _ H _ I h=>Calls.Constant_str ⟨.str x,H,I.tok _,⟨_,rfl⟩,h⟩
def Gl(X:Cx)(x:Str):Prop:=X.env.kindOf x=some .globalImplicit
theorem Ec{E:Value→Shared→Prop}{pins:List (Addr×Obj)}{s:Shared}{σ:St}{H:Hp}{x:Str}{u:Value}{pos:Pos}{Q:Value→Shared→Prop}(I:Inv X pins σ H s)(hg:Gl X x)(hm:X.mg x=some u)(h:Q u s)
  (hd:(x==("__debug__" :Str))=false:=by decide):wpAny (model X.prog X.w) X.A (eval (.Name x pos) X.env) Q E s:=
 Calls.Name_function_global I.ok.kind hg (Calls.loadGlobal_global (by rw[I.ok.glob];exact I.mod.glob.keeps I.bk) hm h) hd
theorem FS{E:Value→Shared→Prop}{pins:List (Addr×Obj)}{s:Shared}{σ:St}{H:Hp}{x:Str}{u:Value}{pos:Pos}{Q:Value→Shared→Prop}(I:Inv X pins σ H s)(hg:Gl X x)(hm:X.mg x=none)(hv:bootBuiltins x=some u)(h:Q u s)
  (hn:x≠"__name__":=by decide) (hd:(x==("__debug__" :Str))=false:=by decide):wpAny (model X.prog X.w) X.A (eval (.Name x pos) X.env) Q E s:=by
 obtain⟨mb,h1,h2⟩:=I.mod.blt
 exact Calls.Name_function_global I.ok.kind hg (Calls.loadGlobal_builtin (by rw[I.ok.glob];exact I.mod.glob.keeps I.bk) hm (by rw[I.ok.blt];exact h1.keeps I.bk) ((h2 x hn).trans hv) h) hd
theorem Bd{x:Str}{v:V}{u:Value}{pos:Pos}(hg:Gl X x)(hm:X.mg x=some u)(r:RelV v u)(hd:(x==("__debug__" :Str))=false:=by decide):PE X (.Name x pos) (tC v):=
 fun _ _ _ H _ I h=>Ec I hg hm ⟨v,H,I,r,h⟩ hd
theorem Mv{x:Str}{v:V}{u:Value}{pos:Pos}(hg:Gl X x)(hm:X.mg x=none)(hv:bootBuiltins x=some u)(r:RelV v u)(hn:x≠"__name__":=by decide)(hd:(x==("__debug__" :Str))=false:=by decide):PE X (.Name x pos) (tC v):=
 fun _ _ _ H _ I h=>FS I hg hm hv ⟨v,H,I,r,h⟩ hn hd
variable{a b:Expr}{ta tb:TE}{pos:Pos}
variable{tA tB':TT}{rest:List Expr}
def ai(t u:TT):TT:=fun σ H Q=>t σ H fun c H1=>if c=true then u σ H1 Q else Q false H1
def cU(t u:TT):TT:=fun σ H Q=>t σ H fun c H1=>if c=true then Q true H1 else u σ H1 Q
def aj(t:TT):TT:=fun σ H Q=>t σ H fun c H1=>Q (!c) H1
theorem Sd(ha:PT X a tA):PW X (.BoolOp .And [a] pos) tA:=by
 intro wh pins s σ H Q I h
 refine isTrue_and (Ay (ha pins s σ H Q I h) fun c s1 e=>?_)
 cases c with
 |true=>exact isTrue_and_nil e
 |false=>exact e
theorem Pa(ha:PT X a tA):PW X (.BoolOp .Or [a] pos) tA:=by
 intro wh pins s σ H Q I h
 refine isTrue_or (Ay (ha pins s σ H Q I h) fun c s1 e=>?_)
 cases c with
 |false=>exact isTrue_or_nil e
 |true=>exact e
theorem Ve(ha:PT X a tA)(hb:PW X (.BoolOp .And (b::rest) pos) tB'):PW X (.BoolOp .And (a::b::rest) pos) (ai tA tB'):=by
 intro wh pins s σ H Q I h
 refine isTrue_and (Ay (ha pins s σ H _ I h) fun c s1 ⟨H1,I1,q1⟩=>?_)
 cases c with
 |true=>exact hb wh pins s1 σ H1 Q I1 q1
 |false=>exact⟨H1,I1,q1⟩
theorem Ui(ha:PT X a tA)(hb:PW X (.BoolOp .Or (b::rest) pos) tB'):PW X (.BoolOp .Or (a::b::rest) pos) (cU tA tB'):=by
 intro wh pins s σ H Q I h
 refine isTrue_or (Ay (ha pins s σ H _ I h) fun c s1 ⟨H1,I1,q1⟩=>?_)
 cases c with
 |true=>exact⟨H1,I1,q1⟩
 |false=>exact hb wh pins s1 σ H1 Q I1 q1
theorem Pb(ha:PT X a tA):PT X (.UnaryOp .Not a pos) (aj tA):=by
 intro pins s σ H Q I h
 exact isTrue_not (ha pins s σ H (fun c H1=>Q (!c) H1) I h)
def YG(ta tb:TE):TE:=fun σ H Q=>ta σ H fun x H1=>∃c,x=.bl c∧if c=true then tb σ H1 Q else Q (.bl false) H1
def ak(ta tb:TE):TE:=fun σ H Q=>ta σ H fun x H1=>∃c,x=.bl c∧if c=true then Q (.bl true) H1 else tb σ H1 Q
def YH(ta:TE):TE:=fun σ H Q=>ta σ H fun x H1=>∃c,x=.bl c∧Q (.bl (!c)) H1
theorem Vf{op}{t:TE}(h:PE X a t):PE X (.BoolOp op [a] pos) t:=fun pins s σ H Q I hw=>BoolOp_one (h pins s σ H Q I hw)
theorem Vg(ha:PE X a ta)(hb:PE X (.BoolOp .And (b::rest) pos) tb):PE X (.BoolOp .And (a::b::rest) pos) (YG ta tb):=by
 intro pins s σ H Q I h
 refine BoolOp_and (Ay (ha pins s σ H _ I h) fun v s1 ⟨x,H1,I1,r1,q1⟩=>?_)
 obtain⟨c,rfl,q1⟩:=q1
 cases r1
 refine wpAny_truthy_bool ?_
 cases c with
 |true=>exact hb pins s1 σ H1 Q I1 q1
 |false=>exact⟨.bl false,H1,I1,rfl,q1⟩
theorem YI(ha:PE X a ta)(hb:PE X (.BoolOp .Or (b::rest) pos) tb):PE X (.BoolOp .Or (a::b::rest) pos) (ak ta tb):=by
 intro pins s σ H Q I h
 refine BoolOp_or (Ay (ha pins s σ H _ I h) fun v s1 ⟨x,H1,I1,r1,q1⟩=>?_)
 obtain⟨c,rfl,q1⟩:=q1
 cases r1
 refine wpAny_truthy_bool ?_
 cases c with
 |false=>exact hb pins s1 σ H1 Q I1 q1
 |true=>exact⟨.bl true,H1,I1,rfl,q1⟩
theorem Vh(ha:PE X a ta):PE X (.UnaryOp .Not a pos) (YH ta):=by
 intro pins s σ H Q I h
 refine UnaryOp_ (Ay (ha pins s σ H _ I h) fun v s1 ⟨x,H1,I1,r1,q1⟩=>?_)
 obtain⟨c,rfl,q1⟩:=q1
 cases r1
 exact not_of (wpAny_truthy_bool ⟨.bl (!c),H1,I1,rfl,q1⟩)
def cV(t:TT)(ta tb:TE):TE:=fun σ H Q=>t σ H fun c H1=>if c=true then ta σ H1 Q else tb σ H1 Q
theorem Pc{c:Expr}(hc:PT X c tA)(ha:PE X a ta)(hb:PE X b tb):PE X (.IfExp c a b pos) (cV tA ta tb):=by
 intro pins s σ H Q I h
 refine wpAny_IfExp (Ay (hc pins s σ H _ I h) fun d s1 ⟨H1,I1,q1⟩=>?_)
 cases d with
 |true=>exact ha pins s1 σ H1 Q I1 q1
 |false=>exact hb pins s1 σ H1 Q I1 q1
end
def SqL(K:PySem.W.Frag)(H:Hp)(a:Addr)(xs:List V):Prop:=
 Rd H a (.lst xs)∨
  ∃(o:Obj) (its:Array Value) (n:Nat),K.lookup a=some o∧o.cls=.type "list"∧o.dict=none∧o.data=.seq its n∧its.size≤sizeLine∧Vals xs its.toList
def Hs(K:PySem.W.Frag)(H:Hp)(a:Addr)(xs:List V):Prop:=
 Rd H a (.tup xs)∨
  ∃(o:Obj) (its:Array Value) (n:Nat),K.lookup a=some o∧o.cls=.type "tuple"∧o.data=.seq its n∧its.size≤sizeLine∧Vals xs its.toList
def ao:Value→Option V
 | .none=>some .non
 | .bool b=>some (.bl b)
 | .int i _=>some (.int i)
 | .str x _=>some (.str x)
 | .bytes b _=>some (.byt b)
 | .float b _=>some (.flt b)
 | .ref a=>some (.ref a)
 | .type n=>some (.ty n)
 |_=>none
theorem RelV.abs{x:V}{u:Value}(r:RelV x u):ao u=some x:=by
 cases x with
 |non=>cases r;rfl
 |bl _=>cases r;rfl
 |int _=>obtain⟨t,rfl⟩:=r;rfl
 |str _=>obtain⟨t,rfl⟩:=r;rfl
 |byt _=>obtain⟨t,rfl⟩:=r;rfl
 |flt _=>obtain⟨t,rfl⟩:=r;rfl
 |ref _=>cases r;rfl
 |ty _=>cases r;rfl
theorem RelV.inj{x y:V}{u:Value}(r:RelV x u)(q:RelV y u):x=y:=Option.some.inj (r.abs.symm.trans q.abs)
theorem Vals.inj:∀{xs ys:List V} {us:List Value},Vals xs us→Vals ys us→xs=ys
 |_,_,_,.nil,.nil=>rfl
 |_,_,_,.cons r t,.cons r' t'=>by rw[r.inj r',Vals.inj t t']
section
variable{X:Cx}{pins:List (Addr×Obj)}{σ:St}{H:Hp}{s:Shared}{a:Addr}{xs ys:List V}
theorem SqL.of{K:PySem.W.Frag}(h:H a=some (.lst xs)):SqL K H a xs:=.inl (.inl h)
theorem Inv.list(I:Inv X pins σ H s)(h:SqL X.K H a xs):∃its:List Value,Vals xs its∧PlainL s.heap a its.toArray∧xs.length≤sizeLine:=by
 rcases h with h| ⟨o,its,n,hk,hc,hd,hs,hz,r⟩
 ·obtain⟨z,its,n,r,e⟩:=h.ok I.hok
  exact⟨its,r,⟨_,n,e,rfl,rfl,rfl⟩,z⟩
 ·refine⟨its.toList,r,⟨o,n,I.kIn a o hk,hc,hd,by simpa using hs⟩,?_⟩
  have e:=r.length
  simp only[Array.length_toList] at e
  omega
theorem Inv.tuple(I:Inv X pins σ H s)(h:Hs X.K H a xs):∃its:List Value,Vals xs its∧IsTup s.heap a its.toArray∧xs.length≤sizeLine:=by
 rcases h with h| ⟨o,its,n,hk,hc,hs,hz,r⟩
 ·obtain⟨z,its,r,p⟩:=h.ok I.hok
  exact⟨its,r,p,z⟩
 ·refine⟨its.toList,r,⟨o,I.kIn a o hk,hc,n,by simpa using hs⟩,?_⟩
  have e:=r.length
  simp only[Array.length_toList] at e
  omega
theorem Inv.list_inj(I:Inv X pins σ H s)(h:SqL X.K H a xs)(h':SqL X.K H a ys):xs=ys:=by
 obtain⟨its,r,⟨o,n,e,_,_,d⟩,_⟩:=I.list h
 obtain⟨its',r',⟨o',n',e',_,_,d'⟩,_⟩:=I.list h'
 rw[e] at e';cases e'
 rw[d] at d'
 injection d' with d1 _
 have:its=its':=by simpa using congrArg Array.toList d1
 subst this
 exact r.inj r'
theorem Inv.tuple_inj(I:Inv X pins σ H s)(h:Hs X.K H a xs)(h':Hs X.K H a ys):xs=ys:=by
 obtain⟨its,r,⟨o,e,_,n,d⟩,_⟩:=I.tuple h
 obtain⟨its',r',⟨o',e',_,n',d'⟩,_⟩:=I.tuple h'
 rw[e] at e';cases e'
 rw[d] at d'
 injection d' with d1 _
 have:its=its':=by simpa using congrArg Array.toList d1
 subst this
 exact r.inj r'
end
section
variable{X:Cx}{pins:List (Addr×Obj)}{σ:St}{H:Hp}{s:Shared}{E:Value→Shared→Prop}
end
section
variable{X:Cx}{st:Stmt}{rest:List Stmt}{t u:TS}{e:Expr}{te:TE}{pos:Pos}
def YJ:TS:=fun D σ H=>D.nx σ H
def aq(t u:TS):TS:=fun D σ H=>t {D with nx:=u D} σ H
theorem JG:PSs X [] YJ:=fun _ _ σ H _ I h=>wpAny_execs_nil ⟨σ,H,I,h⟩
theorem Dc(h1:PS X st t)(h2:PSs X rest u):PSs X (st::rest) (aq t u):=by
 intro pins s σ H D I h
 refine wpAny_execs_cons (Ay (h1 pins s σ H {D with nx:=u D} I h) fun f s1 q=>?_)
 cases f with
 |next=>
  obtain⟨σ',H',I',q⟩:=q
  exact h2 pins s1 σ' H' D I' q
 |ret v=>exact q
 |brk=>exact q
 |cont=>exact q
theorem Ed(h1:PS X st t):PSs X [st] t:=by
 intro pins s σ H D I h
 refine wpAny_execs_cons (Ay (h1 pins s σ H D I h) fun f s1 q=>?_)
 cases f with
 |next=>exact wpAny_execs_nil q
 |ret v=>exact q
 |brk=>exact q
 |cont=>exact q
theorem Inv.quiet{pins:List (Addr×Obj)}{σ:St}{H:Hp}{s:Shared}(I:Inv X pins σ H s):interactive X.env=false:=by simp[interactive,I.ok.kind]
def YK(te:TE):TS:=fun D σ H=>te σ H fun _ H1=>D.nx σ H1
theorem Se(he:PE X e te)(hs:swapsWith e none pos.line X.env=pure false:=by rfl):PS X (.Expr e pos) (YK te):=by
 intro pins s σ H D I h
 exact wpAny_Expr_any (Ay (he pins s σ H _ I h) fun v s1 ⟨x,H1,I1,r1,q1⟩=> ⟨σ,H1,I1,q1⟩) I.quiet hs
def ar(te:TE):TS:=fun D σ H=>te σ H D.rt
theorem FT(he:PE X e te):PS X (.Return (some e) pos) (ar te):=by
 intro pins s σ H D I h
 exact wpAny_Return_some (Ay (he pins s σ H _ I h) fun v s1 ⟨x,H1,I1,r1,q1⟩=> ⟨x,σ,H1,I1,r1,q1⟩)
def au(c:TT)(t u:TS):TS:=fun D σ H=>c σ H fun b H1=>if b=true then t D σ H1 else u D σ H1
theorem Pd{c:Expr}{a b:List Stmt}{tc:TT}(hc:PT X c tc)(ha:PSs X a t)(hb:PSs X b u):PS X (.If c a b pos) (au tc t u):=by
 intro pins s σ H D I h
 refine wpAny_If (Ay (hc pins s σ H _ I h) fun d s1 ⟨H1,I1,q1⟩=>?_)
 cases d with
 |true=>exact ha pins s1 σ H1 D I1 q1
 |false=>exact hb pins s1 σ H1 D I1 q1
end
abbrev TG:=V→St→Hp→(St→Hp→Prop)→Prop
abbrev Vi:=List V→St→Hp→(St→Hp→Prop)→Prop
def PG(X:Cx)(target:Expr)(t:TG):Prop:=
 ∀(pins:List (Addr×Obj)) (s:Shared) (σ:St) (H:Hp) (v:V) (u:Value) (Q:St→Hp→Prop),Inv X pins σ H s→RelV v u→t v σ H Q→
  wpAny (model X.prog X.w) X.A (assign target X.env u) (fun _ s'=>∃σ' H',Inv X pins σ' H' s'∧Q σ' H') X.xe s
def aS(X:Cx)(ts:List Expr)(t:Vi):Prop:=
 ∀(pins:List (Addr×Obj)) (s:Shared) (σ:St) (H:Hp) (vs:List V) (us:List Value) (Q:St→Hp→Prop),Inv X pins σ H s→Vals vs us→t vs σ H Q→
  wpAny (model X.prog X.w) X.A (assignInOrder ((assignEach ts X.env).map (·.2)) us) (fun _ s'=>∃σ' H',Inv X pins σ' H' s'∧Q σ' H') X.xe s
abbrev Vj:=V→V→V→Hp→(Hp→Prop)→Prop
def YL(X:Cx)(t:Vj):Prop:=
 ∀(pins:List (Addr×Obj)) (s:Shared) (σ:St) (H:Hp) (o i v:V) (ov iv u:Value) (Q:Hp→Prop),Inv X pins σ H s→RelV o ov→RelV i iv→RelV v u→t o i v H Q→
  wpAny (model X.prog X.w) X.A (setItem ov iv u) (fun _ s'=>∃H',Inv X pins σ H' s'∧Q H') X.xe s
abbrev YM:=V→V→Hp→VK→Prop
def aT(X:Cx)(op:Operator)(t:YM):Prop:=
 ∀(pins:List (Addr×Obj)) (s:Shared) (σ:St) (H:Hp) (x y:V) (v u:Value) (Q:VK),Inv X pins σ H s→RelV x v→RelV y u→t x y H Q→
  wpAny (model X.prog X.w) X.A (inplaceOp op v u) (EP X pins σ Q) X.xe s
section
variable{X:Cx}{pos:Pos}
def Uj(i:Nat):TG:=fun v σ H Q=>Q (σ.set i (some v)) H
theorem JH{i:Nat}{x:Str}(hN:X.N.Nodup)(hi:X.N[i]?=some x)(hx:PU X.env.scope x)(hf:X.fn x=true∨X.env.scope.names.lookup x=some .local:=by first|exact .inl rfl|exact .inr rfl|assumption):PG X (.Name x pos) (Uj i):=by
 intro pins s σ H v u Q I r h
 exact wpAny_assign_Name (Eb I hN hi hx r (fun s' I'=> ⟨_,H,I',h⟩) hf)
def av:Vi:=fun vs σ H Q=>vs=[]∧Q σ H
def YN(t:TG)(u:Vi):Vi:=fun vs σ H Q=>∃v r,vs=v::r∧t v σ H fun σ' H'=>u r σ' H' Q
theorem Sf:aS X [] av:=by
 intro pins s σ H vs us Q I r h
 obtain⟨e,h⟩:=h
 subst e
 cases r
 exact assignInOrder_nil ⟨σ,H,I,h⟩
theorem KJ{e:Expr}{es:List Expr}{t:TG}{u:Vi}(h1:PG X e t)(h2:aS X es u)
  (hs:(assignEach (e::es) X.env).map (·.2)=assign e X.env::(assignEach es X.env).map (·.2):=by rfl):aS X (e::es) (YN t u):=by
 intro pins s σ H vs us Q I r h
 obtain⟨v,vr,e1,h⟩:=h
 subst e1
 cases r with
 |cons r rr=>
  rw[hs]
  refine assignInOrder_cons (Ay (h1 pins s σ H _ _ _ I r h) fun _ s1 ⟨σ1,H1,I1,q1⟩=>?_)
  exact h2 pins s1 σ1 H1 _ _ Q I1 rr q1
def aw(K:PySem.W.Frag)(n:Nat)(t:Vi):TG:=fun v σ H Q=>∃a xs,v=.ref a∧Hs K H a xs∧xs.length=n∧t xs σ H Q
theorem Vk{es:List Expr}{k:Nat}{t:Vi}{n:Nat}(hc:X.calm=true)(h:aS X es t)
  (hn:(assignEach es X.env).length=n:=by rfl) (hst:(assignEach es X.env).findIdx? (·.1)=none:=by rfl):PG X (.Tuple es k pos) (aw X.K n t):=by
 intro pins s σ H v u Q I r hw
 obtain⟨a,xs,e1,hq,hl,hw⟩:=hw
 subst e1
 cases r
 obtain⟨its,rv,ht,hz⟩:=I.tuple hq
 refine assign_Tuple_tuple (I.ok.hd hc) ht (by simp[hn,←hl,rv.length]) hst fun h' hx=>?_
 have I1:Inv X pins σ H {s with heap:=h'}:=I.kept (t':=s.toks) fun b o e=>hx b o (Nat.ne_of_lt (Heap.lt_size e)) e
 exact h pins _ σ H xs _ Q I1 (by simpa using rv) hw
def ax(to ti:TE)(t:Vj):TG:=fun v σ H Q=>to σ H fun o H1=>ti σ H1 fun i H2=>t o i v H2 fun H3=>Q σ H3
theorem Vl{o i:Expr}{to ti:TE}{t:Vj}(ho:PE X o to)(hi:PE X i ti)(hs:YL X t)
  (ha:∀v,assign (.Subscript o i pos) X.env v=(do
   let ov←holding [v] (eval o X.env)
   let iv←holding [v,ov] (eval i X.env)
   standAt pos
   holding [v,ov,iv] (setItem ov iv v)
   release [v,ov,iv] []):=by intro _;rfl):PG X (.Subscript o i pos) (ax to ti t):=by
 intro pins s σ H v u Q I r h
 rw[ha]
 refine wpAny_bind (wpAny_holding (Ay (ho pins s σ H _ I h) fun ov s1 ⟨x,H1,I1,r1,q1⟩=>?_))
 refine wpAny_bind (wpAny_holding (Ay (hi pins s1 σ H1 _ I1 q1) fun iv s2 ⟨y,H2,I2,r2,q2⟩=>?_))
 refine wpAny_bind (wpAny_standAt (wpAny_bind (wpAny_holding (Ay (hs pins s2 σ H2 x y v ov iv u _ I2 r1 r2 r q2) fun _ s3 ⟨H3,I3,q3⟩=>?_))))
 exact wpAny_release ⟨σ,H3,I3,q3⟩
def YO(te:TE)(g:TG):TS:=fun D σ H=>te σ H fun x H1=>g x σ H1 D.nx
theorem Pe{tg e:Expr}{te:TE}{g:TG}(he:PE X e te)(hg:PG X tg g)(hs:swapsWithSole [tg] e pos.line X.env=pure false:=by rfl)(hw:swappedStores [tg] e X.env=pure none:=by rfl)
  (h1:(assignEach [tg] X.env).map (·.2)=[assign tg X.env]:=by rfl):PS X (.Assign [tg] e pos) (YO te g):=by
 intro pins s σ H D I h
 refine wpAny_Assign_stores (Ay (he pins s σ H _ I h) fun v s1 ⟨x,H1,I1,r1,q1⟩=>?_) hs hw
 rw[h1]
 exact Ay (hg pins s1 σ H1 x v _ I1 r1 q1) fun _ s2 q=>q
theorem Lh{i:Nat}{x:Str}{e:Expr}{te:TE}{pos':Pos}(hN:X.N.Nodup)(hi:X.N[i]?=some x)(hx:PU X.env.scope x)(he:PE X e te)(hs:swapsWith e (some (.Name x pos')) pos.line X.env=pure false:=by rfl)(hf:X.fn x=true∨X.env.scope.names.lookup x=some .local:=by first|exact .inl rfl|exact .inr rfl|assumption):
  PS X (.Assign [.Name x pos'] e pos) (YO te (Uj i)):=by
 intro pins s σ H D I h
 refine wpAny_Assign_Name (Ay (he pins s σ H _ I h) fun v s1 ⟨y,H1,I1,r1,q1⟩=>?_) hs
 exact Eb I1 hN hi hx r1 (fun s2 I2=> ⟨_,H1,I2,q1⟩) hf
def ay(i:Nat)(te:TE)(ti:YM):TS:=fun D σ H=>∃x,σ[i]?=some (some x)∧te σ H fun y H1=>ti x y H1 fun z H2=>D.nx (σ.set i (some z)) H2
theorem Vm{i:Nat}{x:Str}{e:Expr}{te:TE}{op:Operator}{ti:YM}{pos':Pos}(hN:X.N.Nodup)(hi:X.N[i]?=some x)(hx:PU X.env.scope x)(he:PE X e te)(ho:aT X op ti)(hf:X.fn x=true∨X.env.scope.names.lookup x=some .local:=by first|exact .inl rfl|exact .inr rfl|assumption):
  PS X (.AugAssign (.Name x pos') op e pos) (ay i te ti):=by
 intro pins s σ H D I h
 obtain⟨v,e1,h⟩:=h
 obtain⟨m,hn,hl⟩:=I.loc
 have vis:YA X.env.scope x:=by rcases hx with k|k;exact .inl k;exact .inr (.inl k)
 obtain⟨u,r,l⟩:=hl i x v hi e1 vis
 refine wpAny_AugAssign_Name ?_
 have go:wpAny (model X.prog X.w) X.A (eval e X.env) (fun w s₂=>wpAny (model X.prog X.w) X.A (inplaceOp op u w) (fun r s₃=>wpAny (model X.prog X.w) X.A (storeName X.env x r) (fun _=>SP X pins D .next) X.xe s₃) X.xe s₂) X.xe s:=by
  refine Ay (he pins s σ H _ I h) fun w s1 ⟨y,H1,I1,r1,q1⟩=>?_
  refine Ay (ho pins s1 σ H1 v y u w _ I1 r r1 q1) fun z s2 ⟨zv,H2,I2,r2,q2⟩=>?_
  exact Eb I2 hN hi hx r2 (fun s3 I3=> ⟨_,H2,I3,q2⟩) hf
 rcases l with⟨hk,hm⟩| ⟨hk,c,hc,hcell⟩
 ·exact wpAny_loadName_local I.ok.kind hk hn hm go
 ·rcases hk with hk|hk
  ·exact wpAny_loadName_cell I.ok.kind hk hc hcell go
  ·rcases hx with k|k
   ·have:X.env.scope.names.lookup x=some .free:=hk
    rw[k] at this;cases this
   ·have:X.env.scope.names.lookup x=some .free:=hk
    rw[k] at this;cases this
def cW(f:Int→Int→Int):YM:=fun x y H Q=>∃i j,x=.int i∧y=.int j∧Q (.int (f i j)) H
theorem Pf:aT X .Add (cW fun i j=>i+j):=by
 intro pins s σ H x y v u Q I r1 r2 h
 obtain⟨i,j,e1,e2,q⟩:=h
 subst e1;subst e2
 obtain⟨t,rfl⟩:=r1
 obtain⟨t',rfl⟩:=r2
 exact iadd_int ⟨.int _,H,I.tok _,⟨_,rfl⟩,q⟩
end
section
variable{X:Cx}{pos:Pos}
def Vn(c:TT)(tb:TS):TS:=fun D σ H=>∃W:Nat→St→Hp→Prop,(∃m,W m σ H)∧∀m σ H,W m σ H→
 c σ H fun b H1=>if b=true then∃N:St→Hp→Prop,(∀σ' H',N σ' H'→∃m',m'<m∧W m' σ' H')∧tb {D with nx:=N,ct:=N,bk:=D.nx} σ H1 else D.nx σ H1
theorem Pg{c:Expr}{body:List Stmt}{tc:TT}{tb:TS}(hp:PassesOwn (model X.prog X.w) X.A X.env X.xe)(hc:PT X c tc)(hb:PSs X body tb):PS X (.While c body [] pos) (Vn tc tb):=by
 intro pins s σ H D I h
 obtain⟨W,⟨m0,w0⟩,turn⟩:=h
 refine wpAny_While (codeAny_whileLoop (fun n s'=>∃σ' H',Inv X pins σ' H' s'∧W n σ' H') ?_ m0 ⟨σ,H,I,w0⟩)
 rintro n s1 ⟨σ1,H1,I1,w1⟩
 refine wpAny_passesOwn hp (Ay (hc pins s1 σ1 H1 _ I1 (turn n σ1 H1 w1)) fun b s2 ⟨H2,I2,q2⟩=>?_)
 cases b with
 |true=>
  obtain⟨N,hN,q2⟩:=q2
  rw[if_pos rfl]
  refine wpAny_passesOwn hp (Ay (hb pins s2 σ1 H2 _ I2 q2) fun f s3 q3=>?_)
  cases f with
  |next=>
   obtain⟨σ3,H3,I3,n3⟩:=q3
   obtain⟨m',hm,w3⟩:=hN σ3 H3 n3
   exact⟨m',hm,σ3,H3,I3,w3⟩
  |cont=>
   obtain⟨σ3,H3,I3,n3⟩:=q3
   obtain⟨m',hm,w3⟩:=hN σ3 H3 n3
   exact⟨m',hm,σ3,H3,I3,w3⟩
  |brk=>exact q3
  |ret v=>exact q3
 |false=>
  rw[if_neg Bool.false_ne_true]
  exact wpAny_execs_nil ⟨σ1,H2,I2,q2⟩
end
structure It where
 go:Nat→Hp→Prop
 yld:Nat→Hp→V→Hp→Prop
 stop:Nat→Hp→Prop
def Hv(X:Cx)(pins:List (Addr×Obj))(H:Hp)(b:Addr):Prop:=
 H b=none∧b≠X.env.locals∧b∉X.fs∧(b∈X.ex∨X.s₀.heap.objs.size≤b)∧(∀x c,X.env.cells.lookup x=some c→c≠b)∧∀p∈X.pn++pins,p.1≠b
theorem Inv.fpOk{X:Cx}{pins:List (Addr×Obj)}{σ:St}{H H':Hp}{s:Shared}{b:Addr}(I:Inv X pins σ H s)(hb:s.heap.objs.size≤b)(hn:H' b=none):Hv X pins H' b:=by
 refine⟨hn,Nat.ne_of_gt (Nat.lt_of_lt_of_le I.lt hb),I.nofs hb,.inr (Nat.le_trans I.sz hb),fun x c e z=>?_,fun p hp z=>?_⟩
 ·obtain⟨v,q⟩:=I.cell x c e
  exact absurd (Nat.lt_of_lt_of_le q.lt (by rw[z];exact hb)) (Nat.lt_irrefl _)
 ·exact absurd (Nat.lt_of_lt_of_le (Heap.lt_size (I.pin p hp).1) (by rw[z];exact hb)) (Nat.lt_irrefl _)
structure Turn(P:Program)(w:World)(K:PySem.W.Frag)(tg:Expr)(J:It)(fp:List Addr)(it:Addr)(tn:Nat→Heap→Prop):Prop where
 mem:it∈fp
 obj:∀i h,tn i h→∀b∈fp,∃o,h.get? b=some o∧∀v,o.data≠.cell v
 keep:∀i h h',tn i h→(∀b∈fp,∀o,h.get? b=some o→h'.get? b=some o)→tn i h'
 item:∀(X:Cx),X.prog=P→X.w=w→X.K=K→X.calm=true→∀(i:Nat) (pins:List (Addr×Obj)) (s:Shared) (σ:St) (H:Hp) (E:Value→Shared→Prop),Inv X pins σ H s→(∀b∈fp,Hv X pins H b)→tn i s.heap→J.go i H→
  wpAny (model P w) X.A (pyNext (.ref it)) (fun r s1=>∃u,r=some u∧
   wpAny (model P w) X.A (letOwnedTupleGo tg (.ref it) u) (fun _ s2=>∃x H',Inv X pins σ H' s2∧RelV x u∧J.yld i H x H'∧tn (i+1) s2.heap∧∀b∈fp,H' b=none) E s1) E s
 done:∀(X:Cx),X.prog=P→X.w=w→X.K=K→X.calm=true→∀(i:Nat) (pins:List (Addr×Obj)) (s:Shared) (σ:St) (H:Hp) (E:Value→Shared→Prop),Inv X pins σ H s→(∀b∈fp,Hv X pins H b)→tn i s.heap→J.stop i H→
  wpAny (model P w) X.A (pyNext (.ref it)) (fun r s1=>r=none∧Inv X pins σ H s1) E s
 self:∀(A:Around) (i:Nat) (s:Shared) (Q:Value→Shared→Prop) (E:Value→Shared→Prop),tn i s.heap→Q (.ref it) s→wpAny (model P w) A (pyIter (.ref it)) Q E s
abbrev TI:=St→Hp→(It→Hp→Prop)→Prop
def cG(X:Cx)(pins:List (Addr×Obj))(σ:St)(tg:Expr)(R:It→Hp→Prop)(itv:Value)(s2:Shared):Prop:=
 ∃(it:Addr) (fp:List Addr) (tn:Nat→Heap→Prop) (J:It) (H':Hp),itv=.ref it∧Inv X pins σ H' s2∧Turn X.prog X.w X.K tg J fp it tn∧tn 0 s2.heap∧(∀b∈fp,Hv X pins H' b)∧R J H'
def PI(X:Cx)(tg iter:Expr)(wi:TI):Prop:=
 ∀(pins:List (Addr×Obj)) (s:Shared) (σ:St) (H:Hp) (R:It→Hp→Prop),Inv X pins σ H s→wi σ H R→
  wpAny (model X.prog X.w) X.A (eval iter X.env) (fun v s1=>wpAny (model X.prog X.w) X.A (pyIter v) (cG X pins σ tg R) X.xe s1) X.xe s
theorem Ph{M:Model}{A:Around}{E:Value→Shared→Prop}{s:Shared}{tg:Expr}{it:Addr}{u:Value}{o:Obj}{n:String}{vs:Array Value}{Q:Unit→Shared→Prop}(ho:s.heap.get? it=some o)(hc:o.cls=.type n)(hd:o.data=.fields vs)
    (hn:["enumerate","zip","dict_itemiterator","dict_reverseitemiterator","odict_iterator","itertools.zip_longest","itertools.pairwise"].contains n=false) (hQ:Q () s):wpAny M A (letOwnedTupleGo tg (.ref it) u) Q E s:=by
  unfold letOwnedTupleGo
  cases tg<;>first
    |exact wpAny_pure hQ
    | (cases u<;>first
        |exact wpAny_pure hQ
        | (refine wpAny_bind (wpAny_load ho ?_)
           rw[hc,hd]
           show wpAny M A (if(["enumerate","zip","dict_itemiterator","dict_reverseitemiterator","odict_iterator","itertools.zip_longest","itertools.pairwise"].contains n&&vs[0]?==some (rawInt _))=true then _ else _) Q E s
           rw[if_neg (by intro h;rw[hn,Bool.false_and] at h;cases h)]
           exact wpAny_pure hQ))
def az(K:PySem.W.Frag)(a:Addr):It:=
 ⟨fun i H=>∃xs x,SqL K H a xs∧xs[i]?=some x,fun i H x H'=>H'=H∧∀xs,SqL K H a xs→xs[i]?=some x,fun i H=>∃xs,SqL K H a xs∧xs.length≤i⟩
def bA(K:PySem.W.Frag)(a:Addr):It:=
 ⟨fun i H=>∃xs x,Hs K H a xs∧xs[i]?=some x,fun i H x H'=>H'=H∧∀xs,Hs K H a xs→xs[i]?=some x,fun i H=>∃xs,Hs K H a xs∧xs.length≤i⟩
def YQ(lo:Int)(n:Nat):It:=⟨fun i _=>i<n,fun i H x H'=>H'=H∧x=.int (lo+i),fun i _=>n≤i⟩
theorem OQ{P:Program}{w:World}{K:PySem.W.Frag}{tg:Expr}(a it:Addr):Turn P w K tg (az K a) [it] it (fun i h=>h.IsListIter it a i) where
 mem:=by simp
 obj:=fun i h st b hb=>by
  have e:b=it:=by simpa using hb
  subst e
  obtain⟨o,e,c,d⟩:=st
  exact⟨o,e,fun v z=>by rw[d] at z;cases z⟩
 keep:=fun i h h' st k=>st.at fun o e=>k it (by simp) o e
 item:=by
  intro X hP hw hK hc i pins s σ H E I hf st hg
  subst hP hw hK
  obtain⟨xs,x,hq,hx⟩:=hg
  obtain⟨its,rv,p,hz⟩:=I.list hq
  obtain⟨u,hu,ru⟩:=rv.get hx
  obtain⟨f0,f1,f2,f3,f4,f5⟩:=hf it (by simp)
  refine wpAny_pyNext_list_item st p.isList (x:=u) (by simpa using hu) fun h' st' sb=>?_
  have I1:Inv X pins σ H {s with heap:=h'}:=I.turned (t':=s.toks) (fun b o hb e=> (sb.2 b hb).trans e) f0 f1 f3 f4 f5
  obtain⟨o,e,c,d⟩:=id st'
  exact⟨u,rfl,Ph (s:={s with heap:=h'}) e c d (by decide) ⟨x,H,I1,ru,⟨rfl,fun ys hy=>by rw[I.list_inj hy hq];exact hx⟩,st',fun b hb=> (hf b hb).1⟩⟩
 done:=by
  intro X hP hw hK hc i pins s σ H E I hf st hg
  subst hP hw hK
  obtain⟨xs,hq,hx⟩:=hg
  obtain⟨its,rv,p,hz⟩:=I.list hq
  obtain⟨f0,f1,f2,f3,f4,f5⟩:=hf it (by simp)
  have hl:=rv.length
  exact wpAny_pyNext_list_end (I.ok.hd hc) st p.isList (by simp;omega) fun h' eb=> ⟨rfl,I.turned (t':=s.toks) (fun b o hb e=>eb b o hb e) f0 f1 f3 f4 f5⟩
 self:=fun _ _ _ _ _ st h=>wpAny_pyIter_listiter st h
theorem Li{P:Program}{w:World}{K:PySem.W.Frag}{tg:Expr}(a it:Addr):Turn P w K tg (bA K a) [it] it (fun i h=>h.IsTupleIter it a i) where
 mem:=by simp
 obj:=fun i h st b hb=>by
  have e:b=it:=by simpa using hb
  subst e
  obtain⟨o,e,c,d⟩:=st
  exact⟨o,e,fun v z=>by rw[d] at z;cases z⟩
 keep:=fun i h h' st k=>st.at fun o e=>k it (by simp) o e
 item:=by
  intro X hP hw hK hc i pins s σ H E I hf st hg
  subst hP hw hK
  obtain⟨xs,x,hq,hx⟩:=hg
  obtain⟨its,rv,p,hz⟩:=I.tuple hq
  obtain⟨u,hu,ru⟩:=rv.get hx
  obtain⟨f0,f1,f2,f3,f4,f5⟩:=hf it (by simp)
  refine wpAny_pyNext_tuple_item st (show s.heap.IsTuple a its.toArray from p) (x:=u) (by simpa using hu) fun h' st' sb=>?_
  have I1:Inv X pins σ H {s with heap:=h'}:=I.turned (t':=s.toks) (fun b o hb e=> (sb.2 b hb).trans e) f0 f1 f3 f4 f5
  obtain⟨o,e,c,d⟩:=id st'
  exact⟨u,rfl,Ph (s:={s with heap:=h'}) e c d (by decide) ⟨x,H,I1,ru,⟨rfl,fun ys hy=>by rw[I.tuple_inj hy hq];exact hx⟩,st',fun b hb=> (hf b hb).1⟩⟩
 done:=by
  intro X hP hw hK hc i pins s σ H E I hf st hg
  subst hP hw hK
  obtain⟨xs,hq,hx⟩:=hg
  obtain⟨its,rv,p,hz⟩:=I.tuple hq
  obtain⟨f0,f1,f2,f3,f4,f5⟩:=hf it (by simp)
  have hl:=rv.length
  exact wpAny_pyNext_tuple_end (I.ok.hd hc) st (show s.heap.IsTuple a its.toArray from p) (by simp;omega) fun h' eb=> ⟨rfl,I.turned (t':=s.toks) (fun b o hb e=>eb b o hb e) f0 f1 f3 f4 f5⟩
 self:=fun _ _ _ _ _ st h=>wpAny_pyIter_tupleiter st h
theorem Lj{P:Program}{w:World}{K:PySem.W.Frag}{tg:Expr}(it:Addr)(lo:Int)(n:Nat):Turn P w K tg (YQ lo n) [it] it (fun i h=>IsRangeIter h it (lo+(i:Nat)*1) ((n:Int)- (i:Nat)) 1) where
 mem:=by simp
 obj:=fun i h st b hb=>by
  have e:b=it:=by simpa using hb
  subst e
  exact⟨_,st,fun v z=>by
   have z':Data.fields _=Data.cell v:=z
   cases z'⟩
 keep:=fun i h h' st k=>k it (by simp) _ st
 item:=by
  intro X hP hw hK hc i pins s σ H E I hf st hg
  subst hP hw hK
  obtain⟨f0,f1,f2,f3,f4,f5⟩:=hf it (by simp)
  have W:=Walks.range (prog:=X.prog) (w:=X.w) (I.ok.hd hc) it lo 1 n
  refine W.item i s _ _ hg st fun v h' tk hv st' kk=>?_
  obtain⟨t,rfl⟩:=hv
  have I1:Inv X pins σ H {s with heap:=h',toks:=tk}:=I.turned (fun b o hb e=>kk b o (by simpa using hb) e) f0 f1 f3 f4 f5
  refine⟨_,rfl,Ph (s:={s with heap:=h',toks:=tk}) (n:="range_iterator") st' rfl rfl (by decide) ⟨.int (lo+i),H,I1,⟨t,?_⟩,⟨rfl,rfl⟩,st',fun b hb=> (hf b hb).1⟩⟩
  rw[Int.mul_one]
 done:=by
  intro X hP hw hK hc i pins s σ H E I hf st hg
  subst hP hw hK
  obtain⟨f0,f1,f2,f3,f4,f5⟩:=hf it (by simp)
  exact wpAny_pyNext_range_end (I.ok.hd hc) st (by have:n≤i:=hg;omega) fun h' eb=> ⟨rfl,I.turned (t':=s.toks) (fun b o hb e=>eb b o hb e) f0 f1 f3 f4 f5⟩
 self:=fun _ _ _ _ _ st h=>wpAny_pyIter_rangeiter st h
section
variable{X:Cx}{tg:Expr}
def YR(K:PySem.W.Frag)(tl:TE):TI:=fun σ H R=>tl σ H fun x H1=>∃a,x=.ref a∧(∃xs,SqL K H1 a xs)∧R (az K a) H1
def bB(K:PySem.W.Frag)(tl:TE):TI:=fun σ H R=>tl σ H fun x H1=>∃a,x=.ref a∧(∃xs,Hs K H1 a xs)∧R (bA K a) H1
theorem Sg{l:Expr}{tl:TE}(hl:PE X l tl):PI X tg l (YR X.K tl):=by
 intro pins s σ H R I h
 refine Ay (hl pins s σ H _ I h) fun v s1 ⟨x,H1,I1,r1,q1⟩=>?_
 obtain⟨a,e,⟨xs,hq⟩,q⟩:=q1
 subst e
 cases r1
 obtain⟨its,rv,p,hz⟩:=I1.list hq
 refine wpAny_pyIter_list p.isList ?_
 refine⟨s1.heap.objs.size,[s1.heap.objs.size],_,_,H1,rfl,I1.kept (t':=s1.toks) fun b o e=>Heap.get?_push_of_some _ e,OQ a _,⟨_,Heap.get?_push_size _ rfl,rfl,rfl⟩,fun b hb=>?_,q⟩
 have e:b=s1.heap.objs.size:=by simpa using hb
 subst e
 exact I1.fpOk (Nat.le_refl _) (I1.hok.fresh (Nat.le_refl _))
theorem Vo{l:Expr}{tl:TE}(hl:PE X l tl):PI X tg l (bB X.K tl):=by
 intro pins s σ H R I h
 refine Ay (hl pins s σ H _ I h) fun v s1 ⟨x,H1,I1,r1,q1⟩=>?_
 obtain⟨a,e,⟨xs,hq⟩,q⟩:=q1
 subst e
 cases r1
 obtain⟨its,rv,p,hz⟩:=I1.tuple hq
 refine wpAny_pyIter_tuple (show s1.heap.IsTuple a its.toArray from p) ?_
 refine⟨s1.heap.objs.size,[s1.heap.objs.size],_,_,H1,rfl,I1.kept (t':=s1.toks) fun b o e=>Heap.get?_push_of_some _ e,Li a _,⟨_,Heap.get?_push_size _ rfl,rfl,rfl⟩,fun b hb=>?_,q⟩
 have e:b=s1.heap.objs.size:=by simpa using hb
 subst e
 exact I1.fpOk (Nat.le_refl _) (I1.hok.fresh (Nat.le_refl _))
theorem KL{pins:List (Addr×Obj)}{σ:St}{H:Hp}{s:Shared}{R:It→Hp→Prop}{E:Value→Shared→Prop}{lo hi:Int}{t u v:Tok}{tk:Nat}(I:Inv X pins σ H s)(h1: -(2^62)≤lo)(h2:lo<2^62)(h3: -(2^62)≤hi)(h4:hi<2^62)
  (q:R (YQ lo (hi-lo).toNat) H):wpAny (model X.prog X.w) X.A (pyIter (.ref s.heap.objs.size)) (cG X pins σ tg R) E {s with heap:=s.heap.push {cls:=.type "range",data:=.fields #[.int lo t,.int hi u,.int 1 v]},toks:=tk}:=by
 refine wpAny_pyIter_range (IsRange.new ..) (small_one h1 h2 h3 h4) ?_
 have I1:Inv X pins σ H {s with heap:=s.heap.push {cls:=.type "range",data:=.fields #[.int lo t,.int hi u,.int 1 v]},toks:=tk}:=I.kept fun b o e=>Heap.get?_push_of_some _ e
 refine⟨(s.heap.push {cls:=.type "range",data:=.fields #[.int lo t,.int hi u,.int 1 v]}).objs.size,[(s.heap.push {cls:=.type "range",data:=.fields #[.int lo t,.int hi u,.int 1 v]}).objs.size],_,_,H,rfl,
  I1.kept (t':=tk) fun b o e=>Heap.get?_push_of_some _ e,Lj _ lo (hi-lo).toNat,?_,fun b hb=>?_,q⟩
 ·have e1:lo+((0:Nat):Int)*1=lo:=by simp
  have e2:(((hi-lo).toNat:Nat):Int)- ((0:Nat):Int)=Builtin.Range.rangeSize lo hi 1:=by rw[rangeSize_one];split<;>omega
  show IsRangeIter _ _ (lo+((0:Nat):Int)*1) ((((hi-lo).toNat:Nat):Int)- ((0:Nat):Int)) 1
  rw[e1,e2]
  exact Heap.get?_push_size _ rfl
 ·have e:b=(s.heap.push {cls:=.type "range",data:=.fields #[.int lo t,.int hi u,.int 1 v]}).objs.size:=by simpa using hb
  subst e
  exact I1.fpOk (Nat.le_refl _) (I1.hok.fresh (Nat.le_refl _))
def YS(ta:TA):TI:=fun σ H R=>ta σ H fun vs H1=>∃j:Int,vs=[.int j]∧-(2^62)≤j∧j<2^62∧R (YQ 0 j.toNat) H1
def YT(ta:TA):TI:=fun σ H R=>ta σ H fun vs H1=>∃i j:Int,vs=[.int i,.int j]∧(-(2^62)≤i∧i<2^62∧-(2^62)≤j∧j<2^62)∧R (YQ i (j-i).toNat) H1
theorem OR{a:Expr}{ta:TA}{p pos:Pos}(hg:Gl X "range")(hm:X.mg "range" =none)(ha:PA X [a] ta)(hs:starEach [a] X.env=[(false,eval a X.env)]:=by rfl):PI X tg (.Call (.Name "range" p) [a] [] pos) (YS ta):=by
 intro pins s σ H R I h
 refine Call_ (FS I hg hm boot_range (PyProof.Rows.callWith_type1 (Ay (ha pos pins s σ H _ I h) fun us s1 ⟨vs,H1,I1,r1,q1⟩=>?_) hs rfl))
 obtain⟨j,e,q1,q2,q⟩:=q1
 subst e
 cases r1 with
 |cons r rr=>
  cases rr
  obtain⟨t,rfl⟩:=r
  exact call_range_1 (KL I1 (by omega) (by omega) q1 q2 (by simpa using q))
theorem OS{a b:Expr}{ta:TA}{p pos:Pos}(hg:Gl X "range")(hm:X.mg "range" =none)(ha:PA X [a,b] ta)(hs:starEach [a,b] X.env=[(false,eval a X.env),(false,eval b X.env)]:=by rfl)(hs2:starEach [b] X.env=[(false,eval b X.env)]:=by rfl):
  PI X tg (.Call (.Name "range" p) [a,b] [] pos) (YT ta):=by
 intro pins s σ H R I h
 refine Call_ (FS I hg hm boot_range (PyProof.Rows.callWith_type1 (Ay (ha pos pins s σ H _ I h) fun us s1 ⟨vs,H1,I1,r1,q1⟩=>?_) (by rw[hs,hs2]) (by rw[hs2];rfl)))
 obtain⟨i,j,e,⟨q1,q2,q3,q4⟩,q⟩:=q1
 subst e
 cases r1 with
 |cons r rr=>
  cases rr with
  |cons r' rr=>
   cases rr
   obtain⟨t,rfl⟩:=r
   obtain⟨t',rfl⟩:=r'
   exact call_range_2 (KL I1 q1 q2 q3 q4 q)
def bD(wi:TI)(g:TG)(tb:TS):TS:=fun D σ H=>wi σ H fun J H1=>∃W:Nat→Nat→St→Hp→Prop,(∃m,W 0 m σ H1)∧∀i m σ H,W i m σ H→
 (J.stop i H∧D.nx σ H)∨(J.go i H∧∃N:St→Hp→Prop,(∀σ' H',N σ' H'→∃m',m'<m∧W (i+1) m' σ' H')∧∀x H',J.yld i H x H'→g x σ H' fun σ2 H2=>tb {D with nx:=N,ct:=N,bk:=D.nx} σ2 H2)
def GY(fp:List Addr)(h:Heap):List (Addr×Obj):=fp.filterMap fun b=> (h.get? b).map fun o=> (b,o)
theorem DB{fp:List Addr}{h:Heap}{b:Addr}{o:Obj}(hb:b∈fp)(e:h.get? b=some o):(b,o)∈GY fp h:=List.mem_filterMap.mpr ⟨b,hb,by rw[e];rfl⟩
theorem OT{fp:List Addr}{h:Heap}{p:Addr×Obj}(hp:p∈GY fp h):p.1∈fp∧h.get? p.1=some p.2:=by
 obtain⟨b,hb,e⟩:=List.mem_filterMap.mp hp
 cases q:h.get? b with
 |none=>rw[q] at e;cases e
 |some o=>
  rw[q] at e
  have e':(b,o)=p:=Option.some.inj e
  subst e'
  exact⟨hb,q⟩
theorem Inv.pinned{pins:List (Addr×Obj)}{σ:St}{H:Hp}{s:Shared}{fp:List Addr}(I:Inv X pins σ H s)(hf:∀b∈fp,Hv X pins H b)(ho:∀b∈fp,∃o,s.heap.get? b=some o∧∀v,o.data≠.cell v):Inv X (pins++GY fp s.heap) σ H s:=
 I.pins_of fun p hp=> (List.mem_append.mp hp).elim (fun z=>I.pin p (List.mem_append_right _ z)) fun z=>by
  obtain⟨hb,e⟩:=OT z
  obtain⟨f0,f1,f2,_⟩:=hf p.1 hb
  obtain⟨o,e',d⟩:=ho p.1 hb
  rw[e] at e';cases e'
  exact⟨e,f0,f1,f2,d⟩
theorem Inv.unpinned{pins pl:List (Addr×Obj)}{σ:St}{H:Hp}{s:Shared}(I:Inv X (pins++pl) σ H s):Inv X pins σ H s:=I.pins_of fun p hp=>I.pin p (List.mem_append_right _ (List.mem_append_left _ hp))
theorem Vp{iter:Expr}{body:List Stmt}{wi:TI}{g:TG}{tb:TS}{pos:Pos}(hp:PassesOwn (model X.prog X.w) X.A X.env X.xe)(hc:X.calm=true)(hi:PI X tg iter wi)(hg:PG X tg g)(hb:PSs X body tb)
  (hs:∀x,foldedSetIterable iter X.env x=pure x:=by intro _;rfl):PS X (.For tg iter body [] pos) (bD wi g tb):=by
 intro pins s σ H D I h
 refine wpAny_For (Ay (hi pins s σ H _ I h) fun v s1 h1=>Ay h1 fun itv s2 h2=>?_) hs
 obtain⟨it,fp,tn,J,H2,e,I2,T,st2,f2,W,⟨m0,w0⟩,turn⟩:=h2
 subst e
 have stat:∀{H':Hp},(∀b∈fp,H' b=none)→∀b∈fp,Hv X pins H' b:=fun hn b hb=> ⟨hn b hb,(f2 b hb).2⟩
 refine codeAny_forLoop_any (fun n s'=>∃i σ' H',Inv X pins σ' H' s'∧tn i s'.heap∧(∀b∈fp,H' b=none)∧W i n σ' H') ?_ m0 ⟨0,σ,H2,I2,st2,fun b hb=> (f2 b hb).1,w0⟩
 rintro n s3 ⟨i,σ3,H3,I3,st3,fr3,w3⟩
 rcases turn i n σ3 H3 w3 with⟨stop,qn⟩| ⟨go,N,hN,step⟩
 ·refine wpAny_passesOwn hp (Ay (T.done X rfl rfl rfl hc i pins s3 σ3 H3 X.xe I3 (stat fr3) st3 stop) fun r s4 ⟨hr,I4⟩=>?_)
  subst hr
  exact wpAny_execs_nil ⟨σ3,H3,I4,qn⟩
 ·refine wpAny_passesOwn hp (Ay (T.item X rfl rfl rfl hc i pins s3 σ3 H3 X.xe I3 (stat fr3) st3 go) fun r s4 ⟨u,hr,h4⟩=>?_)
  subst hr
  refine wpAny_passesOwn hp (Ay h4 fun _ s5 ⟨x,H5,I5,r5,y5,st5,fr5⟩=>?_)
  have I5':=I5.pinned (stat fr5) (T.obj _ _ st5)
  refine wpAny_passesOwn hp (Ay (hg _ s5 σ3 H5 x u _ I5' r5 (step x H5 y5)) fun _ s6 ⟨σ6,H6,I6,q6⟩=>?_)
  refine wpAny_passesOwn hp (Ay (hb _ s6 σ6 H6 _ I6 q6) fun f s7 q7=>?_)
  have again:∀{σ7:St} {H7:Hp},Inv X (pins++GY fp s5.heap) σ7 H7 s7→N σ7 H7→∃m,m<n∧∃i σ' H',Inv X pins σ' H' s7∧tn i s7.heap∧(∀b∈fp,H' b=none)∧W i m σ' H':=fun{σ7 H7} I7 n7=>by
   obtain⟨m',hm,w7⟩:=hN σ7 H7 n7
   refine⟨m',hm,i+1,σ7,H7,I7.unpinned,T.keep _ _ _ st5 fun b hb o e=> (I7.pin (b,o) (List.mem_append_right _ (List.mem_append_right _ (DB hb e)))).1,fun b hb=>?_,w7⟩
   obtain⟨o,e,d⟩:=T.obj _ _ st5 b hb
   exact(I7.pin (b,o) (List.mem_append_right _ (List.mem_append_right _ (DB hb e)))).2.1
  cases f with
  |next=>obtain⟨σ7,H7,I7,n7⟩:=q7;exact again I7 n7
  |cont=>obtain⟨σ7,H7,I7,n7⟩:=q7;exact again I7 n7
  |brk=>obtain⟨σ7,H7,I7,q7⟩:=q7;exact⟨σ7,H7,I7.unpinned,q7⟩
  |ret v=>obtain⟨x7,σ7,H7,I7,r7,q7⟩:=q7;exact⟨x7,σ7,H7,I7.unpinned,r7,q7⟩
end
abbrev R2:=V→V→Hp→VK→Prop
def DC(X:Cx)(f:Value→Value→Sem Value)(r:R2):Prop:=
 ∀(pins:List (Addr×Obj)) (s:Shared) (σ:St) (H:Hp) (x y:V) (v u:Value) (Q:VK),Inv X pins σ H s→RelV x v→RelV y u→r x y H Q→
  wpAny (model X.prog X.w) X.A (f v u) (EP X pins σ Q) X.xe s
def aU(X:Cx)(f:Value→Sem Value)(r:V→Hp→VK→Prop):Prop:=
 ∀(pins:List (Addr×Obj)) (s:Shared) (σ:St) (H:Hp) (x:V) (v:Value) (Q:VK),Inv X pins σ H s→RelV x v→r x H Q→
  wpAny (model X.prog X.w) X.A (f v) (EP X pins σ Q) X.xe s
def Az(X:Cx)(f:Value)(r:List V→Hp→VK→Prop):Prop:=
 ∀(pins:List (Addr×Obj)) (s:Shared) (σ:St) (H:Hp) (xs:List V) (us:List Value) (Q:VK),Inv X pins σ H s→Vals xs us→r xs H Q→
  wpAny (model X.prog X.w) X.A (call f us) (EP X pins σ Q) X.xe s
def bE(X:Cx)(r:V→Hp→(Bool→Hp→Prop)→Prop):Prop:=
 ∀(pins:List (Addr×Obj)) (s:Shared) (σ:St) (H:Hp) (x:V) (v:Value) (Q:Bool→Hp→Prop),Inv X pins σ H s→RelV x v→r x H Q→
  wpAny (model X.prog X.w) X.A (truthy v) (TP X pins σ Q) X.xe s
def YU(r:R2)(ta tb:TE):TE:=fun σ H Q=>ta σ H fun x H1=>tb σ H1 fun y H2=>r x y H2 Q
def cX(r:V→Hp→VK→Prop)(ta:TE):TE:=fun σ H Q=>ta σ H fun x H1=>r x H1 Q
def rI(C:Int→Int→Prop)(g:Int→Int→V):R2:=fun x y H Q=>∃i j,x=.int i∧y=.int j∧C i j∧Q (g i j) H
def SY(g:Int→Int→V):R2:=fun x y H Q=>∃i j,x=.int i∧y=.int j∧Q (g i j) H
def rU(g:Int→V):V→Hp→VK→Prop:=fun x H Q=>∃i,x=.int i∧Q (g i) H
section
variable{X:Cx}{a b c:Expr}{ta tb tc:TE}{pos:Pos}
theorem Vq(ha:PE X a ta)(hb:PE X b tb){pins:List (Addr×Obj)}{s:Shared}{σ:St}{H:Hp}{R:V→V→Hp→Prop}(I:Inv X pins σ H s)
  (h:ta σ H fun x H1=>tb σ H1 fun y H2=>R x y H2) {Q:Value→Shared→Prop} {f:Value→Value→Sem Value}
  (hf:∀v u s2 x y H2,Inv X pins σ H2 s2→RelV x v→RelV y u→R x y H2→wpAny (model X.prog X.w) X.A (f v u) Q X.xe s2):
  wpAny (model X.prog X.w) X.A (eval a X.env) (fun v s₁=>wpAny (model X.prog X.w) X.A (eval b X.env) (fun u s₂=>wpAny (model X.prog X.w) X.A (f v u) Q X.xe s₂) X.xe s₁) X.xe s:=by
 refine Ay (ha pins s σ H _ I h) fun v s1 ⟨x,H1,I1,r1,q1⟩=>?_
 refine Ay (hb pins s1 σ H1 _ I1 q1) fun u s2 ⟨y,H2,I2,r2,q2⟩=>?_
 exact hf v u s2 x y H2 I2 r1 r2 q2
theorem Uk{op:Operator}{r:R2}(ho:DC X (binaryOp op) r)(ha:PE X a ta)(hb:PE X b tb):PE X (.BinOp a op b pos) (YU r ta tb):=by
 intro pins s σ H Q I h
 exact wpAny_BinOp (Vq ha hb I h fun v u s2 x y H2 I2 rx ry q=>ho pins s2 σ H2 x y v u Q I2 rx ry q)
theorem YV{op:UnaryOp}{r:V→Hp→VK→Prop}(ho:aU X (unaryOp op) r)(ha:PE X a ta):PE X (.UnaryOp op a pos) (cX r ta):=by
 intro pins s σ H Q I h
 exact UnaryOp_ (Ay (ha pins s σ H _ I h) fun v s1 ⟨x,H1,I1,r1,q1⟩=>ho pins s1 σ H1 x v Q I1 r1 q1)
theorem aV{f:Value→Value→Sem Value}{C:Int→Int→Prop}{g:Int→Int→Int}
  (rule:∀(i j:Int) (t u:Tok) (s:Shared) (Q:Value→Shared→Prop) (E:Value→Shared→Prop),C i j→Q (.int (g i j) s.toks) {s with toks:=s.toks+1}→wpAny (model X.prog X.w) X.A (f (.int i t) (.int j u)) Q E s):
  DC X f (rI C fun i j=> .int (g i j)):=by
 intro pins s σ H x y v u Q I rx ry h
 obtain⟨i,j,rfl,rfl,hc,q⟩:=h
 obtain⟨t,rfl⟩:=rx
 obtain⟨t',rfl⟩:=ry
 exact rule i j t t' s _ _ hc ⟨.int (g i j),H,I.tok _,⟨_,rfl⟩,q⟩
theorem YW{f:Value→Value→Sem Value}{g:Int→Int→Int}
  (rule:∀(i j:Int) (t u:Tok) (s:Shared) (Q:Value→Shared→Prop) (E:Value→Shared→Prop),Q (.int (g i j) s.toks) {s with toks:=s.toks+1}→wpAny (model X.prog X.w) X.A (f (.int i t) (.int j u)) Q E s):
  DC X f (SY fun i j=> .int (g i j)):=by
 intro pins s σ H x y v u Q I rx ry h
 obtain⟨i,j,rfl,rfl,q⟩:=h
 obtain⟨t,rfl⟩:=rx
 obtain⟨t',rfl⟩:=ry
 exact rule i j t t' s _ _ ⟨.int (g i j),H,I.tok _,⟨_,rfl⟩,q⟩
theorem Sh{f:Value→Value→Sem Value}{g:Int→Int→Bool}
  (rule:∀(i j:Int) (t u:Tok) (s:Shared) (Q:Value→Shared→Prop) (E:Value→Shared→Prop),Q (.bool (g i j)) s→wpAny (model X.prog X.w) X.A (f (.int i t) (.int j u)) Q E s):
  DC X f (SY fun i j=> .bl (g i j)):=by
 intro pins s σ H x y v u Q I rx ry h
 obtain⟨i,j,rfl,rfl,q⟩:=h
 obtain⟨t,rfl⟩:=rx
 obtain⟨t',rfl⟩:=ry
 exact rule i j t t' s _ _ ⟨.bl (g i j),H,I,rfl,q⟩
def YX(i j:Int):Prop:=0<j∧j<1073741824
def YY(i j:Int):Prop:=0≤j∧j≤1000000∧i.natAbs<2^64
def CMul(i j:Int):Prop:=(-(2^64)<i∧i<2^64)∨(-(2^64)<j∧j<2^64)
theorem CMul.ok{i j:Int}(h:CMul i j):IntMulOk i j:=by
 rcases h with⟨h1,h2⟩| ⟨h1,h2⟩
 ·exact .of_left (intBits_le_64 h1 h2)
 ·exact .of_right (intBits_le_64 h1 h2)
theorem DD:DC X (binaryOp .Add) (SY fun i j=> .int (i+j)):=YW fun _ _ _ _ _ _ _ q=>add_int q
theorem Vr:DC X (binaryOp .Sub) (SY fun i j=> .int (i-j)):=YW fun _ _ _ _ _ _ _ q=>sub_int q
theorem Vs:DC X (binaryOp .Mult) (rI CMul fun i j=> .int (i*j)):=aV fun _ _ _ _ _ _ _ hc q=>mul_int q hc.ok
theorem Si:DC X (binaryOp .FloorDiv) (rI YX fun i j=> .int (i/j)):=aV fun i j _ _ _ _ _ hc q=>by
 have h1:(0:Int)<j:=hc.1
 have h2:j<1073741824:=hc.2
 exact floordiv_int (by omega) (by rw[Int.fdiv_eq_ediv_of_nonneg i (by omega)];exact q) (.inl (PyProof.noPylong_small (by omega)))
theorem Pi:DC X (binaryOp .Mod) (rI (fun _ j=>0<j) fun i j=> .int (i%j)):=aV fun i j _ _ _ _ _ hc q=>by
 have h1:(0:Int)<j:=hc
 exact mod_int' (by omega) (by rw[Int.fmod_eq_emod_of_nonneg i (by omega)];exact q)
theorem Vt:DC X (binaryOp .Pow) (rI YY fun i j=> .int (i^j.toNat)):=aV fun _ _ _ _ _ _ _ hc q=>pow_int_small hc.1 hc.2.1 hc.2.2 q
theorem cY{f:Value→Sem Value}{g:Int→Int}
  (rule:∀(i:Int) (t:Tok) (s:Shared) (Q:Value→Shared→Prop) (E:Value→Shared→Prop),Q (.int (g i) s.toks) {s with toks:=s.toks+1}→wpAny (model X.prog X.w) X.A (f (.int i t)) Q E s):
  aU X f (rU fun i=> .int (g i)):=by
 intro pins s σ H x v Q I rx h
 obtain⟨i,rfl,q⟩:=h
 obtain⟨t,rfl⟩:=rx
 exact rule i t s _ _ ⟨.int (g i),H,I.tok _,⟨_,rfl⟩,q⟩
theorem Vu:aU X (unaryOp .USub) (rU fun i=> .int (-i)):=cY fun _ _ _ _ _ q=>neg_int q
end
def YZ:V→V→Bool
 | .non,.non=>true| .non,.int _=>true| .int _,.non=>true| .non,.bl _=>true| .bl _,.non=>true| .non,.str _=>true| .str _,.non=>true
 | .int _,.int _=>true| .bl _,.bl _=>true| .str _,.str _=>true| .byt _,.byt _=>true
 | .int _,.str _=>true| .str _,.int _=>true| .bl _,.str _=>true| .str _,.bl _=>true
 |_,_=>false
def bG:R2:=fun x y H Q=>YZ x y=true∧Q (.bl (decide (x=y))) H
def aW:R2:=fun x y H Q=>YZ x y=true∧Q (.bl (!decide (x=y))) H
theorem Mw{i j:Int}:decide (V.int i=V.int j)=(i==j):=by
 rw[Bool.eq_iff_iff]
 simp
theorem JI{i j:Bool}:decide (V.bl i=V.bl j)=(i==j):=by
 rw[Bool.eq_iff_iff]
 simp
theorem Mx{i j:Str}:decide (V.str i=V.str j)=(i==j):=by
 rw[Bool.eq_iff_iff]
 simp
theorem My{i j:Array UInt8}:decide (V.byt i=V.byt j)=(i.toList==j.toList):=by
 rw[Bool.eq_iff_iff]
 cases i
 cases j
 simp
section
variable{X:Cx}{a b c:Expr}{ta tb tc:TE}{pos:Pos}
theorem AZ{pins:List (Addr×Obj)}{σ:St}{H:Hp}{s:Shared}{Q:VK}{k k':Bool}(I:Inv X pins σ H s)(q:Q (.bl k) H)(e:k=k'):EP X pins σ Q (.bool k') s:=by
 subst e
 exact⟨.bl k,H,I,rfl,q⟩
theorem KM:DC X (compareOp .Eq) bG:=by
 intro pins s σ H x y v u Q I rx ry h
 obtain⟨hs,q⟩:=h
 cases x with
 |non=>
  cases rx
  cases y with
  |non=>cases ry;exact PySem.EqNone.eq_none_none (AZ I q (by simp))
  |bl j=>cases ry;exact PySem.EqNone.eq_none_bool (AZ I q (by simp))
  |int j=>obtain⟨t',rfl⟩:=ry;exact PySem.EqNone.eq_none_int (AZ I q (by simp))
  |str j=>obtain⟨t',rfl⟩:=ry;exact PySem.EqNone.eq_none_str (AZ I q (by simp))
  |_=>exact absurd (show false=true from hs) Bool.false_ne_true
 |bl i=>
  cases rx
  cases y with
  |non=>cases ry;exact PySem.EqNone.eq_bool_none (AZ I q (by simp))
  |bl j=>cases ry;exact eq_bool (AZ I q JI)
  |str j=>obtain⟨t',rfl⟩:=ry;exact PySem.EqMixed.eq_bool_str (AZ I q (by simp))
  |_=>exact absurd (show false=true from hs) Bool.false_ne_true
 |int i=>
  obtain⟨t,rfl⟩:=rx
  cases y with
  |non=>cases ry;exact PySem.EqNone.eq_int_none (AZ I q (by simp))
  |int j=>obtain⟨t',rfl⟩:=ry;exact eq_int (AZ I q Mw)
  |str j=>obtain⟨t',rfl⟩:=ry;exact PySem.EqMixed.eq_int_str (AZ I q (by simp))
  |_=>exact absurd (show false=true from hs) Bool.false_ne_true
 |str i=>
  obtain⟨t,rfl⟩:=rx
  cases y with
  |non=>cases ry;exact PySem.EqNone.eq_str_none (AZ I q (by simp))
  |bl j=>cases ry;exact PySem.EqMixed.eq_str_bool (AZ I q (by simp))
  |int j=>obtain⟨t',rfl⟩:=ry;exact PySem.EqMixed.eq_str_int (AZ I q (by simp))
  |str j=>obtain⟨t',rfl⟩:=ry;exact eq_str (AZ I q Mx)
  |_=>exact absurd (show false=true from hs) Bool.false_ne_true
 |byt i=>
  obtain⟨t,rfl⟩:=rx
  cases y with
  |byt j=>obtain⟨t',rfl⟩:=ry;exact PySem.W.eq_bytes (AZ I q My)
  |_=>exact absurd (show false=true from hs) Bool.false_ne_true
 |_=>cases y<;>exact absurd (show false=true from hs) Bool.false_ne_true
theorem Mz:DC X (compareOp .NotEq) aW:=by
 intro pins s σ H x y v u Q I rx ry h
 obtain⟨hs,q⟩:=h
 cases x with
 |non=>
  cases rx
  cases y with
  |non=>cases ry;exact PySem.EqNone.ne_none_none (AZ I q (by simp))
  |bl j=>cases ry;exact PySem.EqNone.ne_none_bool (AZ I q (by simp))
  |int j=>obtain⟨t',rfl⟩:=ry;exact PySem.EqNone.ne_none_int (AZ I q (by simp))
  |str j=>obtain⟨t',rfl⟩:=ry;exact PySem.EqNone.ne_none_str (AZ I q (by simp))
  |_=>exact absurd (show false=true from hs) Bool.false_ne_true
 |bl i=>
  cases rx
  cases y with
  |non=>cases ry;exact PySem.EqNone.ne_bool_none (AZ I q (by simp))
  |bl j=>cases ry;exact ne_bool (AZ I q (congrArg not JI))
  |str j=>obtain⟨t',rfl⟩:=ry;exact PySem.EqMixed.ne_bool_str (AZ I q (by simp))
  |_=>exact absurd (show false=true from hs) Bool.false_ne_true
 |int i=>
  obtain⟨t,rfl⟩:=rx
  cases y with
  |non=>cases ry;exact PySem.EqNone.ne_int_none (AZ I q (by simp))
  |int j=>obtain⟨t',rfl⟩:=ry;exact ne_int (AZ I q (congrArg not Mw))
  |str j=>obtain⟨t',rfl⟩:=ry;exact PySem.EqMixed.ne_int_str (AZ I q (by simp))
  |_=>exact absurd (show false=true from hs) Bool.false_ne_true
 |str i=>
  obtain⟨t,rfl⟩:=rx
  cases y with
  |non=>cases ry;exact PySem.EqNone.ne_str_none (AZ I q (by simp))
  |bl j=>cases ry;exact PySem.EqMixed.ne_str_bool (AZ I q (by simp))
  |int j=>obtain⟨t',rfl⟩:=ry;exact PySem.EqMixed.ne_str_int (AZ I q (by simp))
  |str j=>obtain⟨t',rfl⟩:=ry;exact ne_str (AZ I q (congrArg not Mx))
  |_=>exact absurd (show false=true from hs) Bool.false_ne_true
 |byt i=>
  obtain⟨t,rfl⟩:=rx
  cases y with
  |byt j=>obtain⟨t',rfl⟩:=ry;exact PySem.W.ne_bytes (AZ I q (congrArg not My))
  |_=>exact absurd (show false=true from hs) Bool.false_ne_true
 |_=>cases y<;>exact absurd (show false=true from hs) Bool.false_ne_true
theorem Pj:DC X (compareOp .Lt) (SY fun i j=> .bl (decide (i<j))):=Sh fun _ _ _ _ _ _ _ q=>lt_int q
theorem Pk:DC X (compareOp .LtE) (SY fun i j=> .bl (decide (i≤j))):=Sh fun _ _ _ _ _ _ _ q=>le_int q
theorem Yb:DC X (compareOp .Gt) (SY fun i j=> .bl (decide (j<i))):=Sh fun _ _ _ _ _ _ _ q=>gt_int q
theorem Yc:DC X (compareOp .GtE) (SY fun i j=> .bl (decide (j≤i))):=Sh fun _ _ _ _ _ _ _ q=>ge_int q
theorem Pl:DC X (compareOp .Is) (fun x y H Q=>y=.non∧Q (.bl (decide (x=.non))) H):=by
 intro pins s σ H x y v u Q I rx ry h
 obtain⟨rfl,q⟩:=h
 cases ry
 refine is_none_gen (AZ I q ?_)
 cases x<;>first
  | (cases rx;rfl)
  | (obtain⟨t,rfl⟩:=rx;rfl)
theorem NA:DC X (compareOp .IsNot) (fun x y H Q=>y=.non∧Q (.bl (!decide (x=.non))) H):=by
 intro pins s σ H x y v u Q I rx ry h
 obtain⟨rfl,q⟩:=h
 cases ry
 refine isnot_none_gen (AZ I q ?_)
 cases x<;>first
  | (cases rx;rfl)
  | (obtain⟨t,rfl⟩:=rx;rfl)
theorem Ae(b:Expr){op:CmpOp}(h:op≠.In:=by decide)(h2:op≠.NotIn:=by decide):behindInMarks op b=false:=by
 have e1:(op==CmpOp.In)=false:=by cases op<;>first|rfl|exact absurd rfl h
 have e2:(op==CmpOp.NotIn)=false:=by cases op<;>first|rfl|exact absurd rfl h2
 cases b<;>simp[behindInMarks,e1,e2]
theorem Sj{op:CmpOp}{r:R2}(ho:DC X (compareOp op) r)(ha:PE X a ta)(hb:PE X b tb)(hm:behindInMarks op b=false):PE X (.Compare a [op] [b] pos) (YU r ta tb):=by
 intro pins s σ H Q I h
 exact wpAny_Compare1 (Vq ha hb I h fun v u s2 x y H2 I2 rx ry q=>ho pins s2 σ H2 x y v u Q I2 rx ry q) hm
def Yd(t:TE):TT:=fun σ H Q=>t σ H fun x H'=>∃k,x=.bl k∧Q k H'
theorem JJ{op:CmpOp}{r:R2}(ho:DC X (compareOp op) r)(ha:PE X a ta)(hb:PE X b tb)(hm:behindInMarks op b=false):PT X (.Compare a [op] [b] pos) (Yd (YU r ta tb)):=by
 intro pins s σ H Q I h
 refine wpAny_isTrue_Compare1 (Ay (ha pins s σ H _ I h) fun v s1 ⟨x,H1,I1,r1,q1⟩=>Ay (hb pins s1 σ H1 _ I1 q1) fun u s2 ⟨y,H2,I2,r2,q2⟩=>
  Ay (ho pins s2 σ H2 x y v u _ I2 r1 r2 q2) fun c s3 ⟨z,H3,I3,r3,k,e,q3⟩=>?_) hm
 subst e
 cases r3
 exact wpAny_truthy_bool ⟨H3,I3,q3⟩
def Vv(r r':R2)(ta tb tc:TE):TE:=fun σ H Q=>ta σ H fun x H1=>tb σ H1 fun y H2=>r x y H2 fun z H3=>∃k,z=.bl k∧
 (if k=true then tc σ H3 fun w' H4=>r' y w' H4 Q else Q (.bl false) H3)
theorem Pm{op op':CmpOp}{r r':R2}(ho:DC X (compareOp op) r)(ho':DC X (compareOp op') r')(ha:PE X a ta)(hb:PE X b tb)(hc:PE X c tc)
  (hm:lastMarks [op,op'] [b,c]=false:=by with_unfolding_all rfl):PE X (.Compare a [op,op'] [b,c] pos) (Vv r r' ta tb tc):=by
 intro pins s σ H Q I h
 refine Compare_chain (Ay (ha pins s σ H _ I h) fun v s1 ⟨x,H1,I1,r1,q1⟩=>chain_link (Ay (hb pins s1 σ H1 _ I1 q1) fun u s2 ⟨y,H2,I2,r2,q2⟩=>
  Ay (ho pins s2 σ H2 x y v u _ I2 r1 r2 q2) fun d s3 ⟨z,H3,I3,r3,k,e,q3⟩=>?_)) hm
 subst e
 cases r3
 refine wpAny_truthy_bool ?_
 cases k with
 |false=>exact ite_ff ⟨.bl false,H3,I3,rfl,q3⟩
 |true=>exact ite_tt (chain_last (Ay (hc pins s3 σ H3 _ I3 q3) fun w' s4 ⟨z',H4,I4,r4,q4⟩=>ho' pins s4 σ H4 y z' u w' Q I4 r2 r4 q4))
def Sk(K:PySem.W.Frag)(x:V)(H:Hp)(k:Bool):Prop:=
 match x with
 | .non=>k=false
 | .bl b=>k=b
 | .int i=>k=(i !=0)
 | .str y=>y.length≤sizeLine∧k=((y.length:Int) !=0)
 | .byt y=>y.size≤sizeLine∧k=((y.size:Int) !=0)
 | .ref p=> (∃xs,SqL K H p xs∧k=!xs.isEmpty)∨(∃xs,Hs K H p xs∧k=!xs.isEmpty)∨∃kvs,H p=some (.dK kvs)∧k=!kvs.isEmpty
 |_=>False
theorem Lk{κ:Type}{kvs:List (κ×V)}{vs:List (κ×Value)}(r:KV kvs vs):(!vs.isEmpty)=!kvs.isEmpty:=by
 cases r<;>rfl
theorem GZ{xs:List V}{its:List Value}(r:Vals xs its):(!its.toArray.isEmpty)=!xs.isEmpty:=by
 cases r<;>simp
theorem FU:(sizeLine:Nat)<2^63:=by rw[sizeLine_eq];decide
theorem Pn:bE X (fun x H Q=>∃k,Sk X.K x H k∧Q k H):=by
 intro pins s σ H x v Q I rx h
 obtain⟨k,e,q⟩:=h
 have hl:=FU
 have hs:sizeLine=16777216:=sizeLine_eq
 cases x with
 |non=>
  cases rx
  have e':k=false:=e
  subst e'
  exact truthy_none ⟨H,I,q⟩
 |bl b=>
  cases rx
  have e':k=b:=e
  subst e'
  exact wpAny_truthy_bool ⟨H,I,q⟩
 |int i=>
  obtain⟨t,rfl⟩:=rx
  have e':k=(i !=0):=e
  subst e'
  exact PySem.P.truthy_int ⟨H,I,q⟩
 |str y=>
  obtain⟨t,rfl⟩:=rx
  obtain⟨hy,e'⟩:y.length≤sizeLine∧k=((y.length:Int) !=0):=e
  subst e'
  exact PySem.P.truthy_str (by omega) ⟨H,I.tok _,q⟩
 |byt y=>
  obtain⟨t,rfl⟩:=rx
  obtain⟨hy,e'⟩:y.size≤sizeLine∧k=((y.size:Int) !=0):=e
  subst e'
  exact PySem.W.truthy_bytes (by omega) ⟨H,I.tok _,q⟩
 |ref p=>
  cases rx
  have e':(∃xs,SqL X.K H p xs∧k=!xs.isEmpty)∨(∃xs,Hs X.K H p xs∧k=!xs.isEmpty)∨∃kvs,H p=some (.dK kvs)∧k=!kvs.isEmpty:=e
  rcases e' with⟨xs,hx,e'⟩| ⟨xs,hx,e'⟩| ⟨kvs,hx,e'⟩
  ·subst e'
   obtain⟨its,r,pl,hz⟩:=I.list hx
   have hlen:=r.length
   exact wpAny_truthy_list pl.isList (by simp only[List.size_toArray];omega) ⟨H,I.tok _,by rw[GZ r];exact q⟩
  ·subst e'
   obtain⟨its,r,pl,hz⟩:=I.tuple hx
   have hlen:=r.length
   exact truthy_tuple pl (by simp only[List.size_toArray];omega) ⟨H,I.tok _,by rw[GZ r];exact q⟩
  ·subst e'
   obtain⟨hz,hS,vs,r,m⟩:kvs.length≤sizeLine∧(p==sysModules)=false∧∃vs,KV kvs vs∧s.heap.DictOf (JE X.prog X.w) p vs:=I.hok p _ hx
   have hlen:kvs.length=vs.length:=Paired.length r
   exact wpAny_truthy_dict hS m (by omega) ⟨H,I.tok _,by rw[Lk r];exact q⟩
 |_=>exact(show False from e).elim
theorem KN(ha:PE X a ta)(he:∀whole,isTrue a X.env whole=(do let v←whole;standAt a.pos;holding [v] (truthy v))):
  PT X a (fun σ H Q=>ta σ H fun x H'=>∃k,Sk X.K x H' k∧Q k H'):=by
 intro pins s σ H Q I h
 exact isTrue_plain (Ay (ha pins s σ H _ I h) fun v s1 ⟨x,H1,I1,r1,q1⟩=>Pn pins s1 σ H1 x v Q I1 r1 q1) (he _)
theorem Dd{x:V}{us:List Value}(r:Vals [x] us):∃u,us=[u]∧RelV x u:=by
 cases r with
 |cons r1 r2=>cases r2;exact⟨_,rfl,r1⟩
theorem Po{x y:V}{us:List Value}(r:Vals [x,y] us):∃u w',us=[u,w']∧RelV x u∧RelV y w':=by
 cases r with
 |cons r1 r2=>
  cases r2 with
  |cons r3 r4=>cases r4;exact⟨_,_,rfl,r1,r3⟩
theorem OU(hc:X.calm=true):Az X (.builtin "max") (fun xs H Q=>∃i j,xs=[.int i,.int j]∧Q (.int (if j>i then j else i)) H):=by
 intro pins s σ H xs us Q I r h
 obtain⟨i,j,rfl,q⟩:=h
 obtain⟨u,w',rfl,⟨t,rfl⟩,⟨t',rfl⟩⟩:=Po r
 refine max_two_ints (I.ok.hd hc) fun h' tk k=> ⟨_,H,I.kept k,?_,q⟩
 by_cases hj:j>i
 ·rw[if_pos hj,if_pos hj];exact⟨_,rfl⟩
 ·rw[if_neg hj,if_neg hj];exact⟨_,rfl⟩
theorem OV(hc:X.calm=true):Az X (.builtin "min") (fun xs H Q=>∃i j,xs=[.int i,.int j]∧Q (.int (if j<i then j else i)) H):=by
 intro pins s σ H xs us Q I r h
 obtain⟨i,j,rfl,q⟩:=h
 obtain⟨u,w',rfl,⟨t,rfl⟩,⟨t',rfl⟩⟩:=Po r
 refine min_two_ints (I.ok.hd hc) fun h' tk k=> ⟨_,H,I.kept k,?_,q⟩
 by_cases hj:j<i
 ·rw[if_pos hj,if_pos hj];exact⟨_,rfl⟩
 ·rw[if_neg hj,if_neg hj];exact⟨_,rfl⟩
theorem OW:Az X (.type "int") (fun xs H Q=> (∃i,xs=[.int i]∧Q (.int i) H)∨∃k,xs=[.bl k]∧Q (.int (if k then 1 else 0)) H):=by
 intro pins s σ H xs us Q I r h
 rcases h with⟨i,rfl,q⟩| ⟨k,rfl,q⟩
 ·obtain⟨u,rfl,t,rfl⟩:=Dd r
  exact call_int_int ⟨.int i,H,I,⟨_,rfl⟩,q⟩
 ·obtain⟨u,rfl,r1⟩:=Dd r
  cases r1
  exact call_int_bool ⟨.int (if k then 1 else 0),H,I.tok _,⟨_,rfl⟩,q⟩
end
structure ObjM(h:Heap)(x dx C:Addr)(mA:Str→Option Value):Prop where
 obj:h.get? x=some (PySem.W.instObj C dx)
 ns:h.Ns1 dx mA
 ne:dx≠x
theorem OX{h:Heap}{dx:Addr}{mA:Str→Option Value}(n:h.Ns1 dx mA):∃od,h.get? dx=some od∧∀name,PySem.W.lookIn name od=some (mA name):=by
 obtain⟨o,es,ep,ho,hd,hk,_,hm⟩:=n
 refine⟨o,ho,fun name=>?_⟩
 have e:=hm name
 unfold nsFind findBy at e
 rw[←Array.find?_toList] at e
 unfold PySem.W.lookIn
 rw[hd]
 dsimp only
 split
 ·rename_i y q
  rw[q] at e
  exact congrArg some e
 ·rename_i q
  rw[q] at e
  have a:es.toList.any (·.refKey)=false:=by
   rw[List.any_eq_false]
   intro y hy
   obtain⟨z,t,hkey⟩:=hk y (Array.mem_toList_iff.mp hy)
   simp[DictEntry.refKey,hkey]
  have a':¬es.toList.any (·.refKey)=true:=by rw[a];exact Bool.false_ne_true
  rw[if_neg a']
  exact congrArg some e
theorem ObjM.look{h:Heap}{x dx C:Addr}{mA:Str→Option Value}(I:ObjM h x dx C mA):∃od,PySem.W.InstAt h x (PySem.W.instObj C dx) C (some od)∧∀name,PySem.W.lookIn name od=some (mA name):=
 let⟨od,ho,hl⟩:=OX I.ns
 ⟨od,⟨I.obj,rfl,rfl,ho⟩,hl⟩
section
variable{prog:Program}{w:World}{A:Around}{E:Value→Shared→Prop}{s:Shared}{K:PySem.W.Frag}{x dx C f:Addr}{mA:Str→Option Value}{name:Str}{v:Value}
end
section
variable{P:Program}{w:World}{H H':Hp}{h h':Heap}{a C dx:Addr}{fs fs':List (Str×V)}
theorem Sl(hok:HOk P w H h)(e:H a=some (.ins C dx fs)):∃mA,ObjM h a dx C mA∧(∀f,Sa (fs.lookup f) (mA f))∧PySem.Within mA (fs.map (·.1))∧fs.length≤1000∧H dx=some (.own a):=by
 obtain⟨d,z,ne,ob,mA,n,r,q⟩:=(show ObjOk P w H h a (.ins C dx fs) from hok a _ e)
 exact⟨mA,⟨ob,n,ne⟩,r,q,z,d⟩
end
structure Cls(K:PySem.W.Frag)(C:Addr):Prop where
 pg:PySem.W.plainGet K C Str.empty=true
 hd:PySem.W.hasDictIn K C=true
 po:PySem.W.plainOver K C=true
 sa:PySem.W.findIn K (.ref C) "__setattr__" =some (some (.builtin "object.__setattr__"))
theorem Cls.get{K:PySem.W.Frag}{C:Addr}(c:Cls K C)(f:Str):PySem.W.plainGet K C f=true:=c.pg
section
variable{X:Cx}{pins:List (Addr×Obj)}{σ:St}{H:Hp}{s:Shared}{a C dx:Addr}{fs:List (Str×V)}{f:Str}{v:V}{A:Around}{E:Value→Shared→Prop}
end
section
variable{X:Cx}{o e value:Expr}{f:Str}{pos pos' tpos:Pos}{ta tv:TE}
end
section
variable{X:Cx}{pins:List (Addr×Obj)}{σ:St}{H:Hp}{s:Shared}{A:Around}{E:Value→Shared→Prop}{Q:Value→Shared→Prop}{c:Value}{b:Bool}
inductive TyOf(K:PySem.W.Frag)(H:Hp):V→Value→Prop where
 |non:TyOf K H .non (.type "NoneType")
 |bl (x:Bool):TyOf K H (.bl x) (.type "bool")
 |int (i:Int):TyOf K H (.int i) (.type "int")
 |str (x:Str):TyOf K H (.str x) (.type "str")
 |flt (x:UInt64):TyOf K H (.flt x) (.type "float")
 |lst {a:Addr} {xs:List V} (e:H a=some (.lst xs)):TyOf K H (.ref a) (.type "list")
 |frz {a:Addr} {o:Obj} {xs:List V} (e:H a=some (.frz o (.lst xs))):TyOf K H (.ref a) (.type "list")
 |tup {a:Addr} {xs:List V} (e:H a=some (.tup xs)):TyOf K H (.ref a) (.type "tuple")
 |dK {a:Addr} {kvs:List (KG×V)} (e:H a=some (.dK kvs)):TyOf K H (.ref a) (.type "dict")
 |dT {a:Addr} {kvs:List (List KG×V)} (e:H a=some (.dT kvs)):TyOf K H (.ref a) (.type "dict")
 |ins {a C dx:Addr} {fs:List (Str×V)} (e:H a=some (.ins C dx fs)) (cl:Cls K C) (ha:PySem.W.findIn K (.ref C) "__class__" =some (some (.builtin "object.__class__")))
   (hn:PySem.W.specialIn K (.builtin "object.__class__") "__get__" =some (some (.builtin "getset_descriptor.__get__"))) (htk:PySem.W.takesIn K (.builtin "object.__class__")=some true)
   (hm:PySem.W.mroIn K C (.type "object")=some true):TyOf K H (.ref a) (.ref C)
theorem OY{x:V}{u t:Value}(I:Inv X pins σ H s)(rx:RelV x u)(ty:TyOf X.K H x t)(e:PySem.W.kitOne X.K t c=some b)(h:∀tk,Q (.bool b) {s with toks:=tk}):
  wpAny (model X.prog X.w) A (call (.builtin "isinstance") [u,c]) Q E s:=by
 cases ty with
 |non=>cases(show u=Value.none from rx);exact PySem.W.kia_one PySem.W.kitx_none I.kIn True.intro e (fun z=>nomatch z) h
 |bl y=>cases(show u=Value.bool y from rx);exact PySem.W.kia_one PySem.W.kitx_bool I.kIn True.intro e (fun z=>nomatch z) h
 |int i=>obtain⟨t,q⟩:=(show∃t,u=Value.int i t from rx);cases q;exact PySem.W.kia_one PySem.W.kitx_int I.kIn True.intro e (fun z=>nomatch z) h
 |str y=>obtain⟨t,q⟩:=(show∃t,u=Value.str y t from rx);cases q;exact PySem.W.kia_one PySem.W.kitx_str I.kIn True.intro e (fun z=>nomatch z) h
 |flt y=>obtain⟨t,q⟩:=(show∃t,u=Value.float y t from rx);cases q;exact PySem.W.kia_one PySem.W.kitx_float I.kIn True.intro e (fun z=>nomatch z) h
 | @lst a xs ea=>
  cases(show u=Value.ref a from rx)
  obtain⟨_,_,n,_,h1⟩:=(show ObjOk X.prog X.w H s.heap a (.lst xs) from I.hok a _ ea)
  exact PySem.W.kia_one PySem.W.kitx_list I.kIn ⟨_,h1,rfl⟩ e (fun z=>nomatch z) h
 | @frz a ob xs ea=>
  cases(show u=Value.ref a from rx)
  obtain⟨_,_,_,n,_,h1⟩:=(show ObjOk X.prog X.w H s.heap a (.frz ob (.lst xs)) from I.hok a _ ea)
  exact PySem.W.kia_one PySem.W.kitx_list I.kIn ⟨_,h1,rfl⟩ e (fun z=>nomatch z) h
 | @tup a xs ea=>
  cases(show u=Value.ref a from rx)
  obtain⟨_,_,_,p⟩:=(show ObjOk X.prog X.w H s.heap a (.tup xs) from I.hok a _ ea)
  obtain⟨o,h1,h2,_⟩:=p
  exact PySem.W.kia_one PySem.W.kitx_tuple I.kIn ⟨o,h1,h2⟩ e (fun z=>nomatch z) h
 | @dK a kvs ea=>
  cases(show u=Value.ref a from rx)
  obtain⟨_,_,vs,_,p⟩:=(show ObjOk X.prog X.w H s.heap a (.dK kvs) from I.hok a _ ea)
  obtain⟨o,es,ep,h1,h2,_⟩:=p
  exact PySem.W.kia_one PySem.W.kitx_dict I.kIn ⟨o,h1,h2.1⟩ e (fun z=>nomatch z) h
 | @dT a kvs ea=>
  cases(show u=Value.ref a from rx)
  obtain⟨_,_,xs,_,o,es,ep,h1,h2,_⟩:=(show ObjOk X.prog X.w H s.heap a (.dT kvs) from I.hok a _ ea)
  exact PySem.W.kia_one PySem.W.kitx_dict I.kIn ⟨o,h1,h2.1⟩ e (fun z=>nomatch z) h
 | @ins a C dx fs ea cl ha hn htk hm=>
  cases(show u=Value.ref a from rx)
  obtain⟨mA,O,_⟩:=Sl I.hok ea
  obtain⟨od,J,_⟩:=O.look
  exact PySem.W.kia_one (PySem.W.kitx_own (cl.get _) cl.hd ha hn htk hm) I.kIn J e (fun z=>nomatch z) h
end
structure Room(k:Nat)(A:Around):Prop where
 hd:A.handled=none
 dp:A.depth+3*k+5<recursionLimit
 un:A.units+16*k+200<cLine
 gd:A.guards=some []
theorem Room.mono{j k:Nat}{A:Around}(r:Room k A)(h:j≤k):Room j A:=⟨r.hd,by have:=r.dp;omega,by have:=r.un;omega,r.gd⟩
theorem Room.deeper{k:Nat}{A:Around}(r:Room (k+1) A)(env:Env):Room k (A.deeper env):=
 ⟨r.hd,by have:=r.dp;show A.depth+1+3*k+5<_;omega,by have:=r.un;show A.units+3+16*k+200<_;omega,r.gd⟩
theorem Room.depth{k:Nat}{A:Around}(r:Room k A):A.depth<recursionLimit:=by have:=r.dp;omega
def bH:TA:=fun _ H Q=>Q [] H
def Ye(ta:TE)(tr:TA):TA:=fun σ H Q=>ta σ H fun x H1=>tr σ H1 fun xs H2=>Q (x::xs) H2
section
variable{X:Cx}{e:Expr}{es:List Expr}{te:TE}{t:TA}{pos:Pos}
theorem BF:PA X [] bH:=fun _ _ _ _ H Q I h=>Calls.spliced_nil ⟨[],H,I,.nil,h⟩
theorem AL(ha:PE X e te)(hr:PA X es t)(hs:starEach (e::es) X.env=(false,eval e X.env)::starEach es X.env:=by rfl):PA X (e::es) (Ye te t):=by
 intro pos pins s σ H Q I h
 rw[hs]
 show wpAny _ _ (spliced ((false,eval e X.env)::backTo pos (starEach es X.env))) _ _ s
 refine Calls.spliced_cons (Ay (ha pins s σ H _ I h) fun u s1 ⟨x,H1,I1,r1,q1⟩=>?_)
 exact Ay (hr pos pins s1 σ H1 _ I1 q1) fun us s2 ⟨xs,H2,I2,r2,q2⟩=> ⟨x::xs,H2,I2,.cons r1 r2,q2⟩
def bI(t:TA):TE:=fun σ H Q=>t σ H fun xs H1=>xs.length≤sizeLine∧∀p,H1 p=none→Q (.ref p) (upd H1 p (.tup xs))
def bJ(t:TA):TE:=fun σ H Q=>t σ H fun xs H1=>xs.length≤sizeLine∧∀p,H1 p=none→Q (.ref p) (upd H1 p (.lst xs))
theorem Vw{x1}(h:PA X es t):PE X (.Tuple es x1 pos) (bI t):=by
 intro pins s σ H Q I hq
 refine wpAny_Tuple_spliced (Ay (h pos pins s σ H _ I hq) fun us s1 ⟨xs,H1,I1,r,z,q⟩=> ⟨by rw[←r.length];exact z,?_⟩)
 have hf:H1 s1.heap.objs.size=none:=I1.hok.fresh (Nat.le_refl _)
 refine⟨.ref s1.heap.objs.size,upd H1 s1.heap.objs.size (.tup xs),I1.laid (t':=s1.toks) (fun b u e=>Heap.get?_push_of_some _ e) (Nat.le_refl _) ?_,rfl,q _ hf⟩
 exact⟨z,us,r,⟨_,Heap.get?_push_size _ rfl,rfl,_,rfl⟩⟩
theorem Ga(h:PA X es t):PE X (.List es pos) (bJ t):=by
 intro pins s σ H Q I hq
 refine wpAny_List_spliced (Ay (h pos pins s σ H _ I hq) fun us s1 ⟨xs,H1,I1,r,z,q⟩=> ⟨by rw[←r.length];exact z,?_⟩)
 have hf:H1 s1.heap.objs.size=none:=I1.hok.fresh (Nat.le_refl _)
 refine⟨.ref s1.heap.objs.size,upd H1 s1.heap.objs.size (.lst xs),I1.laid (t':=s1.toks) (fun b u e=>Heap.get?_push_of_some _ e) (Nat.le_refl _) ?_,rfl,q _ hf⟩
 exact⟨z,us,0,r,Heap.get?_push_size _ rfl⟩
end
abbrev Sp:=List V→Hp→VK→XK→Prop
abbrev Pp:=List Env→Hp→Shared→XK→Value→Shared→Prop
structure Env0(P:Program)(w:World)(K:PySem.W.Frag)(mg:Str→Option Value)(base:Heap)(A:Around)(outer:List Env)(s:Shared)(H:Hp):Prop where
 frames:A.frames=some outer
 mod:Mod K mg base
 bs:∀b o,base.get? b=some o→s.heap.get? b=some o∧H b=none
 bsz:base.objs.size≤s.heap.objs.size
 funs:s.heap.FunFrames base outer
 frf:∀b∈FR outer,H b=none
 hok:HOk P w H s.heap
 bare:AllBare s.gens
def CE(outer:List Env)(P:Program)(w:World)(H:Hp)(s:Shared)(Q:VK)(u:Value)(s':Shared):Prop:=
 ∃v H',s'.os=s.os∧AllBare s'.gens∧Un (FR outer) [] H H' s.heap s'.heap∧HOk P w H' s'.heap∧RelV v u∧Q v H'
def CR(CX:Pp)(outer:List Env)(P:Program)(w:World)(H:Hp)(s:Shared)(Q:VK)(E:XK)(r:Result)(s':Shared):Prop:=
 match r with
 | .ok (.ret u)=>CE outer P w H s Q u s'
 | .ok _=>False
 | .error e=>CX outer H s E e s'
structure FnOk(P:Program)(w:World)(K:PySem.W.Frag)(mg:Str→Option Value)(base:Heap)(CX:Pp)(k:Nat)(f:Addr)(fd:FuncData)(ps:List Str)(sp:Sp):Prop where
 len:∀vs H Q E,sp vs H Q E→vs.length=ps.length
 run:∀(A:Around) (outer:List Env) (s:Shared) (H:Hp) (args:Args) (us:List Value) (vs:List V) (Q:VK) (E:XK),Room k A→Env0 P w K mg base A outer s H→BindsTo s fd args (ps.zip us)→Vals vs us→sp vs H Q E→
  codeAny (model P w) A (.call (.ref f) args) (CR CX outer P w H s Q E) s
section
variable{X:Cx}{pins:List (Addr×Obj)}{σ:St}{H:Hp}{s s':Shared}
theorem Inv.env0(I:Inv X pins σ H s):Env0 X.prog X.w X.K X.mg X.base X.A X.stack s H:=
 ⟨I.ok.frames,I.ok.mod,I.bs,Nat.le_trans I.ok.bsz I.sz,I.stack,I.stkFree,I.hok,I.bare⟩
theorem Inv.after{Q:VK}{u:Value}(I:Inv X pins σ H s)(h:CE X.stack X.prog X.w H s Q u s'):EP X pins σ Q u s':=by
 obtain⟨v,H',os,bare,un,hok,r,q⟩:=h
 obtain⟨hh,g,d,t,os'⟩:=s'
 obtain rfl:os'=s.os:=os
 exact⟨v,H',I.call (h':=hh) (g':=g) (d':=d) (t':=t) (ch:=[]) un hok bare (fun b z=>absurd z (by simp)),r,q⟩
end
def Binds(K:PySem.W.Frag)(fd:FuncData)(ps:List Str)(ds:List Value):Prop:=
 ∀(s:Shared) (us:List Value),K.In s.heap→(us++ds).length=ps.length→BindsTo s fd ⟨us,[]⟩ (ps.zip (us++ds))
theorem Binds.all{K:PySem.W.Frag}{fd:FuncData}{ps:List Str}(h:∀us:List Value,us.length=ps.length→bindArgs fd ⟨us,[]⟩=pure (ps.zip us)):Binds K fd ps []:=fun s us _ hl=>by
 rw[List.append_nil] at hl ⊢
 exact .of_eq (h us hl)
section
variable{X:Cx}{CX:Pp}{k:Nat}{f C:Addr}{fd:FuncData}{ps:List Str}{sp:Sp}{dvs:List V}{ds:List Value}{E:XK}{x m:Str}{p pos apos:Pos}{e o:Expr}{es:List Expr}{ta:TE}{t:TA}
end
section
variable{X:Cx}{CX:Pp}{k:Nat}{f C:Addr}{fd:FuncData}{ps ks:List Str}{sp:Sp}{E:XK}{x m:Str}{p pos apos kpos:Pos}{e o:Expr}{es:List Expr}{kws:List Keyword}{te ta:TE}{t tk:TA}{nm:Option Str}
variable{g:List Value→List Value→List Value}{gV:List V→List V→List V}
end
structure FnScope(N P:List Str)(sc:Scope):Prop where
 kind:sc.kind=.function
 co:sc.isCoroutine=false
 gen:sc.isGenerator=false
 nd:N.Nodup
 pre:N.take P.length=P
 par:∀x∈P,sc.names.lookup x=some .local∨sc.names.lookup x=some .cell
 nofree:∀y∈sc.names,y.2≠.free
theorem IH{kindOf:Str→Option NameKind}{x:Str}:∀{binds:List (Str×Value)} {m:Str→Option Value},(∀v,(x,v)∉binds)→bindL kindOf binds m x=m x
 | [],_,_=>rfl
 | (n,v)::r,m,h=>by
  unfold bindL
  rw[IH fun w hw=>h w (List.mem_cons_of_mem _ hw)]
  split
  ·have:x≠n:=by rintro rfl;exact h v List.mem_cons_self
   simp[this]
  ·rfl
theorem II{kindOf:Str→Option NameKind}{x:Str}:∀{binds:List (Str×Value)} {m:Str→Option Value},(∀v,(x,v)∉binds)→bindC kindOf binds m x=m x
 | [],_,_=>rfl
 | (n,v)::r,m,h=>by
  unfold bindC
  rw[II fun w hw=>h w (List.mem_cons_of_mem _ hw)]
  split
  ·rfl
  ·have:x≠n:=by rintro rfl;exact h v List.mem_cons_self
   simp[this]
theorem IJ{kindOf:Str→Option NameKind}{x:Str}{v:Value}:∀{P:List Str} {vs:List Value} {i:Nat} {m:Str→Option Value},P.Nodup→P[i]?=some x→vs[i]?=some v→kindOf x=some .local→
  bindL kindOf (P.zip vs) m x=some v
 | [],_,_,_,_,h,_,_=>by simp at h
 |_::_,[],_,_,_,_,h,_=>by simp at h
 |p::P,w::vs,0,m,nd,h1,h2,hk=>by
  simp at h1 h2;subst h1;subst h2
  show bindL kindOf ((p,w)::P.zip vs) m p=_
  unfold bindL
  rw[IH fun v hv=> (List.nodup_cons.mp nd).1 (List.of_mem_zip hv).1,if_pos hk]
  simp
 |p::P,w::vs,i+1,m,nd,h1,h2,hk=>by
  show bindL kindOf ((p,w)::P.zip vs) m x=_
  unfold bindL
  exact IJ (i:=i) (List.nodup_cons.mp nd).2 (by simpa using h1) (by simpa using h2) hk
theorem IL{kindOf:Str→Option NameKind}{x:Str}{v:Value}:∀{P:List Str} {vs:List Value} {i:Nat} {m:Str→Option Value},P.Nodup→P[i]?=some x→vs[i]?=some v→kindOf x≠some .local→
  bindC kindOf (P.zip vs) m x=some v
 | [],_,_,_,_,h,_,_=>by simp at h
 |_::_,[],_,_,_,_,h,_=>by simp at h
 |p::P,w::vs,0,m,nd,h1,h2,hk=>by
  simp at h1 h2;subst h1;subst h2
  show bindC kindOf ((p,w)::P.zip vs) m p=_
  unfold bindC
  rw[II fun v hv=> (List.nodup_cons.mp nd).1 (List.of_mem_zip hv).1,if_neg hk]
  simp
 |p::P,w::vs,i+1,m,nd,h1,h2,hk=>by
  show bindC kindOf ((p,w)::P.zip vs) m x=_
  unfold bindC
  exact IL (i:=i) (List.nodup_cons.mp nd).2 (by simpa using h1) (by simpa using h2) hk
def start(N:List Str)(vs:List V):St:=vs.map some++List.replicate (N.length-vs.length) none
def Bz(CX:Pp)(P:Program)(w:World)(K:PySem.W.Frag)(mg:Str→Option Value)(base:Heap)(N:List Str)(qual:Str)(scope:Scope)(f:Addr)(cd:Value)(A:Around)(outer:List Env)(s:Shared)(H:Hp)(E:XK):Cx where
 prog:=P
 w:=w
 K:=K
 mg:=mg
 base:=base
 A:=A.deeper (envOfC qual scope s.heap.objs.size f cd)
 N:=N
 s₀:=s
 H₀:=H
 env:=envOfC qual scope s.heap.objs.size f cd
 outer:=outer
 stack:=envOfC qual scope s.heap.objs.size f cd::outer
 ex:=[]
 calm:=true
 fn:=fun _=>true
 pn:=[]
 xe:=fun e s'=>wpAny (model P w) (A.deeper (envOfC qual scope s.heap.objs.size f cd)) (leaving (envOfC qual scope s.heap.objs.size f cd) e) (fun _ s''=>CX outer H s E e s'') (fun e' s''=>CX outer H s E e' s'') s'
theorem KO{sc:Scope}{n:Nat}{x:Str}(h:sc.names.lookup x=some .cell):∃c,(cellsFrom n sc.names []).lookup x=some c:=by
 have q:=PySem.W.cellsFrom_some sc.names n [] (.inl h)
 exact Option.isSome_iff_exists.mp q
theorem IM{CX:Pp}{P:Program}{w:World}{K:PySem.W.Frag}{mg:Str→Option Value}{base:Heap}{N ps:List Str}{qual:Str}{scope:Scope}{f:Addr}{cd:Value}{A:Around}{outer:List Env}{s s1:Shared}{H:Hp}{E:XK}{us:List Value}{vs:List V}
  (S:FnScope N ps scope) (hd:A.handled=none) (e0:Env0 P w K mg base A outer s H) (hl:vs.length=ps.length) (r:Vals vs us)
  (x:InCallC s s.heap.objs.size (bindL (envOfC qual scope s.heap.objs.size f cd).kindOf (ps.zip us) fun _=>none) (cellsFrom (s.heap.objs.size+1) scope.names []) (bindC (envOfC qual scope s.heap.objs.size f cd).kindOf (ps.zip us) fun _=>none) s1):
  Inv (Bz CX P w K mg base N qual scope f cd A outer s H E) [] (start N vs) H s1:=by
 have hpl:ps.length≤N.length:=by have:=congrArg List.length S.pre;rw[List.length_take] at this;omega
 obtain⟨h1,tk,rfl,hk⟩:=x.done
 have noA:∀b:Addr,b∉(Bz CX P w K mg base N qual scope f cd A outer s H E).ex:=fun b z=>absurd (show b∈([]:List Addr) from z) (by simp)
 refine⟨⟨e0.mod,S.kind,rfl,rfl,Nat.le_refl _,fun y z c h1 h2=>?_,fun y hy=>?_,fun y c _ h=>?_,fun _=>hd,Around.frames_deeper e0.frames,.inr ⟨rfl,rfl⟩,fun b z=>absurd z (noA b),e0.bs,e0.bsz,fun b _ _=>noA b,fun b z=>absurd z (noA b),e0.funs,e0.frf⟩,
  rfl,e0.bare,Un.kept hk,⟨_,x.toInCall.ns,fun i y v h1 h2 h3=>?_⟩,fun y c h=> ⟨_,x.cell y c h⟩,e0.hok.fresh (Nat.le_refl _),fun y c h=>?_,fun p hp=>absurd (show p∈([]:List (Addr×Obj)) from hp) (by simp),e0.hok.kept hk,?_⟩
 ·exact name_of_addr x.apart (PySem.mem_of_lookup h1) (PySem.mem_of_lookup h2)
 ·have hy:scope.names.lookup y=some .cell∨scope.names.lookup y=some .free:=hy
  rcases hy with hy|hy
  ·exact KO hy
  ·exact absurd rfl (S.nofree _ (PySem.mem_of_lookup hy))
 ·exact Nat.le_of_lt (x.above y c (PySem.mem_of_lookup h))
 ·have hi:i<vs.length:=by
   unfold start at h2
   by_cases hi:i<vs.length
   ·exact hi
   ·rw[List.getElem?_append_right (by simpa using hi)] at h2
    rw[List.getElem?_replicate] at h2
    split at h2<;>cases h2
  have ha:vs[i]?=some v:=by
   unfold start at h2
   rw[List.getElem?_append_left (by simpa using hi),List.getElem?_map] at h2
   cases e:vs[i]? with
   |none=>rw[e] at h2;cases h2
   |some a=>rw[e] at h2;cases h2;rfl
  obtain⟨u,hu,rv⟩:=r.get ha
  have hp:ps[i]?=some y:=by
   rw[←S.pre,List.getElem?_take_of_lt (by omega)];exact h1
  have ndP:ps.Nodup:=by rw[←S.pre];exact S.nd.sublist (List.take_sublist _ _)
  refine⟨u,rv,?_⟩
  rcases S.par y (List.mem_of_getElem? hp) with k|k
  ·exact .inl ⟨k,IJ ndP hp hu k⟩
  ·obtain⟨c,e⟩:=KO (n:=s.heap.objs.size+1) k
   refine .inr ⟨.inl k,c,e,?_⟩
   have q:=x.cell y c e
   rw[IL ndP hp hu (by show scope.names.lookup y≠_;rw[k];decide)] at q
   exact q
 ·exact e0.hok.fresh (Nat.le_of_lt (x.above y c (PySem.mem_of_lookup h)))
 ·unfold start
  show _=N.length
  rw[List.length_append,List.length_map,List.length_replicate]
  omega
theorem Yg{CX:Pp}{P:Program}{w:World}{K:PySem.W.Frag}{mg:Str→Option Value}{base:Heap}{k:Nat}{f:Addr}{name qual:Str}{params:Arguments}{body:List Stmt}{scope:Scope}{dV kV doc pm cdv ct oc:Value}{an od:Option Addr}
  {osl:Array (Option Value)} {N ps:List Str} {sp:Sp} (lk:K.lookup f=some ⟨oc,od,.func (PySem.W.fnOf name qual params body scope dV kV doc pm an cdv ct),osl⟩) (hcd:PySem.W.codeIn K cdv qual=true) (S:FnScope N ps scope)
  (len:∀vs H Q E,sp vs H Q E→vs.length=ps.length)
  (hbody:∀(A:Around) (outer:List Env) (s:Shared) (H:Hp) (vs:List V) (Q:VK) (E:XK),Room k (A.deeper (envOfC qual scope s.heap.objs.size f cdv))→sp vs H Q E→
   ∃t,PSs (Bz CX P w K mg base N qual scope f cdv A outer s H E) body t∧t {nx:=fun _ H'=>Q .non H',rt:=Q} (start N vs) H):
  FnOk P w K mg base CX (k+1) f (PySem.W.fnOf name qual params body scope dV kV doc pm an cdv ct) ps sp:=by
 refine⟨len,fun A outer s H args us vs Q E hr e0 hb r hsp=>?_⟩
 have hl:=len _ _ _ _ hsp
 have KX:K.In s.heap:=e0.mod.kin.keeps fun b o e=> (e0.bs b o e).1
 have lim:s.heap.NoLimit:=e0.mod.nolimit.keeps fun b o e=> (e0.bs b o e).1
 have hkind:∀y∈ps.zip us,scope.names.lookup y.1=some .local∨(scope.names.lookup y.1=some .cell∧((cellsFrom (s.heap.objs.size+1) scope.names []).lookup y.1).isSome=true):=fun⟨n,v⟩ hy=>by
  rcases S.par n (List.of_mem_zip hy).1 with q|q
  ·exact .inl q
  ·exact .inr ⟨q,PySem.W.cellsFrom_some _ _ _ (.inl q)⟩
 refine codeAny_call_function hr.depth (KX _ _ lk) rfl S.co S.gen rfl (PySem.W.codeRec_of KX hcd) (hb _ _ _ _ ?_)
 refine wpAny_newFunctionEnv_cells S.kind hkind fun env he s1 x=>?_
 subst he
 refine⟨lim.keeps x.toInCall.keep,codeAny_func ?_⟩
 obtain⟨t,ht,hq⟩:=hbody A outer s H vs Q E (hr.deeper _) hsp
 have I:Inv (Bz CX P w K mg base N qual scope f cdv A outer s H E) [] (start N vs) H s1:=IM S hr.hd e0 hl r x
 refine wpAny_mono (ht [] s1 (start N vs) H _ I hq) (fun fl s' hs=>?_) fun e s' hs=>hs
 have fin:∀{σ':St} {H':Hp} {v:V} {u:Value},Inv (Bz CX P w K mg base N qual scope f cdv A outer s H E) [] σ' H' s'→RelV v u→Q v H'→CE outer P w H s Q u s':=
  fun{σ' H' v u} J rv q=> ⟨v,H',J.os,J.bare,J.base,J.hok,rv,q⟩
 cases fl with
 |ret u=>
  obtain⟨v,σ',H',J,rv,q⟩:=hs
  exact fin J rv q
 |next=>
  obtain⟨σ',H',J,q⟩:=hs
  exact fin (v:=V.non) (u:=Value.none) J rfl q
 |brk=>
  obtain⟨_,_,_,q⟩:=hs
  exact False.elim q
 |cont=>
  obtain⟨_,_,_,q⟩:=hs
  exact False.elim q
section
variable{X:Cx}{x:Str}{p pos:Pos}{e:Expr}{es:List Expr}{t:TA}{id T:String}{r:List V→Hp→VK→Prop}
def cH(r:List V→Hp→VK→Prop)(t:TA):TE:=fun σ H Q=>t σ H fun vs H1=>r vs H1 Q
theorem BC(hc:Az X (.builtin id) r)(hg:Gl X x)(hm:X.mg x=none)(hv:bootBuiltins x=some (.builtin id))(ha:PA X (e::es) t)(hn:x≠"__name__":=by decide)(hdb:(x==("__debug__" :Str))=false:=by decide)
  (he:starEach (e::es) X.env=(false,eval e X.env)::starEach es X.env:=by rfl) (hpl:(backTo pos (starEach es X.env)).any (·.1)=false:=by rfl):PE X (.Call (.Name x p) (e::es) [] pos) (cH r t):=by
 intro pins s σ H Q I h
 refine wpAny_Call_Name_kw (FS I hg hm hv ?_ hn hdb)
 exact PyProof.Rows.callWith_builtin1 (Ay (ha pos pins s σ H _ I h) fun us s1 ⟨vs,H1,I1,r1,q1⟩=>hc pins s1 σ H1 vs us Q I1 r1 q1) he hpl
theorem Dq(hc:Az X (.type T) r)(hg:Gl X x)(hm:X.mg x=none)(hv:bootBuiltins x=some (.type T))(ha:PA X (e::es) t)(hn:x≠"__name__":=by decide)(hdb:(x==("__debug__" :Str))=false:=by decide)
  (he:starEach (e::es) X.env=(false,eval e X.env)::starEach es X.env:=by rfl) (hpl:(backTo pos (starEach es X.env)).any (·.1)=false:=by rfl):PE X (.Call (.Name x p) (e::es) [] pos) (cH r t):=by
 intro pins s σ H Q I h
 refine wpAny_Call_Name_kw (FS I hg hm hv ?_ hn hdb)
 exact PyProof.Rows.callWith_type1 (Ay (ha pos pins s σ H _ I h) fun us s1 ⟨vs,H1,I1,r1,q1⟩=>hc pins s1 σ H1 vs us Q I1 r1 q1) he hpl
end
end L2
namespace HT
open PySem PyProof.Rows
section
open PySem.SeqAt
open PySem.AutoSeq1 (wpAny_loadPart')
open PySem.MeetsSeq PySem.MeetsSeq2 PySem.MeetsSeq3
end
section
variable{prog:Program}{w:World}{A:Around}{E:Value→Shared→Prop}{s:Shared}
theorem Sm{t b:Addr}{vs ws:List Value}{Q:Value→Shared→Prop}(ht:IsTup s.heap t vs.toArray)(hb:IsTup s.heap b ws.toArray)(hv:vs≠[])
  (h1:ws=[]→Q (.ref t) s) (h2:ws≠[]→Q (.ref s.heap.objs.size) {s with heap:=s.heap.push {cls:=.type "tuple",data:=.seq (vs++ws).toArray}})
  (hsz:vs.length+ws.length≤sizeLine):wpAny (model prog w) A (binaryOp .Add (.ref t) (.ref b)) Q E s:=by
 obtain⟨⟨cls,dd,data,sl⟩,ho,hc,n,hd⟩:=id ht
 obtain⟨⟨cls2,dd2,data2,sl2⟩,ho2,hc2,n2,hd2⟩:=id hb
 simp only at hc hd hc2 hd2
 subst hc hd hc2 hd2
 have e:vs.toArray++ws.toArray=(vs++ws).toArray:=by simp
 by_cases hw:ws=[]
 ·exact concat_meets ⟨_,ho,rfl⟩ ⟨_,ho2,rfl⟩ noFill_tuple_add seq_tuple_add PySem.F.slot_tuple_add PySem.F.entry_tuple_add (PySem.F.args_tuple_add_2 _ _)
   (tuple_addW1 t b vs.toArray ws.toArray n n2 dd dd2 sl sl2 (by simpa using hv) (by simp[hw])) ⟨ho,ho2,h1 hw⟩
 ·refine concat_meets ⟨_,ho,rfl⟩ ⟨_,ho2,rfl⟩ noFill_tuple_add seq_tuple_add PySem.F.slot_tuple_add PySem.F.entry_tuple_add (PySem.F.args_tuple_add_2 _ _)
   (tuple_addW2 t b vs.toArray ws.toArray n n2 dd dd2 sl sl2 (by simpa using hv) (by simpa using hw) (by rw[List.size_toArray,List.size_toArray];exact hsz)) ⟨ho,ho2,?_⟩
  rw[e]
  exact h2 hw
def Fz(n d:Nat):Option Int→Nat
 |none=>d
 |some v=>if v<0 then(v+(n:Int)).toNat else min v.toNat n
end
end HT
namespace L2
open PySem PySem.Spec PyProof.Rows
abbrev TO:=St→Hp→(Option Int→Hp→Prop)→Prop
def PO(X:Cx)(e:Option Expr)(t:TO):Prop:=
 ∀(pins:List (Addr×Obj)) (s:Shared) (σ:St) (H:Hp) (Q:Option Int→Hp→Prop),Inv X pins σ H s→t σ H Q→
  wpAny (model X.prog X.w) X.A (evalPart e X.env) (fun u s'=>∃o H',Inv X pins σ H' s'∧IsPart u o∧Q o H') X.xe s
def Sn:TO:=fun _ H Q=>Q none H
def Yh(t:TE):TO:=fun σ H Q=>t σ H fun x H1=>∃i,x=.int i∧Q (some i) H1
theorem Ll{ns:List Int}:∀{us:List Value},Vals (ns.map V.int) us→IntsAre us ns:=by
 induction ns with
 |nil=>intro us r;rw[List.map_nil] at r;cases r;exact .nil
 |cons n ns ih=>
  intro us r
  rw[List.map_cons] at r
  cases r with
  |cons r1 r2=>
   obtain⟨t,e⟩:=r1
   subst e
   exact .cons n t (ih r2)
section
variable{X:Cx}{e:Expr}{te:TE}{lo hi:Option Expr}{tl th:TO}{pos p2:Pos}
theorem NB:PO X none Sn:=by
 intro pins s σ H Q I h
 rw[evalPart_none]
 exact wpAny_pure ⟨none,H,I,.none,h⟩
theorem GI(h:PE X e te):PO X (some e) (Yh te):=by
 intro pins s σ H Q I hw
 rw[evalPart_some]
 refine Ay (h pins s σ H _ I hw) fun u s1 ⟨x,H1,I1,r1,q1⟩=>?_
 obtain⟨i,rfl,q⟩:=q1
 obtain⟨t,rfl⟩:=r1
 exact⟨some i,H1,I1,.int i t,q⟩
def cI(X:Cx)(r:V→Option Int→Option Int→Hp→VK→Prop):Prop:=
 ∀(pins:List (Addr×Obj)) (s:Shared) (σ:St) (H:Hp) (x:V) (v vl vu:Value) (lo hi:Option Int) (sl:Addr) (Q:VK),Inv X pins σ H s→RelV x v→s.heap.IsSliceOf sl vl vu .none→IsPart vl lo→IsPart vu hi→r x lo hi H Q→
  ∃T id,typeLookup (.type T) "__getitem__" =pure (some (.builtin id))∧s.TypeIs v T∧wpAny (model X.prog X.w) X.A (getItem v (.ref sl)) (EP X pins σ Q) X.xe s
def cZ(r:V→Option Int→Option Int→Hp→VK→Prop)(te:TE)(tl th:TO):TE:=fun σ H Q=>te σ H fun x H1=>tl σ H1 fun l H2=>th σ H2 fun u H3=>r x l u H3 Q
theorem Gc{r:V→Option Int→Option Int→Hp→VK→Prop}(hr:cI X r)(he:PE X e te)(hl:PO X lo tl)(hu:PO X hi th):PE X (.Subscript e (.Slice lo hi none p2) pos) (cZ r te tl th):=by
 intro pins s σ H Q I h
 refine Subscript_ (Ay (he pins s σ H _ I h) fun v s1 ⟨x,H1,I1,r1,q1⟩=>?_)
 refine wpAny_Slice (Ay (hl pins s1 σ H1 _ I1 q1) fun vl s2 ⟨l,H2,I2,pl,q2⟩=>Ay (hu pins s2 σ H2 _ I2 q2) fun vu s3 ⟨u,H3,I3,pu,q3⟩=>?_)
 rw[evalPart_none]
 refine wpAny_pure ?_
 have I4:Inv X pins σ H3 {s3 with heap:=s3.heap.push {cls:=.type "slice",data:=.fields #[vl,vu,.none]}}:=I3.kept (t':=s3.toks) fun b ob q=>Heap.get?_push_of_some _ q
 obtain⟨T,id,hT,ht,hg⟩:=hr pins {s3 with heap:=s3.heap.push {cls:=.type "slice",data:=.fields #[vl,vu,.none]}} σ H3 x v vl vu l u s3.heap.objs.size Q I4 r1 (Heap.IsSliceOf.new ..) pl pu q3
 show wpAny (model X.prog X.w) X.A (subscriptTail e (.Slice lo hi none p2) v (.ref s3.heap.objs.size)) (EP X pins σ Q) X.xe {s3 with heap:=s3.heap.push {cls:=.type "slice",data:=.fields #[vl,vu,.none]}}
 exact tail_any (ops:=[.ref s3.heap.objs.size,v]) ht hT hg (by with_unfolding_all rfl)
def KP(xs:List V)(lo hi:Option Int):List V:=(xs.drop (HT.Fz xs.length 0 lo)).take (HT.Fz xs.length xs.length hi-HT.Fz xs.length 0 lo)
theorem KQ(xs:List V)(lo hi:Option Int):(KP xs lo hi).length≤xs.length:=by
 unfold KP
 rw[List.length_take,List.length_drop]
 omega
def Yi(K:PySem.W.Frag):R2:=fun x y H Q=>∃a b xs ys,x=.ref a∧y=.ref b∧Hs K H a xs∧Hs K H b ys∧xs≠[]∧xs.length+ys.length≤sizeLine∧
 (ys=[]→Q (.ref a) H)∧(ys≠[]→∀p,H p=none→Q (.ref p) (upd H p (.tup (xs++ys))))
theorem Vals.nil_iff{xs:List V}{us:List Value}(r:Vals xs us):us=[]↔xs=[]:=by
 cases r with
 |nil=>simp
 |cons _ _=>simp
theorem So:DC X (binaryOp .Add) (Yi X.K):=by
 intro pins s σ H x y v u Q I rx ry h
 obtain⟨a,b,xs,ys,rfl,rfl,ha,hb,hx,hz,q1,q2⟩:=h
 cases rx
 cases ry
 obtain⟨its,r1,p1,_⟩:=I.tuple ha
 obtain⟨its2,r2,p2,_⟩:=I.tuple hb
 refine HT.Sm p1 p2 (fun z=>hx (r1.nil_iff.mp z)) (fun z=> ⟨.ref a,H,I,rfl,q1 (r2.nil_iff.mp z)⟩) (fun z=>?_) (by rw[←r1.length,←r2.length];exact hz)
 refine⟨.ref s.heap.objs.size,_,I.laid (t':=s.toks) (o:=.tup (xs++ys)) (fun b ob q=>Heap.get?_push_of_some _ q) (Nat.le_refl _) ?_,rfl,q2 (fun w=>z (r2.nil_iff.mpr w)) _ (I.hok.fresh (Nat.le_refl _))⟩
 exact⟨by rw[List.length_append];exact hz,_,r1.append r2,IsTup.new _ _⟩
end
def OZ(n:Nat)(i:Int):Option Nat:=if 0≤i then(if i<n then some i.toNat else none) else if-(n:Int)≤i then some (i+n).toNat else none
def atI{α:Type}(xs:List α)(i:Int):Option α:=(OZ xs.length i).bind fun j=>xs[j]?
theorem NC{n:Nat}{i:Int}{j:Nat}(h:OZ n i=some j):seqIndex? i n=some j∧j<n∧-(n:Int)≤i∧i<n:=by
 unfold OZ at h
 by_cases h0:0≤i
 ·rw[if_pos h0] at h
  by_cases h1:i<n
  ·rw[if_pos h1] at h
   have e:i.toNat=j:=Option.some.inj h
   exact⟨by rw[seqIndex_of h0 h1,e],by omega,by omega,h1⟩
  ·rw[if_neg h1] at h;cases h
 ·rw[if_neg h0] at h
  by_cases h1: -(n:Int)≤i
  ·rw[if_pos h1] at h
   have e:(i+n).toNat=j:=Option.some.inj h
   exact⟨by rw[seqIndex_neg (by omega) h1,e],by omega,h1,by omega⟩
  ·rw[if_neg h1] at h;cases h
theorem ND{α:Type}{xs:List α}{i:Int}{v:α}(h:atI xs i=some v):∃j,seqIndex? i xs.length=some j∧xs[j]?=some v∧j<xs.length∧-(xs.length:Int)≤i∧i<xs.length:=by
 unfold atI at h
 cases e:OZ xs.length i with
 |none=>rw[e] at h;cases h
 |some j=>
  rw[e] at h
  obtain⟨h1,h2,h3,h4⟩:=NC e
  exact⟨j,h1,h,h2,h3,h4⟩
theorem An{α:Type}{xs:List α}{j:Nat}{v:α}(h:xs[j]?=some v):atI xs (j:Int)=some v:=by
 have hj:j<xs.length:=(List.getElem?_eq_some_iff.mp h).1
 have e:OZ xs.length (j:Int)=some j:=by
  unfold OZ
  rw[if_pos (by omega),if_pos (by omega)];simp
 unfold atI;rw[e];exact h
theorem Pq{α:Type}(xs:List α)(v:α):atI (xs++[v]) (-1)=some v:=by
 have hl:(xs++[v]).length=xs.length+1:=by simp
 have e:OZ (xs++[v]).length (-1)=some xs.length:=by
  unfold OZ
  rw[hl,if_neg (by decide),if_pos (by omega)]
  congr 1
  omega
 unfold atI
 rw[e]
 show(xs++[v])[xs.length]?=some v
 simp
def Dr(b:Expr):Prop:=∀o i,subscripted b false o i=operate [o,i] (getItem o i)
def Yj(X:Cx)(r:R2):Prop:=
 ∀(value slice:Expr) (pins:List (Addr×Obj)) (s:Shared) (σ:St) (H:Hp) (x y:V) (v u:Value) (Q:VK),Inv X pins σ H s→RelV x v→RelV y u→r x y H Q→
  subscripted slice false v u=operate [v,u] (getItem v u)→wpAny (model X.prog X.w) X.A (subscriptTail value slice v u) (EP X pins σ Q) X.xe s
def cJ(X:Cx)(id:String)(r:V→List V→Hp→VK→Prop):Prop:=
 ∀(pins:List (Addr×Obj)) (s:Shared) (σ:St) (H:Hp) (x:V) (xs:List V) (v:Value) (us:List Value) (Q:VK),Inv X pins σ H s→RelV x v→Vals xs us→r x xs H Q→
  wpAny (model X.prog X.w) X.A (call (.builtin id) (v::us)) (EP X pins σ Q) X.xe s
section
variable{X:Cx}{a b:Expr}{ta tb:TE}{pos:Pos}
theorem Pt{r:R2}(hr:Yj X r)(ha:PE X a ta)(hb:PE X b tb)(hs:Dr b):PE X (.Subscript a b pos) (YU r ta tb):=by
 intro pins s σ H Q I h
 exact Subscript_ (Vq ha hb I h fun v u s2 x y H2 I2 rx ry q=>hr a b pins s2 σ H2 x y v u Q I2 rx ry q (hs _ _))
def Vx(K:PySem.W.Frag):R2:=fun x y H Q=>∃p xs i v,x=.ref p∧y=.int i∧SqL K H p xs∧atI xs i=some v∧Q v H
def Yk(K:PySem.W.Frag):R2:=fun x y H Q=>∃p xs i v,x=.ref p∧y=.int i∧Hs K H p xs∧atI xs i=some v∧Q v H
theorem Ee:Yj X (Vx X.K):=by
 intro value slice pins s σ H x y v u Q I rx ry h hs
 obtain⟨p,xs,i,z,rfl,rfl,hq,he,q⟩:=h
 cases rx
 obtain⟨t,rfl⟩:=ry
 obtain⟨its,r,pl,hz⟩:=I.list hq
 obtain⟨j,h1,h2,h3,h4,h5⟩:=ND he
 obtain⟨w,ew,rw'⟩:=r.get h2
 have hl:=r.length
 have hn:=FU
 have fin:EP X pins σ Q w s:=⟨z,H,I,rw',q⟩
 by_cases h0:0≤i
 ·have hj:i.toNat=j:=by
   rw[seqIndex_of h0 h5] at h1
   exact Option.some.inj h1
  exact item_listR pl.isList h0 (by omega) (by rw[hj];simpa using ew) fin hs
 ·have hj:(i+(its.toArray.size:Int)).toNat=j:=by
   rw[seqIndex_neg (by omega) h4] at h1
   rw[List.size_toArray,←hl]
   exact Option.some.inj h1
  exact subscriptTail_builtinR (x:=w) pl.isList.typeIs slot_list_getitem.lookup
   (wpAny_getItem_list_neg (Q:=fun r s'=>r=w∧EP X pins σ Q r s') pl.isList (by omega) (by rw[List.size_toArray]<;>omega) (by omega) (by rw[hj];simpa using ew) ⟨rfl,fin⟩) hs
theorem Vy:Yj X (Yk X.K):=by
 intro value slice pins s σ H x y v u Q I rx ry h hs
 obtain⟨p,xs,i,z,rfl,rfl,hq,he,q⟩:=h
 cases rx
 obtain⟨t,rfl⟩:=ry
 obtain⟨its,r,pl,hz⟩:=I.tuple hq
 obtain⟨j,h1,h2,h3,h4,h5⟩:=ND he
 obtain⟨w,ew,rw'⟩:=r.get h2
 have hl:=r.length
 have hn:=FU
 have fin:EP X pins σ Q w s:=⟨z,H,I,rw',q⟩
 exact subscriptTail_builtinR (x:=w) pl.typeIs slot_tuple_getitem.lookup
  (getItem_tuple (j:=j) (Q:=fun r s'=>r=w∧EP X pins σ Q r s') pl (by omega) (by omega) (by rw[List.size_toArray,←hl];exact h1) (by simpa using ew) ⟨rfl,fin⟩) hs
theorem Lm(its:List Value)(n j:Nat)(u:Value):Obj.mapSeq (·.setIfInBounds j u) {cls:=.type "list",data:=.seq its.toArray n}={cls:=.type "list",data:=.seq (its.set j u).toArray n}:=by
 simp[Obj.mapSeq]
theorem Inv.lst{pins:List (Addr×Obj)}{σ:St}{H:Hp}{s:Shared}{p:Addr}{xs:List V}(I:Inv X pins σ H s)(h:H p=some (.lst xs)):
  ∃(its:List Value) (n:Nat),Vals xs its∧s.heap.get? p=some {cls:=.type "list",data:=.seq its.toArray n}∧xs.length≤sizeLine:=by
 obtain⟨z,its,n,r,e⟩:=I.hok p _ h
 exact⟨its,n,r,e,z⟩
theorem Inv.lstUpd{pins:List (Addr×Obj)}{σ:St}{H:Hp}{s:Shared}{p:Addr}{xs ys:List V}{its its':List Value}{n n':Nat}{f:Obj→Obj}(I:Inv X pins σ H s)(h:H p=some (.lst xs))
  (ho:s.heap.get? p=some {cls:=.type "list",data:=.seq its.toArray n}) (hf:f {cls:=.type "list",data:=.seq its.toArray n}={cls:=.type "list",data:=.seq its'.toArray n'}) (r:Vals ys its') (hz:ys.length≤sizeLine) (t:Nat):
  Inv X pins σ (upd H p (.lst ys)) {s with heap:=s.heap.update p f,toks:=t}:=by
 have e:(s.heap.update p f).get? p=some {cls:=.type "list",data:=.seq its'.toArray n'}:=by
  rw[Heap.get?_update_self f ho (by rw[hf]<;>rfl),hf]
 refine I.write (x:=p) (e:=p) (by rw[h];trivial) (.inl rfl) (fun b u hb q=> (Heap.get?_update_other _ _ (Ne.symm hb)).trans q) ⟨_,e⟩ ?_
 exact⟨hz,its',n',r,e⟩
def Yl:V→V→V→Hp→(Hp→Prop)→Prop:=fun o i v H Q=>∃p xs k j,o=.ref p∧i=.int k∧H p=some (.lst xs)∧OZ xs.length k=some j∧Q (upd H p (.lst (xs.set j v)))
theorem Pu:YL X Yl:=by
 intro pins s σ H o i v ov iv u Q I ro ri rv h
 obtain⟨p,xs,k,j,rfl,rfl,hp,hj,q⟩:=h
 cases ro
 obtain⟨t,rfl⟩:=ri
 obtain⟨its,n,r,ho,hz⟩:=I.lst hp
 obtain⟨h1,h2,h3,h4⟩:=NC hj
 have hl:=r.length
 have hn:=FU
 have I':Inv X pins σ (upd H p (.lst (xs.set j v))) {s with heap:=s.heap.update p (Obj.mapSeq (·.setIfInBounds j u))}:=
  I.lstUpd hp ho (Lm its n j u) (r.set rv j) (by rw[List.length_set];exact hz) s.toks
 by_cases h0:0≤k
 ·have hk:k.toNat=j:=by
   rw[seqIndex_of h0 h4] at h1
   exact Option.some.inj h1
  exact PySem.W.ki_setAt ho h0 (by omega) (by rw[List.size_toArray,←hl];exact h4) (by rw[hk];exact⟨_,I',q⟩)
 ·have hk:(k+(its.toArray.size:Int)).toNat=j:=by
   rw[seqIndex_neg (by omega) h3] at h1
   rw[List.size_toArray,←hl]
   exact Option.some.inj h1
  exact PySem.W.ki_setBack ho (by omega) (by rw[List.size_toArray,←hl];exact h3) (by omega) (by rw[hk];exact⟨_,I',q⟩)
theorem JK(lo hi:Option Int)(n:Nat):(sliceBounds lo hi none n).1=((HT.Fz n 0 lo:Nat):Int)∧(sliceBounds lo hi none n).2.1=((HT.Fz n n hi:Nat):Int)∧(sliceBounds lo hi none n).2.2=1:=by
 refine⟨?_,?_,rfl⟩
 ·cases lo with
  |none=>simp[sliceBounds,HT.Fz]
  |some i=>
   simp only[sliceBounds,HT.Fz,Option.getD_none,show(1:Int)>0 by decide,if_true]
   by_cases h:i<0
   ·simp only[h,if_true]<;>omega
   ·simp only[h,if_false]<;>omega
 ·cases hi with
  |none=>simp[sliceBounds,HT.Fz]
  |some i=>
   simp only[sliceBounds,HT.Fz,Option.getD_none,show(1:Int)>0 by decide,if_true]
   by_cases h:i<0
   ·simp only[h,if_true]<;>omega
   ·simp only[h,if_false]<;>omega
theorem Hw(its:List Value)(lo hi:Option Int):slicePick its.toArray lo hi none=((its.drop (HT.Fz its.length 0 lo)).take (HT.Fz its.length its.length hi-HT.Fz its.length 0 lo)).toArray:=by
 obtain⟨h1,h2,h3⟩:=JK lo hi its.toArray.size
 unfold slicePick
 rw[h1,h2,h3]
 simp only[sliceRange_one,pick_run,List.size_toArray]<;>rfl
def bK(K:PySem.W.Frag):V→Option Int→Option Int→Hp→VK→Prop:=fun x lo hi H Q=>∃a xs,x=.ref a∧SqL K H a xs∧∀p,H p=none→Q (.ref p) (upd H p (.lst (KP xs lo hi)))
theorem JL:cI X (bK X.K):=by
 intro pins s σ H x v vl vu lo hi sl Q I rx hs pl pu h
 obtain⟨a,xs,rfl,hx,q⟩:=h
 cases rx
 obtain⟨its,r,ht,hz⟩:=I.list hx
 have hlen:=r.length
 refine⟨"list",_,slot_list_getitem.lookup,ht.isList.typeIs,?_⟩
 refine wpAny_getItem_list_slice ht.isList hs pl pu .none (by simp) ?_ (by rw[List.size_toArray]<;>omega)
 rw[Hw,←hlen]
 refine⟨.ref s.heap.objs.size,_,I.laid (t':=s.toks) (o:=.lst (KP xs lo hi)) (fun b ob q=>Heap.get?_push_of_some _ q) (Nat.le_refl _) ?_,rfl,q _ (I.hok.fresh (Nat.le_refl _))⟩
 exact⟨Nat.le_trans (KQ xs lo hi) hz,_,0,(r.drop (HT.Fz xs.length 0 lo)).take (HT.Fz xs.length xs.length hi-HT.Fz xs.length 0 lo),Heap.get?_push_size _ rfl⟩
def ED:V→Bool
 | .non=>true
 | .bl _=>true
 | .int _=>true
 | .str _=>true
 |_=>false
def Le:V→V→Bool
 | .non,.non=>true
 | .bl a,.bl b=>a==b
 | .bl a,.int b=> (if a then 1 else 0)==b
 | .int a,.bl b=>a==(if b then 1 else 0)
 | .int a,.int b=>a==b
 | .str a,.str b=>a==b
 |_,_=>false
theorem Vz{A:Around}{s:Shared}{y x:V}{u v:Value}(ry:RelV y u)(rx:RelV x v)(fy:ED y=true)(fx:ED x=true):SeqAt.EqAt A s u v (Le y x):=by
 cases y with
 |non=>
  cases ry
  cases x with
  |non=>cases rx;exact SeqAt.EqAt.same _
  |bl b=>cases rx;exact SeqAt.EqAt.none_bool b
  |int b=>obtain⟨t,rfl⟩:=rx;exact SeqAt.EqAt.none_int b t
  |str b=>obtain⟨t,rfl⟩:=rx;exact SeqAt.EqAt.none_str b t
  |_=>exact absurd (show false=true from fx) Bool.false_ne_true
 |bl a=>
  cases ry
  cases x with
  |non=>cases rx;exact SeqAt.EqAt.bool_none a
  |bl b=>cases rx;exact SeqAt.EqAt.bool_bool a b
  |int b=>obtain⟨t,rfl⟩:=rx;exact SeqAt.EqAt.bool_int a b t
  |str b=>obtain⟨t,rfl⟩:=rx;exact SeqAt.EqAt.bool_str a b t
  |_=>exact absurd (show false=true from fx) Bool.false_ne_true
 |int a=>
  obtain⟨t',rfl⟩:=ry
  cases x with
  |non=>cases rx;exact SeqAt.EqAt.int_none a t'
  |bl b=>cases rx;exact SeqAt.EqAt.int_bool a t' b
  |int b=>obtain⟨t,rfl⟩:=rx;exact SeqAt.EqAt.int_int a t' b t
  |str b=>obtain⟨t,rfl⟩:=rx;exact SeqAt.EqAt.int_str a t' b t
  |_=>exact absurd (show false=true from fx) Bool.false_ne_true
 |str a=>
  obtain⟨t',rfl⟩:=ry
  cases x with
  |non=>cases rx;exact SeqAt.EqAt.str_none a t'
  |bl b=>cases rx;exact SeqAt.EqAt.str_bool a t' b
  |int b=>obtain⟨t,rfl⟩:=rx;exact SeqAt.EqAt.str_int a t' b t
  |str b=>obtain⟨t,rfl⟩:=rx;exact SeqAt.EqAt.str_str a t' b t
  |_=>exact absurd (show false=true from fx) Bool.false_ne_true
 |_=>exact absurd (show false=true from fy) Bool.false_ne_true
def YB(x:V)(u:Value):Bool:=match u with
 | .none=>Le .non x
 | .bool b=>Le (.bl b) x
 | .int i _=>Le (.int i) x
 | .str z _=>Le (.str z) x
 |_=>false
theorem Ln{x y:V}{u:Value}(r:RelV y u)(f:ED y=true):YB x u=Le y x:=by
 cases y with
 |non=>cases r;rfl
 |bl b=>cases r;rfl
 |int i=>obtain⟨t,rfl⟩:=r;rfl
 |str z=>obtain⟨t,rfl⟩:=r;rfl
 |_=>exact absurd (show false=true from f) Bool.false_ne_true
theorem Gd{A:Around}{s:Shared}{x:V}{v:Value}(rx:RelV x v)(fx:ED x=true):∀{xs:List V} {us:List Value},Vals xs us→xs.all ED=true→∀u∈us,SeqAt.EqAt A s u v (YB x u)
 |_,_,.nil,_=>fun u hu=>by cases hu
 |y::xs,u::us,.cons r t,f=>fun u' hu=>by
  rw[List.all_cons,Bool.and_eq_true] at f
  rcases List.mem_cons.mp hu with rfl|hu
  ·rw[Ln r f.1];exact Vz r rx f.1 fx
  ·exact Gd rx fx t f.2 u' hu
theorem DE:Az X (.builtin "len") (fun xs H Q=>∃p ys,xs=[.ref p]∧(SqL X.K H p ys∨Hs X.K H p ys)∧Q (.int ys.length) H):=by
 intro pins s σ H xs us Q I r h
 obtain⟨p,ys,rfl,hq,q⟩:=h
 obtain⟨u,rfl,rx⟩:=Dd r
 cases rx
 have hn:=FU
 rcases hq with hq|hq
 ·obtain⟨its,r',pl,hz⟩:=I.list hq
  have hlen:=r'.length
  exact Calls.call_len_list pl.isList (by simp only[List.size_toArray]<;>omega) ⟨.int ys.length,H,I.tok _,⟨s.toks+1,by rw[List.size_toArray,hlen]⟩,q⟩
 ·obtain⟨its,r',pl,hz⟩:=I.tuple hq
  have hlen:=r'.length
  exact len_tuple pl (by simp only[List.size_toArray]<;>omega) ⟨.int ys.length,H,I.tok _,⟨s.toks+1,by rw[List.size_toArray,hlen]⟩,q⟩
def bL(K:PySem.W.Frag)(T:String)(x:V)(H:Hp):Prop:=match x with
 | .str _=>T= "str"
 | .int _=>T= "int"
 | .ref p=> (T= "list"∧∃xs,SqL K H p xs)∨(T= "tuple"∧∃o,K.lookup p=some o∧o.cls=.type "tuple"∧o.dict=none)∨
   (T= "dict"∧((∃kvs,H p=some (.dK kvs))∨∃kvs,H p=some (.dT kvs)))∨(T= "set"∧∃S n,H p=some (.set S n))
 |_=>False
theorem WB{pins:List (Addr×Obj)}{σ:St}{H:Hp}{s:Shared}{T:String}{x:V}{v:Value}(I:Inv X pins σ H s)(r:RelV x v)(ty:bL X.K T x H):
  s.TypeIs v T∧∀a,v=.ref a→∃ob,s.heap.get? a=some ob∧ob.dict=none:=by
 cases x with
 |str z=>
  obtain⟨t,rfl⟩:=r
  cases(show T= "str" from ty)
  exact⟨typeIs_str s z t,fun _ e=>nomatch e⟩
 |int i=>
  obtain⟨t,rfl⟩:=r
  cases(show T= "int" from ty)
  exact⟨typeIs_int s i t,fun _ e=>nomatch e⟩
 |ref p=>
  cases r
  rcases ty with⟨rfl,xs,hq⟩| ⟨rfl,o,hk,hc,hd⟩| ⟨rfl,hk⟩| ⟨rfl,S,n,hk⟩
  ·obtain⟨its,_,pl,_⟩:=I.list hq
   refine⟨pl.isList.typeIs,fun a e=>?_⟩
   cases e
   obtain⟨o,n,e,c,hd,_⟩:=pl
   exact⟨o,e,hd⟩
  ·refine⟨⟨o,I.kIn p o hk,hc⟩,fun a e=>?_⟩
   cases e
   exact⟨o,I.kIn _ o hk,hd⟩
  ·have z:∃o,s.heap.get? p=some o∧o.ExactDict:=by
    rcases hk with⟨kvs,hk⟩| ⟨kvs,hk⟩
    ·obtain⟨_,_,_,_,o,_,_,e,ex,_⟩:=I.hok p _ hk
     exact⟨o,e,ex⟩
    ·obtain⟨_,_,_,_,o,_,_,e,ex,_⟩:=I.hok p _ hk
     exact⟨o,e,ex⟩
   obtain⟨o,e,ex⟩:=z
   refine⟨⟨o,e,ex.1⟩,fun a e2=>?_⟩
   cases e2
   exact⟨o,e,ex.2.1⟩
  ·obtain⟨o,_,_,_,e,ex,_⟩:=I.hok p _ hk
   refine⟨⟨o,e,ex.1⟩,fun a e2=>?_⟩
   cases e2
   exact⟨o,e,ex.2.1⟩
 |_=>exact False.elim ty
def cb(K:PySem.W.Frag)(T:String)(r:V→List V→Hp→VK→Prop)(to:TE)(t:TA):TE:=fun σ H Q=>to σ H fun x H1=>bL K T x H1∧t σ H1 fun xs H2=>r x xs H2 Q
variable{o e:Expr}{es:List Expr}{to:TE}{t:TA}{name:Str}{apos cpos:Pos}{T id:String}{r:V→List V→Hp→VK→Prop}
theorem Pv(pa:PlainAttrs T)(slot:Slot T name id)(hty:typeOf (.builtin id)=pure (.type "method_descriptor"))(hm:cJ X id r)(ho:PE X o to)(ha:PA X (e::es) t)
  (hbase:attributeBase o name X.env (eval o X.env)=eval o X.env:=by rfl)
  (hfew:((backTo cpos (starEach (e::es) X.env)).all (fun x=>!x.1)&&(backToKw cpos (keywordEach [] X.env)).all (fun x=>x.1.isSome)
   &&decide ((e::es).length+([]:List Keyword).length+(if([]:List Keyword).isEmpty then 0 else 1)<30))=true:=by rfl)
  (hline:(apos.endLine==cpos.line)=true:=by rfl) (hs:starEach (e::es) X.env=(false,eval e X.env)::starEach es X.env:=by rfl) (hplain:(backTo cpos (starEach es X.env)).any (·.1)=false:=by rfl):
  PE X (.Call (.Attribute o name apos) (e::es) [] cpos) (cb X.K T r to t):=by
 intro pins s σ H Q I h
 refine wpAny_Call_method_late hbase hfew hline rfl (Ay (ho pins s σ H _ I h) fun v s1 ⟨x,H1,I1,r1,ty,q1⟩=>?_)
 obtain⟨h1,h2⟩:=WB I1 r1 ty
 refine⟨T,id,pa,slot,hty,h1,h2,?_⟩
 have hA:=ha cpos pins s1 σ H1 _ I1 q1
 rw[hs] at hA ⊢
 refine Calls.callWith_builtin (by show(false|| (backTo cpos (starEach es X.env)).any (·.1))=false;rw[hplain]<;>rfl) (Calls.evalArgs_plain ?_)
 exact Ay hA fun us s2 ⟨vs,H2,I2,r2,q2⟩=>hm pins s2 σ H2 x vs v us Q I2 r1 r2 q2
end
def aX(X:Cx)(id:String)(r:V→List V→Hp→VK→Prop):Prop:=
 ∀(pins:List (Addr×Obj)) (s:Shared) (σ:St) (H:Hp) (x:V) (xs:List V) (v:Value) (us:List Value) (Q:VK),Inv X pins σ H s→RelV x v→Vals xs us→r x xs H Q→
  wpAny (model X.prog X.w) X.A (call (.builtin id) (v::us)) (EP X pins σ Q) X.xe s
theorem Vals.one:∀{x:V} {us:List Value},Vals [x] us→∃u,us=[u]∧RelV x u
 |_,_,.cons r .nil=> ⟨_,rfl,r⟩
theorem Vals.eraseIdx:∀{xs:List V} {us:List Value} (i:Nat),Vals xs us→Vals (xs.eraseIdx i) (us.eraseIdx i)
 |_,_,_,.nil=> .nil
 |_,_,0,.cons _ t=>t
 |_,_,i+1,.cons r t=> .cons r (Vals.eraseIdx i t)
theorem IP{α:Type}:∀(l:List α) (i:Nat),(l.eraseIdx i).length≤l.length
 | [],_=>Nat.le_refl _
 |_::_,0=>Nat.le_succ _
 |_::r,i+1=>Nat.succ_le_succ (IP r i)
section
variable{X:Cx}{pins:List (Addr×Obj)}{σ:St}{H:Hp}{s:Shared}{l b:Addr}{xs ys zs:List V}
theorem Inv.lset{its its':List Value}{n:Nat}{f:Array Value→Array Value}{t':Nat}(I:Inv X pins σ H s)(hH:H l=some (.lst xs))
  (e:s.heap.get? l=some {cls:=.type "list",data:=.seq its.toArray n}) (hf:f its.toArray=its'.toArray) (hv:Vals ys its') (hz:ys.length≤sizeLine):
  Inv X pins σ (upd H l (.lst ys)) {s with heap:=s.heap.update l (Obj.mapSeq f),toks:=t'}:=by
 have q:=PySem.IsL.update e f
 rw[hf] at q
 refine I.write (x:=l) (e:=l) (by rw[hH];exact trivial) (.inl rfl) (fun b' u hb hu=> (Heap.get?_update_other s.heap (Obj.mapSeq f) (Ne.symm hb)).trans hu) ⟨_,q⟩ ?_
 exact⟨hz,its',_,hv,q⟩
theorem Inv.lnew{its:List Value}{t':Nat}(I:Inv X pins σ H s)(hv:Vals ys its)(hz:ys.length≤sizeLine):
  Inv X pins σ (upd H s.heap.objs.size (.lst ys)) {s with heap:=s.heap.push {cls:=.type "list",data:=.seq its.toArray},toks:=t'}:=
 I.laid (fun _ _ q=>Heap.get?_push_of_some _ q) (Nat.le_refl _) ⟨hz,its,0,hv,Heap.get?_push_size _ rfl⟩
theorem Inv.fresh(I:Inv X pins σ H s):H s.heap.objs.size=none:=I.hok.fresh (Nat.le_refl _)
theorem Inv.lstM(I:Inv X pins σ H s)(hH:H l=some (.lst xs)):xs.length≤sizeLine∧∃(its:List Value) (n:Nat),Vals xs its∧xs.length=its.length∧s.heap.get? l=some {cls:=.type "list",data:=.seq its.toArray n}:=by
 obtain⟨z,its,n,r,e⟩:=I.hok l _ hH
 exact⟨z,its,n,r,r.length,e⟩
end
section
variable{X:Cx}
def NF:V→List V→Hp→VK→Prop:=fun x vs H Q=>∃l xs y,x=.ref l∧vs=[y]∧H l=some (.lst xs)∧xs.length<sizeLine∧Q .non (upd H l (.lst (xs++[y])))
theorem IQ:aX X "list.append" NF:=by
 intro pins s σ H x vs v us Q I rx rv h
 obtain⟨l,xs,y,rfl,rfl,hH,hz,q⟩:=h
 cases rx
 obtain⟨u,rfl,ru⟩:=rv.one
 obtain⟨z,its,n,r,hl,e⟩:=I.lstM hH
 refine call_meets F.slot_list_append ⟨_,e,rfl⟩ F.entry_list_append (F.args_list_append_2 _ _) (PySem.list_append l its.toArray n u (by rw[List.size_toArray];omega)) ⟨e,?_⟩
 refine⟨.non,_,I.lset (its':=its++[u]) hH e (by simp) (r.append (.cons ru .nil)) ?_,rfl,q⟩
 rw[List.length_append,List.length_singleton]
 omega
def WC:V→List V→Hp→VK→Prop:=fun x vs H Q=>∃l xs i k y,x=.ref l∧vs=[.int i]∧H l=some (.lst xs)∧-(2^63)≤i∧i<2^63∧seqIndex? i xs.length=some k∧xs[k]?=some y∧Q y (upd H l (.lst (xs.eraseIdx k)))
theorem Pw:aX X "list.pop" WC:=by
 intro pins s σ H x vs v us Q I rx rv h
 obtain⟨l,xs,i,k,y,rfl,rfl,hH,h1,h2,hk,hy,q⟩:=h
 cases rx
 obtain⟨u,rfl,ru⟩:=rv.one
 obtain⟨t,rfl⟩:=ru
 obtain⟨z,its,n,r,hl,e⟩:=I.lstM hH
 obtain⟨w,hw,rw'⟩:=r.get hy
 refine call_meets F.slot_list_pop ⟨_,e,rfl⟩ F.entry_list_pop (F.args_list_pop_2 _ _)
  (MeetsSeq.list_pop_at l its.toArray n i t k w (fitsIndex_both h1 h2) (by rw[List.size_toArray,←hl];exact hk) (by rw[←Array.getElem?_toList];exact hw) (by rw[List.size_toArray];omega)) ⟨e,?_⟩
 refine⟨y,_,I.lset (its':=its.eraseIdx k) hH e ?_ (r.eraseIdx k) ?_,rw',q⟩
 ·show its.toArray.eraseIdxIfInBounds k=(its.eraseIdx k).toArray
  rw[List.eraseIdxIfInBounds_toArray]
 ·have:=IP xs k
  omega
def Ym:R2:=fun x y H Q=>∃l b xs zs,x=.ref l∧y=.ref b∧H l=some (.lst xs)∧H b=some (.lst zs)∧xs.length+zs.length≤sizeLine∧∀p,H p=none→Q (.ref p) (upd H p (.lst (xs++zs)))
theorem Lo:DC X (binaryOp .Add) Ym:=by
 intro pins s σ H x y v u Q I rx ry h
 obtain⟨l,b,xs,zs,rfl,rfl,hH,hB,hz,q⟩:=h
 cases rx
 cases ry
 obtain⟨z,its,n,r,hl,e⟩:=I.lstM hH
 obtain⟨z2,its2,n2,r2,hl2,e2⟩:=I.lstM hB
 refine PySem.P.add_list e e2 ?_ (by rw[List.size_toArray,List.size_toArray];omega)
 have ea:its.toArray++its2.toArray=(its++its2).toArray:=by simp
 rw[ea]
 exact⟨.ref _,_,I.lnew (t':=s.toks) (r.append r2) (by rw[List.length_append];omega),rfl,q _ I.fresh⟩
end
section
variable{prog:Program}{w:World}{A:Around}{E:Value→Shared→Prop}{s:Shared}
end
section
variable{X:Cx}
end
end L2
namespace Att
open PySem PySem.W PySem.Calls PyProof.Rows
theorem GA{P:Params}{h:Heap}:∀(ns:List Int) (vs:List Value),WellAll P h vs (ns.map WData.int)→IntsAre vs ns:=by
 intro ns
 induction ns with
 |nil=>
  intro vs w
  rw[List.map_nil] at w
  cases w
  exact .nil
 |cons n ns ih=>
  intro vs w
  rw[List.map_cons] at w
  cases w with
  |cons a b=>
   cases a
   exact .cons _ _ (ih _ b)
theorem Oa{l:OpenLaw}{n:Nat}(hn:l.most=some n){P:Params}{h:Heap}{args:List WData}{vals:List Value}
  (hpre:l.row.toRowW.claim.pre args=true) (hwl:WellAll P h vals args):
  ∃a vs ns,vals=[Value.ref a]∧args=[WData.list (ns.map WData.int)]∧h.get? a=some {cls:=.type "list",data:=.seq vs.toArray}∧IntsAre vs ns∧ns.length≤n:=by
 have hsh:WShape.hasAll [] args [.list .int]=true:=(pre_splitW hpre).1
 have hc:l.pre.holds [] {args:=args}=true:=(pre_splitW hpre).2
 obtain⟨d,r,rfl,h1,h2⟩:=hasAllW_cons hsh
 obtain rfl:=hasAllW_nil h2
 obtain⟨xs,rfl,h3⟩:=hasW_list h1
 obtain⟨ns,rfl⟩:=items_int h3
 have hlen:ns.length≤n:=by
  unfold OpenLaw.pre at hc
  have h4:(WTm.not (.lt (.lit (.int (n:Int))) (.len (.arg 0)))).holds [] {args:=[.list (ns.map .int)]}=true:=by
   have h4:=(holds_andW hc).1
   rw[hn] at h4
   exact h4
  have h5:=condW_of h4 (w_not (w_lt w_lit (w_len_list (w_arg rfl))))
  rw[List.length_map] at h5
  refine Nat.le_of_not_lt fun q=>?_
  have q':(n:Int)< ((ns.length:Nat):Int):=by omega
  first
   | (rw[decide_eq_true q'] at h5;exact absurd h5 (by decide))
   | (simp at h5;omega)
 cases hwl with
 |cons w1 w2=>
  cases w2
  cases w1 with
  |list ho hall=>exact⟨_,_,ns,rfl,rfl,ho,GA ns _ hall,hlen⟩
theorem Ob(l:OpenLaw)(args:List WData):l.row.toRowW.claim.post args (.bool true) args=true:=
 postW_of (r:=l.row.toRowW) (X:=(true==true))
  (show WShape.has [] (.bool true) .bool=true by first|rfl|decide|simp[WShape.has,WShape.arms,WShape.armsAll])
  (show(WTm.eq .res (.lit (.bool true))).value [] {args:=args,res:=some (.bool true),after:=args}=some (.bool (true==true)) from w_eq_bool (w_res rfl) w_lit) rfl
theorem KR{l:OpenLaw}{n:Nat}{q:Program}{loose:List Str}{XP:(Str→Option Value)→Heap→Prop}{YP:World→Heap→Prop}{d:DefRec}
  (hn:l.most=some n) (hdf:d.params.defaults=[])
  (call:∀(w:World) (s₀ s₁:Shared) (mg mb:Str→Option Value) (fa:Addr) (o:Obj) (pm cd doc:Value) (a:Addr) (vs:List Value) (ns:List Int),
   Ground q loose [] XP w s₀ mg mb s₁.heap→YP w s₁.heap→
   s₁.heap.get? fa=some o→o.data=.func (docDef d.name d.params d.body d.scope pm cd doc)→s₁.heap.CodeRec cd d.name→mg d.name=some (.ref fa)→
   s₁.heap.get? a=some {cls:=.type "list",data:=.seq vs.toArray}→IntsAre vs ns→ns.length≤n→s₁.gens= #[]→
   codeAny (model l.prog w) callerA (.call (.ref fa) ⟨[.ref a],[]⟩) (fun r s'=>r=.ok (.ret (.bool true))∧OldK s₁.heap s'.heap∧s'.os=s₁.os∧AllBare s'.gens) s₁):
  WalkO q loose XP YP l.row.toRowW d [] (fun f vs=>PySem.call f vs):=by
 intro w s₀ s₁ mg mb G Y fa o pm cd doc dV kV ho hd hcd hD hmg hg args vals as hpre hlay hrd hwl hlo
 obtain rfl:dV=.none:=Dflts.none hD hdf
 obtain rfl:kV=.none:=Dflts.noKw hD
 obtain⟨a,vs,ns,rfl,rfl,hobj,hints,hlen⟩:=Oa hn hpre hwl
 refine enter_call (codeAny_mono (call w s₀ s₁ mg mb fa o pm cd doc a vs ns G Y ho (fd_plain hd) hcd hmg hobj hints hlen hg) fun r s' hq=>?_)
 obtain⟨rfl,h2,h3,h4⟩:=hq
 exact⟨.inl ⟨.bool true,.bool true,[],rfl,fun _=>rfl,.bool true,Ob l _,fun _=> ⟨List.Pairwise.nil,fun _ hm=> (nomatch hm)⟩⟩,h2,h3,h4⟩
section
variable{prog:Program}{w:World}{A:Around}{E:Value→Shared→Prop}{s:Shared}{K:Frag}
end
end Att
namespace L2
open PySem PySem.Spec PyProof.Rows
theorem IR:∀{vs:List Value} {ns:List Int},IntsAre vs ns→Vals (ns.map V.int) vs
 |_,_,.nil=> .nil
 |_,_,.cons n t h=> .cons ⟨t,rfl⟩ (IR h)
def WD(H:Hp):Prop:=∀b,H b=none∨∃o xs,H b=some (.frz o (.lst xs))
theorem Px{P:Program}{w:World}{K:PySem.W.Frag}{mg mb:Str→Option Value}{CX:Pp}{k:Nat}{fa a:Addr}{fd:FuncData}{x:Str}{sp:Sp}{s₁:Shared}{vs:List Value}{ns:List Int}
  (KX:K.In s₁.heap) (hns:s₁.heap.Ns mainGlobals mg) (hb:s₁.heap.Ns builtinsNs mb) (hbb:∀x:Str,x≠"__name__"→mb x=bootBuiltins x) (hlim:s₁.heap.NoLimit) (hg:s₁.gens= #[])
  (ha:s₁.heap.get? a=some {cls:=.type "list",data:=.seq vs.toArray}) (hi:IntsAre vs ns) (hl:ns.length≤sizeLine) (hr:Room k callerA)
  (F:∀base:Heap,K.In base→base.Ns mainGlobals mg→FnOk P w K mg base CX k fa fd [x] sp) (hbind:∀(s:Shared) (u:Value),BindsTo s fd ⟨[u],[]⟩ [(x,u)])
  (hsp:∀H:Hp,WD H→SqL K H a (ns.map V.int)→sp [.ref a] H (fun v _=>v=.bl true) fun _ _ _=>False)
  (hCX:∀H e s',CX [] H s₁ (fun _ _ _=>False) e s'→False):
  codeAny (model P w) callerA (.call (.ref fa) ⟨[.ref a],[]⟩) (fun r s'=>r=.ok (.ret (.bool true))∧OldK s₁.heap s'.heap∧s'.os=s₁.os∧AllBare s'.gens) s₁:=by
 have rv:=IR hi
 have lenV:=hi.length
 have core:∀H:Hp,WD H→SqL K H a (ns.map V.int)→HOk P w H s₁.heap→(∀b,H b≠none→b=a)→(H a≠none→K.lookup a=none)→
   codeAny (model P w) callerA (.call (.ref fa) ⟨[.ref a],[]⟩) (fun r s'=>r=.ok (.ret (.bool true))∧OldK s₁.heap s'.heap∧s'.os=s₁.os∧AllBare s'.gens) s₁:=by
  intro H hO hS hok hA hK
  have base_of:∀{b:Addr} {o:Obj},s₁.heap.get? b=some o→H b=none→(JF s₁.heap H).get? b=some o:=fun e n=>PX e n
  have noA:∀{b:Addr} {o:Obj} {es:Array DictEntry} {ep:Nat},s₁.heap.get? b=some o→o.data=.dict es ep→H b=none:=fun{b o es ep} e d=>by
   cases q:H b with
   |none=>rfl
   |some u=>
    have e':b=a:=hA b (by rw[q];simp)
    subst e'
    rw[ha] at e;cases e
    have d':Data.seq vs.toArray _=Data.dict es ep:=d
    cases d'
  have nsK:∀{b:Addr} {m:Str→Option Value},s₁.heap.Ns b m→(JF s₁.heap H).Ns b m:=fun{b m} ⟨o,es,ep,e,d,r⟩=> ⟨o,es,ep,base_of e (noA e d),d,r⟩
  have hKb:K.In (JF s₁.heap H):=fun b o e=>base_of (KX b o e) (by
   cases q:H b with
   |none=>rfl
   |some u=>
    have e':b=a:=hA b (by rw[q];simp)
    subst e'
    rw[hK (by rw[q];simp)] at e;cases e)
  have hM:Mod K mg (JF s₁.heap H):=⟨hKb,nsK hns,⟨mb,nsK hb,hbb⟩,let⟨mc,h1,h2⟩:=hlim;⟨mc,nsK h1,h2⟩⟩
  have e0:Env0 P w K mg (JF s₁.heap H) callerA [] s₁ H:=⟨rfl,hM,fun b o e=>Sb e,Nat.le_of_eq (OP _ _),trivial,fun b hb=>absurd (show b∈([]:List Addr) from hb) (by simp),hok,.of_eq hg⟩
  refine codeAny_mono ((F _ hKb (nsK hns)).run callerA [] s₁ H ⟨[.ref a],[]⟩ [.ref a] [.ref a] _ _ hr e0 (hbind s₁ (.ref a)) (.cons rfl .nil) (hsp H hO hS)) fun r s' h=>?_
  cases r with
  |error e=>exact(hCX H e s' h).elim
  |ok fl=>
   cases fl with
   |next=>exact False.elim h
   |brk=>exact False.elim h
   |cont=>exact False.elim h
   |ret u=>
    obtain⟨v,H',os,bare,un,hok',r',q⟩:=h
    have q':v=.bl true:=q
    subst q'
    obtain rfl:u=Value.bool true:=r'
    refine⟨rfl,OldK.of_keep fun b o e=>?_,os,bare⟩
    cases q:H b with
    |none=>exact un.keep b o e q (by intro z;exact absurd (show b∈([]:List Addr) from z) (by simp)) (by simp)
    |some u=>
     rcases hO b with z| ⟨ob,xs,z⟩
     ·rw[q] at z;cases z
     ·have z2:=un.frzs b ob _ z
      obtain⟨e1,_⟩:=hok b _ z
      obtain⟨e2,_⟩:=hok' b _ z2
      rw[e] at e1;cases e1
      exact e2
 cases hk:K.lookup a with
 |some o=>
  have e:=KX a o hk
  rw[ha] at e
  cases e
  refine core (fun _=>none) (fun _=> .inl rfl) (.inr ⟨_,vs.toArray,_,hk,rfl,rfl,rfl,by rw[List.size_toArray,lenV];exact hl,by simpa using rv⟩) (fun b u z=>by have z':(none:Option HO)=some u:=z;cases z') (fun b z=>absurd rfl z) fun z=>absurd rfl z
 |none=>
  refine core (fun b=>if b=a then some (.frz {cls:=.type "list",data:=.seq vs.toArray} (.lst (ns.map V.int))) else none) (fun b=>?_) (.inl (.inr ⟨{cls:=.type "list",data:=.seq vs.toArray},if_pos rfl⟩)) (fun b u z=>?_) (fun b z=>?_) fun _=>hk
  ·by_cases hb:b=a
   ·exact .inr ⟨_,_,if_pos hb⟩
   ·exact .inl (if_neg hb)
  ·by_cases hb:b=a
   ·have z':=(if_pos hb).symm.trans z
    cases z'
    subst hb
    exact⟨ha,by rw[List.length_map];exact hl,vs,_,rv,ha⟩
   ·have z':=(if_neg hb).symm.trans z
    cases z'
  ·by_cases hb:b=a
   ·exact hb
   ·exact absurd (if_neg hb) z
theorem Sq{l:PySem.W.OpenLaw}{n k:Nat}{q:Program}{loose:List Str}{XP:(Str→Option Value)→Heap→Prop}{YP:World→Heap→Prop}{d:DefRec}{K:Params→PySem.W.Frag}{CX:World→Pp}{sp:World→Sp}{x:Str}
  (hn:l.most=some n) (hn2:n≤sizeLine) (hdf:d.params.defaults=[]) (hr:Room k callerA)
  (hY:∀(w:World) (h:Heap),YP w h→(K w.params).In h)
  (F:∀(w:World) (mg:Str→Option Value) (fa:Addr) (h:Heap),(K w.params).In h→h.Ns mainGlobals mg→mg d.name=some (.ref fa)→
   ∃fd:FuncData,(∀(s:Shared) (u:Value),BindsTo s fd ⟨[u],[]⟩ [(x,u)])∧
    ∀base:Heap,(K w.params).In base→base.Ns mainGlobals mg→FnOk l.prog w (K w.params) mg base (CX w) k fa fd [x] (sp w))
  (hsp:∀(w:World) (H:Hp) (a:Addr) (ns:List Int),ns.length≤n→WD H→SqL (K w.params) H a (ns.map V.int)→sp w [.ref a] H (fun v _=>v=.bl true) fun _ _ _=>False)
  (hCX:∀(w:World) (H:Hp) (s:Shared) (e:Value) (s':Shared),CX w [] H s (fun _ _ _=>False) e s'→False):
  PySem.W.WalkO q loose XP YP l.row.toRowW d [] (fun f vs=>PySem.call f vs):=by
 refine Att.KR hn hdf fun w s₀ s₁ mg mb fa o pm cd doc a vs ns G Y ho hd hcd hmg hobj hints hlen hg=>?_
 have KX:=hY w _ Y
 obtain⟨fd,hb,hF⟩:=F w mg fa _ KX G.T.g hmg
 exact Px KX G.T.g G.T.b G.T.builtins G.T.nolimit hg hobj hints (Nat.le_trans hlen hn2) hr hF hb (fun H hO hS=>hsp w H a ns hlen hO hS) fun H e s'=>hCX w H s₁ e s'
def Ef(s:Stmt):Arguments:=match s with
 | .FunctionDef _ a _ _ _ _ _ _ _ _=>a
 |_=> {posonlyargs:=[],args:=[],vararg:=none,kwonlyargs:=[],kw_defaults:=[],kwarg:=none,defaults:=[]}
def Ai(s:Stmt):List Stmt:=match s with
 | .FunctionDef _ _ b _ _ _ _ _ _ _=>b
 |_=> []
def AA(s:Stmt):Scope:=match s with
 | .FunctionDef _ _ _ _ _ _ sc _ _ _=>sc
 |_=> {kind:=.function,names:=[],isGenerator:=false,isCoroutine:=false}
abbrev bM:Pp:=fun _ _ _ _ _ _=>False
abbrev E0:XK:=fun _ _ _=>False
structure Fun(K:PySem.W.Frag)(x qual:Str)(st:Stmt)(f:Addr)(fd:FuncData):Prop where
 ex:∃(oc:Value) (od:Option Addr) (kV doc pm:Value) (an:Option Addr) (cdv ct:Value) (osl:Array (Option Value)),
  fd=PySem.W.fnOf x qual (Ef st) (Ai st) (AA st) .none kV doc pm an cdv ct∧K.lookup f=some ⟨oc,od,.func fd,osl⟩∧PySem.W.codeIn K cdv qual=true
 kp:PySem.W.keepIn K (.ref f)=true
section
variable{P:Program}{w:World}{K:PySem.W.Frag}{mg:Str→Option Value}{base:Heap}
theorem Fun.binds{x qual:Str}{st:Stmt}{f:Addr}{fd:FuncData}{ps:List Str}(F:Fun K x qual st f fd)
  (h:∀(kV doc pm:Value) (an:Option Addr) (cdv ct:Value) (us:List Value),us.length=ps.length→bindArgs (PySem.W.fnOf x qual (Ef st) (Ai st) (AA st) .none kV doc pm an cdv ct) ⟨us,[]⟩=pure (ps.zip us)):Binds K fd ps []:=by
 obtain⟨oc,od,kV,doc,pm,an,cdv,ct,osl,rfl,lk,hcd⟩:=F.ex
 exact .all (h kV doc pm an cdv ct)
end
section
variable{X:Cx}
theorem pv(i:Nat){x:Str}{pos:Pos}(hN:X.N[i]?=some x:=by rfl)(hv:YA X.env.scope x:=by first|exact Or.inl rfl|exact Or.inr (Or.inl rfl)|exact Or.inr (Or.inr rfl))(hd:(x==("__debug__" :Str))=false:=by decide)
  (hcd:(x==("__classdict__" :Str))=false:=by decide):PE X (.Name x pos) (YF i):=PY hN hv hd hcd
end
theorem Hx{A B:Prop}(h:B):if false=true then A else B:=by
 rw[if_neg Bool.false_ne_true]
 exact h
theorem GB{A B:Prop}(h:A):if true=true then A else B:=by
 rw[if_pos rfl]
 exact h
theorem WH{c A B:Prop} [Decidable c](h1:c→A)(h2:¬c→B):if c then A else B:=by
 by_cases h:c
 ·rw[if_pos h]
  exact h1 h
 ·rw[if_neg h]
  exact h2 h
def Same(H H':Hp):Prop:=∀b o,H b=some o→H' b=some o
theorem Same.refl(H:Hp):Same H H:=fun _ _ h=>h
end L2
set_option maxHeartbeats 4000000
namespace K18
open PySem L2
def kE(P:Params)(x:Str)(n:Tok)(v:Value):DictEntry:=⟨PyData.keyHash P x,.str x n,v⟩
def tp(i:Nat):Stmt:=PySem.Challenge.pw_noshortring_k18_webs_that_fit.main.body.getD i (.Pass ⟨0,0,0,0⟩)
def kF(x:Str)(i:Nat)(m:Str)(t:Tok)(c:Addr):Obj:=⟨.type "function",none,.func (PySem.W.fnOf x x (Ef (tp i)) (Ai (tp i)) (AA (tp i)) .none .none .none (.str m t) none (.ref c) .none),#[]⟩
def kC(x:Str)(a b c:Tok)(vs:List Value):Obj:=⟨.type "code",none,.fields ((Value.str x a::.str x b::.str "/claim/cut.py" c::vs).toArray),#[]⟩
def kD(x:Str)(a b c:Tok)(l n:Int)(r:Addr)(g:Int)(q:Addr)(z:Int)(k:Tok)(vs:List Value):Obj:=kC x a b c (.int l 0::.int n 0::.int 0 0::.int 0 0::.int 3 0::.ref r::.bool true::.int g 0::.ref q::(vs++[.int z 0,.int l 0,.str "/claim/cut.py" k]))
def Kk:Params→PySem.W.Frag:=fun P=> (nat_lit 3,⟨(.type "dict"),none,(.dict #[kE P "__name__" 165 (.str "law_noshortring_k18_webs_that_fit" 526),kE P "__doc__" 166 .none,kE P "__package__" 167 .none,kE P "__loader__" 168 (.builtin "__main__.__loader__#opaque"),kE P "__spec__" 169 .none,kE P "__annotations__" 170 (.ref 6),kE P "__builtins__" 171 (.ref 4),kE P "__file__" 173 (.str "/claim/cut.py" 172),kE P "__cached__" 174 .none,kE P "RingError" 206 (.ref 24),kE P "NoPlace" 222 (.ref 37),kE P "NoNumber" 238 (.ref 49),kE P "NoLine" 254 (.ref 61),kE P "NoRing" 270 (.ref 73),kE P "NotEven" 286 (.ref 85),kE P "NoWeb" 311 (.ref 104),kE P "NoText" 336 (.ref 123),kE P "TooGreat" 363 (.ref 142),kE P "is_whole" 374 (.ref 151),kE P "need_number" 383 (.ref 158),kE P "least_told" 389 (.ref 163),kE P "LEAST_RING" 393 (.int 3 392),kE P "nears_of" 399 (.ref 168),kE P "fars_from" 405 (.ref 173),kE P "even_by" 411 (.ref 178),kE P "ring_by_tie" 417 (.ref 183),kE P "shortest" 423 (.ref 188),kE P "LEAST_TIES" 427 (.int 2 426),kE P "MOST_TIES" 429 (.int 15 428),kE P "MOST_RING" 431 (.int 16 430),kE P "need_ties" 438 (.ref 195),kE P "need_ring" 445 (.ref 202),kE P "need_ties_and_ring" 453 (.ref 209),kE P "sum_of_powers" 464 (.ref 216),kE P "grown_places" 473 (.ref 223),kE P "has_shorter_ring" 482 (.ref 230),kE P "does_fit" 491 (.ref 237),kE P "fits" 500 (.ref 244),kE P "surplus" 509 (.ref 251),kE P "tight_by" 518 (.ref 258),kE P "tight" 525 (.ref 265),kE P "_law_cell_at" 535 (.ref 272),kE P "_law_next" 542 (.ref 279),kE P "_law_pen_of" 550 (.ref 286),kE P "_law_draw" 559 (.ref 293),kE P "_law_whole" 566 (.ref 300),kE P "_law_kind_of" 574 (.ref 307),kE P "_law_named" 580 (.ref 312),kE P "_law_names_by" 586 (.ref 317),kE P "_law_turned" 598 (.ref 324),kE P "_law_shape" 604 (.ref 329),kE P "_law_web_by" 616 (.ref 336),kE P "_law_far" 622 (.ref 341),kE P "_law_rings" 628 (.ref 346),kE P "_law_shortest" 636 (.ref 353),kE P "_law_grown" 647 (.ref 360),kE P "_law_told" 658 (.ref 367),kE P "_law_right" 664 (.ref 372),kE P "law" 670 (.ref 377)] 59),#[]⟩)::
  (nat_lit 23,⟨(.type "dict"),none,(.dict #[kE P "__module__" 196 (.str "noshortring.errors" 187),kE P "__firstlineno__" 200 (.int 2 199),kE P "__static_attributes__" 201 (.ref 22),kE P "__weakref__" 203 (.ref 25),kE P "__doc__" 204 .none] 3),#[]⟩)::
  (nat_lit 24,⟨(.type "type"),none,(.cls ⟨"RingError",[(.type "ValueError")],[(.ref 24),(.type "ValueError"),(.type "Exception"),(.type "BaseException"),(.type "object")],23,"RingError",true,[],[(.ref 37),(.ref 49),(.ref 61),(.ref 73),(.ref 85),(.ref 104),(.ref 123),(.ref 142)],false,none,false⟩),#[(some (.ref 15)),none,(some (.str "RingError" 189)),(some (.str "RingError" 197)),(some (.builtin "ValueError.__new__")),(some (.bool true))]⟩)::
  (nat_lit 37,⟨(.type "type"),none,(.cls ⟨"NoPlace",[(.ref 24)],[(.ref 37),(.ref 24),(.type "ValueError"),(.type "Exception"),(.type "BaseException"),(.type "object")],36,"NoPlace",true,[],[],false,none,false⟩),#[(some (.ref 28)),none,(some (.str "NoPlace" 207)),(some (.str "NoPlace" 215)),(some (.builtin "ValueError.__new__")),(some (.bool true))]⟩)::
  (nat_lit 48,⟨(.type "dict"),none,(.dict #[kE P "__module__" 230 (.str "noshortring.errors" 187),kE P "__firstlineno__" 234 (.int 6 233),kE P "__static_attributes__" 235 (.ref 47),kE P "__doc__" 236 .none] 2),#[]⟩)::
  (nat_lit 49,⟨(.type "type"),none,(.cls ⟨"NoNumber",[(.ref 24)],[(.ref 49),(.ref 24),(.type "ValueError"),(.type "Exception"),(.type "BaseException"),(.type "object")],48,"NoNumber",true,[],[],false,none,false⟩),#[(some (.ref 40)),none,(some (.str "NoNumber" 223)),(some (.str "NoNumber" 231)),(some (.builtin "ValueError.__new__")),(some (.bool true))]⟩)::
  (nat_lit 61,⟨(.type "type"),none,(.cls ⟨"NoLine",[(.ref 24)],[(.ref 61),(.ref 24),(.type "ValueError"),(.type "Exception"),(.type "BaseException"),(.type "object")],60,"NoLine",true,[],[],false,none,false⟩),#[(some (.ref 52)),none,(some (.str "NoLine" 239)),(some (.str "NoLine" 247)),(some (.builtin "ValueError.__new__")),(some (.bool true))]⟩)::
  (nat_lit 72,⟨(.type "dict"),none,(.dict #[kE P "__module__" 262 (.str "noshortring.errors" 187),kE P "__firstlineno__" 266 (.int 10 265),kE P "__static_attributes__" 267 (.ref 71),kE P "__doc__" 268 .none] 2),#[]⟩)::
  (nat_lit 73,⟨(.type "type"),none,(.cls ⟨"NoRing",[(.ref 24)],[(.ref 73),(.ref 24),(.type "ValueError"),(.type "Exception"),(.type "BaseException"),(.type "object")],72,"NoRing",true,[],[],false,none,false⟩),#[(some (.ref 64)),none,(some (.str "NoRing" 255)),(some (.str "NoRing" 263)),(some (.builtin "ValueError.__new__")),(some (.bool true))]⟩)::
  (nat_lit 84,⟨(.type "dict"),none,(.dict #[kE P "__module__" 278 (.str "noshortring.errors" 187),kE P "__firstlineno__" 282 (.int 12 281),kE P "__static_attributes__" 283 (.ref 83),kE P "__doc__" 284 .none] 2),#[]⟩)::
  (nat_lit 85,⟨(.type "type"),none,(.cls ⟨"NotEven",[(.ref 24)],[(.ref 85),(.ref 24),(.type "ValueError"),(.type "Exception"),(.type "BaseException"),(.type "object")],84,"NotEven",true,[],[],false,none,false⟩),#[(some (.ref 76)),none,(some (.str "NotEven" 271)),(some (.str "NotEven" 279)),(some (.builtin "ValueError.__new__")),(some (.bool true))]⟩)::
  (nat_lit 104,⟨(.type "type"),none,(.cls ⟨"NoWeb",[(.ref 24)],[(.ref 104),(.ref 24),(.type "ValueError"),(.type "Exception"),(.type "BaseException"),(.type "object")],103,"NoWeb",true,[],[],false,none,false⟩),#[(some (.ref 88)),none,(some (.str "NoWeb" 287)),(some (.str "NoWeb" 295)),(some (.builtin "ValueError.__new__")),(some (.bool true))]⟩)::
  (nat_lit 123,⟨(.type "type"),none,(.cls ⟨"NoText",[(.ref 24)],[(.ref 123),(.ref 24),(.type "ValueError"),(.type "Exception"),(.type "BaseException"),(.type "object")],122,"NoText",true,[],[],false,none,false⟩),#[(some (.ref 107)),none,(some (.str "NoText" 312)),(some (.str "NoText" 320)),(some (.builtin "ValueError.__new__")),(some (.bool true))]⟩)::
  (nat_lit 142,⟨(.type "type"),none,(.cls ⟨"TooGreat",[(.ref 24)],[(.ref 142),(.ref 24),(.type "ValueError"),(.type "Exception"),(.type "BaseException"),(.type "object")],141,"TooGreat",true,[],[],false,none,false⟩),#[(some (.ref 126)),none,(some (.str "TooGreat" 337)),(some (.str "TooGreat" 345)),(some (.builtin "ValueError.__new__")),(some (.bool true))]⟩)::
  (nat_lit 150,kD "is_whole" 366 367 368 28 3 145 181 146 372 373 [.none,(.ref 147),(.ref 148),(.ref 149)])::
  (nat_lit 151,kF "is_whole" 11 "noshortring.common" 364 150)::
  (nat_lit 157,kD "need_number" 375 376 377 32 3 152 181 153 381 382 [.none,(.ref 154),(.ref 155),(.ref 156)])::
  (nat_lit 158,kF "need_number" 12 "noshortring.common" 364 157)::
  (nat_lit 162,kD "least_told" 384 385 386 35 1 159 181 160 387 388 [.none,.none,.none,(.ref 161)])::
  (nat_lit 163,kF "least_told" 13 "noshortring.common" 364 162)::
  (nat_lit 167,kD "nears_of" 394 395 396 39 1 164 181 165 397 398 [.none,.none,.none,(.ref 166)])::
  (nat_lit 168,kF "nears_of" 16 "noshortring.webs" 390 167)::
  (nat_lit 172,kD "fars_from" 400 401 402 45 2 169 181 170 403 404 [.none,.none,.none,(.ref 171)])::
  (nat_lit 173,kF "fars_from" 17 "noshortring.webs" 390 172)::
  (nat_lit 177,kD "even_by" 406 407 408 61 1 174 181 175 409 410 [.none,.none,.none,(.ref 176)])::
  (nat_lit 178,kF "even_by" 18 "noshortring.webs" 390 177)::
  (nat_lit 182,kD "ring_by_tie" 412 413 414 64 3 179 181 180 415 416 [.none,.none,.none,(.ref 181)])::
  (nat_lit 183,kF "ring_by_tie" 19 "noshortring.webs" 390 182)::
  (nat_lit 187,kD "shortest" 418 419 420 69 1 184 181 185 421 422 [.none,.none,.none,(.ref 186)])::
  (nat_lit 188,kF "shortest" 20 "noshortring.webs" 390 187)::
  (nat_lit 194,kD "need_ties" 432 433 434 76 1 189 181 190 436 437 [.none,(.ref 191),(.ref 192),(.ref 193)])::
  (nat_lit 195,kF "need_ties" 25 "noshortring.fewest" 424 194)::
  (nat_lit 201,kD "need_ring" 439 440 441 78 1 196 181 197 443 444 [.none,(.ref 198),(.ref 199),(.ref 200)])::
  (nat_lit 202,kF "need_ring" 26 "noshortring.fewest" 424 201)::
  (nat_lit 208,kD "need_ties_and_ring" 446 447 448 80 2 203 181 204 451 452 [.none,(.ref 205),(.ref 206),(.ref 207)])::
  (nat_lit 209,kF "need_ties_and_ring" 27 "noshortring.fewest" 424 208)::
  (nat_lit 215,kD "sum_of_powers" 454 455 456 83 2 210 181 211 462 463 [.none,(.ref 212),(.ref 213),(.ref 214)])::
  (nat_lit 216,kF "sum_of_powers" 28 "noshortring.fewest" 424 215)::
  (nat_lit 222,kD "grown_places" 465 466 467 90 2 217 181 218 471 472 [.none,(.ref 219),(.ref 220),(.ref 221)])::
  (nat_lit 223,kF "grown_places" 29 "noshortring.fewest" 424 222)::
  (nat_lit 229,kD "has_shorter_ring" 474 475 476 93 2 224 181 225 480 481 [.none,(.ref 226),(.ref 227),(.ref 228)])::
  (nat_lit 230,kF "has_shorter_ring" 30 "noshortring.fewest" 424 229)::
  (nat_lit 236,kD "does_fit" 483 484 485 96 3 231 181 232 489 490 [.none,(.ref 233),(.ref 234),(.ref 235)])::
  (nat_lit 237,kF "does_fit" 31 "noshortring.fewest" 424 236)::
  (nat_lit 243,kD "fits" 492 493 494 98 3 238 181 239 498 499 [.none,(.ref 240),(.ref 241),(.ref 242)])::
  (nat_lit 244,kF "fits" 32 "noshortring.fewest" 424 243)::
  (nat_lit 250,kD "surplus" 501 502 503 101 3 245 181 246 507 508 [.none,(.ref 247),(.ref 248),(.ref 249)])::
  (nat_lit 251,kF "surplus" 33 "noshortring.fewest" 424 250)::
  (nat_lit 257,kD "tight_by" 510 511 512 108 1 252 181 253 516 517 [.none,(.ref 254),(.ref 255),(.ref 256)])::
  (nat_lit 258,kF "tight_by" 34 "noshortring.fewest" 424 257)::
  (nat_lit 264,kD "tight" 519 520 521 114 1 259 181 260 523 524 [.none,(.ref 261),(.ref 262),(.ref 263)])::
  (nat_lit 265,kF "tight" 35 "noshortring.fewest" 424 264)::
  (nat_lit 271,kD "_law_cell_at" 528 529 530 117 2 266 181 267 533 534 [.none,(.ref 268),(.ref 269),(.ref 270)])::
  (nat_lit 272,kF "_law_cell_at" 37 "law_noshortring_k18_webs_that_fit" 526 271)::
  (nat_lit 278,kD "_law_next" 536 537 538 121 1 273 181 274 540 541 [.none,(.ref 275),(.ref 276),(.ref 277)])::
  (nat_lit 279,kF "_law_next" 38 "law_noshortring_k18_webs_that_fit" 526 278)::
  (nat_lit 285,kD "_law_pen_of" 543 544 545 124 1 280 181 281 548 549 [.none,(.ref 282),(.ref 283),(.ref 284)])::
  (nat_lit 286,kF "_law_pen_of" 39 "law_noshortring_k18_webs_that_fit" 526 285)::
  (nat_lit 292,kD "_law_draw" 551 552 553 127 2 287 181 288 557 558 [.none,(.ref 289),(.ref 290),(.ref 291)])::
  (nat_lit 293,kF "_law_draw" 40 "law_noshortring_k18_webs_that_fit" 526 292)::
  (nat_lit 306,kD "_law_kind_of" 567 568 569 136 1 301 181 302 572 573 [.none,(.ref 303),(.ref 304),(.ref 305)])::
  (nat_lit 307,kF "_law_kind_of" 42 "law_noshortring_k18_webs_that_fit" 526 306)::
  (nat_lit 311,kD "_law_named" 575 576 577 142 2 308 181 309 578 579 [.none,.none,.none,(.ref 310)])::
  (nat_lit 312,kF "_law_named" 43 "law_noshortring_k18_webs_that_fit" 526 311)::
  (nat_lit 316,kD "_law_names_by" 581 582 583 145 2 313 181 314 584 585 [.none,.none,.none,(.ref 315)])::
  (nat_lit 317,kF "_law_names_by" 44 "law_noshortring_k18_webs_that_fit" 526 316)::
  (nat_lit 323,kD "_law_turned" 587 588 589 148 2 318 181 319 596 597 [.none,(.ref 320),(.ref 321),(.ref 322)])::
  (nat_lit 324,kF "_law_turned" 45 "law_noshortring_k18_webs_that_fit" 526 323)::
  (nat_lit 328,kD "_law_shape" 599 600 601 155 2 325 181 326 602 603 [.none,.none,.none,(.ref 327)])::
  (nat_lit 329,kF "_law_shape" 46 "law_noshortring_k18_webs_that_fit" 526 328)::
  (nat_lit 335,kD "_law_web_by" 605 606 607 174 2 330 181 331 614 615 [.none,(.ref 332),(.ref 333),(.ref 334)])::
  (nat_lit 336,kF "_law_web_by" 47 "law_noshortring_k18_webs_that_fit" 526 335)::
  (nat_lit 340,kD "_law_far" 617 618 619 184 1 337 181 338 620 621 [.none,.none,.none,(.ref 339)])::
  (nat_lit 341,kF "_law_far" 48 "law_noshortring_k18_webs_that_fit" 526 340)::
  (nat_lit 345,kD "_law_rings" 623 624 625 195 2 342 181 343 626 627 [.none,.none,.none,(.ref 344)])::
  (nat_lit 346,kF "_law_rings" 49 "law_noshortring_k18_webs_that_fit" 526 345)::
  (nat_lit 352,kD "_law_shortest" 629 630 631 210 1 347 181 348 634 635 [.none,(.ref 349),(.ref 350),(.ref 351)])::
  (nat_lit 353,kF "_law_shortest" 50 "law_noshortring_k18_webs_that_fit" 526 352)::
  (nat_lit 359,kD "_law_grown" 637 638 639 215 2 354 181 355 645 646 [.none,(.ref 356),(.ref 357),(.ref 358)])::
  (nat_lit 360,kF "_law_grown" 51 "law_noshortring_k18_webs_that_fit" 526 359)::
  (nat_lit 366,kD "_law_told" 648 649 650 221 4 361 181 362 656 657 [.none,(.ref 363),(.ref 364),(.ref 365)])::
  (nat_lit 367,kF "_law_told" 52 "law_noshortring_k18_webs_that_fit" 526 366)::
  (nat_lit 371,kD "_law_right" 659 660 661 226 2 368 181 369 662 663 [.none,.none,.none,(.ref 370)])::
  (nat_lit 372,kF "_law_right" 53 "law_noshortring_k18_webs_that_fit" 526 371)::
  (nat_lit 376,kD "law" 665 666 667 244 1 373 181 374 668 669 [.none,.none,.none,(.ref 375)])::
  (nat_lit 377,kF "law" 54 "law_noshortring_k18_webs_that_fit" 526 376)::[]
def ka:List Addr:=[3,23,24,37,48,49,61,72,73,84,85,104,123,142,150,151,157,158,162,163,167,168,172,173,177,178,182,183,187,188,194,195,201,202,208,209,215,216,222,223,229,230,236,237,243,244,250,251,257,258,264,265,271,272,278,279,285,286,292,293,306,307,311,312,316,317,323,324,328,329,335,336,340,341,345,346,352,353,359,360,366,367,371,372,376,377]
abbrev kq:Program:=PySem.W.view PySem.Challenge.pw_noshortring_k18_webs_that_fit [1,2,3,4,5,6,7,8,9,11,12,13,15,16,17,18,19,20,22,23,24,25,26,27,28,29,30,31,32,33,34,35,37,38,39,40,41,42,43,44,45,46,47,48,49,50,51,52,53,54]
theorem bN:(fun(_:Params→PySem.W.Frag) (_:Program)=>true) Kk PySem.Challenge.pw_noshortring_k18_webs_that_fit=true:=by k_qdec
abbrev oS(s:Shared):=PySem.W.openSeen kq [] (importedModules PySem.Challenge.pw_noshortring_k18_webs_that_fit.main.body) (fun s=>PySem.W.xlAt kq [] s&&PySem.W.recOk [] s) true s
abbrev oE(w:World):=PySem.W.openEnds treeTable PySem.Challenge.pw_noshortring_k18_webs_that_fit w 6422
theorem Yn(w:World):(oE w).map (fun s=> ((oS s).1,(oS s).2.2.2.2.1))=some ((PySem.W.openGood kq []).1,(PySem.W.openGood kq []).2.2.2.2.1):=by
 delta oE oS kq
 rw[PySem.W.Fast.te15128001848721938264,PySem.W.Fast.te14364793385576792824,PySem.W.Fast.te4187177175401517315]
 delta PySem.W.Fast.tw4187177175401517315 PySem.W.openGood
 dsimp only
 kernel_rfl
theorem Yo(w:World):(oE w).map (fun s=> ((oS s).2.1,(oS s).2.2.1,(oS s).2.2.2.2.2.2.1,(oS s).2.2.2.2.2.2.2.2))=some ((PySem.W.openGood kq []).2.1,(PySem.W.openGood kq []).2.2.1,(PySem.W.openGood kq []).2.2.2.2.2.2.1,(PySem.W.openGood kq []).2.2.2.2.2.2.2.2):=by
 delta oE oS kq
 rw[PySem.W.Fast.te15128001848721938264,PySem.W.Fast.te14364793385576792824,PySem.W.Fast.te4187177175401517315,PySem.W.Fast.te5923862056798008813]
 delta PySem.W.Fast.tw4187177175401517315 PySem.W.openGood
 dsimp only
 kernel_rfl
theorem Yp(w:World):(oE w).map (fun s=> ((oS s).2.2.2.1))=some ((PySem.W.openGood kq []).2.2.2.1):=by
 delta oE oS kq
 rw[PySem.W.Fast.te15128001848721938264,PySem.W.Fast.te14364793385576792824,PySem.W.Fast.te4187177175401517315]
 delta PySem.W.Fast.tw4187177175401517315 PySem.W.openGood
 dsimp only
 kernel_rfl
theorem Yq(w:World):(oE w).map (fun s=> ((oS s).2.2.2.2.2.1))=some ((PySem.W.openGood kq []).2.2.2.2.2.1):=by
 delta oE oS kq
 rw[PySem.W.Fast.te15128001848721938264,PySem.W.Fast.te14364793385576792824,PySem.W.Fast.te4187177175401517315]
 delta PySem.W.Fast.tw4187177175401517315 PySem.W.openGood
 dsimp only
 kernel_rfl
theorem Yr(w:World):(oE w).map (fun s=> ((oS s).2.2.2.2.2.2.2.1,ka.map s.heap.get?))=some ((PySem.W.openGood kq []).2.2.2.2.2.2.2.1,(Kk w.params).map fun(p:Addr×Obj)=>some p.2):=by
 delta oE oS kq
 rw[PySem.W.Fast.te14491285238908445317,PySem.W.Fast.te15128001848721938264,PySem.W.Fast.te14364793385576792824,PySem.W.Fast.te4187177175401517315]
 delta PySem.W.Fast.tw4187177175401517315 PySem.W.openGood
 dsimp only
 kernel_rfl
theorem left:PySem.W.LeftO PySem.Challenge.pw_noshortring_k18_webs_that_fit kq [] (fun s=>PySem.W.xlAt kq [] s&&PySem.W.recOk [] s) (fun s=>ka.map s.heap.get?) (fun w=> (Kk w.params).map fun(p:Addr×Obj)=>some p.2) 6422:=by
 intro w
 have h0:=Yn w
 have h1:=Yo w
 have h2:=Yp w
 have h3:=Yq w
 have h4:=Yr w
 show(oE w).map (fun s=> (oS s,ka.map s.heap.get?))=_
 revert h0 h1 h2 h3 h4
 cases oE w with
 |none=>intro h;cases h
 |some s=>
  intro h0 h1 h2 h3 h4
  have h0:=Option.some.inj h0
  simp only[Prod.mk.injEq] at h0
  have h1:=Option.some.inj h1
  simp only[Prod.mk.injEq] at h1
  have h2:=Option.some.inj h2
  have h3:=Option.some.inj h3
  have h4:=Option.some.inj h4
  simp only[Prod.mk.injEq] at h4
  exact congrArg some (Prod.ext (Prod.ext (h0.1) (Prod.ext (h1.1) (Prod.ext (h1.2.1) (Prod.ext (h2) (Prod.ext (h0.2) (Prod.ext (h3) (Prod.ext (h1.2.2.1) (Prod.ext (h4.1) (h1.2.2.2))))))))) (h4.2))
end K18
namespace L2
open PySem PySem.Spec PyProof.Rows
theorem JM{env:Env}:∀(l:List (Str×NameKind)) (acc:List (Str×Addr)),(∀y∈l,y.2=.free→∃c,env.cells.lookup y.1=some c)→
  (∀x c,acc.lookup x=some c→env.cells.lookup x=some c)→
  ∃cl,(forIn l acc (fun(x:Str×NameKind) (r:List (Str×Addr))=> (match x with
   | (name,kind)=>if(kind==NameKind.free)=true then(do let a←cellOf env name;pure (ForInStep.yield ((name,a)::r))) else pure (ForInStep.yield r):Sem (ForInStep (List (Str×Addr))))))=(pure cl:Sem _)∧
   (∀x c,cl.lookup x=some c→env.cells.lookup x=some c)∧(∀x,(acc.lookup x).isSome=true→(cl.lookup x).isSome=true)∧∀y∈l,y.2=.free→(cl.lookup y.1).isSome=true
 | [],acc,_,ha=> ⟨acc,rfl,ha,fun _ h=>h,fun _ h=>nomatch h⟩
 | (n,k)::r,acc,h,ha=>by
  have hr:∀y∈r,y.2=.free→∃c,env.cells.lookup y.1=some c:=fun y hy=>h y (List.mem_cons_of_mem _ hy)
  by_cases hk:k=.free
  ·subst hk
   obtain⟨c,hc⟩:=h (n,.free) List.mem_cons_self rfl
   have hc:env.cells.lookup n=some c:=hc
   have ha':∀x c',((n,c)::acc).lookup x=some c'→env.cells.lookup x=some c':=fun x c' e=>by
    rw[List.lookup_cons] at e
    cases hx:x==n with
    |true=>rw[hx] at e;cases e;rw[beq_iff_eq.mp hx];exact hc
    |false=>rw[hx] at e;exact ha x c' e
   obtain⟨cl,e,h1,h2,h3⟩:=JM r ((n,c)::acc) hr ha'
   refine⟨cl,?_,h1,fun x hx=>h2 x ?_,fun y hy hf=>?_⟩
   ·rw[List.forIn_cons]
    simp only[cellOf,hc,beq_self_eq_true,if_true]
    exact e
   ·rw[List.lookup_cons]
    cases x==n with
    |true=>rfl
    |false=>exact hx
   ·rcases List.mem_cons.mp hy with rfl|hy
    ·exact h2 n (by rw[List.lookup_cons,beq_self_eq_true];rfl)
    ·exact h3 y hy hf
  ·have hb:(k==NameKind.free)=false:=by simpa using hk
   obtain⟨cl,e,h1,h2,h3⟩:=JM r acc hr ha
   refine⟨cl,?_,h1,h2,fun y hy hf=>?_⟩
   ·rw[List.forIn_cons]
    simp only[hb,Bool.false_eq_true,if_false]
    exact e
   ·rcases List.mem_cons.mp hy with rfl|hy
    ·exact absurd hf hk
    ·exact h3 y hy hf
theorem Sr{env:Env}{csc:Scope}(h:∀y∈csc.names,y.2=.free→∃c,env.cells.lookup y.1=some c):
  ∃cl,closureFor csc env=pure cl∧(∀x c,cl.lookup x=some c→env.cells.lookup x=some c)∧∀y∈csc.names,y.2=.free→(cl.lookup y.1).isSome=true:=by
 obtain⟨cl,e,h1,_,h3⟩:=JM csc.names [] h (fun x c e=>by cases e)
 refine⟨cl,?_,h1,h3⟩
 unfold closureFor
 have e':=congrArg (fun m:Sem (List (Str×Addr))=>m>>=fun r=>pure r) e
 exact e'
theorem Eg{env:Env}:∀{names:List (Str×NameKind)} {x:Str},names.lookup x=some .free→
  (names.map fun(n,k)=>if(k==NameKind.free&&env.scope.kind==.function&&env.kindOf n==some .cell) then(n,NameKind.cell) else(n,k)).lookup x=some .cell∨
  (names.map fun(n,k)=>if(k==NameKind.free&&env.scope.kind==.function&&env.kindOf n==some .cell) then(n,NameKind.cell) else(n,k)).lookup x=some .free
 | [],_,h=>by simp at h
 | (n,k)::r,x,h=>by
  have ih:=@Eg env r x
  rw[List.map_cons]
  show List.lookup x ((if(k==NameKind.free&&env.scope.kind==.function&&env.kindOf n==some .cell)=true then(n,NameKind.cell) else(n,k))::_)=_∨List.lookup x ((if(k==NameKind.free&&env.scope.kind==.function&&env.kindOf n==some .cell)=true then(n,NameKind.cell) else(n,k))::_)=_
  cases hx:x==n with
  |true=>
   simp only[List.lookup_cons,hx] at h
   cases h
   split
   ·exact .inl (by rw[List.lookup_cons,hx])
   ·exact .inr (by rw[List.lookup_cons,hx])
  |false=>
   simp only[List.lookup_cons,hx] at h
   split
   ·simp only[List.lookup_cons,hx];exact ih h
   ·simp only[List.lookup_cons,hx];exact ih h
def NG:Option NameKind→Bool
 |some .cell=>true
 |_=>false
theorem KS{k:Option NameKind}(h:NG k=true):k=some .cell:=by
 cases k with
 |none=>cases h
 |some k=>cases k<;>first|rfl|cases h
def Ss(X:Cx)(csc:Scope)(cl:List (Str×Addr))(N':List Str)(s:Shared)(H:Hp)(fp:List Addr):Cx:=
 {X with N:=N',s₀:=s,H₀:=H,env:=compEnvC csc cl s.heap.objs.size X.env,outer:=X.stack,ex:=fp,fn:=fun x=>NG (csc.names.lookup x),pn:=[],xe:=fun _ _=>False}
structure LcCx(X:Cx)(csc:Scope)(N':List Str)(X':Cx):Prop where
 is:∃cl s H fp,X'=Ss X csc cl N' s H fp
def CO(σ:St)(cap:List (Str×Nat)):St:=cap.map fun p=> (σ[p.2]?).join
structure LcOk(X:Cx)(csc:Scope)(nc:List Str)(cap:List (Str×Nat)):Prop where
 kind:csc.kind=.function
 cells:∀y∈csc.names,y.2=.cell→csc.names.lookup y.1=some .cell
 locals:∀y∈csc.names,y.2=.local→csc.names.lookup y.1=some .local
 free:∀y∈csc.names,y.2=.free→X.env.scope.names.lookup y.1=some .cell∨X.env.scope.names.lookup y.1=some .free
 caps:∀p∈cap,X.N[p.2]?=some p.1∧csc.names.lookup p.1=some .free
abbrev Ak(nc:List Str)(cap:List (Str×Nat)):List Str:=nc++cap.map (·.1)
abbrev Hy(nc:List Str)(σ:St)(cap:List (Str×Nat)):St:=List.replicate nc.length none++CO σ cap
theorem Av{α:Type}:∀{l:List (Str×α)} {x:Str} {v:α},l.lookup x=some v→(x,v)∈l
 | [],_,_,h=>by simp at h
 | (n,k)::r,x,v,h=>by
  rw[List.lookup_cons] at h
  cases hx:x==n with
  |true=>rw[hx] at h;cases h;rw[beq_iff_eq.mp hx];exact List.mem_cons_self
  |false=>rw[hx] at h;exact List.mem_cons_of_mem _ (Av h)
theorem Lp:∀(names:List (Str×NameKind)) (L:Nat) (a acc:List (Str×Addr)),cellsFrom L names (a++acc)=cellsFrom L names a++acc
 | [],_,_,_=>rfl
 | (n,k)::r,L,a,acc=>by
  unfold cellsFrom
  split
  ·exact Lp r (L+1) ((n,L)::a) acc
  ·exact Lp r L a acc
theorem WJ(names:List (Str×NameKind))(L:Nat)(acc:List (Str×Addr)):cellsFrom L names acc=cellsFrom L names []++acc:=Lp names L [] acc
theorem Lq:∀(names:List (Str×NameKind)) (L:Nat) (acc:List (Str×Addr)) (x:Str) (c:Addr),(x,c)∈cellsFrom L names acc→(x,.cell)∈names∨(x,c)∈acc
 | [],_,_,_,_,h=> .inr h
 | (n,k)::r,L,acc,x,c,h=>by
  unfold cellsFrom at h
  split at h
  ·rename_i hk
   rcases Lq r (L+1) _ x c h with h|h
   ·exact .inl (List.mem_cons_of_mem _ h)
   ·rcases List.mem_cons.mp h with h|h
    ·cases h
     rw[eq_of_beq hk]
     exact .inl List.mem_cons_self
    ·exact .inr h
  ·rcases Lq r L _ x c h with h|h
   ·exact .inl (List.mem_cons_of_mem _ h)
   ·exact .inr h
theorem JN:∀(names:List (Str×NameKind)) (L:Nat) (acc:List (Str×Addr)) (x:Str),((x,.cell)∈names∨(acc.lookup x).isSome=true)→((cellsFrom L names acc).lookup x).isSome=true
 | [],_,_,_,h=>h.elim (fun z=>by cases z) id
 | (n,k)::r,L,acc,x,h=>by
  unfold cellsFrom
  split
  ·refine JN r (L+1) _ x ?_
   rcases h with h|h
   ·rcases List.mem_cons.mp h with h|h
    ·cases h
     exact .inr (by rw[List.lookup_cons,beq_self_eq_true];rfl)
    ·exact .inl h
   ·refine .inr ?_
    rw[List.lookup_cons]
    cases x==n with
    |true=>rfl
    |false=>exact h
  ·rename_i hk
   refine JN r L acc x ?_
   rcases h with h|h
   ·rcases List.mem_cons.mp h with h|h
    ·cases h;exact absurd rfl hk
    ·exact .inl h
   ·exact .inr h
theorem EK{α:Type}:∀{l m:List (Str×α)} {x:Str},(l++m).lookup x=match l.lookup x with|some v=>some v|none=>m.lookup x
 | [],_,_=>rfl
 | (n,k)::r,m,x=>by
  rw[List.cons_append,List.lookup_cons,List.lookup_cons]
  cases x==n with
  |true=>rfl
  |false=>exact EK
structure LcCells(X:Cx)(csc:Scope)(cs:List (Str×Addr))(s:Shared)(h1:Heap):Prop where
 at_:∀x c,cs.lookup x=some c→(csc.names.lookup x=some .cell∧s.heap.objs.size≤c∧h1.IsCell c none)∨(csc.names.lookup x≠some .cell∧X.env.cells.lookup x=some c)
 has:∀x,csc.names.lookup x=some .free∨csc.names.lookup x=some .cell→∃c,cs.lookup x=some c
 inj:∀x y c,cs.lookup x=some c→cs.lookup y=some c→x=y
theorem Su{X:Cx}{csc:Scope}{cl:List (Str×Addr)}{nc:List Str}{cap:List (Str×Nat)}{pins:List (Addr×Obj)}{σ:St}{H:Hp}{s:Shared}{o:Obj}
  (ok:LcOk X csc nc cap) (I:Inv X pins σ H s) (hc1:∀x c,cl.lookup x=some c→X.env.cells.lookup x=some c) (hc2:∀y∈csc.names,y.2=.free→(cl.lookup y.1).isSome=true):
  LcCells X csc (cellsFrom (s.heap.objs.size+1) csc.names cl) s (pushCells (s.heap.push o) csc.names):=by
 have nk:=cellsFrom_ok csc.names (s.heap.push o) (s.heap.objs.size+1) [] ⟨fun _ _ hm=> (nomatch hm),List.Pairwise.nil⟩ (by rw[Heap.size_push];exact Nat.le_refl _)
 rw[Heap.size_push] at nk
 rw[WJ]
 have split:∀x c,(cellsFrom (s.heap.objs.size+1) csc.names []++cl).lookup x=some c→((x,c)∈cellsFrom (s.heap.objs.size+1) csc.names []∧csc.names.lookup x=some .cell)∨(csc.names.lookup x≠some .cell∧cl.lookup x=some c):=fun x c e=>by
  rw[EK] at e
  cases hx:(cellsFrom (s.heap.objs.size+1) csc.names []).lookup x with
  |some v=>
   rw[hx] at e
   cases e
   have m:=Av hx
   refine .inl ⟨m,?_⟩
   rcases Lq _ _ _ _ _ m with z|z
   ·exact ok.cells _ z rfl
   ·cases z
  |none=>
   rw[hx] at e
   refine .inr ⟨fun z=>?_,e⟩
   have:=JN csc.names (s.heap.objs.size+1) [] x (.inl (Av z))
   rw[hx] at this
   cases this
 refine⟨fun x c e=>?_,fun x hx=>?_,fun x y c e1 e2=>?_⟩
 ·rcases split x c e with⟨m,k⟩| ⟨k,e⟩
  ·exact .inl ⟨k,Nat.le_of_succ_le (nk.empty x c m).2,(nk.empty x c m).1⟩
  ·exact .inr ⟨k,hc1 x c e⟩
 ·refine Option.isSome_iff_exists.mp ?_
  rw[EK]
  cases hn:(cellsFrom (s.heap.objs.size+1) csc.names []).lookup x with
  |some v=>rfl
  |none=>
   rcases hx with hx|hx
   ·exact hc2 _ (Av hx) rfl
   ·have:=JN csc.names (s.heap.objs.size+1) [] x (.inl (Av hx))
    rw[hn] at this
    cases this
 ·have old:∀z,cl.lookup z=some c→c<s.heap.objs.size:=fun z e=>by
   obtain⟨v,hv⟩:=I.cell z c (hc1 z c e)
   exact hv.lt
  rcases split x c e1 with⟨m1,_⟩| ⟨_,g1⟩<;>rcases split y c e2 with⟨m2,_⟩| ⟨_,g2⟩
  ·exact name_of_addr nk.apart m1 m2
  ·exact absurd (Nat.lt_of_lt_of_le (old y g2) (Nat.le_of_succ_le (nk.empty x c m1).2)) (Nat.lt_irrefl _)
  ·exact absurd (Nat.lt_of_lt_of_le (old x g1) (Nat.le_of_succ_le (nk.empty y c m2).2)) (Nat.lt_irrefl _)
  ·exact I.ok.inj x y c (hc1 x c g1) (hc1 y c g2)
section
variable{M:Model}{A:Around}{E:Value→Shared→Prop}{s:Shared}
theorem Py{scope:Scope}{globals:Addr}{closure:List (Str×Addr)}{qual:Str}{env:Env}{Q:Env→Shared→Prop}
  (hQ:Q (newEnv scope s.heap.objs.size globals (cellsFrom (s.heap.objs.size+1) scope.names closure) qual none .none (some env) builtinsNs) {s with heap:=pushCells (s.heap.push {cls:=.type "dict",data:=.dict #[]}) scope.names}):
  wpAny M A (newFunctionEnv scope globals closure [] qual none .none (some env)) Q E s:=by
 simp only[newFunctionEnv,Option.isSome_some,if_true]
 refine wpAny_bind (wpAny_alloc ?_)
 refine wpAny_bind (wpAny_layCells _ (fun name kind cells=>by cases hkc:kind==NameKind.cell<;>simp[hkc]) _ _ _ _ ?_)
 rw[show({s with heap:=s.heap.push {cls:=.type "dict",data:=.dict #[]}}:Shared).heap.objs.size=s.heap.objs.size+1 from Heap.size_push ..]
 refine wpAny_bind ?_
 rw[List.forIn_nil]
 exact wpAny_pure (wpAny_pure hQ)
end
theorem WK{X:Cx}{csc:Scope}{cl:List (Str×Addr)}{nc:List Str}{cap:List (Str×Nat)}{pins:List (Addr×Obj)}{σ:St}{H:Hp}{s:Shared}{h1:Heap}{fp:List Addr}
  (ok:LcOk X csc nc cap) (I:Inv X pins σ H s) (C:LcCells X csc cl s h1)
  (hf:∀b∈fp,Hv X pins H b) (ho:∀b∈fp,∃o,s.heap.get? b=some o)
  (hn:h1.Ns s.heap.objs.size (fun _=>none)) (kept:∀b o,s.heap.get? b=some o→h1.get? b=some o):
  Inv (Ss X csc cl (Ak nc cap) s H fp) [] (Hy nc σ cap) H {s with heap:=h1}:=by
 have frel:∀x,csc.names.lookup x=some .free→(compEnvC csc cl s.heap.objs.size X.env).kindOf x=some .cell∨(compEnvC csc cl s.heap.objs.size X.env).kindOf x=some .free:=fun x h=>Eg h
 have back:∀{names:List (Str×NameKind)} {x:Str},((names.map fun(n,k)=>if(k==NameKind.free&&X.env.scope.kind==.function&&X.env.kindOf n==some .cell) then(n,NameKind.cell) else(n,k)).lookup x=some .cell∨
   (names.map fun(n,k)=>if(k==NameKind.free&&X.env.scope.kind==.function&&X.env.kindOf n==some .cell) then(n,NameKind.cell) else(n,k)).lookup x=some .free)→
   names.lookup x=some .free∨names.lookup x=some .cell:=by
  intro names
  induction names with
  |nil=>intro x h;simp at h
  |cons p r ih=>
   obtain⟨n,k⟩:=p
   intro x h
   rw[List.map_cons] at h
   cases hx:x==n with
   |true=>
    rw[List.lookup_cons,hx]
    have e:∀(kk:NameKind) (l:List (Str×NameKind)),((n,kk)::l).lookup x=some kk:=fun kk l=>by rw[List.lookup_cons,hx]
    by_cases hcnd:(k==NameKind.free&&X.env.scope.kind==.function&&X.env.kindOf n==some .cell)=true
    ·left
     have:(k==NameKind.free)=true:=by
      revert hcnd;cases(k==NameKind.free)<;>simp
     show some k=some .free
     rw[eq_of_beq this]
    ·simp only[if_neg hcnd] at h
     rw[e,] at h
     exact h.symm
   |false=>
    have e:∀(kk:NameKind) (l:List (Str×NameKind)),((n,kk)::l).lookup x=l.lookup x:=fun kk l=>by rw[List.lookup_cons,hx]
    by_cases hcnd:(k==NameKind.free&&X.env.scope.kind==.function&&X.env.kindOf n==some .cell)=true
    ·simp only[if_pos hcnd] at h
     rw[e] at h
     rw[e]
     exact ih h
    ·simp only[if_neg hcnd] at h
     rw[e] at h
     rw[e]
     exact ih h
 refine⟨⟨I.ok.mod,ok.kind,I.ok.glob,I.ok.blt,Nat.le_refl _,C.inj,fun x hx=>C.has x (back hx),fun x c e1 e2=>?_,I.ok.hd,I.ok.frames,.inl rfl,fun b hb=> ⟨?_,fun x c e=>?_⟩,
  I.bs,Nat.le_trans I.ok.bsz I.sz,fun b o e hb=>?_,fun b hb z=>?_,I.stack,I.stkFree⟩,rfl,I.bare,⟨fun b o e _ _ _=>kept b o e,fun b o e _ _ _=> ⟨o.slots,kept b o e⟩,fun b o e n _=>n,fun b o e _=> ⟨o,kept b o e⟩,fun _ _ e=>e,fun _ _ _ e=>e,fun b ps e=> ⟨#[],by rw[show H b=some (HO.tbl ps) from e];simp⟩⟩,
  ⟨_,hn,fun i x v e1 e2 e3=>?_⟩,fun x c e=>?_,I.hok.fresh (Nat.le_refl _),fun x c e=> (C.at_ x c e).elim (fun z=>I.hok.fresh z.2.1) (fun z=>I.freeC x c z.2),fun p hp=>absurd (show p∈([]:List (Addr×Obj)) from hp) (by simp),I.hok.kept kept,?_⟩
 ·rcases C.at_ x c e2 with z|z
  ·exact z.2.1
  ·exact absurd (KS e1) z.1
 ·obtain⟨o,e⟩:=ho b hb
  exact Nat.ne_of_lt (Heap.lt_size e)
 ·rcases C.at_ x c e with z|z
  ·obtain⟨o,e⟩:=ho b hb
   exact Nat.ne_of_gt (Nat.lt_of_lt_of_le (Heap.lt_size e) z.2.1)
  ·exact(hf b hb).2.2.2.2.1 x c z.2
 ·have h1:=(hf b hb).2.2.2.1
  rcases h1 with z|z
  ·exact I.ok.noex b o e z
  ·exact absurd (Nat.lt_of_lt_of_le (Heap.lt_size e) (Nat.le_trans I.ok.bsz z)) (Nat.lt_irrefl _)
 ·have h1:=(hf b hb).2.1
  have h2:=(hf b hb).2.2.1
  exact(List.mem_cons.mp (I.stkSub b z)).elim h1 h2
 ·--the names
  have hlen:nc.length≤i:=by
   by_cases hi:i<nc.length
   ·have e2':(List.replicate nc.length (none:Option V)++CO σ cap)[i]?=some (some v):=e2
    rw[List.getElem?_append_left (by simpa using hi),List.getElem?_replicate] at e2'
    split at e2'<;>cases e2'
   ·omega
  have e1':(nc++cap.map (·.1))[i]?=some x:=e1
  have e2':(List.replicate nc.length (none:Option V)++CO σ cap)[i]?=some (some v):=e2
  rw[List.getElem?_append_right hlen,List.getElem?_map] at e1'
  rw[List.getElem?_append_right (by simpa using hlen)] at e2'
  simp only[List.length_replicate] at e2'
  unfold CO at e2'
  rw[List.getElem?_map] at e2'
  cases hp:cap[i-nc.length]? with
  |none=>rw[hp] at e1';cases e1'
  |some p=>
   rw[hp] at e1' e2'
   have e1'':p.1=x:=Option.some.inj e1'
   have e2'':(σ[p.2]?).join=some v:=Option.some.inj e2'
   subst e1''
   obtain⟨c1,c2⟩:=ok.caps p (List.mem_of_getElem? hp)
   have hσ:σ[p.2]?=some (some v):=by
    cases q:σ[p.2]? with
    |none=>rw[q] at e2'';cases e2''
    |some w'=>rw[q] at e2'';exact congrArg some e2''
   have vis:X.env.scope.names.lookup p.1=some .cell∨X.env.scope.names.lookup p.1=some .free:=ok.free _ (Av c2) rfl
   obtain⟨m,_,hl⟩:=I.loc
   obtain⟨u,r,l⟩:=hl p.2 p.1 v c1 hσ (vis.elim (fun z=> .inr (.inl z)) fun z=> .inr (.inr z))
   refine⟨u,r,.inr ⟨frel p.1 c2,?_⟩⟩
   rcases l with⟨k,_⟩| ⟨_,c,e,z⟩
   ·have k:X.env.scope.names.lookup p.1=some .local:=k
    rcases vis with q|q<;> (rw[q] at k;cases k)
   ·obtain⟨c',e''⟩:=C.has p.1 (.inl c2)
    have q:X.env.cells.lookup p.1=some c':=by
     rcases C.at_ _ _ e'' with z|z
     ·rw[c2] at z;cases z.1
     ·exact z.2
    rw[e] at q;cases q
    obtain⟨o,z1,z2⟩:=z
    exact⟨c,e'',o,kept c o z1,z2⟩
 ·rcases C.at_ x c e with z|z
  ·exact⟨none,z.2.2⟩
  ·obtain⟨v,o,z1,z2⟩:=I.cell x c z.2
   exact⟨v,o,kept c o z1,z2⟩
 ·show(List.replicate nc.length (none:Option V)++CO σ cap).length=(nc++cap.map (·.1)).length
  unfold CO
  simp
section
variable{prog:Program}{w:World}{A:Around}{R:Result→Shared→Prop}{s:Shared}
abbrev Sv:Value→Shared→Prop:=fun _ _=>False
theorem De{elt target iter:Expr}{ifs:List Expr}{scope:Scope}{pos:Pos}{it acc:Value}{env:Env}(I:Nat→Shared→Prop)
  (turn:∀n s,I n s→wpAny (model prog w) A (pyNext it) (fun r s₁=>match r with
   |none=>R (.ok .next) s₁
   |some v=>wpAny (model prog w) A (letOwnedTupleGo target it v) (fun _ s₂=>wpAny (model prog w) A (assign target env v) (fun _ s₃=>
     wpAny (model prog w) A (forIn ifs true fun c r=>if r=true then do let ok←isTrue c env (eval c env);pure (ForInStep.yield ok) else pure (ForInStep.yield r)) (fun ok s₄=>
      if ok=true then wpAny (model prog w) A (eval elt env) (fun x s₅=>
       wpAny (model prog w) A (call (.builtin "list.append") [acc,x]) (fun _ s₆=>∃m,m<n∧I m s₆) Sv s₅) Sv s₄
      else∃m,m<n∧I m s₄) Sv s₃) Sv s₂) Sv s₁) Sv s)
  (n:Nat) (h:I n s):
  codeAny (model prog w) A (.compLoop (.ListComp elt [⟨target,iter,ifs,0⟩] scope pos) 0 it acc env) R s:=by
 refine codeAny_loop rfl I (fun n s hI=>?_) n h
 show wpAny _ A ((compTurn (.ListComp elt [⟨target,iter,ifs,0⟩] scope pos) 0 it acc env).onRaise (fun x=>do noteFrame x env;theTreesLotGoes x)) _ _ s
 refine wpAny_noted (wpAny_noRaise ?_)
 rw[compTurn_list]
 refine wpAny_bind (wpAny_standAt (wpAny_bind (Ay (turn n s hI) fun r s₁ h₁=>?_)))
 cases r with
 |none=>exact wpAny_pure h₁
 |some v=>
  refine wpAny_bind (Ay h₁ fun _ s₂ h₂=>wpAny_bind (Ay h₂ fun _ s₃ h₃=>wpAny_bind (Ay h₃ fun ok s₄ h₄=>?_)))
  cases ok with
  |true=>
   rw[if_pos rfl] at h₄ ⊢
   exact wpAny_bind (wpAny_bind (Ay h₄ fun x s₅ h₅=>wpAny_bind (Ay h₅ fun _ s₆ h₆=>wpAny_pure (wpAny_pure ⟨rfl,h₆⟩))))
  |false=>
   rw[if_neg Bool.false_ne_true] at h₄ ⊢
   exact wpAny_bind (wpAny_pure (wpAny_pure ⟨rfl,h₄⟩))
end
def WL(X:Cx)(ifs:List Expr)(t:TT):Prop:=
 ∀(pins:List (Addr×Obj)) (s:Shared) (σ:St) (H:Hp) (Q:Bool→Hp→Prop),Inv X pins σ H s→t σ H Q→
  wpAny (model X.prog X.w) X.A (forIn ifs true fun c r=>if r=true then do let ok←isTrue c X.env (eval c X.env);pure (ForInStep.yield ok) else pure (ForInStep.yield r)) (TP X pins σ Q) X.xe s
def Ys:TT:=fun _ H Q=>Q true H
theorem Sw{X:Cx}:WL X [] Ys:=fun _ _ _ H _ I h=>wpAny_tests_nil ⟨H,I,h⟩
theorem Sx{X:Cx}{c:Expr}{t:TT}(h:PT X c t):WL X [c] t:=fun pins s σ H Q I q=>wpAny_tests_one (h pins s σ H Q I q)
def Ul(nc:List Str)(cap:List (Str×Nat))(g:TG)(tt:TT)(te:TE)(σ:St)(J:It)(p:Addr)(H:Hp)(Q:Hp→Prop):Prop:=
 ∃W:Nat→Nat→Hp→Prop,(∃m,W 0 m (upd H p (.lst [])))∧∀i m H2,W i m H2→
  (J.stop i H2∧Q H2)∨(J.go i H2∧∃N:Hp→Prop,(∀H',N H'→∃m',m'<m∧W (i+1) m' H')∧∀x H3,J.yld i H2 x H3→g x (Hy nc σ cap) H3 fun σ4 H4=> (∃pre:St,pre.length=nc.length∧σ4=pre++CO σ cap)∧tt σ4 H4 fun b H5=>
   if b=true then te σ4 H5 fun y H6=>∃ys,H6 p=some (.lst ys)∧ys.length<sizeLine∧N (upd H6 p (.lst (ys++[y])))
   else N H5)
def aY(wi:TI)(nc:List Str)(cap:List (Str×Nat))(g:TG)(tt:TT)(te:TE):TE:=fun σ H Q=>wi σ H fun J H1=>∀p,H1 p=none→Ul nc cap g tt te σ J p H1 (Q (.ref p))
section
variable{X:Cx}{elt tg iter:Expr}{ifs:List Expr}{csc:Scope}{nc:List Str}{cap:List (Str×Nat)}{wi:TI}{g:TG}{tt:TT}{te:TE}{pos:Pos}
theorem KU{pins:List (Addr×Obj)}{σ:St}{s2:Shared}{H2:Hp}{it:Addr}{fp:List Addr}{tn:Nat→Heap→Prop}{J:It}{cl:List (Str×Addr)}{Q:Hp→Prop}{RR:Value→Addr→Result→Shared→Prop}{E:Value→Shared→Prop}
  (hc:X.calm=true) (ok:LcOk X csc nc cap) (hg:∀X',LcCx X csc (Ak nc cap) X'→PG X' tg g) (ht:∀X',LcCx X csc (Ak nc cap) X'→WL X' ifs tt) (he:∀X',LcCx X csc (Ak nc cap) X'→PE X' elt te)
  (hc1:∀x c,cl.lookup x=some c→X.env.cells.lookup x=some c) (hc2:∀y∈csc.names,y.2=.free→(cl.lookup y.1).isSome=true)
  (I2:Inv X pins σ H2 s2) (T:Turn X.prog X.w X.K tg J fp it tn) (st2:tn 0 s2.heap) (f2:∀b∈fp,Hv X pins H2 b) (run:Ul nc cap g tt te σ J s2.heap.objs.size H2 Q)
  (out:∀(C:Addr) (H':Hp) (s':Shared),Inv X pins σ H' s'→(∃m,s'.heap.Ns C m)→H' C=none→C≠X.env.locals→X.s₀.heap.objs.size≤C→(∀x c,X.env.cells.lookup x=some c→c≠C)→(∀p∈X.pn++pins,p.1≠C)→Q H'→RR (.ref s2.heap.objs.size) C (.ok .next) s'):
  wpAny (model X.prog X.w) X.A (newList []) (fun acc s₃=>wpAny (model X.prog X.w) X.A (newFunctionEnv csc X.env.globals cl [] X.env.qual none .none (some X.env)) (fun cenv s₄=>
   codeAny (model X.prog X.w) X.A (.compStart (.ListComp elt [⟨tg,iter,ifs,0⟩] csc pos) 0 (.ref it) acc {cenv with scope:=relabel csc X.env}) (RR acc cenv.locals) s₄) E s₃) E s2:=by
 refine wpAny_newObj_type ?_
 have hp:H2 s2.heap.objs.size=none:=I2.hok.fresh (Nat.le_refl _)
 have I3:Inv X pins σ (upd H2 s2.heap.objs.size (.lst [])) {s2 with heap:=s2.heap.push {cls:=.type "list",dict:=none,data:=.seq ([]:List Value).toArray}}:=
  I2.laid (t':=s2.toks) (fun b u e=>Heap.get?_push_of_some _ e) (Nat.le_refl _) ⟨Nat.zero_le _,[],0,.nil,Heap.get?_push_size _ rfl⟩
 generalize hs3:({s2 with heap:=s2.heap.push {cls:=.type "list",dict:=none,data:=.seq ([]:List Value).toArray}}:Shared)=s3 at I3
 have hk3:∀b o,s2.heap.get? b=some o→s3.heap.get? b=some o:=fun b o e=>by rw[←hs3];exact Heap.get?_push_of_some _ e
 generalize hp0:s2.heap.objs.size=p at*
 have hlt:∀b∈fp,b<p:=fun b hb=>by
  obtain⟨o,e,_⟩:=T.obj 0 _ st2 b hb
  rw[←hp0];exact Heap.lt_size e
 have f3:∀b∈fp,Hv X pins (upd H2 p (.lst [])) b:=fun b hb=> ⟨by rw[AQ (Nat.ne_of_lt (hlt b hb))];exact(f2 b hb).1,(f2 b hb).2⟩
 have st3:tn 0 s3.heap:=T.keep 0 _ _ st2 fun b _ o e=>hk3 b o e
 refine Py ?_
 have LC:=Su (o:={cls:=.type "dict",data:=.dict #[]}) ok I3 hc1 hc2
 have hns:(pushCells (s3.heap.push {cls:=.type "dict",data:=.dict #[]}) csc.names).Ns s3.heap.objs.size (fun _=>none):=(Heap.Ns.new s3.heap (.type "dict")).keeps (pushCells_keeps _ _)
 have kept4:∀b o,s3.heap.get? b=some o→(pushCells (s3.heap.push {cls:=.type "dict",data:=.dict #[]}) csc.names).get? b=some o:=fun b o e=>pushCells_keeps _ _ b o (Heap.get?_push_of_some _ e)
 generalize hcs:cellsFrom (s3.heap.objs.size+1) csc.names cl=cs at LC ⊢
 generalize hh1:pushCells (s3.heap.push {cls:=.type "dict",data:=.dict #[]}) csc.names=h₁ at LC hns kept4 ⊢
 have hcc:∀x c,cs.lookup x=some c→X.env.cells.lookup x=some c∨s3.heap.objs.size≤c:=fun x c e=> (LC.at_ x c e).elim (fun z=> .inr z.2.1) (fun z=> .inl z.2)
 have I4:Inv (Ss X csc cs (Ak nc cap) s3 (upd H2 p (.lst [])) fp) [] (Hy nc σ cap) (upd H2 p (.lst [])) {s3 with heap:=h₁}:=
  WK ok I3 LC f3 (fun b hb=> (T.obj 0 _ st3 b hb).imp fun o q=>q.1) hns kept4
 have st4:tn 0 h₁:=T.keep 0 _ _ st3 fun b _ o e=>kept4 b o e
 generalize hX':Ss X csc cs (Ak nc cap) s3 (upd H2 p (.lst [])) fp=X' at I4
 have is':LcCx X csc (Ak nc cap) X':=⟨_,_,_,_,hX'.symm⟩
 have hP:X'.prog=X.prog:=by rw[←hX'];rfl
 have hw:X'.w=X.w:=by rw[←hX'];rfl
 have hK:X'.K=X.K:=by rw[←hX'];rfl
 have hA:X'.A=X.A:=by rw[←hX'];rfl
 have hcal:X'.calm=true:=by rw[←hX'];exact hc
 have hE:X'.env=compEnvC csc cs s3.heap.objs.size X.env:=by rw[←hX'];rfl
 have hxe:X'.xe=Sv:=by rw[←hX'];rfl
 have hfs:X'.fs=FR X.stack:=by rw[←hX'];rfl
 have hex:X'.ex=fp:=by rw[←hX'];rfl
 have hs0:X'.s₀=s3:=by rw[←hX'];rfl
 have hH0:X'.H₀=upd H2 p (.lst []):=by rw[←hX'];rfl
 have hpn:X'.pn=[]:=by rw[←hX'];rfl
 have stat:∀{H':Hp},(∀b∈fp,H' b=none)→∀b∈fp,Hv X' [] H' b:=fun{H'} hn b hb=>by
  obtain⟨_,q2,q3,q4,q5,q6⟩:=f3 b hb
  obtain⟨o,e,_⟩:=T.obj 0 _ st3 b hb
  refine⟨hn b hb,?_,?_,?_,?_,?_⟩
  ·rw[hE];exact Nat.ne_of_lt (Heap.lt_size e)
  ·rw[hfs];exact fun z=> (List.mem_cons.mp (I3.stkSub b z)).elim q2 q3
  ·rw[hex];exact .inl hb
  ·rw[hE];exact fun x c e'=> (hcc x c e').elim (fun z=>q5 x c z) fun z=>Nat.ne_of_gt (Nat.lt_of_lt_of_le (Heap.lt_size e) z)
  ·rw[hpn];intro p hp;simp at hp
 obtain⟨W,⟨m0,w0⟩,turn⟩:=run
 have loop:∀s4:Shared,s4={s3 with heap:=h₁}→codeAny (model X.prog X.w) X.A (.compLoop (.ListComp elt [⟨tg,iter,ifs,0⟩] csc pos) 0 (.ref it) (.ref p) (compEnvC csc cs s3.heap.objs.size X.env)) (RR (.ref p) s3.heap.objs.size) s4:=by
  rintro s4 rfl
  refine De (fun n s'=>∃i H',Inv X' [] (Hy nc σ cap) H' s'∧tn i s'.heap∧(∀b∈fp,H' b=none)∧W i n H') ?_ m0 ⟨0,_,I4,st4,fun b hb=> (f3 b hb).1,w0⟩
  rintro n s5 ⟨i,H5,I5,st5,fr5,w5⟩
  rcases turn i n H5 w5 with⟨stop,qn⟩| ⟨go,N,hN,step⟩
  ·have q:=T.done X' hP hw hK hcal i [] s5 (Hy nc σ cap) H5 Sv I5 (stat fr5) st5 stop
   rw[hA] at q
   refine Ay q fun r s6 ⟨hr,I6⟩=>?_
   subst hr
   have B:=I6.base
   rw[hfs,hex,hs0,hH0] at B
   have I7:Inv X pins σ H5 s6:=by
    refine I3.call' (ch:=fp) (by rw[I6.os,hs0]) B (by have:=I6.hok;rw[hP,hw] at this;exact this) I6.bare fun b hb=>?_
    obtain⟨_,q2,q3,q4,q5,q6⟩:=f3 b hb
    exact⟨q4,q2,q5,q6⟩
   obtain⟨m,hm,_⟩:=I6.loc
   have hCf:=I6.free
   rw[hE] at hm hCf
   refine out _ H5 s6 I7 ⟨m,hm⟩ hCf (Nat.ne_of_gt I3.lt) I3.sz (fun x c e z=>?_) (fun p hp z=>?_) qn
   ·obtain⟨v,hv⟩:=I3.cell x c e
    exact absurd hv.lt (by rw[z];exact Nat.lt_irrefl _)
   ·exact absurd (Heap.lt_size (I3.pin p hp).1) (by rw[z];exact Nat.lt_irrefl _)
  ·have q:=T.item X' hP hw hK hcal i [] s5 (Hy nc σ cap) H5 Sv I5 (stat fr5) st5 go
   rw[hA] at q
   refine Ay q fun r s6 ⟨u,hr,h6⟩=>?_
   subst hr
   refine Ay h6 fun _ s7 ⟨x,H7,I7,r7,y7,st7,fr7⟩=>?_
   have I7':=I7.pinned (stat fr7) (T.obj _ _ st7)
   have q8:=hg X' is' _ s7 _ H7 x u _ I7' r7 (step x H7 y7)
   rw[hP,hw,hA,hE,hxe] at q8
   refine Ay q8 fun _ s8 ⟨σ8,H8,I8,⟨pre,hpl,hσ8⟩,q8⟩=>?_
   have q9:=ht X' is' _ s8 σ8 H8 _ I8 q8
   rw[hP,hw,hA,hE,hxe] at q9
   have wk:∀{s':Shared} {H':Hp} {pl:List (Addr×Obj)},Inv X' pl σ8 H' s'→Inv X' pl (Hy nc σ cap) H' s':=fun{s' H' pl} J'=>by
    refine J'.weak (by rw[J'.len,I4.len]) fun j v e=>?_
    rw[hσ8]
    by_cases hj:j<nc.length
    ·have e:(List.replicate nc.length (none:Option V)++CO σ cap)[j]?=some (some v):=e
     rw[List.getElem?_append_left (by simpa using hj),List.getElem?_replicate] at e
     split at e<;>cases e
    ·have e:(List.replicate nc.length (none:Option V)++CO σ cap)[j]?=some (some v):=e
     rw[List.getElem?_append_right (by simpa using hj)] at e
     rw[List.getElem?_append_right (by omega),hpl]
     simpa using e
   have again:∀{s':Shared} {H':Hp} {m':Nat},Inv X' ([]++GY fp s7.heap) σ8 H' s'→m'<n→W (i+1) m' H'→
     ∃m,m<n∧∃i H',Inv X' [] (Hy nc σ cap) H' s'∧tn i s'.heap∧(∀b∈fp,H' b=none)∧W i m H':=fun{s' H' m'} J' hm hW=>by
    refine⟨m',hm,i+1,H',wk J'.unpinned,T.keep _ _ _ st7 fun b hb o e=> (J'.pin (b,o) (List.mem_append_right _ (List.mem_append_right _ (DB hb e)))).1,fun b hb=>?_,hW⟩
    obtain⟨o,e,d⟩:=T.obj _ _ st7 b hb
    exact(J'.pin (b,o) (List.mem_append_right _ (List.mem_append_right _ (DB hb e)))).2.1
   refine Ay q9 fun b s9 ⟨H9,I9,q9⟩=>?_
   cases b with
   |false=>
    rw[if_neg Bool.false_ne_true] at q9 ⊢
    obtain⟨m',hm,hW⟩:=hN _ q9
    exact again I9 hm hW
   |true=>
    rw[if_pos rfl] at q9 ⊢
    have qe:=he X' is' _ s9 σ8 H9 _ I9 q9
    rw[hP,hw,hA,hE,hxe] at qe
    refine Ay qe fun u s10 ⟨y,H10,I10,ry,ys,hys,hlen,hNn⟩=>?_
    obtain⟨m',hm,hW⟩:=hN _ hNn
    have qa:=IQ (X:=X') _ s10 σ8 H10 (.ref p) [y] (.ref p) [u] (fun _ H'=>H'=upd H10 p (.lst (ys++[y]))) I10 rfl (.cons ry .nil) ⟨p,ys,y,rfl,rfl,hys,hlen,rfl⟩
    rw[hP,hw,hA,hxe] at qa
    refine Ay qa fun _ s11 ⟨_,H11,I11,_,e11⟩=>?_
    subst e11
    exact again I11 hm hW
 have st5:=loop _ rfl
 exact codeAny_compStart_list (loop _ rfl) (T.self X.A 0 _ _ _ st4 (loop _ rfl))
end
section
variable{X:Cx}{elt tg iter:Expr}{ifs:List Expr}{csc:Scope}{nc:List Str}{cap:List (Str×Nat)}{wi:TI}{g:TG}{tt:TT}{te:TE}{pos:Pos}
theorem LcOk.clos{pins:List (Addr×Obj)}{σ:St}{H:Hp}{s:Shared}(ok:LcOk X csc nc cap)(I:Inv X pins σ H s):
  ∃cl,closureFor csc X.env=pure cl∧(∀x c,cl.lookup x=some c→X.env.cells.lookup x=some c)∧∀y∈csc.names,y.2=.free→(cl.lookup y.1).isSome=true:=
 Sr fun y hy hf=>I.ok.has y.1 (ok.free y hy hf)
theorem Yt(hc:X.calm=true)(ok:LcOk X csc nc cap)(hi:PI X tg iter wi)(hg:∀X',LcCx X csc (Ak nc cap) X'→PG X' tg g)(ht:∀X',LcCx X csc (Ak nc cap) X'→WL X' ifs tt)(he:∀X',LcCx X csc (Ak nc cap) X'→PE X' elt te)
  (hs:∀x,foldedSetIterable iter X.env x=pure x:=by intro _;rfl):PE X (.ListComp elt [⟨tg,iter,ifs,0⟩] csc pos) (aY wi nc cap g tt te):=by
 intro pins s σ H Q I h
 obtain⟨cl,hcl,hc1,hc2⟩:=ok.clos I
 rw[eval_ListComp]
 refine wpAny_comprehension_free (use:=none) rfl hs hcl ok.kind ok.locals (Ay (hi pins s σ H _ I h) fun v s1 h1=>Ay h1 fun itv s2 h2=>?_)
 obtain⟨it,fp,tn,J,H2,e,I2,T,st2,f2,run⟩:=h2
 subst e
 refine KU (RR:=fun acc C=>compPost (model X.prog X.w) X.A X.xe none (EP X pins σ Q) acc C) hc ok hg ht he hc1 hc2 I2 T st2 f2 (run _ (I2.hok.fresh (Nat.le_refl _))) ?_
 intro C H' s' I' hn h1 h2 h3 h4 h5 q
 obtain⟨m,hn⟩:=hn
 refine⟨m,hn,fun h' sb=> ⟨.ref s2.heap.objs.size,H',?_,rfl,q⟩⟩
 exact I'.turned (t':=s'.toks) (fun b o hb e=> (sb.2 b hb).trans e) h1 h2 (.inr h3) h4 h5
def WM(i:Nat)(te:TE):TS:=fun D σ H=>te σ H fun v H1=>D.nx (σ.set i (some v)) H1
theorem KW{i:Nat}{x:Str}{px spos:Pos}(hN:X.N.Nodup)(hx:X.N[i]?=some x)(hk:X.env.scope.names.lookup x=some .local)(hsw:swapsWith (.ListComp elt [⟨tg,iter,ifs,0⟩] csc pos) (some (.Name x px)) spos.line X.env=pure true)
  (hc:X.calm=true) (ok:LcOk X csc nc cap) (hi:PI X tg iter wi) (hg:∀X',LcCx X csc (Ak nc cap) X'→PG X' tg g) (ht:∀X',LcCx X csc (Ak nc cap) X'→WL X' ifs tt) (he:∀X',LcCx X csc (Ak nc cap) X'→PE X' elt te)
  (hs:∀x,foldedSetIterable iter X.env x=pure x:=by intro _;rfl):PS X (.Assign [.Name x px] (.ListComp elt [⟨tg,iter,ifs,0⟩] csc pos) spos) (WM i (aY wi nc cap g tt te)):=by
 intro pins s σ H D I h
 obtain⟨cl,hcl,hc1,hc2⟩:=ok.clos I
 rw[exec_Assign_Name_used _ _ _ _ hsw]
 refine wpAny_bind (wpAny_standAt (wpAny_bind ?_))
 show wpAny _ X.A (do let _←comprehension (.ListComp elt [⟨tg,iter,ifs,0⟩] csc pos) csc X.env _ (newList []) false (eval iter X.env) (some (assign (.Name x px) X.env))) _ _ s
 refine wpAny_bind (Ay (wpAny_comprehension_free (use:=some (assign (.Name x px) X.env)) (Q:=fun _ s'=>SP X pins D .next s') rfl hs hcl ok.kind ok.locals
  (Ay (hi pins s σ H _ I h) fun v s1 h1=>Ay h1 fun itv s2 h2=>?_)) fun _ s' hq=>wpAny_pure (wpAny_pure hq))
 obtain⟨it,fp,tn,J,H2,e,I2,T,st2,f2,run⟩:=h2
 subst e
 refine KU (RR:=fun acc C=>compPost (model X.prog X.w) X.A X.xe (some (assign (.Name x px) X.env)) (fun _ s'=>SP X pins D .next s') acc C) hc ok hg ht he hc1 hc2 I2 T st2 f2 (run _ (I2.hok.fresh (Nat.le_refl _))) ?_
 intro C H' s' I' hn h1 h2 h3 h4 h5 q
 obtain⟨m,hn⟩:=hn
 show wpAny _ X.A (assign (.Name x px) X.env (.ref s2.heap.objs.size)) _ _ _
 refine wpAny_assign_Name (IG I' hN hx (.inl hk) (v:=.ref s2.heap.objs.size) rfl (fun s'' I'' ha=>?_) (.inr hk))
 obtain⟨a,sb,ha⟩:=ha
 have hCa:C≠a:=by
  rcases ha with ha|ha
  ·rw[ha];exact h2
  ·exact fun z=>h4 x a ha z.symm
 refine⟨m,hn.sameBut sb hCa,fun h' sb'=> ⟨_,H',?_,q⟩⟩
 exact I''.turned (t':=s''.toks) (fun b o hb e=> (sb'.2 b hb).trans e) h1 h2 (.inr h3) h4 h5
end
section
variable{K:PySem.W.Frag}{nc:List Str}{cap:List (Str×Nat)}{g:TG}{tt:TT}{te:TE}{σ:St}{p a:Addr}{H:Hp}{Q:Hp→Prop}
end
def DK(h h':Heap):Prop:=h.objs.size≤h'.objs.size∧∀e,e<h.objs.size→(h'.objs[e]?).map (·.dict)=(h.objs[e]?).map (·.dict)
theorem DK.refl(h:Heap):DK h h:=⟨Nat.le_refl _,fun _ _=>rfl⟩
theorem DK.trans{a b c:Heap}(x:DK a b)(y:DK b c):DK a c:=⟨Nat.le_trans x.1 y.1,fun e he=> (y.2 e (Nat.lt_of_lt_of_le he x.1)).trans (x.2 e he)⟩
theorem DK.push{h:Heap}{o:Obj}:DK h (h.push o):=by
 refine⟨by rw[Heap.size_push];omega,fun e he=>?_⟩
 show((h.objs.push o)[e]?).map _=_
 rw[Array.getElem?_push,if_neg (by omega)]
theorem DK.upd{h:Heap}{a:Addr}{f:Obj→Obj}(hf:∀o,(f o).dict=o.dict):DK h (h.update a f):=by
 obtain⟨objs,l⟩:=h
 refine⟨by show objs.size≤(objs.modify a f).size;simp,fun e he=>?_⟩
 show((objs.modify a f)[e]?).map _=_
 rw[Array.getElem?_modify]
 split
 ·cases objs[e]? with
  |none=>rfl
  |some o=>exact congrArg some (hf o)
 ·rfl
theorem NH{h:Heap}{e:Addr}{o:Obj}(q:h.get? e=some o):h.objs[e]?=some o:=by
 unfold Heap.get? at q
 split at q
 ·cases q
 ·exact q
theorem DK.at_{h h':Heap}{e:Addr}{o o':Obj}(x:DK h h')(q:h.get? e=some o)(q':h'.get? e=some o'):o'.dict=o.dict:=by
 have z:=x.2 e (Heap.lt_size q)
 rw[NH q,NH q'] at z
 exact Option.some.inj z
inductive KD{α:Type}:Sem α→Prop
 |pure (a:α):KD (.pure a)
 |raise (e:Value):KD (.raise e)
 |unsup (x:String):KD (.unsupported x)
 |load {a:Addr} {p:Option Value} {k:Obj→Sem α}:(∀o,KD (k o))→KD (.load a p k)
 |upd {a:Addr} {p:Option Value} {f:Obj→Obj} {k:Unit→Sem α}:(∀o,(f o).dict=o.dict)→KD (k ())→KD (.update a p f k)
 |alloc {o:Obj} {k:Addr→Sem α}:(∀a,KD (k a))→KD (.alloc o k)
 |stack {k:List (Code×Pos)→Sem α}:(∀l,KD (k l))→KD (.stack k)
theorem KD.bind{α β:Type}{m:Sem α}{f:α→Sem β}(h:KD m)(hf:∀a,KD (f a)):KD (m>>=f):=by
 show KD (Sem.bind m f)
 induction h with
 |pure a=>exact hf a
 |raise e=>exact .raise e
 |unsup x=>exact .unsup x
 |load _ ih=>exact .load ih
 |upd q _ ih=>exact .upd q ih
 |alloc _ ih=>exact .alloc ih
 |stack _ ih=>exact .stack ih
theorem KD.wp{α:Type}{M:Model}{Γ:PySem.Ctx}{Q:α→Pos→Shared→Prop}{E:Value→Pos→Shared→Prop}{h0:Heap}{t:Sem α}(h:KD t):∀{p:Pos} {s:Shared},DK h0 s.heap→Sem.wp M Γ t Q E p s→Sem.wp M Γ t (fun a p' s'=>Q a p' s'∧DK h0 s'.heap) E p s:=by
 induction h with
 |pure a=>intro p s d q;exact⟨q,d⟩
 |raise e=>intro p s d q;exact q
 |unsup x=>intro p s d q;exact q
 |load _ ih=>intro p s d q;obtain⟨o,e,q⟩:=q;exact⟨o,e,ih o d q⟩
 |upd hf _ ih=>intro p s d q;exact⟨q.1,ih (d.trans (.upd hf)) q.2⟩
 |alloc _ ih=>intro p s d q;exact ih _ (d.trans .push) q
 |stack _ ih=>intro p s d q;exact ih _ d q
theorem KD.any{α:Type}{M:Model}{A:Around}{Q:α→Shared→Prop}{E:Value→Shared→Prop}{s:Shared}{t:Sem α}(h:KD t)(q:wpAny M A t Q E s):wpAny M A t (fun a s'=>Q a s'∧DK s.heap s'.heap) E s:=
 fun Γ p g=>h.wp (.refl _) (q Γ p g)
theorem KD.ite{α:Type}{c:Prop} [Decidable c]{a b:Sem α}(ha:KD a)(hb:KD b):KD (if c then a else b):=by split<;>assumption
theorem KY(v:Value):KD (fieldsOf v):=by
 unfold fieldsOf
 split
 ·refine KD.bind (.load fun o=> .pure o) fun o=>?_
  split
  ·exact .pure _
  ·exact .unsup _
 ·exact .unsup _
theorem Eh(v:Value)(i:Nat):KD (field v i):=by
 unfold field
 refine(KY v).bind fun vs=>?_
 split
 ·exact .pure _
 ·exact .unsup _
theorem Gf(f:Array Value→Array Value)(o:Obj):(Obj.mapFields f o).dict=o.dict:=by
 unfold Obj.mapFields;split<;>rfl
theorem Df(v:Value)(i:Nat)(x:Value):KD (setField v i x):=by
 unfold setField
 split
 ·unfold updateField
  refine KD.bind (.load fun o=> .pure o) fun o=>?_
  split
  ·exact .ite (.upd (Gf _) (.pure _)) (.unsup _)
  ·exact .unsup _
 ·exact .unsup _
theorem DF(e:Value)(f:Option Addr):KD (setFlight e f):=by
 unfold setFlight
 exact(Eh e 1).bind fun tb=> .ite (Df _ _ _) (.pure _)
theorem KZ:∀(l:List Env),KD (readyFrames l)
 | []=> .pure _
 |env::outer=>by
  unfold readyFrames
  split
  ·refine KD.bind (.load fun o=> .pure o) fun o=>?_
   refine .ite (.pure _) ?_
   refine KD.bind ?_ fun im=>?_
   ·unfold behindIsImport
    exact .ite (.pure _) (.ite (.pure _) ((Eh _ _).bind fun _=> .pure _))
   refine KD.bind ?_ fun bk=>?_
   ·unfold keptBack
    split
    ·refine .ite (.pure _) (KD.bind ?_ fun _=> .pure _)
     unfold underTheClaimsCaller
     exact KD.bind (.stack fun _=> .pure _) fun _=> .pure _
    ·exact .pure _
   exact KD.bind (.upd (fun _=>rfl) (.pure _)) fun _=>KZ outer
  ·exact .unsup _
theorem Lr(env:Env):KD (PySem.frameOf env):=by
 unfold PySem.frameOf
 refine KD.bind ?_ fun es=>?_
 ·unfold frameEnvs
  exact KD.bind (.stack fun _=> .pure _) fun _=> .pure _
 refine KD.bind ?_ fun r=>?_
 ·cases es.dropWhile (·.frame !=env.frame) with
  |nil=>exact .pure _
  |cons a b=>unfold frameObject;exact(KZ _).bind fun _=> .pure _
 split
 ·exact .pure _
 ·exact .unsup _
theorem Pz(f:Addr)(b:Bool):KD (entryPlaceOf f b):=by
 unfold entryPlaceOf
 refine KD.bind (.stack fun _=> .pure _) fun _=>?_
 split<;>exact .pure _
theorem QA(h a l f i:Value)(pl:List Value):KD (EntryCells.newEntry h a l f i pl):=by
 have z:∀d,KD (newObjAsIs (.type "traceback") d):=fun d=> .alloc fun a=> .pure _
 unfold EntryCells.newEntry newFields newObj
 dsimp only
 exact .ite (KD.bind (.unsup _) fun _=>z _) (z _)
theorem NI(e:Value)(env:Env):KD (noteFrame e env):=by
 unfold noteFrame
 split
 ·rename_i f hf
  refine(Eh e 1).bind fun head=>?_
  have fin:KD (do setField e 1 (←EntryCells.newEntry head (←PySem.frameOf env) .none (rawInt f) .none (←entryPlaceOf f (head !=.none)))):=
   (Lr env).bind fun a=> (Pz _ _).bind fun pl=> (QA _ _ _ _ _ _).bind fun b=>Df _ _ _
  refine .ite ?_ fin
  exact(Eh _ _).bind fun x=> .ite (.pure _) ((Df _ _ _).bind fun _=>fin)
 ·exact .unsup _
theorem Gi(env:Env)(e:Value):KD (leaving env e):=(NI e env).bind fun _=>DF e none
theorem ObjOk.obj{P:Program}{w:World}{H:Hp}{h:Heap}{a:Addr}{o:HO}(x:ObjOk P w H h a o):∃ob,h.get? a=some ob:=by
 cases o with
 |lst xs=>obtain⟨_,_,_,_,e⟩:=x;exact⟨_,e⟩
 |tup xs=>obtain⟨_,_,_,o,e,_⟩:=x;exact⟨_,e⟩
 |dK kvs=>obtain⟨_,_,_,_,o,_,_,e,_⟩:=x;exact⟨_,e⟩
 |dT kvs=>obtain⟨_,_,_,_,o,_,_,e,_⟩:=x;exact⟨_,e⟩
 |set S n=>obtain⟨o,_,_,_,e,_⟩:=x;exact⟨_,e⟩
 |ins C dx fs=>obtain⟨_,_,_,e,_⟩:=x;exact⟨_,e⟩
 |own y=>obtain⟨_,e⟩:=x;exact⟨_,e⟩
 |xd fs=>obtain⟨_,⟨_,_,_,e,_⟩,_⟩:=x;exact⟨_,e⟩
 |rng lo hi=>obtain⟨_,_,_,e⟩:=x;exact⟨_,e⟩
 |frz ob u=>obtain⟨e,_⟩:=x;exact⟨_,e⟩
 |tbl ps=>exact⟨_,(show h.get? a=some _ from x)⟩
 |met f y=>exact⟨_,(show h.get? a=some _ from x)⟩
 |ext φ=>obtain⟨_,⟨_,e⟩,_⟩:=x;exact⟨_,e⟩
theorem HOk.none_of{P:Program}{w:World}{H:Hp}{h:Heap}{a:Addr}(x:HOk P w H h)(e:h.get? a=none):H a=none:=by
 cases q:H a with
 |none=>rfl
 |some u=>
  obtain⟨ob,e'⟩:=(x a u q).obj
  rw[e] at e';cases e'
def aZ(n:Nat):Int:=if n%2=0 then((n/2:Nat):Int) else-((n/2:Nat):Int)
def cc:List Nat→List (Str×V)
 |0::n::_=> [("number",.int (aZ n))]
 |1::n::_=> [("row",.int (aZ n))]
 |2::n::m::_=> [("many",.int (aZ n)),("most",.int (aZ m))]
 |_=> []
def bO(x:Str):List (Str×V):=cc x.cps.toList
def IS:Value→Value
 | .str _ C=> .ref C
 |v=>v
def bP(dx:Addr)(fs:List (Str×V))(h:Heap):Prop:=∃mA,h.Ns1 dx mA∧(∀f,Sa (fs.lookup f) (mA f))∧PySem.Within mA (fs.map (·.1))
def bQ(dx:Addr)(fs:List (Str×V)):HO:=.ext (bP dx fs)
def DicX(cls:Value)(x:Addr)(H:Hp)(h:Heap):Prop:=∀fs C,cls=.str fs C→∃ox dx,h.get? x=some ox∧ox.dict=some dx∧H dx=some (bQ dx (bO fs))
theorem DicX.ref{C x:Addr}{H:Hp}{h:Heap}:DicX (.ref C) x H h:=fun _ _ e=>nomatch e
theorem DicX.dk{cls:Value}{x:Addr}{H:Hp}{h h':Heap}(q:DicX cls x H h)(d:DK h h')(e:∃o',h'.get? x=some o'):DicX cls x H h':=fun fs C z=>by
 obtain⟨ox,dx,e1,e2,e3⟩:=q fs C z
 obtain⟨o',e'⟩:=e
 exact⟨o',dx,e',(d.at_ e1 e').trans e2,e3⟩
structure Fly(P:Program)(w:World)(outer:List Env)(H:Hp)(s:Shared)(H':Hp)(x:Addr)(cls:Value)(s':Shared):Prop where
 os:s'.os=s.os
 bare:AllBare s'.gens
 un:Un (FR outer) [] H H' s.heap s'.heap
 hok:HOk P w H' s'.heap
 fr:H' x=none
 fly:∃B t,(∀b,H' b≠none→∃o,B.get? b=some o)∧(∀b o,s.heap.get? b=some o→b∉FR outer→∃o',B.get? b=some o')∧Heap.FlyingW B outer x (IS cls) (.ref t) s'.heap
 dic:DicX cls x H' s'.heap
def CXe(P:Program)(w:World):Pp:=fun outer H s E e s'=>∃x cls H',e=.ref x∧Fly P w outer H s H' x cls s'∧E cls none H'
theorem CXe.never{P:Program}{w:World}{outer:List Env}{H:Hp}{s s':Shared}{e:Value}(h:CXe P w outer H s E0 e s'):False:=by
 obtain⟨_,_,_,_,_,q⟩:=h
 exact q
structure XFly(X:Cx)(W:St→XK):Prop where
 fly:∀(pins:List (Addr×Obj)) (σ:St) (H:Hp) (s:Shared) (e:Value) (s':Shared),Inv X pins σ H s→CXe X.prog X.w X.stack H s (W σ) e s'→X.xe e s'
structure XOk(X:Cx)(W:St→XK):Prop where
 made:∀(pins:List (Addr×Obj)) (σ:St) (H:Hp) (s:Shared) (h':Heap) (x C:Addr),Inv X pins σ H s→Heap.MadeExcOf s.heap h' x (.ref C) []→W σ (.ref C) none H→X.xe (.ref x) {s with heap:=h'}
 fly:∀(pins:List (Addr×Obj)) (σ:St) (H:Hp) (s:Shared) (e:Value) (s':Shared),Inv X pins σ H s→CXe X.prog X.w X.stack H s (W σ) e s'→X.xe e s'
 own:PassesOwn (model X.prog X.w) X.A X.env X.xe
 madeF:∀(pins:List (Addr×Obj)) (σ:St) (H:Hp) (s:Shared) (x C t dx:Addr) (fs:Str),Inv X pins σ H s→H x=none→X.s₀.heap.get? x=none→s.heap.get? x=some ⟨.ref C,some dx,.fields #[.ref t,.none,.none,.none,.bool false,.none],#[]⟩→H dx=some (bQ dx (bO fs))→W σ (.str fs C) none H→X.xe (.ref x) s
theorem HOk.by_keep{P:Program}{w:World}{H:Hp}{h h':Heap}(x:HOk P w H h)(k:∀b o,H b≠none→h.get? b=some o→h'.get? b=some o):HOk P w H h':=fun a o e=>
 (x a o e).stay (fun b u hb q=>k b u (by
  rcases hb with rfl|hb
  ·rw[e];exact fun z=>nomatch z
  ·rw[hb];exact fun z=>nomatch z) q) (fun _ q=>q) fun _ _ q=>q
section
variable{P:Program}{w:World}{K:PySem.W.Frag}{mg:Str→Option Value}{base:Heap}{N:List Str}{qual:Str}{scope:Scope}{f:Addr}{cd:Value}{A:Around}{outer:List Env}{s:Shared}{H:Hp}{E:XK}
theorem JO{X:Cx}{pins:List (Addr×Obj)}{σ:St}{H1:Hp}{s2:Shared}{h':Heap}{x:Addr}{cls:Value}{B:Heap}{t:Addr}(hst:X.stack=X.env::X.outer)(hex:X.ex=[])(hfr:X.env.frame=some X.env.locals)(I:Inv X pins σ H1 s2)
  (hB1:∀b,H1 b≠none→∃o,B.get? b=some o) (hB2:∀b o,X.s₀.heap.get? b=some o→b∉FR X.outer→∃o',B.get? b=some o') (hx:H1 x=none) (hs2:B.StaysIn s2.heap) (fl:Heap.FlyingW B X.outer x (IS cls) (.ref t) h') (up:s2.heap.UpToSlots h') (dq:DicX cls x H1 h'):
  Fly X.prog X.w X.outer X.H₀ X.s₀ H1 x cls {s2 with heap:=h'}:=by
 have fsm:∀b o,b∈X.fs→s2.heap.get? b=some o→∃sl,h'.get? b=some {o with slots:=sl}:=fun b o hb e=>by
  obtain⟨_,o',e',hd⟩:=I.funs.mem hb
  rw[e] at e';cases e'
  exact up b o e hd
 have same:∀b o o',B.get? b=some o'→s2.heap.get? b=some o→h'.get? b=some o:=fun b o o' e1 e2=>by
  have q:=hs2 b o' e1
  rw[e2] at q;cases q
  exact fl.1 b o e1
 refine⟨I.os,I.bare,⟨fun b o e n hb _=>?_,fun b o e n hb _=>?_,fun b o e n _=>?_,fun b o e _=>?_,I.base.tups,I.base.frzs,I.base.tbls⟩,I.hok.by_keep fun b o hb e=>?_,hx,⟨B,t,hB1,hB2,fl⟩,dq⟩
 ·obtain⟨o',e'⟩:=hB2 b o e hb
  exact same b o o' e' (I.base.keep b o e n hb (by rw[hex];simp))
 ·obtain⟨sl,e1⟩:=I.base.slot b o e n hb (by rw[hex];simp)
  obtain⟨sl',e2⟩:=fsm b _ hb e1
  exact⟨sl',e2⟩
 ·exact I.base.free b o e n (by rw[hex];simp)
 ·obtain⟨o1,e1⟩:=I.base.there b o e (by rw[hex];simp)
  by_cases hb:b∈X.fs
  ·obtain⟨sl,e2⟩:=fsm b o1 hb e1
   exact⟨_,e2⟩
  ·obtain⟨o',e'⟩:=hB2 b o e hb
   exact⟨o',fl.1 b o' e'⟩
 ·obtain⟨o',e'⟩:=hB1 b hb
  exact same b o o' e' e
theorem AX:XOk (Bz (CXe P w) P w K mg base N qual scope f cd A outer s H E) (fun _=>E) where
 made:=by
  intro pins σ H1 s1 h' x C I hx q
  have hin:∀env∈(Bz (CXe P w) P w K mg base N qual scope f cd A outer s H E).stack,∀b,env.frame=some b→b∈FR (Bz (CXe P w) P w K mg base N qual scope f cd A outer s H E).stack:=fun env he b hb=>List.mem_filterMap.mpr ⟨env,he,hb⟩
  have hxn:H1 x=none:=I.hok.none_of hx.new
  have I':Inv (Bz (CXe P w) P w K mg base N qual scope f cd A outer s H E) pins σ H1 {s1 with heap:=h'}:=I.kept (t':=s1.toks) hx.keeps
  refine wpAny_leaves_madeW (base:=PySem.W.hideAll s1.heap (FR (Bz (CXe P w) P w K mg base N qual scope f cd A outer s H E).stack)) (h:=s1.heap) I.ok.frames rfl (fun b o q=>PySem.W.of_hideAll _ q) (PySem.W.funFrames_hide I.stack hin) hx fun h2 t x1 x2 x3 x4=>?_
  refine⟨x,.ref C,H1,rfl,?_,q⟩
  refine JO (X:=Bz (CXe P w) P w K mg base N qual scope f cd A outer s H E) rfl rfl rfl I' (fun b hb=>?_) (fun b o e hb=>?_) hxn (fun b o e=>hx.keeps b o (PySem.W.of_hideAll _ e)) x1 x4 .ref
  ·cases e:H1 b with
   |none=>exact absurd e hb
   |some u=>
    obtain⟨o,eo⟩:=(I.hok b u e).obj
    exact⟨o,PySem.W.hideAll_get _ eo fun z=>hb (I.stkFree b z)⟩
  ·obtain⟨o1,e1⟩:=I.base.there b o e (fun z=>nomatch z)
   refine⟨o1,PySem.W.hideAll_get _ e1 fun z=>?_⟩
   rcases List.mem_cons.mp (I.stkSub b z) with z|z
   ·exact absurd z (Nat.ne_of_lt (Nat.lt_of_lt_of_le (Heap.lt_size e) I.ok.above))
   ·exact hb z
 fly:=by
  rintro pins σ H1 s1 e s2 I ⟨x,cls,H2,rfl,F,q⟩
  obtain⟨B,t,b1,b2,fl⟩:=F.fly
  have I2:Inv (Bz (CXe P w) P w K mg base N qual scope f cd A outer s H E) pins σ H2 s2:=I.call' (ch:=[]) F.os F.un F.hok F.bare (fun b z=>absurd z (by simp))
  refine wpAny_mono (KD.any (Gi _ _) (wpAny_leaves_onW (E:=fun _ _=>False) (Q:=fun _ s3=>Heap.FlyingW B outer x (IS cls) (.ref t) s3.heap∧s2.heap.UpToSlots s3.heap∧s3={s2 with heap:=s3.heap}) I.ok.frames rfl fl fun h' x1 x2=> ⟨x1,x2,rfl⟩)) ?_ fun _ _ z=>False.elim z
  rintro _ s3 ⟨⟨x1,x2,e3⟩,dk⟩
  refine⟨x,cls,H2,rfl,?_,q⟩
  rw[e3]
  refine JO (X:=Bz (CXe P w) P w K mg base N qual scope f cd A outer s H E) rfl rfl rfl I2 b1 (fun b o e hb=>?_) F.fr fl.1 x1 x2 (F.dic.dk dk (let⟨o,e,_⟩:=x1.there;⟨o,e⟩))
  obtain⟨o1,e1⟩:=I.base.there b o e (fun z=>nomatch z)
  refine b2 b o1 e1 fun z=>?_
  rcases List.mem_cons.mp (I.stkSub b z) with z|z
  ·exact absurd z (Nat.ne_of_lt (Nat.lt_of_lt_of_le (Heap.lt_size e) I.ok.above))
  ·exact hb z
 own:=PassesOwn.leaving
 madeF:=by
  intro pins σ H1 s1 x C t dx fs I hxn hs0 ex hdx q
  have hin:∀env∈(Bz (CXe P w) P w K mg base N qual scope f cd A outer s H E).stack,∀b,env.frame=some b→b∈x::FR (Bz (CXe P w) P w K mg base N qual scope f cd A outer s H E).stack:=fun env he b hb=>List.mem_cons_of_mem _ (List.mem_filterMap.mpr ⟨env,he,hb⟩)
  have hkb:Heap.StaysIn (PySem.W.hideAll s1.heap (x::FR (Bz (CXe P w) P w K mg base N qual scope f cd A outer s H E).stack)) s1.heap:=fun b o q=>PySem.W.of_hideAll _ q
  have hen:(PySem.W.hideAll s1.heap (x::FR (Bz (CXe P w) P w K mg base N qual scope f cd A outer s H E).stack)).get? x=none:=by
   exact PySem.W.hideAll_none _ (List.mem_cons_self ..)
  refine wpAny_mono (KD.any (Gi _ _) (wpAny_leaving_firstW (E:=fun _ _=>False) (Q:=fun _ s3=>Heap.LeftW (PySem.W.hideAll s1.heap (x::FR (Bz (CXe P w) P w K mg base N qual scope f cd A outer s H E).stack)) _ x (.ref C) (.ref t) s1.heap s3.heap∧s3={s1 with heap:=s3.heap}) I.ok.frames (PySem.W.funFrames_hide I.stack hin) rfl ex hkb hen rfl rfl rfl fun h' hL=> ⟨hL,rfl⟩)) ?_ fun _ _ z=>False.elim z
  rintro _ s3 ⟨⟨⟨x1,⟨_,_,x2⟩,x3,x4⟩,e3⟩,dk⟩
  refine⟨x,.str fs C,H1,rfl,?_,q⟩
  rw[e3]
  have hth:∃o,s3.heap.get? x=some o:=by
   obtain⟨oe,_,_,_,_,he,_⟩:=x3
   exact⟨oe,he⟩
  refine JO (X:=Bz (CXe P w) P w K mg base N qual scope f cd A outer s H E) rfl rfl rfl I (fun b hb=>?_) (fun b o e hb=>?_) hxn hkb ⟨x1,hen,x2,x3⟩ x4 ?_
  ·cases e:H1 b with
   |none=>exact absurd e hb
   |some u=>
    obtain⟨o,eo⟩:=(I.hok b u e).obj
    refine⟨o,PySem.W.hideAll_get _ eo fun z=>?_⟩
    rcases List.mem_cons.mp z with z|z
    ·rw[z] at e;rw[hxn] at e;cases e
    ·exact hb (I.stkFree b z)
  ·obtain⟨o1,e1⟩:=I.base.there b o e (fun z=>nomatch z)
   refine⟨o1,PySem.W.hideAll_get _ e1 fun z=>?_⟩
   rcases List.mem_cons.mp z with z|z
   ·rw[z] at e;rw[hs0] at e;cases e
   rcases List.mem_cons.mp (I.stkSub b z) with z|z
   ·exact absurd z (Nat.ne_of_lt (Nat.lt_of_lt_of_le (Heap.lt_size e) I.ok.above))
   ·exact hb z
  ·exact DicX.dk (h:=s1.heap) (fun fs' C' z=>by cases z;exact⟨_,dx,ex,rfl,hdx⟩) dk hth
end
section
variable{X:Cx}{W:St→XK}
def WN(W:St→XK)(C:Addr):TS:=fun _ σ H=>W σ (.ref C) none H
def QB(sp:Sp)(W:St→XK)(t:TA):TE:=fun σ H Q=>t σ H fun vs H1=>sp vs H1 Q (W σ)
theorem XOk.f(x:XOk X W):XFly X W:=⟨x.fly⟩
theorem Ka{k:Nat}{f:Addr}{fd:FuncData}{ps:List Str}{sp:Sp}{x:Str}{p pos:Pos}{e:Expr}{es:List Expr}{t:TA}(xo:XFly X W)(F:FnOk X.prog X.w X.K X.mg X.base (CXe X.prog X.w) k f fd ps sp)(hr:Room k X.A)(hg:Gl X x)(hm:X.mg x=some (.ref f))(hk:PySem.W.keepIn X.K (.ref f)=true)(hb:Binds X.K fd ps [])
  (ha:PA X (e::es) t) (hdb:(x==("__debug__" :Str))=false:=by decide) (he:starEach (e::es) X.env=(false,eval e X.env)::starEach es X.env:=by rfl) (hpl:(backTo pos (starEach es X.env)).any (·.1)=false:=by rfl):
  PE X (.Call (.Name x p) (e::es) [] pos) (QB sp W t):=by
 intro pins s σ H Q I h
 refine wpAny_Call_Name_kw (Ec I hg hm ?_ hdb)
 refine PySem.W.callWith_K (h₀:=X.base) I.ok.mod.kin hk (Ay (ha pos pins s σ H _ I h) fun us s1 ⟨vs,H1,I1,r,q⟩=> ⟨I1.kIn,?_⟩) he hpl
 have r2:Vals vs (us++[]):=by rw[List.append_nil];exact r
 have hl:(us++[]).length=ps.length:=by rw[←r2.length];exact F.len _ _ _ _ q
 refine wpAny_call (codeAny_mono (F.run X.A X.stack s1 H1 ⟨us,[]⟩ (us++[]) vs Q (W σ) hr I1.env0 (hb s1 us I1.kIn hl) r2 q) fun r s' hq=>?_)
 cases r with
 |error e=>exact xo.fly pins σ H1 s1 e s' I1 hq
 |ok fl=>
  cases fl with
  |ret u=>exact I1.after hq
  |next=>exact False.elim hq
  |brk=>exact False.elim hq
  |cont=>exact False.elim hq
end
open PySem.Calls
section
variable{prog:Program}{w:World}{A:Around}{E:Value→Shared→Prop}{s:Shared}{K:PySem.W.Frag}{x D:Addr}{ox:Obj}{od:Option Obj}{name:Str}
structure ExcCls(K:PySem.W.Frag)(D:Addr):Prop where
 ga:PySem.W.findIn K (.ref D) "__getattribute__" =some (some (.builtin "BaseException.__getattribute__"))
 gn:PySem.W.findIn K (.ref D) "__getattr__" =some none
 be:PySem.W.mroIn K D (.type "BaseException")=some true
 ob:PySem.W.mroIn K D (.type "object")=some true
 cl:PySem.W.findIn K (.ref D) "__class__" =some (some (.builtin "object.__class__"))
 gt:PySem.W.specialIn K (.builtin "object.__class__") "__get__" =some (some (.builtin "getset_descriptor.__get__"))
 tk:PySem.W.takesIn K (.builtin "object.__class__")=some true
def TyAt(D x:Addr)(h:Heap):Prop:=∃ox,h.get? x=some ox∧ox.cls=.ref D
theorem TyAt.looks{M:Model}{h:Heap}(p:TyAt D x h):PySem.W.Looks M h (typeOf (.ref x)) (.ref D):=by
 obtain⟨o,h1,h2⟩:=p
 exact h2▸(PySem.W.Looks.ld h1).andThen .now
open PySem.W Builtin Builtin.ObjectAttr Builtin.Getset_descriptor in
theorem Ls {R:Result→Shared→Prop} {tp:Value} (X:K.In s.heap) (I:TyAt D x s.heap) (hm:PySem.W.mroIn K D (.type "object")=some true) (h:R (.ok (.ret (.ref D))) s):
  codeAny (model prog w) A (.call (.builtin "getset_descriptor.__get__") ⟨[.builtin "object.__class__",.ref x,tp],[]⟩) R s:=by
 obtain⟨hh,gg,dd,tt,oo⟩:=s
 have L0:=I.looks (M:=model prog w)
 have L1:=PySem.W.looks_mroIn (M:=model prog w) X hm
 refine codeAny_call_builtin
  KF.slot_gs.plain KF.entry_gs (KF.slot_gs.check _ _ _ _ _ _ _ _
   KF.type_class (KF.args_gs _ _ _) ?_)
 unfold Builtin.«getset_descriptor.__get__»
  descrGet
 rw[dga_obj]
 refine wpAny_bind (wpAny_pure ?_)
 unfold descrGetter descrCheckInstance
  descrNameAndClass isInstance
 simp only[KF.owner_class]
 repeat lk
 refine⟨Code.quiet_builtin _
  (by decide+kernel),codeAny_builtin KF.entry_class ?_⟩
 unfold Builtin.«object.__class__» shownTypeOf
 repeat lk
 exact h
theorem ExcCls.find{M:Model}{h:Heap}(c:ExcCls K D)(X:K.In h):PySem.W.Looks M h (Builtin.ObjectAttr.find (.ref x) (.ref D) "__class__") (.bind (.builtin "getset_descriptor.__get__") (.builtin "object.__class__")):=by
 have L1:=PySem.W.looks_findIn (M:=M) X c.cl
 have L2:PySem.W.Looks M h (Builtin.ObjectAttr.getOf (some (.builtin "object.__class__"))) (some (.builtin "getset_descriptor.__get__")):=PySem.W.looks_specialIn X c.gt
 have L3:=PySem.W.looks_takesIn (M:=M) X c.tk
 refine L1.andThen (L2.andThen ?_)
 exact(show PySem.W.Looks M h (Builtin.ObjectAttr.dataDescriptor? (some (.builtin "object.__class__")) (some (.builtin "getset_descriptor.__get__"))) (some (.builtin "getset_descriptor.__get__",.builtin "object.__class__"))
  from L3.andThen .now).andThen (PySem.W.Looks.tag .now)
theorem Oc{Q:Option Value→Shared→Prop}(c:ExcCls K D)(X:K.In s.heap)(I:TyAt D x s.heap)(h:Q (some (.ref D)) {s with toks:=s.toks+1}):wpAny (model prog w) A (getAttr? (.ref x) "__class__") Q E s:=by
 obtain⟨hh,g,d,t,os⟩:=s
 have L0:=I.looks (M:=model prog w)
 have L1:=PySem.W.looks_findIn (M:=model prog w) X c.ga
 have L2:=PySem.W.looks_findIn (M:=model prog w) X c.gn
 have L3:=PySem.W.looks_mroIn (M:=model prog w) X c.be
 have L4:=c.find (x:=x) (M:=model prog w) X
 have hb:bindSpecial (.builtin "BaseException.__getattribute__") (.ref x)=pure (.builtin "BaseException.__getattribute__",[.ref x]):=PySem.F.excAttr_ValueError.ga.bind _
 have hk:builtinKind "BaseException.__getattribute__" =some .slot:=by decide+kernel
 have hsplit:splitId "BaseException.__getattribute__" =some ("BaseException","__getattribute__"):=by decide+kernel
 have hx2:(Value.builtin "BaseException.__getattribute__" ==Value.builtin "object.__getattribute__")=false:=by decide+kernel
 unfold getAttr? getAttrBy? getAttrBy
 refine wpAny_bind (wpAny_mkText (wpAny_bind (wpAny_attempt (wpAny_holding (wpAny_bind (L0.at (wpAny_bind (L1.at ?_))))))))
 dsimp only
 rw[hx2,Bool.and_false,if_neg Bool.false_ne_true]
 unfold getAttrByItsOwn hookBefore
 refine wpAny_bind (L2.at ?_)
 refine wpAny_bind (wpAny_attempt (wpAny_holding ?_))
 unfold callGetattribute boundAndCalled
 rw[hb]
 show wpAny _ _ (call (.builtin "BaseException.__getattribute__") [.ref x,.str "__class__" t]) _ _ _
 refine wpAny_call (codeAny_call_builtin PySem.F.excAttr_ValueError.ga.plain PySem.F.entry_bexc_ga ?_)
 have ha:=PySem.F.args_bexc_ga (.ref x) (.str "__class__" t)
 simp only[checkBuiltinCall,hk,hsplit]
 refine wpAny_bind ?_
 unfold isInstance
 refine wpAny_bind (L0.at (L3.at ?_))
 rw[if_neg (by decide)]
 refine wpAny_of_eq ha ?_
 show wpAny _ _ (typeOf (.ref x)>>=fun tp=>Builtin.ObjectAttr.find (.ref x) tp "__class__" >>=_) _ _ _
 refine wpAny_bind (L0.at (wpAny_bind (L4.at ?_)))
 show wpAny _ _ ((holding [.builtin "object.__class__"] (call (.builtin "getset_descriptor.__get__") [.builtin "object.__class__",.ref x,.ref D]))>>=ret) _ _ _
 refine wpAny_bind (wpAny_holding (wpAny_call (Ls (s:=⟨hh,g,d,t+1,os⟩) X I c.ob ?_)))
 exact wpAny_pure (wpAny_pure (wpAny_pure h))
theorem ExcCls.isTy{M:Model}{h:Heap}(c:ExcCls K D)(X:K.In h):PySem.W.Looks M h (isType (.ref D)) true:=by
 obtain⟨cd,hc,_⟩:=Option.bind_eq_some_iff.mp (show(PySem.W.clsIn K D).bind _=some true from c.be)
 unfold PySem.W.clsIn at hc
 split at hc
 ·rename_i c' d' cd' sl' ho
  intro A' Q' E' s' k q
  unfold isType loadHead
  exact wpAny_bind (wpAny_loadPart (k _ _ (X _ _ ho)) (wpAny_pure q))
 ·cases hc
theorem QC(c:ExcCls K D):PySem.W.KitX K (.ref x) (.ref D) (TyAt D x) where
 ty:=fun _ _ _ I=>I.looks
 it:=fun _ _ X _=>c.isTy X
 ne:=fun h tp dd its n sl X htp=>by
  refine Bool.eq_false_iff.mpr fun q=>?_
  have e:D=tp:=Value.ref.inj (beq_iff_eq.mp q)
  subst e
  obtain⟨cd,hc,_⟩:=Option.bind_eq_some_iff.mp (show(PySem.W.clsIn K D).bind _=some true from c.be)
  unfold PySem.W.clsIn at hc
  split at hc
  ·rename_i c' d' cd' sl' ho
   have z:=(X _ _ ho).symm.trans htp
   cases z
  ·cases hc
 ca:=fun X I k=>Oc c X I k
end
def GC(D x:Addr):HO:=.ext (TyAt D x)
theorem NJ{P:Program}{w:World}{H:Hp}{h:Heap}{D x:Addr}(p:TyAt D x h):ObjOk P w H h x (GC D x):=by
 refine⟨p,?_,fun h1 h2 q k=>?_⟩
 ·obtain⟨o,e,_⟩:=p
  exact⟨o,e⟩
 ·obtain⟨o,e,c⟩:=q
  exact⟨o,k o e,c⟩
theorem Lu{X:Cx}{pins:List (Addr×Obj)}{σ:St}{H:Hp}{s:Shared}{A:Around}{E:Value→Shared→Prop}{Q:Value→Shared→Prop}{c:Value}{b:Bool}{D x:Addr}(I:Inv X pins σ H s)(hx:Rd H x (GC D x))(k:ExcCls X.K D)
  (e:PySem.W.kitOne X.K (.ref D) c=some b) (h:∀tk,Q (.bool b) {s with toks:=tk}):wpAny (model X.prog X.w) A (call (.builtin "isinstance") [.ref x,c]) Q E s:=by
 obtain⟨p,_,_⟩:=(show ObjOk X.prog X.w H s.heap x (GC D x) from hx.ok I.hok)
 exact PySem.W.kia_one (QC k) I.kIn p e (fun z=>nomatch z) h
abbrev Kb:List Value:=[.type "ValueError",.type "Exception",.type "BaseException",.type "object"]
theorem Sy{K:PySem.W.Frag}{h:Heap}{C:Addr}{bmB:List Value}{newId:String}(X:K.In h)(q:PySem.W.excIn K C bmB newId=true):
  ∃bm N nm qn bs hdct sn sub ab col dd k0 k1 k2 k3 k5 mN,h.get? C=some (excClassObj nm qn C N bs bm hdct sn sub ab col dd k0 k1 k2 k3 k5 newId)∧h.Ns N mN∧mN "__init__" =none∧OwnTail h bmB bm:=by
 unfold PySem.W.excIn at q
 split at q
 ·rename_i dd cd sl ho
  split at q
  ·rename_i C' bm k0 k1 k2 k3 n k5 hm hs
   simp only[Bool.and_eq_true,beq_iff_eq,
    Bool.not_eq_true'] at q
   obtain⟨⟨⟨⟨⟨e1,e2⟩,hdel⟩,ht⟩,hok⟩,hni⟩:=q
   subst e1 e2
   obtain⟨nm,bs,mro,ns,qn,hd,sn,sub,ab,col,del⟩:=cd
   dsimp only at hm hdel hok hni
   subst hm hdel
   have hsl:sl= #[k0,k1,k2,k3,some (.builtin n),k5]:=by
    obtain⟨l⟩:=sl
    simp only at hs
    rw[hs]
   subst hsl
   exact⟨bm,ns,nm,qn,bs,hd,sn,sub,ab,col,dd,k0,k1,k2,k3,k5,_,X _ _ ho,
    .of_isNs (PySem.W.isNs_of_in X hok),PySem.W.nsMap_none_of_in X hok hni,PySem.W.tail_of_in X ht⟩
  ·cases q
 ·cases q
theorem Od{X:Cx}{W:St→XK}{x:Str}{C:Addr}{np cpos pos:Pos}(xo:XOk X W)(hc:X.calm=true)(hg:Gl X x)(hm:X.mg x=some (.ref C))(q:PySem.W.excIn X.K C Kb "ValueError.__new__" =true)
  (hd:(x==("__debug__" :Str))=false:=by decide):PS X (.Raise (some (.Call (.Name x np) [] [] cpos)) none pos) (WN W C):=by
 intro pins s σ H D I h
 obtain⟨bm,N,nm,qn,bs,hdct,sn,sub,ab,col,dd,k0,k1,k2,k3,k5,mN,hC,hN,hni,T⟩:=Sy I.kIn q
 refine wpAny_Raise_call_subT (C:=C) (nm:=nm) (q:=qn) (N:=N) (bs:=bs) (bm:=bm) (hdct:=hdct) (sn:=sn) (sub:=sub) (ab:=ab) (col:=col) (dd:=dd) (k0:=k0) (k1:=k1) (k2:=k2) (k3:=k3) (k5:=k5)
  PySem.F.excBase_ValueError (mN:=mN) (T.hasType PySem.F.excBase_ValueError.hasBase) (I.ok.hd hc) rfl hni (Ec I hg hm ⟨rfl,?_⟩ hd)
 exact evalArgs_empty ⟨rfl,Nat.zero_le _,hC,hN,T,fun h' e hx=>xo.made pins σ H s h' e C I hx h⟩
theorem Kc{M:Model}{A:Around}{E:Value→Shared→Prop}{s:Shared}{K:PySem.W.Frag}{C B x:Addr}{b:Bool}{Q:Bool→Shared→Prop}(X:K.In s.heap)(p:TyAt C x s.heap)(k:PySem.W.kitCls K (.ref C) (.ref B)=some b)
  (hb:PySem.W.mroIn K B (.type "BaseException")=some true) (h:Q b s):wpAny M A (excMatches (.ref x) (.ref B)) Q E s:=by
 obtain⟨L1,L2,L3⟩:=PySem.W.kit_cls (M:=M) X k
 have L4:=PySem.W.looks_mroIn (M:=M) X hb
 have L0:=p.looks (M:=M)
 have f:=tc_notTuple
 obtain⟨hh,g,d,t,os⟩:=s
 unfold excMatches isInstance isExcClass
 refine wpAny_bind (wpAny_bind (L1.at ?_))
 rw[f]
 refine wpAny_pure ?_
 rw[if_neg Bool.false_ne_true]
 refine wpAny_bind (wpAny_pure ?_)
 simp only[List.forIn_cons,List.forIn_nil]
 refine wpAny_bind (wpAny_bind (wpAny_bind (wpAny_bind (L2.at ?_))))
 rw[if_pos rfl]
 refine L4.at ?_
 rw[if_neg (by decide)]
 refine wpAny_pure (wpAny_pure (wpAny_bind (L0.at (wpAny_bind (wpAny_bind (wpAny_bind (L3.at ?_)))))))
 cases b with
 |true=>
  rw[if_pos rfl]
  exact wpAny_pure (wpAny_pure (wpAny_pure h))
 |false=>
  rw[if_neg Bool.false_ne_true]
  exact wpAny_pure (wpAny_pure (wpAny_pure h))
section
variable{X:Cx}{pins:List (Addr×Obj)}{σ:St}{H:Hp}{s:Shared}
theorem Inv.track{x:Addr}{o:HO}{vs:Array Value}(I:Inv X pins σ H s)(hx:H x=none)(hf:∃ob,s.heap.get? x=some ob∧ob.data=.fields vs)(hs0:X.s₀.heap.get? x=none)(hp:∀p∈X.pn++pins,p.1≠x)
  (ok:ObjOk X.prog X.w (upd H x o) s.heap x o):Inv X pins σ (upd H x o) s:=by
 obtain⟨ob,eob,dob⟩:=hf
 have ne:∀b u,H b=some u→b≠x:=fun b u e z=>by rw[z,hx] at e;cases e
 have hL:X.env.locals≠x:=fun z=>by
  obtain⟨m,⟨o',es,ep,ho',hd',_⟩,_⟩:=I.loc
  rw[z,eob] at ho';cases ho';rw[dob] at hd';cases hd'
 have hC:∀y c,X.env.cells.lookup y=some c→c≠x:=fun y c e z=>by
  obtain⟨v,o',ho',hd'⟩:=I.cell y c e
  rw[z,eob] at ho';cases ho';rw[dob] at hd';cases hd'
 refine⟨I.ok,I.os,I.bare,⟨I.base.keep,I.base.slot,fun b o e n hb=>?_,I.base.there,fun b xs e=>?_,fun b o u e=>?_,fun b ps e=>?_⟩,I.loc,I.cell,?_,fun y c e=>?_,fun p hp'=>?_,fun b u e=>?_,I.len⟩
 ·have nb:b≠x:=fun z=>by rw[z,hs0] at e;cases e
  rw[AQ nb]
  exact I.base.free b o e n hb
 ·have q:=I.base.tups b xs e
  rw[AQ (ne b _ q)]
  exact q
 ·have q:=I.base.frzs b o u e
  rw[AQ (ne b _ q)]
  exact q
 ·obtain⟨more,q⟩:=I.base.tbls b ps e
  exact⟨more,by rw[AQ (ne b _ q)];exact q⟩
 ·rw[AQ hL];exact I.free
 ·rw[AQ (hC y c e)];exact I.freeC y c e
 ·obtain⟨e,n,r⟩:=I.pin p hp'
  exact⟨e,by rw[AQ (hp p hp')];exact n,r⟩
 ·by_cases hb:b=x
  ·subst hb
   rw[AO] at e;cases e
   exact ok
  ·rw[AQ hb] at e
   exact(I.hok b u e).stay (fun _ _ _ q=>q) (fun c q=>by rw[AQ (ne c _ q)];exact q) fun c xs q=>by rw[AQ (ne c _ q)];exact q
theorem Inv.gone{i:Nat}{n:Str}{pos:Pos}{M:Model}{A:Around}{E:Value→Shared→Prop}{Q:Unit→Shared→Prop}(I:Inv X pins σ H s)(hN:X.N.Nodup)(hi:X.N[i]?=some n)(hk:X.env.scope.names.lookup n=some .local)
  (h:∀s',Inv X pins (σ.set i none) H s'→Q () s'):wpAny M A (do bindName X.env n .none;unbindBehindTheSuite X.env n pos) Q E s:=by
 obtain⟨m,hn,hl⟩:=id I.loc
 have hcls:(X.env.scope.kind==.class|| (X.env.scope.kind==.module&&X.env.locals !=X.env.globals))=false:=by rw[I.ok.kind];rfl
 have cne:=I.cne
 refine wpAny_nameGoes_keeps hk hn hcls fun h' v hn' hs=>?_
 obtain⟨oL,_,_,hoL,_⟩:=id hn
 have old:∀b o,X.s₀.heap.get? b=some o→b≠X.env.locals:=fun b o e=>Nat.ne_of_lt (Nat.lt_of_lt_of_le (Heap.lt_size e) I.ok.above)
 refine h _ ⟨I.ok,I.os,I.bare,⟨fun b o e n hb hx=>?_,fun b o e n hb hx=>?_,I.base.free,fun b o e hx=>?_,I.base.tups,I.base.frzs,I.base.tbls⟩,⟨_,hn',fun j y v' e1 e2 e3=>?_⟩,fun y c e=>?_,I.free,I.freeC,fun p hp=>?_,fun b u e=>?_,by simpa using I.len⟩
 ·exact(hs.2 b (old b o e)).trans (I.base.keep b o e n hb hx)
 ·obtain⟨sl,e1⟩:=I.base.slot b o e n hb hx
  exact⟨sl,(hs.2 b (old b o e)).trans e1⟩
 ·obtain⟨o',e1⟩:=I.base.there b o e hx
  exact⟨o',(hs.2 b (old b o e)).trans e1⟩
 ·by_cases hj:j=i
  ·subst hj
   have hiσ:j<σ.length:=by rw[I.len];exact(List.getElem?_eq_some_iff.mp hi).1
   rw[List.getElem?_set_self hiσ] at e2
   cases e2
  ·rw[List.getElem?_set_ne (Ne.symm hj)] at e2
   obtain⟨u',r',q⟩:=hl j y v' e1 e2 e3
   refine⟨u',r',?_⟩
   rcases q with⟨k,e⟩| ⟨k,c,e,z⟩
   ·refine .inl ⟨k,?_⟩
    have:y≠n:=fun e=>hj (GX hN e1 (e▸hi))
    simp[this,e]
   ·exact .inr ⟨k,c,e,z.sameBut hs (cne y c e)⟩
 ·obtain⟨w',z⟩:=I.cell y c e
  exact⟨w',z.sameBut hs (cne y c e)⟩
 ·obtain⟨e,n,ne,nf,d⟩:=I.pin p hp
  exact⟨(hs.2 p.1 ne).trans e,n,ne,nf,d⟩
 ·refine(I.hok b u e).stay (fun c w' hc q=> (hs.2 c ?_).trans q) (fun _ q=>q) fun _ _ q=>q
  rintro rfl
  rcases hc with rfl|hc
  ·rw[I.free] at e;cases e
  ·rw[I.free] at hc;cases hc
end
theorem Fly.un'{P:Program}{w:World}{outer:List Env}{H H':Hp}{s s':Shared}{x t:Addr}{cls:Value}{B h':Heap}(F:Fly P w outer H s H' x cls s')(b1:∀b,H' b≠none→∃o,B.get? b=some o)(b2:∀b o,s.heap.get? b=some o→b∉FR outer→∃o',B.get? b=some o')
  (fl:Heap.FlyingW B outer x (IS cls) (.ref t) s'.heap) (st:B.StaysIn h') (up:s'.heap.UpToSlots h'):Un (FR outer) [] H H' s.heap h'∧HOk P w H' h':=by
 have same:∀b o o',B.get? b=some o'→s'.heap.get? b=some o→h'.get? b=some o:=fun b o o' e1 e2=>by
  have q:=fl.1 b o' e1
  rw[e2] at q;cases q
  exact st b o e1
 have fsm:∀b o,b∈FR outer→s'.heap.get? b=some o→∃sl,h'.get? b=some {o with slots:=sl}:=fun b o hb e=>by
  obtain⟨_,o',e',hd⟩:=fl.2.2.1.mem hb
  rw[e] at e';cases e'
  exact up b o e hd
 refine⟨⟨fun b o e n hb hx=>?_,fun b o e n hb hx=>?_,F.un.free,fun b o e hx=>?_,F.un.tups,F.un.frzs,F.un.tbls⟩,F.hok.by_keep fun b o hb e=>?_⟩
 ·obtain⟨o',e'⟩:=b2 b o e hb
  exact same b o o' e' (F.un.keep b o e n hb hx)
 ·obtain⟨sl,e1⟩:=F.un.slot b o e n hb hx
  obtain⟨sl',e2⟩:=fsm b _ hb e1
  exact⟨sl',e2⟩
 ·obtain⟨o1,e1⟩:=F.un.there b o e hx
  by_cases hb:b∈FR outer
  ·obtain⟨sl,e2⟩:=fsm b o1 hb e1
   exact⟨_,e2⟩
  ·obtain⟨o',e'⟩:=b2 b o e hb
   exact⟨o',st b o' e'⟩
 ·obtain⟨o',e'⟩:=b1 b hb
  exact same b o o' e' e
def CA(X:Cx)(pins:List (Addr×Obj))(E':Value→Shared→Prop):Cx:={X with pn:=X.pn++pins,xe:=E'}
structure TryIs(X X':Cx):Prop where
 is:∃pins E',X'=CA X pins E'
def Um(X:Cx)(x:Addr):Cx:={X with A:=X.A.mark (some (.ref x)),calm:=false,xe:=fun _ _=>False}
section
variable{X:Cx}{pins pins':List (Addr×Obj)}{σ:St}{H:Hp}{s:Shared}{E':Value→Shared→Prop}{x:Addr}
theorem Cx.Ok.toTry(ok:X.Ok):(CA X pins E').Ok:=
 ⟨ok.mod,ok.kind,ok.glob,ok.blt,ok.above,ok.inj,ok.has,ok.cab,ok.hd,ok.frames,ok.stk,ok.exf,ok.bs,ok.bsz,ok.noex,ok.exfs,ok.funs,ok.frf⟩
theorem Cx.Ok.ofTry(ok:(CA X pins E').Ok):X.Ok:=
 ⟨ok.mod,ok.kind,ok.glob,ok.blt,ok.above,ok.inj,ok.has,ok.cab,ok.hd,ok.frames,ok.stk,ok.exf,ok.bs,ok.bsz,ok.noex,ok.exfs,ok.funs,ok.frf⟩
theorem Cx.Ok.toH(ok:X.Ok):(Um X x).Ok:=
 ⟨ok.mod,ok.kind,ok.glob,ok.blt,ok.above,ok.inj,ok.has,ok.cab,fun(e:false=true)=> (Bool.false_ne_true e).elim,ok.frames,ok.stk,ok.exf,ok.bs,ok.bsz,ok.noex,ok.exfs,ok.funs,ok.frf⟩
theorem Inv.toTry(I:Inv X pins σ H s):Inv (CA X pins E') [] σ H s:=
 ⟨I.ok.toTry,I.os,I.bare,I.base,I.loc,I.cell,I.free,I.freeC,fun p hp=>I.pin p (by rw[List.append_nil] at hp;exact hp),I.hok,I.len⟩
theorem Inv.ofTry(I:Inv (CA X pins E') pins' σ H s):Inv X pins σ H s:=
 ⟨I.ok.ofTry,I.os,I.bare,I.base,I.loc,I.cell,I.free,I.freeC,fun p hp=>I.pin p (List.mem_append_left _ hp),I.hok,I.len⟩
theorem Inv.toH(I:Inv X pins σ H s):Inv (Um X x) pins σ H s:=⟨I.ok.toH,I.os,I.bare,I.base,I.loc,I.cell,I.free,I.freeC,I.pin,I.hok,I.len⟩
theorem Inv.ofH(ok:X.Ok)(I:Inv (Um X x) pins σ H s):Inv X pins σ H s:=⟨ok,I.os,I.bare,I.base,I.loc,I.cell,I.free,I.freeC,I.pin,I.hok,I.len⟩
theorem SP.ofTry{D:Ends}{f:Flow}{s':Shared}(h:SP (CA X pins E') [] D f s'):SP X pins D f s':=by
 cases f with
 |next=>obtain⟨σ',H',I,q⟩:=h;exact⟨σ',H',I.ofTry,q⟩
 |brk=>obtain⟨σ',H',I,q⟩:=h;exact⟨σ',H',I.ofTry,q⟩
 |cont=>obtain⟨σ',H',I,q⟩:=h;exact⟨σ',H',I.ofTry,q⟩
 |ret u=>obtain⟨v,σ',H',I,r,q⟩:=h;exact⟨v,σ',H',I.ofTry,r,q⟩
end
def Uo(i:Nat)(D:Ends):Ends:={nx:=fun σ H=>D.nx (σ.set i none) H,rt:=D.rt,bk:=fun σ H=>D.bk (σ.set i none) H,ct:=fun σ H=>D.ct (σ.set i none) H}
theorem KD.heap{M:Model}{A:Around}{Q:Unit→Shared→Prop}{E:Value→Shared→Prop}{s:Shared}{t:Sem Unit}{R:Heap→Prop}(h:KD t)(q:wpAny M A t (fun _ s'=>R s'.heap∧s'={s with heap:=s'.heap}) E s)(k:∀h',R h'→DK s.heap h'→Q () {s with heap:=h'}):wpAny M A t Q E s:=
 wpAny_mono (h.any q) (fun _ s' ⟨⟨r,e⟩,d⟩=>by rw[e];exact k _ r d) fun _ _ z=>z
def HK(cls:Value)(C x:Addr)(H:Hp)(o:HO):Prop:=(cls=.ref C∧o=GC C x)∨∃fs ox dx vs,cls=.str fs C∧o=.frz ox (GC C x)∧ox=⟨.ref C,some dx,.fields vs,ox.slots⟩∧H dx=some (bQ dx (bO fs))
def WT(K:PySem.W.Frag)(B:Addr)(i:Nat)(th:TS)(D:Ends):St→XK:=fun σ cls _ H=>∃C,(cls=.ref C∨∃fs,cls=.str fs C)∧PySem.W.kitCls K (.ref C) (.ref B)=some true∧∀x o,H x=none→HK cls C x H o→th (Uo i D) (σ.set i (some (.ref x))) (upd H x o)
def bS(tb:(St→XK)→TS)(K:PySem.W.Frag)(B:Addr)(i:Nat)(th:TS):TS:=fun D σ H=>tb (WT K B i th D) D σ H
theorem QD{X:Cx}{body suite:List Stmt}{b₀:Stmt}{n x:Str}{i:Nat}{B:Addr}{np hpos pos:Pos}{tb:(St→XK)→TS}{th:TS}(hst:X.stack=X.env::X.outer)(hex:X.ex=[])(hfr:X.env.frame=some X.env.locals)(hN:X.N.Nodup)(hi:X.N[i]?=some n)
  (hk:X.env.scope.names.lookup n=some .local) (hg:Gl X x) (hm:X.mg x=some (.ref B)) (hbe:PySem.W.mroIn X.K B (.type "BaseException")=some true)
  (hb:∀(W:St→XK) (X':Cx),TryIs X X'→XFly X' W→PSs X' body (tb W)) (hh:∀y,PSs (Um X y) (b₀::suite) th) (hd:(x==("__debug__" :Str))=false:=by decide):
  PS X (.Try body [.ExceptHandler (some (.Name x np)) (some n) (b₀::suite) hpos] [] [] pos) (bS tb X.K B i th):=by
 intro pins s σ H D I h
 refine wpAny_Try_except ?_
 generalize hXE:(fun(e:Value) (s₁:Shared)=>wpAny (model X.prog X.w) X.A (noteFrame e X.env) (fun _ s₂=>wpAny (model X.prog X.w) X.A (setFlight e none) (fun _ s₃=>wpAny (model X.prog X.w) X.A (handleBy e X.env [.ExceptHandler (some (.Name x np)) (some n) (b₀::suite) hpos]) (SP X pins D) X.xe s₃) X.xe s₂) X.xe s₁)=XE
 have xf:XFly (CA X pins XE) (WT X.K B i th D):=by
  refine⟨fun pins' σ1 H1 s1 e s2 I1 c=>?_⟩
  obtain⟨y,cls,H2,rfl,F,C,hcls,kc,hq⟩:=c
  have hco:IS cls=.ref C:=by rcases hcls with rfl| ⟨fs,rfl⟩<;>rfl
  obtain⟨B',t,b1,b2,fl⟩:=F.fly
  rw[hco] at fl
  have flx:Heap.FlyingW B' (CA X pins XE).stack y (IS cls) (.ref t) s2.heap:=by rw[hco];exact fl
  have fl':Heap.FlyingW B' (X.env::X.outer) y (.ref C) (.ref t) s2.heap:=hst▸(show Heap.FlyingW B' X.stack y (.ref C) (.ref t) s2.heap from fl)
  have frA:X.A.frames=some (X.env::X.outer):=hst▸I.ok.frames
  have inv_at:∀hp:Heap,B'.StaysIn hp→s2.heap.UpToSlots hp→Inv X pins σ1 H2 {s2 with heap:=hp}:=fun hp st up=>by
   obtain⟨u,ho⟩:=F.un' b1 b2 flx st up
   exact Inv.ofTry (I1.call' (s':={s2 with heap:=hp}) (ch:=[]) F.os u ho F.bare fun b z=>absurd z (by simp))
  show XE (.ref y) s2
  rw[←hXE]
  refine KD.heap (NI _ _) (R:=fun h4=>Heap.HeldW B' (X.env::X.outer) y (.ref C) (.ref t) X.env.locals h4∧s2.heap.UpToSlots h4) (wpAny_looks_onW frA hfr fl' fun h4 a b=> ⟨⟨a,b⟩,rfl⟩) fun h4 ⟨held4,up4⟩ dk4=>?_
  refine KD.heap (DF _ _) (R:=fun h5=>Heap.FlyingW B' (X.env::X.outer) y (.ref C) (.ref t) h5∧h4.UpToSlots h5) (wpAny_landsW held4 fun h5 a b=> ⟨⟨a,b⟩,rfl⟩) fun h5 ⟨fl5,up5⟩ dk5=>?_
  have up5':=up4.trans up5
  have I5:=inv_at h5 fl5.1 up5'
  refine wpAny_handleBy_cons (codeAny_handlers_test ?_) (by intro q;cases q)
  refine Ec (X:=Um X y) I5.toH hg hm ?_ hd
  refine Kc (K:=X.K) I5.kIn fl5.there kc hbe ?_
  refine codeAny_handlers_suite_as ?_
  refine KD.heap (DF _ _) (R:=fun h6=>Heap.FlyingW B' (X.env::X.outer) y (.ref C) (.ref t) h6∧h5.UpToSlots h6) (lands_againW fl5 fun h6 a b=> ⟨⟨a,b⟩,rfl⟩) fun h6 ⟨fl6,up6⟩ dk6=>?_
  have I6:=inv_at h6 fl6.1 (up5'.trans up6)
  have hyB:B'.get? y=none:=fl.2.1
  have nofr:∀b o,s1.heap.get? b=some o→b∉FR X.stack→b≠y:=fun b o e hb z=>by
   obtain⟨o',e'⟩:=b2 b o e hb
   rw[z,hyB] at e';cases e'
  obtain⟨oe,vs,eoe,_,doe,_⟩:=fl.first
  have yfr:y∉FR X.stack:=fun z=>by
   obtain⟨_,o',e',hd'⟩:=fl.2.2.1.mem (show y∈(CA X pins XE).stack.filterMap (·.frame) from z)
   rw[eoe] at e';cases e'
   exact hd' vs doe
  have hs0:X.s₀.heap.get? y=none:=by
   cases e:X.s₀.heap.get? y with
   |none=>rfl
   |some o=>
    have exf:y∉X.ex:=by rw[hex];simp
    obtain⟨o1,e1⟩:=I1.base.there y o e exf
    exact absurd rfl (nofr y o1 e1 yfr)
  obtain⟨oe6,vs6,eoe6,coe6,doe6,_⟩:=fl6.first
  have hk:∃o,HK cls C y H2 o∧ObjOk X.prog X.w (upd H2 y o) h6 y o:=by
   rcases hcls with rfl| ⟨fs,rfl⟩
   ·exact⟨_,.inl ⟨rfl,rfl⟩,NJ fl6.there⟩
   ·obtain⟨ox,dx,e1,e2,e3⟩:=F.dic fs C rfl
    have z:=(DK.trans dk4 (DK.trans dk5 dk6)).at_ e1 eoe6
    refine⟨.frz oe6 (GC C y),.inr ⟨fs,oe6,dx,vs6,rfl,rfl,?_,e3⟩,eoe6,NJ fl6.there⟩
    obtain⟨c6,d6,da6,sl6⟩:=oe6
    rw[show d6=some dx from z.trans e2,show c6=.ref C from coe6,show da6=.fields vs6 from doe6]
  obtain⟨o,hk1,hk2⟩:=hk
  have I7:Inv X pins σ1 (upd H2 y o) {s2 with heap:=h6}:=I6.track F.fr ⟨oe6,eoe6,doe6⟩ hs0 (fun p hp=>by
   obtain⟨e,_,nl,nf,_⟩:=I1.pin p (List.mem_append_left _ hp)
   exact nofr p.1 p.2 e fun z=> (List.mem_cons.mp (I1.stkSub p.1 z)).elim nl nf) hk2
  refine Eb (X:=Um X y) I7.toH hN hi (.inl hk) (v:=.ref y) rfl (fun s8 I8=>?_) (.inr hk)
  refine wpAny_mono (hh y _ s8 _ _ (Uo i D) I8 (hq y o F.fr hk1)) (fun f s9 hf=>?_) fun _ _ z=>False.elim z
  cases f with
  |next=>obtain⟨σ9,H9,I9,q9⟩:=hf;exact(I9.ofH I.ok).gone hN hi hk fun s10 I10=> ⟨_,_,I10,q9⟩
  |brk=>obtain⟨σ9,H9,I9,q9⟩:=hf;exact(I9.ofH I.ok).gone hN hi hk fun s10 I10=> ⟨_,_,I10,q9⟩
  |cont=>obtain⟨σ9,H9,I9,q9⟩:=hf;exact(I9.ofH I.ok).gone hN hi hk fun s10 I10=> ⟨_,_,I10,q9⟩
  |ret u=>obtain⟨v,σ9,H9,I9,r,q9⟩:=hf;exact(I9.ofH I.ok).gone hN hi hk fun s10 I10=> ⟨v,_,_,I10,r,q9⟩
 have q:=hb _ (CA X pins XE) ⟨_,_,rfl⟩ xf [] s σ H D I.toTry h
 refine wpAny_mono q (fun f s1 hf=>?_) fun e s1 he=>he
 cases f with
 |next=>exact wpAny_execs_nil (SP.ofTry (f:=.next) hf)
 |brk=>exact SP.ofTry (f:=.brk) hf
 |cont=>exact SP.ofTry (f:=.cont) hf
 |ret u=>exact SP.ofTry (f:=.ret u) hf
structure RoomH(k:Nat)(A:Around):Prop where
 dp:A.depth+3*k+5<recursionLimit
 un:A.units+16*k+200<cLine
theorem Room.toH{k:Nat}{A:Around}{x:Value}(r:Room k A):RoomH k (A.mark (some x)):=⟨r.dp,r.un⟩
structure FnH(P:Program)(w:World)(K:PySem.W.Frag)(mg:Str→Option Value)(base:Heap)(k:Nat)(f:Addr)(fd:FuncData)(ps:List Str)(sp:Sp):Prop where
 len:∀vs H Q E,sp vs H Q E→vs.length=ps.length
 run:∀(A:Around) (outer:List Env) (s:Shared) (H:Hp) (args:Args) (us:List Value) (vs:List V) (Q:VK),RoomH k A→Env0 P w K mg base A outer s H→BindsTo s fd args (ps.zip us)→Vals vs us→sp vs H Q E0→
  codeAny (model P w) A (.call (.ref f) args) (CR bM outer P w H s Q E0) s
def WO(P:Program)(w:World)(K:PySem.W.Frag)(mg:Str→Option Value)(base:Heap)(N:List Str)(qual:Str)(scope:Scope)(f:Addr)(cd:Value)(A:Around)(outer:List Env)(s:Shared)(H:Hp):Cx:=
 {Bz bM P w K mg base N qual scope f cd A outer s H E0 with calm:=false,xe:=fun _ _=>False}
theorem Fun.okH{P:Program}{w:World}{K:PySem.W.Frag}{mg:Str→Option Value}{base:Heap}{x qual:Str}{st:Stmt}{f:Addr}{fd:FuncData}{N ps:List Str}{k:Nat}{sp:Sp}(F:Fun K x qual st f fd)(S:FnScope N ps (AA st))
  (len:∀vs H Q E,sp vs H Q E→vs.length=ps.length)
  (hbody:∀(cdv:Value) (A:Around) (outer:List Env) (s:Shared) (H:Hp) (vs:List V) (Q:VK),RoomH k (A.deeper (envOfC qual (AA st) s.heap.objs.size f cdv))→sp vs H Q E0→
   ∃t,PSs (WO P w K mg base N qual (AA st) f cdv A outer s H) (Ai st) t∧t {nx:=fun _ H'=>Q .non H',rt:=Q} (start N vs) H):FnH P w K mg base (k+1) f fd ps sp:=by
 obtain⟨oc,od,kV,doc,pm,an,cdv,ct,osl,rfl,lk,hcd⟩:=F.ex
 refine⟨len,fun A outer s H args us vs Q hr e0 hb r hsp=>?_⟩
 have hl:=len _ _ _ _ hsp
 have KX:K.In s.heap:=e0.mod.kin.keeps fun b o e=> (e0.bs b o e).1
 have lim:s.heap.NoLimit:=e0.mod.nolimit.keeps fun b o e=> (e0.bs b o e).1
 have hkind:∀y∈ps.zip us,(AA st).names.lookup y.1=some .local∨((AA st).names.lookup y.1=some .cell∧((cellsFrom (s.heap.objs.size+1) (AA st).names []).lookup y.1).isSome=true):=fun⟨n,v⟩ hy=>by
  rcases S.par n (List.of_mem_zip hy).1 with q|q
  ·exact .inl q
  ·exact .inr ⟨q,PySem.W.cellsFrom_some _ _ _ (.inl q)⟩
 refine codeAny_call_function (by have:=hr.dp;omega) (KX _ _ lk) rfl S.co S.gen rfl (PySem.W.codeRec_of KX hcd) (hb _ _ _ _ ?_)
 refine wpAny_newFunctionEnv_cells S.kind hkind fun env he s1 x=>?_
 subst he
 refine⟨lim.keeps x.toInCall.keep,codeAny_func ?_⟩
 obtain⟨t,ht,hq⟩:=hbody cdv A outer s H vs Q ⟨by have:=hr.dp;show A.depth+1+3*k+5<_;omega,by have:=hr.un;show A.units+3+16*k+200<_;omega⟩ hsp
 have I0:Inv (Bz bM P w K mg base N qual (AA st) f cdv {A with handled:=none} outer s H E0) [] (start N vs) H s1:=
  IM S rfl (⟨e0.frames,e0.mod,e0.bs,e0.bsz,e0.funs,e0.frf,e0.hok,e0.bare⟩:Env0 P w K mg base {A with handled:=none} outer s H) hl r x
 have I:Inv (WO P w K mg base N qual (AA st) f cdv A outer s H) [] (start N vs) H s1:=by
  have ok:=I0.ok
  exact⟨⟨ok.mod,ok.kind,ok.glob,ok.blt,ok.above,ok.inj,ok.has,ok.cab,fun(e:false=true)=> (Bool.false_ne_true e).elim,ok.frames,ok.stk,ok.exf,ok.bs,ok.bsz,ok.noex,ok.exfs,ok.funs,ok.frf⟩,I0.os,I0.bare,I0.base,I0.loc,I0.cell,I0.free,I0.freeC,I0.pin,I0.hok,I0.len⟩
 refine wpAny_mono (ht [] s1 (start N vs) H _ I hq) (fun fl s' hs=>?_) fun e s' hs=>False.elim hs
 have fin:∀{σ':St} {H':Hp} {v:V} {u:Value},Inv (WO P w K mg base N qual (AA st) f cdv A outer s H) [] σ' H' s'→RelV v u→Q v H'→CE outer P w H s Q u s':=
  fun{σ' H' v u} J rv q=> ⟨v,H',J.os,J.bare,J.base,J.hok,rv,q⟩
 cases fl with
 |ret u=>
  obtain⟨v,σ',H',J,rv,q⟩:=hs
  exact fin J rv q
 |next=>
  obtain⟨σ',H',J,q⟩:=hs
  exact fin (v:=V.non) (u:=Value.none) J rfl q
 |brk=>
  obtain⟨_,_,_,q⟩:=hs
  exact False.elim q
 |cont=>
  obtain⟨_,_,_,q⟩:=hs
  exact False.elim q
theorem QE{X:Cx}{k:Nat}{f:Addr}{fd:FuncData}{ps:List Str}{sp:Sp}{x:Str}{p pos:Pos}{e:Expr}{es:List Expr}{t:TA}(F:FnH X.prog X.w X.K X.mg X.base k f fd ps sp)(hr:RoomH k X.A)(hg:Gl X x)(hm:X.mg x=some (.ref f))(hk:PySem.W.keepIn X.K (.ref f)=true)(hb:Binds X.K fd ps [])
  (ha:PA X (e::es) t) (hdb:(x==("__debug__" :Str))=false:=by decide) (he:starEach (e::es) X.env=(false,eval e X.env)::starEach es X.env:=by rfl) (hpl:(backTo pos (starEach es X.env)).any (·.1)=false:=by rfl):
  PE X (.Call (.Name x p) (e::es) [] pos) (QB sp (fun _=>E0) t):=by
 intro pins s σ H Q I h
 refine wpAny_Call_Name_kw (Ec I hg hm ?_ hdb)
 refine PySem.W.callWith_K (h₀:=X.base) I.ok.mod.kin hk (Ay (ha pos pins s σ H _ I h) fun us s1 ⟨vs,H1,I1,r,q⟩=> ⟨I1.kIn,?_⟩) he hpl
 have r2:Vals vs (us++[]):=by rw[List.append_nil];exact r
 have hl:(us++[]).length=ps.length:=by rw[←r2.length];exact F.len _ _ _ _ q
 refine wpAny_call (codeAny_mono (F.run X.A X.stack s1 H1 ⟨us,[]⟩ (us++[]) vs Q hr I1.env0 (hb s1 us I1.kIn hl) r2 q) fun r s' hq=>?_)
 cases r with
 |error e=>exact False.elim hq
 |ok fl=>
  cases fl with
  |ret u=>exact I1.after hq
  |next=>exact False.elim hq
  |brk=>exact False.elim hq
  |cont=>exact False.elim hq
theorem Fun.okX{P:Program}{w:World}{K:PySem.W.Frag}{mg:Str→Option Value}{base:Heap}{x qual:Str}{st:Stmt}{f:Addr}{fd:FuncData}{N ps:List Str}{k:Nat}{sp:Sp}(F:Fun K x qual st f fd)(S:FnScope N ps (AA st))(len:∀vs H Q E,sp vs H Q E→vs.length=ps.length)
  (hbody:∀(cdv:Value) (A:Around) (outer:List Env) (s:Shared) (H:Hp) (vs:List V) (Q:VK) (E:XK),Room k (A.deeper (envOfC qual (AA st) s.heap.objs.size f cdv))→sp vs H Q E→
   ∃t,PSs (Bz (CXe P w) P w K mg base N qual (AA st) f cdv A outer s H E) (Ai st) t∧t {nx:=fun _ H'=>Q .non H',rt:=Q} (start N vs) H):FnOk P w K mg base (CXe P w) (k+1) f fd ps sp:=by
 obtain⟨oc,od,kV,doc,pm,an,cdv,ct,osl,rfl,lk,hcd⟩:=F.ex
 exact Yg lk hcd S len fun A outer s H vs Q E hr hsp=>hbody cdv A outer s H vs Q E hr hsp
section
variable{X:Cx}
def cf(K:PySem.W.Frag)(H:Hp)(x:V)(t:Value):Prop:=TyOf K H x t∨∃a D,x=.ref a∧t=.ref D∧Rd H a (GC D a)∧ExcCls K D
def Yu(K:PySem.W.Frag):List V→Hp→VK→Prop:=fun vs H Q=>∃x c t cv b,vs=[x,c]∧RelV c cv∧cf K H x t∧PySem.W.kitOne K t cv=some b∧Q (.bl b) H
theorem BO:Az X (.builtin "isinstance") (Yu X.K):=by
 intro pins s σ H xs us Q I r h
 obtain⟨x,c,t,cv,b,rfl,rc,ty,e,q⟩:=h
 obtain⟨u,w',rfl,rx,rw'⟩:=Po r
 have e2:w'=cv:=by
  cases c with
  |ty n=>exact(show w'=Value.type n from rw').trans (show cv=Value.type n from rc).symm
  |ref a=>exact(show w'=Value.ref a from rw').trans (show cv=Value.ref a from rc).symm
  |non=>exact(show w'=Value.none from rw').trans (show cv=Value.none from rc).symm
  |bl b=>exact(show w'=Value.bool b from rw').trans (show cv=Value.bool b from rc).symm
  |int i=>exact absurd e (by obtain⟨k,rfl⟩:=rc;unfold PySem.W.kitOne;rcases ty with ty| ⟨_,_,_,rfl,_⟩<;>first| (cases ty<;> (intro z;simp[PySem.W.kitCls] at z))| (intro z;simp[PySem.W.kitCls] at z))
  |str i=>exact absurd e (by obtain⟨k,rfl⟩:=rc;unfold PySem.W.kitOne;rcases ty with ty| ⟨_,_,_,rfl,_⟩<;>first| (cases ty<;> (intro z;simp[PySem.W.kitCls] at z))| (intro z;simp[PySem.W.kitCls] at z))
  |byt i=>exact absurd e (by obtain⟨k,rfl⟩:=rc;unfold PySem.W.kitOne;rcases ty with ty| ⟨_,_,_,rfl,_⟩<;>first| (cases ty<;> (intro z;simp[PySem.W.kitCls] at z))| (intro z;simp[PySem.W.kitCls] at z))
  |flt i=>exact absurd e (by obtain⟨k,rfl⟩:=rc;unfold PySem.W.kitOne;rcases ty with ty| ⟨_,_,_,rfl,_⟩<;>first| (cases ty<;> (intro z;simp[PySem.W.kitCls] at z))| (intro z;simp[PySem.W.kitCls] at z))
 subst e2
 rcases ty with ty| ⟨a,D,rfl,rfl,hx,k⟩
 ·exact OY I rx ty e fun tk=> ⟨.bl b,H,I.tok tk,rfl,q⟩
 ·cases(show u=Value.ref a from rx)
  exact Lu I hx k e fun tk=> ⟨.bl b,H,I.tok tk,rfl,q⟩
theorem WQ:aT X .Mult (fun x y H Q=>∃i j,x=.int i∧y=.int j∧CMul i j∧Q (.int (i*j)) H):=by
 intro pins s σ H x y v u Q I r1 r2 h
 obtain⟨i,j,e1,e2,hc,q⟩:=h
 subst e1;subst e2
 obtain⟨t,rfl⟩:=r1
 obtain⟨t',rfl⟩:=r2
 exact PyProof.Rows.imul_int ⟨.int _,H,I.tok _,⟨_,rfl⟩,q⟩ hc.ok
theorem Hz:Az X (.builtin "repr") (fun xs H Q=>∃i,xs=[.int i]∧i.natAbs.log2<1920∧Q (.str (toString i)) H):=by
 intro pins s σ H xs us Q I r h
 obtain⟨i,rfl,hz,q⟩:=h
 obtain⟨u,rfl,t,rfl⟩:=Dd r
 exact PySem.P.repr_of_int hz ⟨.str _,H,I.tok _,⟨_,rfl⟩,q⟩
def WR(K:PySem.W.Frag):V→List V→Hp→VK→Prop:=fun x vs H Q=>∃l xs y,x=.ref l∧vs=[y]∧SqL K H l xs∧ED y=true∧xs.all ED=true∧Q (.int (xs.countP fun z=>Le z y)) H
theorem Gj{x:V}:∀{xs:List V} {us:List Value},Vals xs us→xs.all ED=true→us.countP (YB x)=xs.countP fun y=>Le y x
 |_,_,.nil,_=>rfl
 |y::xs,u::us,.cons r t,f=>by
  rw[List.all_cons,Bool.and_eq_true] at f
  rw[List.countP_cons,List.countP_cons,Ln r f.1,Gj t f.2]
theorem QF:aX X "list.count" (WR X.K):=by
 intro pins s σ H x vs v us Q I rx rv h
 obtain⟨l,xs,y,rfl,rfl,hl,fy,fx,q⟩:=h
 cases rx
 obtain⟨u,rfl,ru⟩:=rv.one
 obtain⟨its,r,p,hz⟩:=I.list hl
 obtain⟨⟨cls,dd,data,sl⟩,n,ho,hc,hdd,hd⟩:=id p
 simp only at hc hd
 subst hc hd
 refine call_meets F.slot_list_count ⟨_,ho,rfl⟩ F.entry_list_count (F.args_list_count_2 _ _) (SeqAt.list_countAt l its.toArray n dd sl u (YB y)) ⟨ho,fun z hz=>Gd ru fy r fx z (by simpa using hz),?_⟩
 rw[show its.toArray.toList=its from rfl,Gj r fx]
 exact⟨.int _,H,I.tok _,⟨_,rfl⟩,q⟩
def WU(K:PySem.W.Frag):V→List V→Hp→VK→Prop:=fun x vs H Q=>∃l xs y j,x=.ref l∧vs=[y]∧SqL K H l xs∧ED y=true∧xs.all ED=true∧(∃z,xs[j]?=some z∧Le z y=true)∧(∀m z,m<j→xs[m]?=some z→Le z y=false)∧Q (.int (j:Nat)) H
theorem QG:aX X "list.index" (WU X.K):=by
 intro pins s σ H x vs v us Q I rx rv h
 obtain⟨l,xs,y,j,rfl,rfl,hl,fy,fx,⟨z,ez,hit⟩,hno,q⟩:=h
 cases rx
 obtain⟨u,rfl,ru⟩:=rv.one
 obtain⟨its,r,p,hz⟩:=I.list hl
 obtain⟨⟨cls,dd,data,sl⟩,n,ho,hc,hdd,hd⟩:=id p
 simp only at hc hd
 subst hc hd
 have hlen:=r.length
 have hj:j<xs.length:=(List.getElem?_eq_some_iff.mp ez).1
 have at_:∀m (hm:m<its.toArray.size) z,xs[m]?=some z→YB y its.toArray[m]=Le z y:=fun m hm z e=>by
  obtain⟨w',e',rw'⟩:=r.get e
  have:its.toArray[m]=w':=by
   have:its[m]'(by simpa using hm)=w':=Option.some.inj (by rw[←e'];simp)
   simpa using this
  rw[this]
  exact Ln rw' (List.all_eq_true.mp fx z (List.mem_of_getElem? e))
 refine call_meets F.slot_list_index ⟨_,ho,rfl⟩ F.entry_list_index (F.args_list_index_2 _ _)
  (SeqAt.list_indexAt l its.toArray n dd sl u (YB y) j (by simpa[←hlen] using hj) (by have:=FU;omega) ?_ ?_) ⟨ho,fun z hz=>Gd ru fy r fx z (by simpa using hz),⟨.int _,H,I.tok _,⟨_,rfl⟩,q⟩⟩
 ·rw[at_ j _ z ez];exact hit
 ·intro m hm hlt
  have hmx:m<xs.length:=by omega
  rw[at_ m hm xs[m] (by simp[hmx])]
  exact hno m _ hlt (by simp[hmx])
def WV(X:Cx)(E:XK)(v:V)(vs:List V)(H:Hp)(Q:VK):Prop:=∃k f fd ps sp,v=.ref f∧FnOk X.prog X.w X.K X.mg X.base (CXe X.prog X.w) k f fd ps sp∧Room k X.A∧PySem.W.keepIn X.K (.ref f)=true∧Binds X.K fd ps []∧sp vs H Q E
def WX(X:Cx)(W:St→XK)(tf:TE)(t:TA):TE:=fun σ H Q=>tf σ H fun v H1=> (∃f,v=.ref f∧PySem.W.keepIn X.K (.ref f)=true)∧t σ H1 fun vs H2=>WV X (W σ) v vs H2 Q
theorem QH{W:St→XK}{fe e:Expr}{es:List Expr}{pos:Pos}{tf:TE}{t:TA}(xo:XFly X W)(hf:PE X fe tf)(ha:PA X (e::es) t)
  (hev:eval (.Call fe (e::es) [] pos) X.env=(do callWith pos (←eval fe X.env) [] (backTo pos (starEach (e::es) X.env)) (backToKw pos (keywordEach [] X.env))):=by rfl)
  (he:starEach (e::es) X.env=(false,eval e X.env)::starEach es X.env:=by rfl) (hpl:(backTo pos (starEach es X.env)).any (·.1)=false:=by rfl):PE X (.Call fe (e::es) [] pos) (WX X W tf t):=by
 intro pins s σ H Q I h
 refine Call_ (Ay (hf pins s σ H _ I h) fun fv s0 ⟨v,H0,I0,r0,⟨f,ef,hk⟩,q0⟩=>?_) hev
 subst ef
 cases r0
 refine PySem.W.callWith_K (h₀:=X.base) I0.ok.mod.kin hk (Ay (ha pos pins s0 σ H0 _ I0 q0) fun us s1 ⟨vs,H1,I1,r,q⟩=> ⟨I1.kIn,?_⟩) he hpl
 obtain⟨k,f',fd,ps,sp,ef,F,hr,hk',hb,q⟩:=q
 cases ef
 have r2:Vals vs (us++[]):=by rw[List.append_nil];exact r
 have hl:(us++[]).length=ps.length:=by rw[←r2.length];exact F.len _ _ _ _ q
 refine wpAny_call (codeAny_mono (F.run X.A X.stack s1 H1 ⟨us,[]⟩ (us++[]) vs Q (W σ) hr I1.env0 (hb s1 us I1.kIn hl) r2 q) fun r s' hq=>?_)
 cases r with
 |error e=>exact xo.fly pins σ H1 s1 e s' I1 hq
 |ok fl=>
  cases fl with
  |ret u=>exact I1.after hq
  |next=>exact False.elim hq
  |brk=>exact False.elim hq
  |cont=>exact False.elim hq
end
end L2
namespace StT
local macro_rules | `(tactic| omega) => `(tactic| first | lia | omega)
open PySem PySem.SetTable
theorem Lv:∀(m:Nat) (l:List Nat),(∀e,e<m→e∈l)→m≤l.length
 |0,_,_=>Nat.zero_le _
 |m+1,l,h=>by
  have hm:m∈l:=h m (Nat.lt_succ_self m)
  have ih:=Lv m (l.erase m) fun e he=>by
   rw[List.mem_erase_of_ne (Nat.ne_of_lt he)]
   exact h e (Nat.lt_succ_of_lt he)
  rw[List.length_erase_of_mem hm] at ih
  have:0<l.length:=List.length_pos_of_mem hm
  omega
theorem Bv:∀(n:Nat) (l:List Nat),l.Nodup→(∀x∈l,x<n)→l.length≤n
 |0,[],_,_=>Nat.le_refl _
 |0,x::_,_,h=>absurd (h x List.mem_cons_self) (Nat.not_lt_zero _)
 |n+1,l,nd,h=>by
  have ih:=Bv n (l.erase n) (nd.erase n) fun x hx=>by
   have h1:=h x (List.mem_of_mem_erase hx)
   have h2:x≠n:=fun e=>by
    subst e
    exact absurd hx (List.Nodup.not_mem_erase nd)
   omega
  by_cases hn:n∈l
  ·rw[List.length_erase_of_mem hn] at ih
   omega
  ·rw[List.erase_of_not_mem hn] at ih
   omega
def QI(xs:Array Nat):Prop:=xs.toList.Pairwise (· < ·)
theorem Gk{xs:Array Nat}(r:QI xs){i j:Nat}{x y:Nat}(hi:xs[i]?=some x)(hj:xs[j]?=some y)(h:i<j):x<y:=by
 obtain⟨h1,rfl⟩:=Array.getElem?_eq_some_iff.mp hi
 obtain⟨h2,rfl⟩:=Array.getElem?_eq_some_iff.mp hj
 have:=List.pairwise_iff_getElem.mp r i j (by simpa using h1) (by simpa using h2) h
 simpa using this
theorem JP{xs:Array Nat}{j:Nat}:∀(fuel lo hi:Nat),hi-lo≤fuel→lo≤hi→hi≤xs.size→(∀i x,i<lo→xs[i]?=some x→x<j)→(∀i x,hi≤i→xs[i]?=some x→j≤x)→QI xs→
  (below.go xs j fuel lo hi≤xs.size)∧(∀i x,i<below.go xs j fuel lo hi→xs[i]?=some x→x<j)∧∀i x,below.go xs j fuel lo hi≤i→xs[i]?=some x→j≤x
 |0,lo,hi,hf,hlo,hhi,h1,h2,r=>by
  have:lo=hi:=by omega
  subst this
  exact⟨hhi,h1,h2⟩
 |fuel+1,lo,hi,hf,hlo,hhi,h1,h2,r=>by
  unfold below.go
  by_cases hl:lo<hi
  ·rw[if_pos hl]
   have hm:(lo+hi)/2<xs.size:=by omega
   have em:xs[(lo+hi)/2]?=some xs[(lo+hi)/2]:=by simp[hm]
   have eg:xs.getD ((lo+hi)/2) j=xs[(lo+hi)/2]:=by simp[Array.getD,hm]
   dsimp only
   rw[eg]
   by_cases hc:xs[(lo+hi)/2]<j
   ·rw[if_pos hc]
    refine JP fuel _ _ (by omega) (by omega) hhi (fun i x hi' e=>?_) h2 r
    by_cases hx:i=(lo+hi)/2
    ·subst hx
     rw[em] at e;cases e
     exact hc
    ·exact Nat.lt_trans (Gk r e em (by omega)) hc
   ·rw[if_neg hc]
    refine JP fuel _ _ (by omega) (by omega) (by omega) h1 (fun i x hi' e=>?_) r
    by_cases hx:i=(lo+hi)/2
    ·subst hx
     rw[em] at e;cases e
     omega
    ·have:=Gk r em e (by omega)
     omega
  ·rw[if_neg hl]
   have:lo=hi:=by omega
   subst this
   exact⟨hhi,h1,h2⟩
theorem DG{xs:Array Nat}{j:Nat}(r:QI xs):(below xs j≤xs.size)∧(∀i x,i<below xs j→xs[i]?=some x→x<j)∧∀i x,below xs j≤i→xs[i]?=some x→j≤x:=
 JP _ _ _ (by omega) (by omega) (Nat.le_refl _) (fun i x h=>absurd h (Nat.not_lt_zero _)) (fun i x h e=>by
  have:=(Array.getElem?_eq_some_iff.mp e).1
  omega) r
theorem CB{xs:Array Nat}{i j:Nat}(r:QI xs)(h:xs[i]?=some j):below xs j=i:=by
 obtain⟨b1,b2,b3⟩:=DG (j:=j) r
 have hi:i<xs.size:=(Array.getElem?_eq_some_iff.mp h).1
 apply Nat.le_antisymm
 ·apply Nat.le_of_not_lt
  intro hc
  exact absurd (b2 i j hc h) (Nat.lt_irrefl _)
 ·apply Nat.le_of_not_lt
  intro hc
  have e:xs[below xs j]?=some xs[below xs j]:=by simp[Nat.lt_trans hc hi]
  have h1:=b3 _ _ (Nat.le_refl _) e
  have h2:=Gk r e h hc
  omega
theorem BS{α:Type}(xs:Array α)(p:Nat)(x:α):(insertAt xs p x).toList=xs.toList.take p++x::xs.toList.drop p:=by
 unfold insertAt
 simp
 rw[List.take_of_length_le (by simp)]
theorem getElem?_insertAt{α:Type}(xs:Array α)(p:Nat)(x:α)(hp:p≤xs.size)(i:Nat):(insertAt xs p x)[i]?=if i<p then xs[i]? else if i=p then some x else xs[i-1]?:=by
 have e:(insertAt xs p x)[i]?=(insertAt xs p x).toList[i]?:=by simp
 rw[e,BS]
 have hl:(xs.toList.take p).length=p:=by simp[hp]
 by_cases h1:i<p
 ·rw[if_pos h1,List.getElem?_append_left (by omega),List.getElem?_take_of_lt h1]
  simp
 ·rw[if_neg h1,List.getElem?_append_right (by omega),hl]
  by_cases h2:i=p
  ·subst h2
   simp
  ·rw[if_neg h2]
   have:i-p=(i-p-1)+1:=by omega
   rw[this,List.getElem?_cons_succ,List.getElem?_drop]
   have:p+(i-p-1)=i-1:=by omega
   rw[this]
   simp
theorem EE{α:Type}(xs:Array α)(p:Nat)(x:α)(hp:p≤xs.size):(insertAt xs p x).size=xs.size+1:=by
 rw[←Array.length_toList,BS]
 simp
 omega
theorem Lw{xs:Array Nat}{j:Nat}(r:QI xs)(hj:∀i:Nat,xs[i]?≠some j):QI (insertAt xs (below xs j) j):=by
 obtain⟨b1,b2,b3⟩:=DG (j:=j) r
 unfold QI
 rw[BS]
 have lt:∀y∈xs.toList.take (below xs j),y<j:=fun y hy=>by
  obtain⟨i,hi⟩:=List.getElem?_of_mem hy
  have hlt:i<below xs j:=by
   have:=(List.getElem?_eq_some_iff.mp hi).1
   simp at this;omega
  rw[List.getElem?_take_of_lt hlt] at hi
  exact b2 i y hlt (by simpa using hi)
 have gt:∀y∈xs.toList.drop (below xs j),j<y:=fun y hy=>by
  obtain⟨i,hi⟩:=List.getElem?_of_mem hy
  rw[List.getElem?_drop] at hi
  have hi':xs[below xs j+i]?=some y:=by simpa using hi
  have h1:=b3 _ y (Nat.le_add_right _ _) hi'
  have h2:y≠j:=fun e=>hj _ (e▸hi')
  omega
 refine List.pairwise_append.mpr ⟨List.Pairwise.sublist (List.take_sublist _ _) r,List.pairwise_cons.mpr ⟨gt,List.Pairwise.sublist (List.drop_sublist _ _) r⟩,fun a ha b hb=>?_⟩
 rcases List.mem_cons.mp hb with rfl|hb
 ·exact lt a ha
 ·exact Nat.lt_trans (lt a ha) (gt b hb)
def adv(m:Nat)(p:Probe):Probe:=(SetTable.mk m #[] #[] 0 false 0 false).advance p
theorem Gm(t:SetTable)(p:Probe):t.advance p=adv t.mask p:=rfl
theorem Gp{m:Nat}{p:Probe}(h:0<p.more):adv m p=⟨p.j+1,p.more-1,p.i,p.perturb,p.dummy⟩:=by
 unfold adv advance
 exact if_pos h
theorem Gq{m:Nat}{p:Probe}(h:¬0<p.more):adv m p=⟨(leap m p.i p.perturb).1,runEnd m (leap m p.i p.perturb).1- (leap m p.i p.perturb).1,(leap m p.i p.perturb).1,(leap m p.i p.perturb).2,p.dummy⟩:=by
 unfold adv advance
 exact if_neg h
def advN(m:Nat):Nat→Probe→Probe
 |0,p=>p
 |n+1,p=>advN m n (adv m p)
theorem CC(m:Nat):∀(a b:Nat) (p:Probe),advN m (a+b) p=advN m b (advN m a p)
 |0,b,p=>by rw[Nat.zero_add];rfl
 |a+1,b,p=>by
  rw[Nat.succ_add]
  exact CC m a b (adv m p)
theorem IT(m n:Nat)(p:Probe):advN m (n+1) p=adv m (advN m n p):=CC m n 1 p
def st(m:Nat)(x:Nat×Nat)(d:Option Nat):Probe:={j:=x.1,more:=runEnd m x.1-x.1,i:=x.1,perturb:=x.2,dummy:=d}
theorem QJ(t:SetTable)(h:Int):t.probeStart h=st t.mask (bits h%(t.mask+1),bits h) none:=rfl
def Lx(m:Nat):Nat→Nat×Nat→Nat×Nat
 |0,x=>x
 |n+1,x=>Lx m n (leap m x.1 x.2)
theorem FV(m i:Nat)(h:i≤m):i+(runEnd m i-i)≤m∧runEnd m i-i≤9:=by
 unfold runEnd
 split<;>omega
theorem JQ(m:Nat):∀(k:Nat) (p:Probe),k≤p.more→advN m k p={p with j:=p.j+k,more:=p.more-k}
 |0,p,_=>rfl
 |k+1,p,h=>by
  show advN m k (adv m p)=_
  have e:adv m p={p with j:=p.j+1,more:=p.more-1}:=Gp (by omega)
  rw[e,JQ m k _ (by show k≤p.more-1;omega)]
  show({p with j:=p.j+1+k,more:=p.more-1-k}:Probe)={p with j:=p.j+(k+1),more:=p.more- (k+1)}
  rw[show p.j+1+k=p.j+(k+1) by omega,show p.more-1-k=p.more- (k+1) by omega]
theorem Gu(m:Nat)(p:Probe):advN m (p.more+1) p=st m (leap m p.i p.perturb) p.dummy:=by
 rw[IT,JQ m p.more p (Nat.le_refl _)]
 rw[Gq (by show¬0<p.more-p.more;omega)]
 rfl
theorem Gv(m:Nat):∀(L:Nat) (x:Nat×Nat),x.1≤m→(Lx m L x).1≤m
 |0,_,h=>h
 |L+1,x,_=>Gv m L _ (by show(x.1*5+1+x.2/32)%(m+1)≤m;have:=Nat.mod_lt (x.1*5+1+x.2/32) (show 0<m+1 by omega);omega)
theorem QK(m:Nat):∀(L:Nat) (x:Nat×Nat) (d:Option Nat),x.1≤m→∃n,n≤10*L∧advN m n (st m x d)=st m (Lx m L x) d
 |0,x,d,_=> ⟨0,by omega,rfl⟩
 |L+1,x,d,h=>by
  have hl:(leap m x.1 x.2).1≤m:=Gv m 1 x h
  obtain⟨n,hn,e⟩:=QK m L (leap m x.1 x.2) d hl
  have h9:=(FV m x.1 h).2
  refine⟨(st m x d).more+1+n,?_,?_⟩
  ·show runEnd m x.1-x.1+1+n≤_;omega
  ·rw[CC,Gu]
   exact e
theorem NK(m:Nat):∀(a b:Nat) (x:Nat×Nat),Lx m (a+b) x=Lx m b (Lx m a x)
 |0,b,x=>by rw[Nat.zero_add];rfl
 |a+1,b,x=>by rw[Nat.succ_add];exact NK m a b _
theorem NL(m:Nat):∀(L:Nat) (x:Nat×Nat),(Lx m L x).2=x.2/32^L
 |0,x=>by simp[Lx]
 |L+1,x=>by
  show(Lx m L (leap m x.1 x.2)).2=_
  rw[NL m L]
  show x.2/32/32^L=x.2/32^(L+1)
  rw[Nat.div_div_eq_div_mul,Nat.pow_succ,Nat.mul_comm]
def YC(m:Nat):Nat→Nat→List Nat
 |0,_=> []
 |n+1,i=>i::YC m n ((i*5+1)%(m+1))
def fN(m:Nat):Nat→Nat→Nat
 |0,i=>i
 |n+1,i=>fN m n ((i*5+1)%(m+1))
theorem Yv(m:Nat):∀(L i:Nat),Lx m L (i,0)=(fN m L i,0)
 |0,_=>rfl
 |L+1,i=>by
  show Lx m L ((i*5+1+0/32)%(m+1),0/32)=_
  rw[Nat.zero_div,Nat.add_zero]
  exact Yv m L _
theorem JR(m:Nat):∀(a b x:Nat),fN m (a+b) x=fN m b (fN m a x)
 |0,b,x=>by rw[Nat.zero_add];rfl
 |a+1,b,x=>by rw[Nat.succ_add];exact JR m a b _
theorem JS(m:Nat):∀(n i e:Nat),e∈YC m n i→∃k,k<n∧fN m k i=e
 |0,_,_,h=>by simp[YC] at h
 |n+1,i,e,h=>by
  rcases List.mem_cons.mp h with rfl|h
  ·exact⟨0,Nat.succ_pos _,rfl⟩
  ·obtain⟨k,hk,hf⟩:=JS m n _ e h
   exact⟨k+1,by omega,hf⟩
def CD(m:Nat):Prop:=m=7∨m=31∨m=127∨m=511
theorem bT{m:Nat}(h:CD m):fN m (m+1) 0=0∧∀e,e≤m→e∈YC m (m+1) 0:=by
 have all:∀k,((List.range (k+1)).all fun e=> (YC k (k+1) 0).contains e)=true→∀e,e≤k→e∈YC k (k+1) 0:=fun k hk e he=>by
  have:=List.all_eq_true.mp hk e (List.mem_range.mpr (Nat.lt_succ_of_le he))
  exact List.contains_iff_mem.mp this
 rcases h with rfl|rfl|rfl|rfl
 ·exact⟨by decide+kernel,all 7 (by decide+kernel)⟩
 ·exact⟨by decide+kernel,all 31 (by decide+kernel)⟩
 ·exact⟨by decide+kernel,all 127 (by decide+kernel)⟩
 ·exact⟨by decide+kernel,all 511 (by decide+kernel)⟩
theorem cg{m:Nat}(h:CD m){i e:Nat}(hi:i≤m)(he:e≤m):∃k,k≤m∧fN m k i=e:=by
 obtain⟨c0,call⟩:=bT h
 obtain⟨a,ha,ea⟩:=JS m _ _ _ (call i hi)
 obtain⟨b,hb,eb⟩:=JS m _ _ _ (call e he)
 by_cases hab:a≤b
 ·refine⟨b-a,by omega,?_⟩
  rw[←ea,←JR,show a+(b-a)=b by omega]
  exact eb
 ·refine⟨m+1-a+b,by omega,?_⟩
  rw[←ea,←JR,show a+(m+1-a+b)=(m+1)+b by omega,JR,c0]
  exact eb
structure Pr(m:Nat)(p:Probe):Prop where
 ij:p.j+p.more≤m
 more:p.more≤9
 i:p.i≤m
 pert:p.perturb<2^64
theorem Pr.st{m:Nat}{x:Nat×Nat}{d:Option Nat}(h1:x.1≤m)(h2:x.2<2^64):Pr m (st m x d):=⟨(FV m x.1 h1).1,(FV m x.1 h1).2,h1,h2⟩
theorem Pr.adv{m:Nat}{p:Probe}(h:Pr m p):Pr m (adv m p):=by
 by_cases hm:0<p.more
 ·rw[Gp hm]
  exact⟨by have:=h.ij;show p.j+1+(p.more-1)≤m;omega,by have:=h.more;show p.more-1≤9;omega,h.i,h.pert⟩
 ·rw[Gq hm]
  have hl:(leap m p.i p.perturb).1≤m:=Gv m 1 (p.i,p.perturb) h.i
  exact⟨(FV m _ hl).1,(FV m _ hl).2,hl,Nat.lt_of_le_of_lt (Nat.div_le_self _ _) h.pert⟩
theorem Pr.advN{m:Nat}:∀{n:Nat} {p:Probe},Pr m p→Pr m (advN m n p)
 |0,_,h=>h
 |n+1,_,h=>Pr.advN (n:=n) h.adv
theorem Pr.j{m:Nat}{p:Probe}(h:Pr m p):p.j≤m:=by have:=h.ij;omega
theorem NM(h:Int):bits h<2^64:=by
 unfold bits
 have h1:=Int.emod_nonneg h (show(2^64:Int)≠0 by decide)
 have h2:=Int.emod_lt_of_pos h (show(0:Int)<2^64 by decide)
 have h3:((2:Nat)^64:Nat)=18446744073709551616:=by decide
 omega
def start(m:Nat)(h:Int):Probe:=st m (bits h%(m+1),bits h) none
theorem Pr.start(m:Nat)(h:Int):Pr m (start m h):=Pr.st (by show bits h%(m+1)≤m;have:=Nat.mod_lt (bits h) (show 0<m+1 by omega);omega) (NM h)
theorem Yw{q:Nat}(h:q<2^64):q/32^13=0:=Nat.div_eq_of_lt (Nat.lt_of_lt_of_le h (by decide))
theorem Up{m:Nat}(hm:CD m){x:Nat×Nat}(h1:x.1≤m)(h2:x.2<2^64){e:Nat}(he:e≤m):∃L,L≤m+13∧(Lx m L x).1=e:=by
 have e13:Lx m 13 x=((Lx m 13 x).1,0):=by
  have:=NL m 13 x
  rw[Yw h2] at this
  rw[←this]
 obtain⟨k,hk,ek⟩:=cg hm (Gv m 13 x h1) he
 refine⟨13+k,by omega,?_⟩
 rw[NK,e13,Yv]
 exact ek
theorem Uq{m:Nat}(hm:CD m){p:Probe}(h:Pr m p){e:Nat}(he:e≤m):∃n,n<10*(m+15)∧(advN m n p).j=e:=by
 have hl:(leap m p.i p.perturb).1≤m:=Gv m 1 (p.i,p.perturb) h.i
 obtain⟨L,hL,eL⟩:=Up hm (x:=leap m p.i p.perturb) hl (Nat.lt_of_le_of_lt (Nat.div_le_self _ _) h.pert) he
 obtain⟨n,hn,en⟩:=QK m L (leap m p.i p.perturb) p.dummy hl
 refine⟨p.more+1+n,by have:=h.more;omega,?_⟩
 rw[CC,Gu,en]
 exact eL
theorem Of(m:Nat)(p:Probe):(adv m p).dummy=p.dummy:=by
 by_cases h:0<p.more
 ·rw[Gp h]
 ·rw[Gq h]
theorem EL(m:Nat):∀(n:Nat) (p:Probe),(advN m n p).dummy=p.dummy
 |0,_=>rfl
 |n+1,p=> (EL m n _).trans (Of m p)
end StT
namespace StT
local macro_rules | `(tactic| omega) => `(tactic| first | lia | omega)
open PySem PySem.SetTable
def Ke(t:SetTable)(j:Nat):Prop:=∃i:Nat,t.place[i]?=some j
structure Tb(t:SetTable)(hs:List Int):Prop where
 mask:CD t.mask
 dum:t.dummies= #[]
 ris:QI t.place
 le:∀i j:Nat,t.place[i]?=some j→j≤t.mask
 size:t.place.size=hs.length
 fnd:∀(i j:Nat) (h:Int),t.place[i]?=some j→hs[i]?=some h→∃n,(advN t.mask n (start t.mask h)).j=j∧∀k,k<n→Ke t (advN t.mask k (start t.mask h)).j
section
variable{t:SetTable}{hs:List Int}
theorem Tb.odd(T:Tb t hs):t.mask%2=1:=by rcases T.mask with h|h|h|h<;>rw[h]
theorem Tb.low(T:Tb t hs):7≤t.mask:=by rcases T.mask with h|h|h|h<;>omega
theorem Tb.live(T:Tb t hs){i j:Nat}(h:t.place[i]?=some j):t.slot j=.live i:=by
 unfold slot
 rw[CB T.ris h]
 simp only[h,beq_self_eq_true,if_true]
theorem Tb.empty(T:Tb t hs){j:Nat}(h:¬Ke t j):t.slot j=.empty:=by
 unfold slot
 have h1:(t.place[below t.place j]?==some j)=false:=by
  rw[beq_eq_false_iff_ne]
  exact fun e=>h ⟨_,e⟩
 have h2:has t.dummies j=false:=by
  unfold has
  rw[T.dum]
  rfl
 simp only[h1,h2,Bool.false_eq_true,if_false]
theorem Tb.room(T:Tb t hs)(h:hs.length≤t.mask):∃e,e≤t.mask∧¬Ke t e:=by
 apply Classical.byContradiction
 intro hn
 have:=Lv (t.mask+1) t.place.toList fun e he=>by
  have:Ke t e:=Classical.byContradiction fun hc=>hn ⟨e,by omega,hc⟩
  obtain⟨i,hi⟩:=this
  exact List.mem_of_getElem? (i:=i) (by simpa using hi)
 rw[Array.length_toList,T.size] at this
 omega
theorem Sz(T:Tb t hs){hashAt:Nat→Int}{h:Int}{p:Probe}{i:Nat}(fuel:Nat)(h1:t.place[i]?=some p.j)(h2:hashAt i≠h):probe.go t hashAt h (fuel+1) p=probe.go t hashAt h fuel (adv t.mask p):=by
 rw[probe.go,T.live h1]
 simp only[beq_iff_eq,if_neg h2,Gm]
theorem Kf(T:Tb t hs){hashAt:Nat→Int}{h:Int}:∀(n fuel:Nat) (p:Probe),(∀k,k<n→∃i,t.place[i]?=some (advN t.mask k p).j∧hashAt i≠h)→probe.go t hashAt h (fuel+n) p=probe.go t hashAt h fuel (advN t.mask n p)
 |0,_,_,_=>rfl
 |n+1,fuel,p,hk=>by
  obtain⟨i,h1,h2⟩:=hk 0 (Nat.succ_pos _)
  have h1:t.place[i]?=some p.j:=h1
  rw[←Nat.add_assoc,Sz T _ h1 h2]
  exact Kf T n fuel _ fun k hk'=>hk (k+1) (Nat.succ_lt_succ hk')
theorem QL(T:Tb t hs){hashAt:Nat→Int}{h:Int}{p:Probe}{fuel:Nat}(h1:¬Ke t p.j):probe.go t hashAt h (fuel+1) p=some (.empty p.j p.dummy):=by
 rw[probe.go,T.empty h1]
theorem WY(T:Tb t hs){hashAt:Nat→Int}{h:Int}{p:Probe}{fuel i:Nat}(h1:t.place[i]?=some p.j)(h2:hashAt i=h):probe.go t hashAt h (fuel+1) p=some (.candidate p.j i (adv t.mask p)):=by
 rw[probe.go,T.live h1]
 simp only[beq_iff_eq,if_pos h2,Gm]
theorem least{S:Nat→Prop}:∀(n:Nat),S n→∃m,m≤n∧S m∧∀k,k<m→¬S k:=by
 intro n
 induction n using Nat.strongRecOn with
 |ind n ih=>
  intro hn
  by_cases h:∃k,k<n∧S k
  ·obtain⟨k,hk,sk⟩:=h
   obtain⟨m,h1,h2,h3⟩:=ih k hk sk
   exact⟨m,by omega,h2,h3⟩
  ·exact⟨n,Nat.le_refl _,hn,fun k hk sk=>h ⟨k,hk,sk⟩⟩
theorem Kg(T:Tb t hs)(hl:hs.length≤t.mask){p:Probe}(pr:Pr t.mask p)(hashAt:Nat→Int)(h:Int):∃n,(∀k,k<n→∃i,t.place[i]?=some (advN t.mask k p).j∧hashAt i≠h)∧
  ((¬Ke t (advN t.mask n p).j∧t.probe hashAt h p=some (.empty (advN t.mask n p).j p.dummy))∨∃i,t.place[i]?=some (advN t.mask n p).j∧hashAt i=h∧t.probe hashAt h p=some (.candidate (advN t.mask n p).j i (advN t.mask (n+1) p))):=by
 obtain⟨e,he,hne⟩:=T.room hl
 obtain⟨n0,hn0,en0⟩:=Uq T.mask pr he
 obtain⟨n,hn,sn,ln⟩:=least (S:=fun n=>¬Ke t (advN t.mask n p).j∨∃i,t.place[i]?=some (advN t.mask n p).j∧hashAt i=h) n0 (.inl (by rw[en0];exact hne))
 have pre:∀k,k<n→∃i,t.place[i]?=some (advN t.mask k p).j∧hashAt i≠h:=fun k hk=>by
  have:=ln k hk
  have ho:Ke t (advN t.mask k p).j:=Classical.byContradiction fun hc=>this (.inl hc)
  obtain⟨i,hi⟩:=ho
  exact⟨i,hi,fun z=>this (.inr ⟨i,hi,z⟩)⟩
 have hfuel:10*turns t.mask=(10*(t.mask+15)-n-1+1)+n:=by unfold turns;omega
 refine⟨n,pre,?_⟩
 unfold probe
 rw[hfuel,Kf T n _ p pre]
 rcases sn with sn| ⟨i,h1,h2⟩
 ·exact .inl ⟨sn,by rw[QL T sn,EL]⟩
 ·exact .inr ⟨i,h1,h2,by rw[WY T h1 h2,IT]⟩
theorem Tb.put(T:Tb t hs){h:Int}{n:Nat}(hfree:¬Ke t (advN t.mask n (start t.mask h)).j)(hway:∀k,k<n→Ke t (advN t.mask k (start t.mask h)).j):
  Tb (t.put (advN t.mask n (start t.mask h)).j).1 (hs.take (t.put (advN t.mask n (start t.mask h)).j).2++h::hs.drop (t.put (advN t.mask n (start t.mask h)).j).2)∧(t.put (advN t.mask n (start t.mask h)).j).2≤hs.length∧
   (t.put (advN t.mask n (start t.mask h)).j).1.mask=t.mask∧(t.put (advN t.mask n (start t.mask h)).j).1.plain=t.plain∧(t.put (advN t.mask n (start t.mask h)).j).1.led=t.led∧(t.put (advN t.mask n (start t.mask h)).j).1.moves=t.moves:=by
 have hj:(advN t.mask n (start t.mask h)).j≤t.mask:=(Pr.start t.mask h).advN.j
 generalize hJ:(advN t.mask n (start t.mask h)).j=J at*
 have hd:has t.dummies J=false:=by
  unfold has
  rw[T.dum]
  rfl
 have hnot:∀i:Nat,t.place[i]?≠some J:=fun i e=>hfree ⟨i,e⟩
 have hb:=(DG (j:=J) T.ris).1
 have e1:(t.put J).1={t with place:=insertAt t.place (below t.place J) J}:=by
  unfold SetTable.put
  simp only[hd,Bool.false_eq_true,if_false]
 have e2:(t.put J).2=below t.place J:=rfl
 rw[e1,e2]
 have ix:=getElem?_insertAt t.place (below t.place J) J hb
 have hl:(hs.take (below t.place J)).length=below t.place J:=by rw[List.length_take,←T.size];omega
 have ih:∀i:Nat,(hs.take (below t.place J)++h::hs.drop (below t.place J))[i]?=if i<below t.place J then hs[i]? else if i=below t.place J then some h else hs[i-1]?:=fun i=>by
  by_cases h1:i<below t.place J
  ·rw[if_pos h1,List.getElem?_append_left (by omega),List.getElem?_take_of_lt h1]
  ·rw[if_neg h1,List.getElem?_append_right (by omega),hl]
   by_cases h2:i=below t.place J
   ·subst h2;simp
   ·rw[if_neg h2,show i-below t.place J=(i-below t.place J-1)+1 by omega,List.getElem?_cons_succ,List.getElem?_drop]
    rw[show below t.place J+(i-below t.place J-1)=i-1 by omega]
 have occ:∀x,Ke t x→Ke {t with place:=insertAt t.place (below t.place J) J} x:=fun x ⟨i,hi⟩=>by
  by_cases h1:i<below t.place J
  ·exact⟨i,by show(insertAt t.place (below t.place J) J)[i]?=some x;rw[ix,if_pos h1];exact hi⟩
  ·exact⟨i+1,by show(insertAt t.place (below t.place J) J)[i+1]?=some x;rw[ix,if_neg (by omega),if_neg (by omega)];exact hi⟩
 refine⟨⟨T.mask,T.dum,Lw T.ris hnot,fun i j e=>?_,?_,fun i j h' e eh=>?_⟩,by rw[←T.size];exact hb,rfl,rfl,rfl,rfl⟩
 ·have e:(insertAt t.place (below t.place J) J)[i]?=some j:=e
  rw[ix] at e
  by_cases h1:i<below t.place J
  ·rw[if_pos h1] at e;exact T.le i j e
  ·rw[if_neg h1] at e
   by_cases h2:i=below t.place J
   ·rw[if_pos h2] at e;cases e;exact hj
   ·rw[if_neg h2] at e;exact T.le _ j e
 ·show(insertAt t.place (below t.place J) J).size=_
  rw[EE _ _ _ hb,T.size]
  have hb':below t.place J≤hs.length:=by rw[←T.size];exact hb
  rw[List.length_append,hl,List.length_cons,List.length_drop]
  omega
 ·have e:(insertAt t.place (below t.place J) J)[i]?=some j:=e
  rw[ix] at e
  rw[ih] at eh
  by_cases h1:i<below t.place J
  ·rw[if_pos h1] at e eh
   obtain⟨k,ek,wk⟩:=T.fnd i j h' e eh
   exact⟨k,ek,fun k' hk=>occ _ (wk k' hk)⟩
  ·rw[if_neg h1] at e eh
   by_cases h2:i=below t.place J
   ·rw[if_pos h2] at e eh
    cases e;cases eh
    exact⟨n,hJ,fun k hk=>occ _ (hway k hk)⟩
   ·rw[if_neg h2] at e eh
    obtain⟨k,ek,wk⟩:=T.fnd _ j h' e eh
    exact⟨k,ek,fun k' hk=>occ _ (wk k' hk)⟩
theorem Tb.fresh(f mv:Nat)(led:Bool):Tb (SetTable.fresh f mv led) []:=by
 refine⟨.inl rfl,rfl,List.Pairwise.nil,fun i j e=>?_,rfl,fun i j h e=>?_⟩
 ·have e:(#[]:Array Nat)[i]?=some j:=e
  simp at e
 ·have e:(#[]:Array Nat)[i]?=some j:=e
  simp at e
end
end StT
namespace StT
local macro_rules | `(tactic| omega) => `(tactic| first | lia | omega)
open PySem PySem.SetTable
structure LC(m:Nat)(owner:Array (Option Nat))(hs:List Int):Prop where
 size:owner.size=m+1
 put:∀(r:Nat) (h:Int),hs[r]?=some h→∃j,j≤m∧owner[j]?=some (some r)∧∃n,(advN m n (start m h)).j=j∧∀k,k<n→∃r',owner[(advN m k (start m h)).j]?=some (some r')
 lt:∀j r:Nat,owner[j]?=some (some r)→r<hs.length
 inj:∀j j' r:Nat,owner[j]?=some (some r)→owner[j']?=some (some r)→j=j'
section
variable{m:Nat}{owner:Array (Option Nat)}{hs:List Int}
theorem JT(hz:owner.size=m+1){x:Nat}(hx:x≤m):owner.getD x (some 0)=owner[x]'(by omega)∧owner[x]?=some (owner[x]'(by omega)):=by
 have hx':x<owner.size:=by omega
 exact⟨by simp[Array.getD,hx'],by simp[hx']⟩
theorem Ur(hz:owner.size=m+1){x:Nat}(hx:x≤m)(h:(owner.getD x (some 0)).isNone=false):∃r,owner[x]?=some (some r):=by
 obtain⟨h1,h2⟩:=JT hz hx
 rw[h1] at h
 cases e:owner[x]'(by omega) with
 |none=>rw[e] at h;cases h
 |some r=>exact⟨r,by rw[h2,e]⟩
theorem TB(hz:owner.size=m+1){x:Nat}(hx:x≤m)(h:(owner.getD x (some 0)).isNone=true):owner[x]?=some none:=by
 obtain⟨h1,h2⟩:=JT hz hx
 rw[h1] at h
 cases e:owner[x]'(by omega) with
 |none=>rw[h2,e]
 |some r=>rw[e] at h;cases h
theorem Ly{i q k:Nat}(hk:k≤runEnd m i-i):(advN m k (st m (i,q) none)).j=i+k:=by
 rw[JQ m k _ hk]
 rfl
theorem IU(m i:Nat):i≤runEnd m i:=by
 unfold runEnd
 split<;>omega
theorem IV(hz:owner.size=m+1){j:Nat}:∀(fuel i q:Nat),i≤m→layClean.free m owner fuel i q=some j→
  ∃n,(advN m n (st m (i,q) none)).j=j∧(∀k,k<n→∃r,owner[(advN m k (st m (i,q) none)).j]?=some (some r))∧owner[j]?=some none∧j≤m
 |0,i,q,_,e=>by simp[layClean.free] at e
 |fuel+1,i,q,hi,e=>by
  have hr:=FV m i hi
  have hge:=IU m i
  rw[layClean.free] at e
  cases hf:(List.range (runEnd m i+1-i)).find? fun k=> (owner.getD (i+k) (some 0)).isNone with
  |some k=>
   rw[hf] at e
   cases e
   have hk1:(owner.getD (i+k) (some 0)).isNone=true:=by simpa using List.find?_some hf
   have hkm:k<runEnd m i+1-i:=List.mem_range.mp (List.mem_of_find?_eq_some hf)
   refine⟨k,Ly (by omega),fun k' hk'=>?_,TB hz (by omega) hk1,by omega⟩
   rw[Ly (by omega)]
   refine Ur hz (by omega) ?_
   have:=List.find?_range_eq_some.mp hf
   have h3:=this.2.2 k' hk'
   simpa using h3
  |none=>
   rw[hf] at e
   have hl:(leap m i q).1≤m:=Gv m 1 (i,q) hi
   obtain⟨n,h1,h2,h3⟩:=IV hz fuel _ _ hl e
   have all:∀k,k≤runEnd m i-i→∃r,owner[(advN m k (st m (i,q) none)).j]?=some (some r):=fun k hk=>by
    rw[Ly hk]
    refine Ur hz (by omega) ?_
    have:=List.find?_eq_none.mp hf k (List.mem_range.mpr (by omega))
    exact Bool.eq_false_iff.mpr this
   have hleap:advN m (runEnd m i-i+1) (st m (i,q) none)=st m (leap m i q) none:=Gu m (st m (i,q) none)
   refine⟨(runEnd m i-i+1)+n,?_,fun k hk=>?_,h3⟩
   ·rw[CC,hleap]
    exact h1
   ·by_cases hk':k≤runEnd m i-i
    ·exact all k hk'
    ·have e2:k=(runEnd m i-i+1)+(k- (runEnd m i-i+1)):=by omega
     rw[e2,CC,hleap]
     exact h2 _ (by omega)
theorem IW(hz:owner.size=m+1){e:Nat}(he:owner[e]?=some none)(hem:e≤m):∀(fuel L i q:Nat),i≤m→L<fuel→(Lx m L (i,q)).1=e→layClean.free m owner fuel i q≠none
 |0,L,_,_,_,h,_=>absurd h (Nat.not_lt_zero _)
 |fuel+1,L,i,q,hi,hL,eL=>by
  rw[layClean.free]
  have hge:=IU m i
  cases hf:(List.range (runEnd m i+1-i)).find? fun k=> (owner.getD (i+k) (some 0)).isNone with
  |some k=>simp
  |none=>
   cases L with
   |zero=>
    have eL:i=e:=eL
    subst eL
    have:=List.find?_eq_none.mp hf 0 (List.mem_range.mpr (by omega))
    obtain⟨h1,h2⟩:=JT hz hem
    rw[he] at h2
    have h2:=Option.some.inj h2
    rw[Nat.add_zero,h1,←h2] at this
    exact absurd rfl this
   |succ L=>
    exact IW hz he hem fuel L _ _ (Gv m 1 (i,q) hi) (by omega) eL
def Ei(m:Nat)(acc:Option (Array (Option Nat)×Nat))(h:Int):Option (Array (Option Nat)×Nat):=do
 let(owner,k)←acc
 let j←layClean.free m owner (turns m) (bits h%(m+1)) (bits h)
 pure (owner.setIfInBounds j (some k),k+1)
theorem Kh(m:Nat)(hs:Array Int):layClean m hs=(hs.toList.foldl (Ei m) (some (Array.replicate (m+1) none,0))).map (·.1):=by
 unfold layClean
 rw[Array.foldl_toList]
 rfl
theorem LC.room(c:LC m owner hs)(h:hs.length≤m):∃e,e≤m∧owner[e]?=some none:=by
 apply Classical.byContradiction
 intro hn
 have all:∀e,e≤m→∃r,owner[e]?=some (some r):=fun e he=>by
  have hz:=c.size
  cases q:owner[e]'(by omega) with
  |none=>exact absurd ⟨e,he,by rw[←q];simp[show e<owner.size by omega]⟩ hn
  |some r=>exact⟨r,by rw[←q];simp[show e<owner.size by omega]⟩
 have hf:∀e,∃r,e≤m→owner[e]?=some (some r):=fun e=>by
  by_cases he:e≤m
  ·obtain⟨r,hr⟩:=all e he;exact⟨r,fun _=>hr⟩
  ·exact⟨0,fun z=>absurd z he⟩
 obtain⟨f,hf⟩:=Classical.axiomOfChoice hf
 have hl:=Bv hs.length ((List.range (m+1)).map f) (by
  refine List.Pairwise.map f (R:=fun a b=>a≠b∧a≤m∧b≤m) (fun a b hab e=>?_) ?_
  ·have h1:=hf a hab.2.1
   have h2:=hf b hab.2.2
   rw[e] at h1
   exact hab.1 (c.inj a b _ h1 h2)
  ·refine List.Pairwise.imp_of_mem (fun{a b} ha hb h=> ⟨Nat.ne_of_lt h,?_,?_⟩) (List.pairwise_lt_range (n:=m+1))
   ·have:=List.mem_range.mp ha;omega
   ·have:=List.mem_range.mp hb;omega) (fun x hx=>by
  obtain⟨e,he,rfl⟩:=List.mem_map.mp hx
  exact c.lt e _ (hf e (by have:=List.mem_range.mp he;omega)))
 rw[List.length_map,List.length_range] at hl
 omega
theorem LC.step(hm:CD m)(c:LC m owner hs)(hl:hs.length≤m)(h:Int):∃o',Ei m (some (owner,hs.length)) h=some (o',hs.length+1)∧LC m o' (hs++[h]):=by
 obtain⟨e,he,hne⟩:=c.room hl
 have hb:bits h%(m+1)≤m:=by have:=Nat.mod_lt (bits h) (show 0<m+1 by omega);omega
 obtain⟨L,hL,eL⟩:=Up hm (x:=(bits h%(m+1),bits h)) hb (NM h) he
 have hs':=IW c.size hne he (turns m) L _ _ hb (by unfold turns;omega) eL
 cases hf:layClean.free m owner (turns m) (bits h%(m+1)) (bits h) with
 |none=>exact absurd hf hs'
 |some j=>
  obtain⟨n,h1,h2,h3,h4⟩:=IV c.size _ _ _ hb hf
  have hj:j<owner.size:=by rw[c.size];omega
  refine⟨owner.setIfInBounds j (some hs.length),?_,?_⟩
  ·unfold Ei
   show(layClean.free m owner (turns m) (bits h%(m+1)) (bits h)>>=_)=_
   rw[hf]
   rfl
  ·have at_:∀x:Nat,(owner.setIfInBounds j (some hs.length))[x]?=if x=j then some (some hs.length) else owner[x]?:=fun x=>by
    rw[Array.getElem?_setIfInBounds]
    by_cases hx:x=j
    ·subst hx;simp[hj]
    ·rw[if_neg (Ne.symm hx),if_neg hx]
   have occ:∀x r:Nat,owner[x]?=some (some r)→∃r',(owner.setIfInBounds j (some hs.length))[x]?=some (some r'):=fun x r hr=>by
    rw[at_]
    by_cases hx:x=j
    ·exact⟨_,if_pos hx⟩
    ·exact⟨r,by rw[if_neg hx];exact hr⟩
   refine⟨by simpa using c.size,fun r h' e'=>?_,fun x r hr=>?_,fun x y r hx hy=>?_⟩
   ·by_cases hr:r<hs.length
    ·rw[List.getElem?_append_left hr] at e'
     obtain⟨x,q1,q2,n',q3,q4⟩:=c.put r h' e'
     refine⟨x,q1,?_,n',q3,fun k hk=>?_⟩
     ·rw[at_,if_neg];exact q2
      rintro rfl
      rw[h3] at q2;cases q2
     ·obtain⟨r',hr'⟩:=q4 k hk
      exact occ _ r' hr'
    ·rw[List.getElem?_append_right (by omega)] at e'
     have hr0:r-hs.length=0:=by
      have:=(List.getElem?_eq_some_iff.mp e').1
      simp at this;omega
     rw[hr0] at e'
     cases e'
     have:r=hs.length:=by omega
     subst this
     refine⟨j,h4,by rw[at_,if_pos rfl],n,h1,fun k hk=>?_⟩
     obtain⟨r',hr'⟩:=h2 k hk
     exact occ _ r' hr'
   ·rw[at_] at hr
    rw[List.length_append]
    by_cases hx:x=j
    ·rw[if_pos hx] at hr;cases hr;simp
    ·rw[if_neg hx] at hr
     have:=c.lt x r hr
     omega
   ·rw[at_] at hx hy
    by_cases h1:x=j
    ·rw[if_pos h1] at hx
     cases hx
     by_cases h2:y=j
     ·rw[h1,h2]
     ·rw[if_neg h2] at hy
      exact absurd (c.lt y _ hy) (Nat.lt_irrefl _)
    ·rw[if_neg h1] at hx
     by_cases h2:y=j
     ·rw[if_pos h2] at hy
      cases hy
      exact absurd (c.lt x _ hx) (Nat.lt_irrefl _)
     ·rw[if_neg h2] at hy
      exact c.inj x y r hx hy
theorem LC.steps(hm:CD m):∀(rest hs:List Int) (owner:Array (Option Nat)),LC m owner hs→hs.length+rest.length≤m+1→∃o',rest.foldl (Ei m) (some (owner,hs.length))=some (o',hs.length+rest.length)∧LC m o' (hs++rest)
 | [],hs,owner,c,_=> ⟨owner,rfl,by rw[List.append_nil];exact c⟩
 |h::rest,hs,owner,c,hl=>by
  simp only[List.length_cons] at hl
  obtain⟨o1,e1,c1⟩:=c.step hm (by omega) h
  obtain⟨o2,e2,c2⟩:=LC.steps hm rest (hs++[h]) o1 c1 (by rw[List.length_append];simp;omega)
  refine⟨o2,?_,by rw[List.append_assoc] at c2;exact c2⟩
  rw[List.foldl_cons,e1]
  have:(hs++[h]).length=hs.length+1:=by simp
  rw[this] at e2
  rw[e2]
  simp only[List.length_cons]
  congr 2
  omega
theorem Ki(hm:CD m)(hs:Array Int)(hl:hs.size≤m+1):∃owner,layClean m hs=some owner∧LC m owner hs.toList:=by
 have c0:LC m (Array.replicate (m+1) none) []:=⟨by simp,fun r h e=>by simp at e,fun j r e=>by
  rw[Array.getElem?_replicate] at e;split at e<;>simp at e,fun j j' r e=>by
  rw[Array.getElem?_replicate] at e;split at e<;>simp at e⟩
 obtain⟨o,e,c⟩:=LC.steps hm hs.toList [] _ c0 (by simpa using hl)
 refine⟨o,?_,by simpa using c⟩
 rw[Kh]
 have e':hs.toList.foldl (Ei m) (some (Array.replicate (m+1) none,0))=_:=e
 rw[e']
 rfl
end
end StT
namespace StT
open PySem PySem.SetTable
section
variable{m:Nat}
theorem TC(hm:CD m)(hs:Array Int)(hl:hs.size≤m+1)(f mv:Nat)(led plain:Bool):∃t' order,laid m f mv led plain hs=some (t',order)∧t'.mask=m∧t'.led=led∧t'.plain=plain∧t'.moves=mv∧order.size=hs.size∧
  (∀i r:Nat,order[i]?=some r→r<hs.size)∧(∀i i' r:Nat,order[i]?=some r→order[i']?=some r→i=i')∧(∀r,r<hs.size→∃i:Nat,order[i]?=some r)∧Tb t' (order.toList.map fun r=>hs.getD r 0):=by
 obtain⟨owner,e,c⟩:=Ki hm hs hl
 generalize hlive:(List.range (m+1)).filterMap (fun j=> (owner.getD j none).map (j,·))=live
 have mem:∀j r,(j,r)∈live↔j≤m∧owner[j]?=some (some r):=fun j r=>by
  rw[←hlive,List.mem_filterMap]
  constructor
  ·rintro⟨x,hx,ex⟩
   have hx:=List.mem_range.mp hx
   have hxo:x<owner.size:=by rw[c.size];exact hx
   have eg:owner.getD x none=owner[x]:=by simp[Array.getD,hxo]
   rw[eg] at ex
   cases q:owner[x] with
   |none=>rw[q] at ex;cases ex
   |some r'=>
    rw[q] at ex
    cases ex
    exact⟨by omega,by rw[←q];simp[hxo]⟩
  ·rintro⟨h1,h2⟩
   obtain⟨hxo,q⟩:=Array.getElem?_eq_some_iff.mp h2
   refine⟨j,List.mem_range.mpr (by omega),?_⟩
   have eg:owner.getD j none=owner[j]:=by simp[Array.getD,hxo]
   rw[eg,q]
   rfl
 have pw:live.Pairwise fun a b=>a.1<b.1:=by
  rw[←hlive,List.pairwise_filterMap]
  refine List.Pairwise.imp (fun{a b} h x hx y hy=>?_) (List.pairwise_lt_range (n:=m+1))
  cases q1:owner.getD a none with
  |none=>rw[q1] at hx;cases hx
  |some r1=>
   cases q2:owner.getD b none with
   |none=>rw[q2] at hy;cases hy
   |some r2=>
    rw[q1] at hx;rw[q2] at hy
    cases hx;cases hy
    exact h
 have lt:∀j r,(j,r)∈live→r<hs.size:=fun j r h=>by have:=c.lt j r ((mem j r).mp h).2;simpa using this
 have pwr:live.Pairwise fun a b=>a.2≠b.2:=by
  refine List.Pairwise.imp_of_mem (fun{a b} ha hb h e=>?_) pw
  obtain⟨a1,a2⟩:=a
  obtain⟨b1,b2⟩:=b
  have h1:=(mem _ _).mp ha
  have h2:=(mem _ _).mp hb
  have e:a2=b2:=e
  subst e
  have:=c.inj _ _ _ h1.2 h2.2
  have h:a1<b1:=h
  omega
 have nd:(live.map (·.2)).Nodup:=List.Pairwise.map _ (fun _ _ h=>h) pwr
 have all:∀r,r<hs.size→∃j,(j,r)∈live:=fun r hr=>by
  obtain⟨j,h1,h2,_⟩:=c.put r (hs[r]) (by simp[hr])
  exact⟨j,(mem j r).mpr ⟨h1,h2⟩⟩
 have len:live.length=hs.size:=by
  apply Nat.le_antisymm
  ·have:=Bv hs.size (live.map (·.2)) nd fun x hx=>by
    obtain⟨⟨j,r⟩,h1,rfl⟩:=List.mem_map.mp hx
    exact lt j r h1
   simpa using this
  ·have:=Lv hs.size (live.map (·.2)) fun r hr=>by
    obtain⟨j,hj⟩:=all r hr
    exact List.mem_map.mpr ⟨_,hj,rfl⟩
   simpa using this
 refine⟨{mask:=m,place:=(live.map (·.1)).toArray,dummies:=#[],finger:=f,led:=led,moves:=mv,plain:=plain},(live.map (·.2)).toArray,?_,rfl,rfl,rfl,rfl,by simpa using len,fun i r h=>?_,fun i i' r h h'=>?_,fun r hr=>?_,?_⟩
 ·unfold laid
  rw[e]
  show some _=some _
  rw[hlive]
 ·have h:(live.map (·.2))[i]?=some r:=by simpa using h
  rw[List.getElem?_map] at h
  cases q:live[i]? with
  |none=>rw[q] at h;cases h
  |some x=>rw[q] at h;cases h;exact lt x.1 x.2 (List.mem_of_getElem? q)
 ·have h:(live.map (·.2))[i]?=some r:=by simpa using h
  have h':(live.map (·.2))[i']?=some r:=by simpa using h'
  obtain⟨l1,e1⟩:=List.getElem?_eq_some_iff.mp h
  obtain⟨l2,e2⟩:=List.getElem?_eq_some_iff.mp h'
  rcases Nat.lt_trichotomy i i' with hlt|heq|hgt
  ·exact absurd (e1.trans e2.symm) (List.pairwise_iff_getElem.mp nd i i' l1 l2 hlt)
  ·exact heq
  ·exact absurd (e2.trans e1.symm) (List.pairwise_iff_getElem.mp nd i' i l2 l1 hgt)
 ·obtain⟨j,hj⟩:=all r hr
  obtain⟨i,hi⟩:=List.getElem?_of_mem hj
  exact⟨i,by simp[hi]⟩
 ·have at_:∀i j:Nat,(live.map (·.1)).toArray[i]?=some j→∃r,live[i]?=some (j,r):=fun i j h=>by
   have h:(live.map (·.1))[i]?=some j:=by simpa using h
   rw[List.getElem?_map] at h
   cases q:live[i]? with
   |none=>rw[q] at h;cases h
   |some x=>
    rw[q] at h
    cases h
    exact⟨x.2,rfl⟩
  refine⟨hm,rfl,?_,fun i j h=>?_,by simp,fun i j h e1 e2=>?_⟩
  ·show(live.map (·.1)).toArray.toList.Pairwise (· < ·)
   exact List.Pairwise.map _ (fun _ _ h=>h) pw
  ·obtain⟨r,hr⟩:=at_ i j h
   exact((mem j r).mp (List.mem_of_getElem? hr)).1
  ·obtain⟨r,hr⟩:=at_ i j e1
   have hrlt:=lt j r (List.mem_of_getElem? hr)
   have e2:((live.map (·.2)).map fun r=>hs.getD r 0)[i]?=some h:=by simpa using e2
   rw[List.getElem?_map,List.getElem?_map,hr] at e2
   have e2:hs.getD r 0=h:=Option.some.inj e2
   have eh:hs.toList[r]?=some h:=by
    rw[←e2]
    simp[Array.getD,hrlt]
   obtain⟨j2,q1,q2,n,q3,q4⟩:=c.put r h eh
   have ej:=c.inj j2 j r q2 ((mem j r).mp (List.mem_of_getElem? hr)).2
   subst ej
   refine⟨n,q3,fun k hk=>?_⟩
   obtain⟨r',hr'⟩:=q4 k hk
   have hk':(advN m k (start m h)).j≤m:=(Pr.start m h).advN.j
   obtain⟨i',hi'⟩:=List.getElem?_of_mem ((mem _ r').mpr ⟨hk',hr'⟩)
   refine⟨i',?_⟩
   show(live.map (·.1)).toArray[i']?=_
   simp[hi']
theorem Og{n:Nat}(h:CD m)(h1:n*5<m*3)(h2:m*3≤(n+1)*5)(h3:n<300):CD (sizeAbove (grown (n+1))-1)∧n+1≤sizeAbove (grown (n+1))-1∧(n+1)*5< (sizeAbove (grown (n+1))-1)*3∧sizeAbove (grown (n+1))≤512:=by
 rcases h with rfl|rfl|rfl|rfl
 ·have:n=4:=by omega
  subst this
  refine⟨.inr (.inl (by decide)),by decide,by decide,by decide⟩
 ·have:n=18:=by omega
  subst this
  refine⟨.inr (.inr (.inl (by decide))),by decide,by decide,by decide⟩
 ·have:n=76:=by omega
  subst this
  refine⟨.inr (.inr (.inr (by decide))),by decide,by decide,by decide⟩
 ·omega
theorem DH{α:Type}(es:Array α):∀(l:List Nat),(∀r∈l,r<es.size)→∀i:Nat,(l.filterMap fun r=>es[r]?)[i]?=(l[i]?).bind fun r=>es[r]?
 | [],_,i=>by simp
 |r::l,h,i=>by
  have hr:=h r List.mem_cons_self
  have e:es[r]?=some es[r]:=by simp[hr]
  rw[List.filterMap_cons,e]
  cases i with
  |zero=>simp
  |succ i=>
   simp only[List.getElem?_cons_succ]
   exact DH es l (fun x hx=>h x (List.mem_cons_of_mem _ hx)) i
theorem Cb{α:Type}(es:Array α):∀(l:List Nat),(∀r∈l,r<es.size)→(l.filterMap fun r=>es[r]?).length=l.length
 | [],_=>rfl
 |r::l,h=>by
  have hr:=h r List.mem_cons_self
  have e:es[r]?=some es[r]:=by simp[hr]
  rw[List.filterMap_cons,e]
  simp[Cb es l (fun x hx=>h x (List.mem_cons_of_mem _ hx))]
end
open PyProof.Rows
section
variable{prog:Program}{w:World}{A:Around}{E:Value→Shared→Prop}{s:Shared}
abbrev IK(prog:Program)(w:World)(h:Heap)(k:List Int)(a:Addr):Prop:=IsTupleKey (intKind prog w) h k a
abbrev tk(prog:Program)(w:World):HeapKind prog w (List Int):=tupleKind (intKind prog w)
theorem FW{n:Int}{v:Value}(h:(intKind prog w).is n v=true):∃t,v=.int n t:=by
 cases v with
 |int m t=>
  have h2:(intKind prog w).is m (.int m t)=true:=intKind_is _ _ _ _
  have e:=(intKind prog w).inj _ _ _ h h2
  subst e
  exact⟨t,rfl⟩
 |_=>exact absurd h (by simp[intKind,Value.isInt])
theorem Gw{ks:List Int}{vs:List Value}(h:ItemsAre (intKind prog w) ks vs):∀v∈vs,∃n t,v=.int n t:=by
 induction h with
 |nil=>intro v hv;simp at hv
 |cons h1 _ ih=>
  intro v hv
  rcases List.mem_cons.mp hv with rfl|hv
  ·obtain⟨t,e⟩:=FW h1
   exact⟨_,t,e⟩
  ·exact ih v hv
theorem Yx{k:List Int}{a:Addr}{Q:Bool→Shared→Prop}(hk:IK prog w s.heap k a)(h:Q true s):wpAny (model prog w) A (hashByValue 8 (.ref a)) Q E s:=by
 have hT:=hk.typeIs
 obtain⟨o,items,n,ho,_,hd,hi⟩:=hk
 have hints:=Gw hi
 unfold hashByValue
 refine wpAny_bind (wpAny_specialOf hT PySem.F.slot_tuple_hash.lookup ?_)
 dsimp only
 refine wpAny_bind (wpAny_seqItems ho hd ?_)
 show wpAny _ _ ((forIn items _ _)>>=_) _ _ s
 rw[←Array.forIn_toList]
 refine wpAny_bind (wpAny_forIn_list _ (fun rest r s'=>r.1=none∧s'=s∧∀v∈rest,∃n t,v=Value.int n t) _ ?_ ?_ _ _ ⟨rfl,rfl,hints⟩)
 ·rintro v rest r s' ⟨hr,rfl,hall⟩
  obtain⟨n,t,rfl⟩:=hall v List.mem_cons_self
  refine wpAny_bind (wpAny_pure ?_)
  simp only[Bool.not_true,Bool.false_eq_true,if_false]
  exact wpAny_pure ⟨rfl,rfl,fun u hu'=>hall u (List.mem_cons_of_mem _ hu')⟩
 ·rintro⟨r1,r2⟩ s' ⟨hr,rfl,_⟩
  simp only at hr
  subst hr
  exact wpAny_pure h
theorem NN{k:List Int}{a:Addr}{Q:Bool→Shared→Prop}(hk:IK prog w s.heap k a)(h:Q false s):wpAny (model prog w) A (ofAClassStatement 8 (.ref a)) Q E s:=by
 have hT:=hk.typeIs
 obtain⟨o,items,n,ho,hc,hd,hi⟩:=hk
 have hints:=Gw hi
 unfold ofAClassStatement
 refine wpAny_bind (wpAny_typeOf hT ?_)
 dsimp only
 rw[if_pos (by decide)]
 refine wpAny_bind (wpAny_pure ?_)
 simp only[Bool.not_true,Bool.false_eq_true,if_false]
 refine wpAny_bind (wpAny_seqItems ho hd ?_)
 show wpAny _ _ ((forIn items _ _)>>=_) _ _ s
 rw[←Array.forIn_toList]
 refine wpAny_bind (wpAny_forIn_list _ (fun rest r s'=>r.1=none∧s'=s∧∀v∈rest,∃n t,v=Value.int n t) _ ?_ ?_ _ _ ⟨rfl,rfl,hints⟩)
 ·rintro v rest r s' ⟨hr,rfl,hall⟩
  obtain⟨n,t,rfl⟩:=hall v List.mem_cons_self
  unfold ofAClassStatement
  refine wpAny_bind (wpAny_pure ?_)
  simp only[Bool.false_eq_true,if_false]
  exact wpAny_pure ⟨rfl,rfl,fun u hu'=>hall u (List.mem_cons_of_mem _ hu')⟩
 ·rintro⟨r1,r2⟩ s' ⟨hr,rfl,_⟩
  simp only at hr
  subst hr
  exact wpAny_pure h
theorem TF{k:List Int}{a:Addr}{Q:Bool→Shared→Prop}{l:List Value}(hk:IK prog w s.heap k a)(hl:∀v∈l,∃k' b,v=.ref b∧IK prog w s.heap k' b)(h:Q false s):wpAny (model prog w) A (searchCouldBeSeen (.ref a) l) Q E s:=by
 unfold searchCouldBeSeen
 refine wpAny_bind (wpAny_forIn_list _ (fun rest r s'=>r.1=none∧s'=s∧∀v∈rest,∃k' b,v=Value.ref b∧IK prog w s.heap k' b) _ ?_ ?_ _ _ ⟨rfl,rfl,hl⟩)
 ·rintro v rest r s' ⟨hr,rfl,hall⟩
  obtain⟨k',b,rfl,hb⟩:=hall v List.mem_cons_self
  have go:∀u∈rest,∃k' b,u=Value.ref b∧IK prog w s'.heap k' b:=fun u hu'=>hall u (List.mem_cons_of_mem _ hu')
  dsimp only
  split
  ·exact wpAny_pure ⟨rfl,rfl,go⟩
  ·refine wpAny_bind (wpAny_eqIsQuiet_tuple hk ?_)
   simp only[Bool.not_true,Bool.false_eq_true,if_false]
   refine wpAny_bind (wpAny_eqIsQuiet_tuple hb ?_)
   simp only[Bool.not_true,Bool.false_eq_true,if_false]
   refine wpAny_bind (NN hk ?_)
   simp only[Bool.false_eq_true,if_false]
   refine wpAny_bind (NN hb ?_)
   simp only[Bool.false_eq_true,if_false]
   exact wpAny_pure ⟨rfl,rfl,go⟩
 ·rintro⟨r1,r2⟩ s' ⟨hr,rfl,_⟩
  simp only at hr
  subst hr
  exact wpAny_pure h
end
local macro_rules | `(tactic| omega) => `(tactic| first | lia | omega)
open PySem PySem.SetTable PyProof.Rows
section
variable{prog:Program}{w:World}{A:Around}{E:Value→Shared→Prop}{s:Shared}
def Oh(xs:List (List Int×Addr))(prog:Program)(w:World):List (Int×Value):=xs.map fun p=> ((tk prog w).hash p.1,Value.ref p.2)
structure SetD(prog:Program)(w:World)(h:Heap)(a:Addr)(xs:List (List Int×Addr))(o:Obj)(es:Array (Int×Value))(ep:Nat)(t:SetTable):Prop where
 get:h.get? a=some o
 ex:o.ExactSet
 dat:o.data=.set es ep t
 es:es.toList=Oh xs prog w
 key:∀(i:Nat) (k:List Int) (x:Addr),xs[i]?=some (k,x)→IK prog w h k x
 nd:(xs.map (·.1)).Nodup
 tb:Tb t (xs.map fun p=> (tk prog w).hash p.1)
 pl:t.plain=true
 room:xs.length*5<t.mask*3
 led:t.led=!w.params.followText "set-order"
variable{a:Addr}{xs:List (List Int×Addr)}{o:Obj}{es:Array (Int×Value)}{ep:Nat}{t:SetTable}
theorem SetD.size(S:SetD prog w s.heap a xs o es ep t):es.size=xs.length:=by
 rw[←Array.length_toList,S.es];simp[Oh]
theorem SetD.fits(S:SetD prog w s.heap a xs o es ep t):t.fits es.size=true:=by
 have h1:=S.tb.size
 have h2:=S.room
 have h3:t.fill=t.place.size:=by unfold SetTable.fill;rw[S.tb.dum];rfl
 rw[List.length_map] at h1
 unfold SetTable.fits
 rw[h3,S.size,h1]
 simp only[beq_self_eq_true,Bool.true_and,decide_eq_true_eq]
 omega
theorem SetD.len(S:SetD prog w s.heap a xs o es ep t):(xs.map fun p=> (tk prog w).hash p.1).length≤t.mask:=by
 have:=S.room
 rw[List.length_map];omega
theorem SetD.at(S:SetD prog w s.heap a xs o es ep t){i:Nat}{k:List Int}{x:Addr}(h:xs[i]?=some (k,x)):es[i]?=some ((tk prog w).hash k,.ref x):=by
 have:es[i]?=es.toList[i]?:=by simp
 rw[this,S.es,Oh,List.getElem?_map,h]
 rfl
theorem SetD.of_at(S:SetD prog w s.heap a xs o es ep t){i:Nat}(h:i<xs.length):∃k x,xs[i]?=some (k,x):=⟨_,_,by simp[h];rfl⟩
abbrev GJ:Array (Int×Value)→Nat→Int:=PySem.W.hashAt
theorem SetD.hash(S:SetD prog w s.heap a xs o es ep t){i:Nat}{k:List Int}{x:Addr}(h:xs[i]?=some (k,x)):GJ es i=(tk prog w).hash k:=by
 show((es[i]?).map Prod.fst).getD 0=_
 rw[S.at h]
 rfl
theorem Kj(S:SetD prog w s.heap a xs o es ep t)(hu:A.units<cLine){k:List Int}{x:Addr}(hk:IK prog w s.heap k x){Q:SetFound→Shared→Prop}
  (hT:∀(i:Nat) (y:Addr),xs[i]?=some (k,y)→Q (.there none) s)
  (hF:(∀(i:Nat) (y:Addr),xs[i]?≠some (k,y))→∀n,¬Ke t (advN t.mask n (start t.mask ((tk prog w).hash k))).j→(∀c,c<n→Ke t (advN t.mask c (start t.mask ((tk prog w).hash k))).j)→Q (.free (advN t.mask n (start t.mask ((tk prog w).hash k))).j false) s):
  ∀(fuel c:Nat) (stand:Option Probe),stand.getD (t.probeStart ((tk prog w).hash k))=advN t.mask c (start t.mask ((tk prog w).hash k))→
   (∀c',c'<c→Ke t (advN t.mask c' (start t.mask ((tk prog w).hash k))).j∧∀(i:Nat) (y:Addr),t.place[i]?=some (advN t.mask c' (start t.mask ((tk prog w).hash k))).j→xs[i]?≠some (k,y))→
   (∃N,c≤N∧¬Ke t (advN t.mask N (start t.mask ((tk prog w).hash k))).j∧N-c<fuel)→
   wpAny (model prog w) A (setSearchFrom a (.ref x) ((tk prog w).hash k) true fuel stand) Q E s:=by
 intro fuel
 induction fuel with
 |zero=>rintro c stand _ _ ⟨N,_,_,h⟩;exact absurd h (Nat.not_lt_zero _)
 |succ fuel ih=>
  rintro c stand hst hpre ⟨N,hcN,hN,hfu⟩
  have hsz:t.place.size=xs.length:=by have:=S.tb.size;rwa[List.length_map] at this
  unfold setSearchFrom
  refine wpAny_bind (wpAny_setState_of S.get S.dat S.fits ?_)
  dsimp only
  have hgw:t.gaveWay=false:=by unfold SetTable.gaveWay;rw[S.tb.odd];rfl
  rw[hgw]
  simp only[Bool.false_eq_true,if_false]
  obtain⟨n,hn,hstop⟩:=Kg S.tb S.len (p:=advN t.mask c (start t.mask ((tk prog w).hash k))) (Pr.start _ _).advN (GJ es) ((tk prog w).hash k)
  rw[hst]
  have hadd:∀m,advN t.mask m (advN t.mask c (start t.mask ((tk prog w).hash k)))=advN t.mask (c+m) (start t.mask ((tk prog w).hash k)):=fun m=> (CC _ _ _ _).symm
  have pre2:∀c',c'<c+n→Ke t (advN t.mask c' (start t.mask ((tk prog w).hash k))).j∧∀(i:Nat) (y:Addr),t.place[i]?=some (advN t.mask c' (start t.mask ((tk prog w).hash k))).j→xs[i]?≠some (k,y):=fun c' hc'=>by
   by_cases hlt:c'<c
   ·exact hpre c' hlt
   ·obtain⟨i,h1,h2⟩:=hn (c'-c) (by omega)
    rw[hadd,show c+(c'-c)=c' by omega] at h1
    refine⟨⟨i,h1⟩,fun i' y h1' e=>?_⟩
    have:i'=i:=by
     rw[←CB S.tb.ris h1',←CB S.tb.ris h1]
    subst this
    exact h2 (S.hash e)
  obtain⟨met,hmet⟩:∃met,t.probe (GJ es) ((tk prog w).hash k) (advN t.mask c (start t.mask ((tk prog w).hash k)))=some met:=by
   rcases hstop with⟨_,hp⟩| ⟨_,_,_,hp⟩<;>exact⟨_,hp⟩
  split
  case h_2 heq=>exact absurd hmet (heq met)
  rename_i met' heq
  have heq:t.probe (GJ es) ((tk prog w).hash k) (advN t.mask c (start t.mask ((tk prog w).hash k)))=some met':=heq
  rcases hstop with⟨hf,hp⟩| ⟨i,h1,h2,hp⟩
  ·rw[hp] at heq
   cases heq
   dsimp only
   rw[EL]
   show wpAny _ _ (pure _) _ _ s
   rw[hadd] at hf ⊢
   refine wpAny_pure (hF (fun i y e=>?_) (c+n) hf fun c' hc'=> (pre2 c' hc').1)
   have hi:i<xs.length:=(List.getElem?_eq_some_iff.mp e).1
   have hpl:t.place[i]?=some (t.place[i]'(by omega)):=by simp[show i<t.place.size by omega]
   obtain⟨n',e1,w1⟩:=S.tb.fnd i _ ((tk prog w).hash k) hpl (by rw[List.getElem?_map,e];rfl)
   by_cases hlt:n'<c+n
   ·exact(pre2 n' hlt).2 i y (by rw[e1];exact hpl) e
   ·by_cases heq:n'=c+n
    ·subst heq
     exact hf ⟨i,by rw[e1];exact hpl⟩
    ·exact hf (w1 (c+n) (by omega))
  ·rw[hp] at heq
   cases heq
   dsimp only
   rw[hadd] at h1
   have hi:i<xs.length:=by rw[←hsz];exact(Array.getElem?_eq_some_iff.mp h1).1
   obtain⟨k',y,ek⟩:=S.of_at hi
   have hky:=S.key i k' y ek
   have seen:∀v,v∈(es.filter fun e=>e.1==(tk prog w).hash k).toList.map (·.2)→∃k' b,v=Value.ref b∧IK prog w s.heap k' b:=fun v hv=>by
    obtain⟨⟨h',v'⟩,hm,rfl⟩:=List.mem_map.mp hv
    have hm:(h',v')∈es.toList:=by
     have:=hm
     simp only[Array.toList_filter] at this
     exact(List.mem_filter.mp this).1
    rw[S.es,Oh] at hm
    obtain⟨⟨k2,b⟩,hb,eb⟩:=List.mem_map.mp hm
    cases eb
    obtain⟨j,hj⟩:=List.getElem?_of_mem hb
    exact⟨k2,b,rfl,S.key j k2 b hj⟩
   cases hled:t.led with
   |true=>
    simp only[Bool.not_true,Bool.false_eq_true,if_false]
    rw[S.at ek]
    dsimp only
    refine wpAny_bind (wpAny_holding (wpAny_eqBool_tuple hu hky hk ?_))
    refine wpAny_bind (wpAny_setState_of S.get S.dat S.fits ?_)
    dsimp only
    by_cases hkk:k'=k
    ·subst hkk
     rw[decide_eq_true rfl]
     exact wpAny_pure (hT i y ek)
    ·rw[decide_eq_false hkk]
     have hsm:t.sameMemory t.moves t.mask=some true:=by unfold SetTable.sameMemory;rw[if_pos (by simp)]
     rw[hsm]
     simp only[Bool.and_false,Bool.false_eq_true,if_false,if_true]
     rw[hadd,S.tb.live h1]
     dsimp only
     rw[S.at ek]
     dsimp only
     have hss:isSame (Value.ref y) (Value.ref y)=pure true:=by
      show(if(y==y)=true then _ else _)=_
      rw[if_pos (beq_self_eq_true y)]
     rw[hss]
     refine wpAny_bind (wpAny_pure ?_)
     simp only[if_true]
     refine wpAny_bind (wpAny_pure ?_)
     dsimp only
     rw[hadd]
     refine ih (c+n+1) _ rfl (fun c' hc'=>?_) ?_
     ·by_cases hlt:c'<c+n
      ·exact pre2 c' hlt
      ·have:c'=c+n:=by omega
       subst this
       refine⟨⟨i,h1⟩,fun i' y' h1' e=>?_⟩
       have:i'=i:=by
        rw[←CB S.tb.ris h1',←CB S.tb.ris h1]
       subst this
       rw[ek] at e
       exact hkk (congrArg Prod.fst (Option.some.inj e))
     ·have hle:c+n<N:=by
       rcases Nat.lt_trichotomy (c+n) N with hlt|heq|hgt
       ·exact hlt
       ·exact absurd ⟨i,by rw[←heq];exact h1⟩ hN
       ·exact absurd (pre2 N hgt).1 hN
      exact⟨N,by omega,hN,by omega⟩
   |false=>
    simp only[Bool.not_false,if_true]
    refine wpAny_bind (TF hk seen ?_)
    simp only[Bool.false_eq_true,if_false]
    rw[S.at ek]
    dsimp only
    refine wpAny_bind (wpAny_holding (wpAny_eqBool_tuple hu hky hk ?_))
    refine wpAny_bind (wpAny_setState_of S.get S.dat S.fits ?_)
    dsimp only
    by_cases hkk:k'=k
    ·subst hkk
     rw[decide_eq_true rfl]
     exact wpAny_pure (hT i y ek)
    ·rw[decide_eq_false hkk]
     have hsm:t.sameMemory t.moves t.mask=some true:=by unfold SetTable.sameMemory;rw[if_pos (by simp)]
     rw[hsm]
     simp only[Bool.and_false,Bool.false_eq_true,if_false,if_true]
     rw[hadd,S.tb.live h1]
     dsimp only
     rw[S.at ek]
     dsimp only
     have hss:isSame (Value.ref y) (Value.ref y)=pure true:=by
      show(if(y==y)=true then _ else _)=_
      rw[if_pos (beq_self_eq_true y)]
     rw[hss]
     refine wpAny_bind (wpAny_pure ?_)
     simp only[if_true]
     refine wpAny_bind (wpAny_pure ?_)
     dsimp only
     rw[hadd]
     refine ih (c+n+1) _ rfl (fun c' hc'=>?_) ?_
     ·by_cases hlt:c'<c+n
      ·exact pre2 c' hlt
      ·have:c'=c+n:=by omega
       subst this
       refine⟨⟨i,h1⟩,fun i' y' h1' e=>?_⟩
       have:i'=i:=by
        rw[←CB S.tb.ris h1',←CB S.tb.ris h1]
       subst this
       rw[ek] at e
       exact hkk (congrArg Prod.fst (Option.some.inj e))
     ·have hle:c+n<N:=by
       rcases Nat.lt_trichotomy (c+n) N with hlt|heq|hgt
       ·exact hlt
       ·exact absurd ⟨i,by rw[←heq];exact h1⟩ hN
       ·exact absurd (pre2 N hgt).1 hN
      exact⟨N,by omega,hN,by omega⟩
end
end StT
namespace StT
local macro_rules | `(tactic| omega) => `(tactic| first | lia | omega)
open PySem PySem.SetTable PyProof.Rows
section
variable{prog:Program}{w:World}{A:Around}{E:Value→Shared→Prop}{s:Shared}
variable{a:Addr}{xs:List (List Int×Addr)}{o:Obj}{es:Array (Int×Value)}{ep:Nat}{t:SetTable}
def SetX(prog:Program)(w:World)(h:Heap)(a:Addr)(xs:List (List Int×Addr)):Prop:=∃o es ep t,SetD prog w h a xs o es ep t
theorem QM{h:Heap}{k:List Int}{x:Addr}(hk:IK prog w h k x)(hg:h.get? a=some o)(he:o.ExactSet):x≠a:=by
 rintro rfl
 obtain⟨o',items,n,ho,hc,_⟩:=hk
 rw[hg] at ho
 cases ho
 rw[he.1] at hc
 exact absurd hc (by decide)
theorem DI{h h':Heap}{k:List Int}{x:Addr}(hk:IK prog w h k x)(hs:∀u,h.get? x=some u→h'.get? x=some u):IK prog w h' k x:=by
 obtain⟨o',items,n,ho,hc,hd,hi⟩:=hk
 exact⟨o',items,n,hs _ ho,hc,hd,hi⟩
theorem IX(hg:s.heap.get? a=some o)(hd:o.data=.set es ep t)(es':Array (Int×Value))(t':SetTable):(s.heap.update a (Obj.putSet es' t')).get? a=some {o with data:=.set es' (ep+1) t'}:=by
 have:=Heap.get?_update_self (Obj.putSet es' t') hg (by rw[putSet_of es' t' hd];rfl)
 rw[putSet_of es' t' hd] at this;exact this
theorem Lz:(Oh xs prog w).length=xs.length:=by simp[Oh]
theorem QN{n:Nat}(hg:s.heap.get? a=some o)(he:o.ExactSet)(hd:o.data=.set es ep t)(hes:es.toList=Oh xs prog w)(hkey:∀(i:Nat) (k:List Int) (x:Addr),xs[i]?=some (k,x)→IK prog w s.heap k x)
  (hnd:(xs.map (·.1)).Nodup) (htb:Tb t (xs.map fun p=> (tk prog w).hash p.1)) (hpl:t.plain=true) (hled:t.led=!w.params.followText "set-order") (hn:xs.length=n+1) (h1:n*5<t.mask*3) (h2:t.mask*3≤(n+1)*5) (h3:n<300) {Q:Unit→Shared→Prop}
  (h:∀h' xs',Heap.SameBut a s.heap h'→SetX prog w h' a xs'→(∀p,p∈xs'↔p∈xs)→xs'.length=xs.length→Q () {s with heap:=h'}):wpAny (model prog w) A (setRelay a (grown (n+1))) Q E s:=by
 obtain⟨m1,m2,m3,m4⟩:=Og htb.mask h1 h2 h3
 have hsz:es.size=n+1:=by rw[←Array.length_toList,hes,Lz,hn]
 have hfill:t.fill=t.place.size:=by unfold SetTable.fill;rw[htb.dum];rfl
 have hps:t.place.size=n+1:=by have:=htb.size;rw[List.length_map,hn] at this;exact this
 have hlow:=htb.low
 have hfit:t.fits es.size=true:=by
  unfold SetTable.fits
  rw[hfill,hsz,hps]
  simp only[beq_self_eq_true,Bool.true_and,decide_eq_true_eq]
  omega
 unfold setRelay
 refine wpAny_bind (wpAny_setState_of hg hd hfit ?_)
 dsimp only
 rw[if_neg (by rw[sizeLine_eq];omega)]
 refine wpAny_bind ?_
 obtain⟨t',order,el,q1,q2,q3,q4,q5,q6,q7,q8,q9⟩:=TC m1 (es.map (·.1)) (by rw[Array.size_map,hsz];omega) t.finger (t.movedTo (sizeAbove (grown (n+1))-1)) t.led t.plain
 rw[Array.size_map] at q5 q6 q8
 have el':t.relaid (es.map (·.1)) (grown (n+1))=some (t',order):=el
 rw[el']
 have hfm:(order.filterMap (es[·]?)).toList=order.toList.filterMap fun r=>es[r]?:=by simp
 have hmem:∀r∈order.toList,r<es.size:=fun r hr=>by
  obtain⟨i,hi⟩:=List.getElem?_of_mem hr
  exact q6 i r (by simpa using hi)
 have hes':(order.filterMap (es[·]?)).size=es.size:=by
  rw[←Array.length_toList,hfm,Cb es _ hmem,Array.length_toList,q5]
 show wpAny _ _ (if((order.filterMap fun r=>es[r]?).size !=es.size)=true then _ else pure (order.filterMap fun r=>es[r]?,t')) _ _ s
 rw[if_neg (by rw[hes'];simp)]
 refine wpAny_pure ?_
 dsimp only
 refine wpAny_storeSet_of hg hd ?_ (by rw[hes',hsz,sizeLine_eq];omega)
 generalize hE:order.filterMap (es[·]?)=es' at*
 have hxs:∀r,r<es.size→∃p,xs[r]?=some p:=fun r hr=> ⟨_,by simp[show r<xs.length by rw[hn];omega];rfl⟩
 have hfx:(order.toList.filterMap fun r=>xs[r]?).length=es.size:=by
  have:=Cb xs.toArray order.toList (fun r hr=>by rw[List.size_toArray,hn];have:=hmem r hr;omega)
  simp only[List.getElem?_toArray] at this
  rw[this,Array.length_toList,q5]
 have at_:∀i:Nat,(order.toList.filterMap fun r=>xs[r]?)[i]?=(order.toList[i]?).bind fun r=>xs[r]?:=fun i=>by
  have:=DH xs.toArray order.toList (fun r hr=>by rw[List.size_toArray,hn];have:=hmem r hr;omega) i
  simpa only[List.getElem?_toArray] using this
 have mem:∀p,p∈(order.toList.filterMap fun r=>xs[r]?)↔p∈xs:=fun p=>by
  rw[List.mem_filterMap]
  constructor
  ·rintro⟨r,_,e⟩;exact List.mem_of_getElem? e
  ·intro hp
   obtain⟨r,hr⟩:=List.getElem?_of_mem hp
   have hrl:r<es.size:=by rw[hsz,←hn];exact(List.getElem?_eq_some_iff.mp hr).1
   obtain⟨i,hi⟩:=q8 r hrl
   exact⟨r,List.mem_of_getElem? (i:=i) (by simpa using hi),hr⟩
 have hesx:∀i:Nat,es[i]?=(xs[i]?).map fun p=> ((tk prog w).hash p.1,Value.ref p.2):=fun i=>by
  have:es[i]?=es.toList[i]?:=by simp
  rw[this,hes,Oh,List.getElem?_map]
 refine h _ (order.toList.filterMap fun r=>xs[r]?) (Heap.SameBut.update ..) ⟨_,es',ep+1,t',⟨IX hg hd es' t',he,rfl,?_,fun i k x e=>?_,?_,?_,?_,?_,?_⟩⟩ mem (by rw[hfx,hsz,hn])
 ·apply List.ext_getElem?
  intro i
  rw[hfm,DH es _ hmem,Oh,List.getElem?_map,at_]
  cases order.toList[i]? with
  |none=>rfl
  |some r=>exact hesx r
 ·have hp:(k,x)∈xs:=(mem _).mp (List.mem_of_getElem? e)
  obtain⟨r,hr⟩:=List.getElem?_of_mem hp
  have ik:=hkey r k x hr
  exact DI ik fun u hu=> ((Heap.SameBut.update s.heap a (Obj.putSet es' t')).2 x (QM ik hg he)).trans hu
 ·rw[List.nodup_iff_pairwise_ne]
  refine List.pairwise_iff_getElem.mpr fun i j hi hj hij e=>?_
  rw[List.length_map] at hi hj
  have e1:=at_ i
  have e2:=at_ j
  rw[List.getElem?_eq_getElem hi] at e1
  rw[List.getElem?_eq_getElem hj] at e2
  rw[List.getElem_map,List.getElem_map] at e
  cases r1:order.toList[i]? with
  |none=>rw[r1] at e1;cases e1
  |some r=>
   cases r2:order.toList[j]? with
   |none=>rw[r2] at e2;cases e2
   |some r'=>
    rw[r1] at e1
    rw[r2] at e2
    have e1:xs[r]?=some _:=e1.symm
    have e2:xs[r']?=some _:=e2.symm
    obtain⟨l1,g1⟩:=List.getElem?_eq_some_iff.mp e1
    obtain⟨l2,g2⟩:=List.getElem?_eq_some_iff.mp e2
    have ee:(xs.map (·.1))[r]'(by simpa using l1)=(xs.map (·.1))[r']'(by simpa using l2):=by rw[List.getElem_map,List.getElem_map,g1,g2];exact e
    have nd:=List.nodup_iff_pairwise_ne.mp hnd
    have:r=r':=by
     rcases Nat.lt_trichotomy r r' with hlt|heq|hgt
     ·exact absurd ee (List.pairwise_iff_getElem.mp nd r r' _ _ hlt)
     ·exact heq
     ·exact absurd ee.symm (List.pairwise_iff_getElem.mp nd r' r _ _ hgt)
    subst this
    have:=q7 i j r (by simpa using r1) (by simpa using r2)
    omega
 ·have:(order.toList.filterMap fun r=>xs[r]?).map (fun p=> (tk prog w).hash p.1)=order.toList.map fun r=> (es.map (·.1)).getD r 0:=by
   apply List.ext_getElem?
   intro i
   rw[List.getElem?_map,at_,List.getElem?_map]
   cases hr:order.toList[i]? with
   |none=>rfl
   |some r=>
    have hrl:=hmem r (List.mem_of_getElem? hr)
    obtain⟨p,hp⟩:=hxs r hrl
    show(xs[r]?).map _=some ((es.map (·.1)).getD r 0)
    rw[hp]
    have e3:=hesx r
    rw[hp] at e3
    obtain⟨l,g⟩:=Array.getElem?_eq_some_iff.mp e3
    simp[Array.getD,hrl,g]
  rw[this]
  exact q9
 ·rw[q3];exact hpl
 ·rw[hfx,hsz,q1];exact m3
 ·rw[q2];exact hled
end
end StT
namespace StT
local macro_rules | `(tactic| omega) => `(tactic| first | lia | omega)
open PySem PySem.SetTable PyProof.Rows
section
variable{prog:Program}{w:World}{A:Around}{E:Value→Shared→Prop}{s:Shared}
variable{a:Addr}{xs:List (List Int×Addr)}{o:Obj}{es:Array (Int×Value)}{ep:Nat}{t:SetTable}
theorem WZ(S:SetX prog w s.heap a xs)(hu:A.units<cLine){k:List Int}{x:Addr}(hk:IK prog w s.heap k x)(hl:xs.length<300){Q:Bool→Shared→Prop}
  (hT:∀y,(k,y)∈xs→Q false s)
  (hF:(∀y,(k,y)∉xs)→∀h' xs',Heap.SameBut a s.heap h'→SetX prog w h' a xs'→(∀p,p∈xs'↔p∈xs∨p=(k,x))→xs'.length=xs.length+1→Q true {s with heap:=h'}):
  wpAny (model prog w) A (setAddHashed a (.ref x) ((tk prog w).hash k)) Q E s:=by
 obtain⟨o,es,ep,t,S⟩:=S
 unfold setAddHashed setAddHashedIn
 refine wpAny_holding (wpAny_bind (wpAny_setState_of S.get S.dat S.fits ?_))
 dsimp only
 have hbs:byScan (.ref x) es=false:=rfl
 rw[hbs]
 simp only[Bool.false_eq_true,if_false]
 obtain⟨e,he,hne⟩:=S.tb.room S.len
 obtain⟨N,hN,eN⟩:=Uq S.tb.mask (Pr.start t.mask ((tk prog w).hash k)) he
 have hm511:t.mask≤511:=by rcases S.tb.mask with h|h|h|h<;>omega
 refine wpAny_bind (Kj S hu hk (fun i y e=>?_) (fun hno n hf hw=>?_) 100000 0 none (QJ t _) (fun c hc=>absurd hc (Nat.not_lt_zero _)) ⟨N,Nat.zero_le _,by rw[eN];exact hne,by omega⟩)
 ·dsimp only
  exact wpAny_pure (hT y (List.mem_of_getElem? e))
 ·dsimp only
  refine wpAny_bind (wpAny_setState_of S.get S.dat S.fits ?_)
  dsimp only
  obtain⟨p1,p2,p3,p4,p5,p6⟩:=S.tb.put hf hw
  generalize hJ:(advN t.mask n (start t.mask ((tk prog w).hash k))).j=J at*
  generalize hput:t.put J=tp at*
  obtain⟨t1,q⟩:=tp
  dsimp only at p1 p2 p3 p4 p5 p6 ⊢
  rw[List.length_map] at p2
  rw[p4,S.pl]
  simp only[if_true]
  refine wpAny_bind (Yx hk ?_)
  simp only[if_true]
  refine wpAny_bind (wpAny_storeSet_of S.get S.dat ?_ (by
   rw[EE _ _ _ (by rw[S.size];exact p2),S.size,sizeLine_eq];omega))
  have hes1:(insertAt es q ((tk prog w).hash k,.ref x)).toList=Oh (xs.take q++(k,x)::xs.drop q) prog w:=by
   rw[BS,S.es]
   simp[Oh]
  have hmem:∀p,p∈xs.take q++(k,x)::xs.drop q↔p∈xs∨p=(k,x):=fun p=>by
   rw[List.mem_append,List.mem_cons]
   constructor
   ·rintro(h|h|h)
    ·exact .inl (List.mem_of_mem_take h)
    ·exact .inr h
    ·exact .inl (List.mem_of_mem_drop h)
   ·rintro(h|h)
    ·rw[←List.take_append_drop q xs] at h
     rcases List.mem_append.mp h with h|h
     ·exact .inl h
     ·exact .inr (.inr h)
    ·exact .inr (.inl h)
  have hlen:(xs.take q++(k,x)::xs.drop q).length=xs.length+1:=by
   rw[List.length_append,List.length_cons,List.length_take,List.length_drop];omega
  have hnod:((xs.take q++(k,x)::xs.drop q).map (·.1)).Nodup:=by
   have hxs:(xs.take q).map (·.1)++(xs.drop q).map (·.1)=xs.map (·.1):=by rw[←List.map_append,List.take_append_drop]
   have nd:=S.nd
   rw[←hxs] at nd
   rw[List.map_append,List.map_cons]
   have hkn:k∉(xs.take q).map (·.1)++(xs.drop q).map (·.1):=by
    rw[hxs]
    intro hm
    obtain⟨⟨k',y⟩,hp,rfl⟩:=List.mem_map.mp hm
    obtain⟨i,hi⟩:=List.getElem?_of_mem hp
    exact hno i y hi
   rw[List.mem_append,not_or] at hkn
   obtain⟨n1,n2,n3⟩:=List.nodup_append.mp nd
   refine List.nodup_append.mpr ⟨n1,List.nodup_cons.mpr ⟨hkn.2,n2⟩,fun b hb c hc=>?_⟩
   rcases List.mem_cons.mp hc with rfl|hc
   ·rintro rfl;exact hkn.1 hb
   ·exact n3 b hb c hc
  have hsb:=Heap.SameBut.update s.heap a (Obj.putSet (insertAt es q ((tk prog w).hash k,.ref x)) t1)
  have hg1:=IX (s:=s) S.get S.dat (insertAt es q ((tk prog w).hash k,.ref x)) t1
  have hkey1:∀(i:Nat) (k':List Int) (x':Addr),(xs.take q++(k,x)::xs.drop q)[i]?=some (k',x')→IK prog w (s.heap.update a (Obj.putSet (insertAt es q ((tk prog w).hash k,.ref x)) t1)) k' x':=fun i k' x' e=>by
   have ik:IK prog w s.heap k' x':=by
    rcases(hmem _).mp (List.mem_of_getElem? e) with h|h
    ·obtain⟨j,hj⟩:=List.getElem?_of_mem h
     exact S.key j k' x' hj
    ·cases h;exact hk
   exact DI ik fun u hu=> (hsb.2 x' (QM ik S.get S.ex)).trans hu
  have htb1:Tb t1 ((xs.take q++(k,x)::xs.drop q).map fun p=> (tk prog w).hash p.1):=by
   simpa using p1
  have hno':∀y,(k,y)∉xs:=fun y hy=>by
   obtain⟨i,hi⟩:=List.getElem?_of_mem hy
   exact hno i y hi
  have hfill:t1.fill=xs.length+1:=by
   unfold SetTable.fill
   rw[htb1.dum]
   have:=htb1.size
   rw[List.length_map,hlen] at this
   rw[this];rfl
  have hroom:=S.room
  simp only[Bool.not_false,Bool.true_and]
  cases htf:t1.tooFull with
  |true=>
   simp only[if_true]
   have htf':t1.mask*3≤(xs.length+1)*5:=by
    unfold SetTable.tooFull at htf
    rw[hfill] at htf
    simpa using htf
   rw[S.size]
   refine wpAny_bind (QN (s:={s with heap:=s.heap.update a (Obj.putSet (insertAt es q ((tk prog w).hash k,.ref x)) t1)}) hg1 S.ex rfl hes1 hkey1 hnod htb1 (by rw[p4];exact S.pl) (by rw[p5];exact S.led) hlen (by rw[p3];exact hroom) htf' hl fun h' xs' sb sx mm ll=>?_)
   refine wpAny_pure (hF hno' h' xs' (hsb.trans sb) sx (fun p=> (mm p).trans (hmem p)) (ll.trans hlen))
  |false=>
   simp only[Bool.false_eq_true,if_false]
   refine wpAny_pure (hF hno' _ _ hsb ⟨_,_,_,t1,hg1,S.ex,rfl,hes1,hkey1,hnod,htb1,by rw[p4];exact S.pl,?_,by rw[p5];exact S.led⟩ hmem hlen)
   unfold SetTable.tooFull at htf
   rw[hfill] at htf
   rw[hlen]
   simpa using htf
def JU(ks:List (List Int×Addr))(xs:List (List Int×Addr)):Prop:=(∀p,p∈xs→p∈ks)∧(∀k y,(k,y)∈ks→∃y',(k,y')∈xs)∧xs.length≤ks.length
theorem SetX.keep'{h h':Heap}(S:SetX prog w h a xs)(ha:∀u,h.get? a=some u→h'.get? a=some u)(hk:∀k x,(k,x)∈xs→∀u,h.get? x=some u→h'.get? x=some u):SetX prog w h' a xs:=by
 obtain⟨o,es,ep,t,S⟩:=S
 exact⟨o,es,ep,t,ha _ S.get,S.ex,S.dat,S.es,fun i k x e=>DI (S.key i k x e) (hk k x (List.mem_of_getElem? e)),S.nd,S.tb,S.pl,S.room,S.led⟩
theorem TH{I l:Addr}{items:Array Value}{ps:List (List Int×Addr)}(hh:A.in1.handled=none)(hne:l≠I)(hI:a≠I)(hla:a≠l)(hps:items.toList=ps.map fun p=>Value.ref p.2)(hz:ps.length≤300)(hu:A.units+1<cLine)
  {R:Result→Shared→Prop}:∀(n i:Nat) (s:Shared) (xs:List (List Int×Addr)),n=ps.length-i→i≤ps.length→s.heap.IsListIter I l i→s.heap.IsList l items→(∀k x,(k,x)∈ps→IK prog w s.heap k x∧x≠I)→SetX prog w s.heap a xs→JU (ps.take i) xs→
   (∀h' tk' xs',(∀b u,b≠a→b≠I→s.heap.get? b=some u→h'.get? b=some u)→SetX prog w h' a xs'→JU ps xs'→R (.ok (.ret .none)) {s with heap:=h',toks:=tk'})→
   codeAny (model prog w) A (.builtin "set.update.loop" ⟨[.ref a,.ref I],[]⟩) R s:=by
 have W:=Walks.list (A:=A.in1) (prog:=prog) (w:=w) hh I l hne items
 have hsz:items.size=ps.length:=by rw[←Array.length_toList,hps,List.length_map]
 intro n
 induction n with
 |zero=>
  intro i s xs hn hi hit hl hp hX hS hR
  have:i=ps.length:=by omega
  subst this
  rw[List.take_length] at hS
  refine codeAny_builtin PyProof.Rows.F.entry_set_update_loop ?_
  rw[Around.under_plainId PyProof.Rows.F.plain_set_update_loop _]
  show wpAny _ A.in1 (pyNext (.ref I)>>=_) _ _ s
  refine wpAny_bind (wpAny_pyNext_list_end hh hit hl (by simp[hsz]) fun h' hk=>?_)
  show wpAny _ A.in1 (ret Value.none) _ _ _
  refine wpAny_pure (hR h' s.toks xs (fun b u _ hb e=>hk b u hb e) (hX.keep' (fun u e=>hk a u hI e) fun k x hx u e=>hk x u (hp k x (hS.1 _ hx)).2 e) hS)
 |succ n ih=>
  intro i s xs hn hi hit hl hp hX hS hR
  have hlt:i<ps.length:=by omega
  obtain⟨⟨k,x⟩,hkx⟩:∃p,ps[i]?=some p:=⟨_,by simp[hlt];rfl⟩
  have hitem:items[i]?=some (.ref x):=by
   have:items[i]?=items.toList[i]?:=by simp
   rw[this,hps,List.getElem?_map,hkx];rfl
  refine codeAny_builtin PyProof.Rows.F.entry_set_update_loop ?_
  rw[Around.under_plainId PyProof.Rows.F.plain_set_update_loop _]
  show wpAny _ A.in1 (pyNext (.ref I)>>=_) _ _ s
  refine wpAny_bind (wpAny_pyNext_list_item hit hl hitem fun h1 hit1 sb1=>?_)
  have hk1:∀b u,b≠I→s.heap.get? b=some u→h1.get? b=some u:=fun b u hb e=> (sb1.2 b hb).trans e
  have kx:=hp k x (List.mem_of_getElem? hkx)
  have hX1:SetX prog w h1 a xs:=hX.keep' (fun u e=>hk1 a u hI e) fun k x hx u e=>hk1 x u (hp k x (List.mem_of_mem_take (hS.1 _ hx))).2 e
  have ik1:∀k x,(k,x)∈ps→IK prog w h1 k x∧x≠I:=fun k x hx=> ⟨DI (hp k x hx).1 fun u e=>hk1 x u (hp k x hx).2 e,(hp k x hx).2⟩
  have hl1:h1.IsList l items:=hl.at fun o e=>hk1 l o hne e
  show wpAny _ A.in1 (holding [Value.ref x] (setAdd a (.ref x))>>=_) _ _ _
  refine wpAny_bind (wpAny_holding ?_)
  unfold setAdd
  refine wpAny_holding ?_
  refine wpAny_bind ((tk prog w).pyHash (s:={s with heap:=h1}) hu (ik1 k x (List.mem_of_getElem? hkx)).1 ?_)
  have htake:ps.take (i+1)=ps.take i++[(k,x)]:=by rw[List.take_add_one,hkx];rfl
  have hlen:xs.length≤i:=by have:=hS.2.2;rw[List.length_take] at this;omega
  refine WZ (s:={s with heap:=h1,toks:=s.toks+(tk prog w).draws k}) hX1 hu (ik1 k x (List.mem_of_getElem? hkx)).1 (by omega) (fun y hy=>?_) (fun hno h2 xs' sb sx mm ll=>?_)
  ·refine wpAny_pure ⟨plainId_quiet PyProof.Rows.F.plain_set_update_loop _,ih (i+1) _ xs (by omega) (by omega) hit1 hl1 ik1 hX1 ⟨fun p hp'=>by rw[htake];exact List.mem_append_left _ (hS.1 p hp'),fun k' y' hm=>?_,by rw[htake,List.length_append];have:=hS.2.2;omega⟩ fun h' tk' xs' kp sx so=>hR h' tk' xs' (fun b u h1' h2' e=>kp b u h1' h2' (hk1 b u h2' e)) sx so⟩
   rw[htake] at hm
   rcases List.mem_append.mp hm with hm|hm
   ·exact hS.2.1 k' y' hm
   ·cases List.mem_singleton.mp hm
    exact⟨y,hy⟩
  ·have keep2:∀b u,b≠a→h1.get? b=some u→h2.get? b=some u:=fun b u hb e=> (sb.2 b hb).trans e
   have nea:∀k x,(k,x)∈ps→x≠a:=fun k x hx=>by
    obtain⟨o,es,ep,t,S⟩:=hX1
    exact QM (ik1 k x hx).1 S.get S.ex
   refine wpAny_pure ⟨plainId_quiet PyProof.Rows.F.plain_set_update_loop _,ih (i+1) {s with heap:=h2,toks:=s.toks+(tk prog w).draws k} xs' (by omega) (by omega) (hit1.at fun o e=>keep2 I o (Ne.symm hI) e) (hl1.at fun o e=>keep2 l o (Ne.symm hla) e)
    (fun k x hx=> ⟨DI (ik1 k x hx).1 fun u e=>keep2 x u (nea k x hx) e,(hp k x hx).2⟩) sx ⟨fun p hp'=>?_,fun k' y' hm=>?_,by rw[htake,List.length_append,ll];have:=hS.2.2;simp;omega⟩ fun h' tk' xs2 kp sx so=>hR h' tk' xs2 (fun b u h1' h2' e=>kp b u h1' h2' (keep2 b u h1' (hk1 b u h2' e))) sx so⟩
   ·rw[htake]
    rcases(mm p).mp hp' with h|h
    ·exact List.mem_append_left _ (hS.1 p h)
    ·exact List.mem_append_right _ (List.mem_singleton.mpr h)
   ·rw[htake] at hm
    rcases List.mem_append.mp hm with hm|hm
    ·obtain⟨y2,hy2⟩:=hS.2.1 k' y' hm
     exact⟨y2,(mm _).mpr (.inl hy2)⟩
    ·cases List.mem_singleton.mp hm
     exact⟨x,(mm _).mpr (.inr rfl)⟩
end
end StT
namespace StT
open PySem PySem.SetTable PyProof.Rows
theorem Ap:Slot "set_iterator" "__next__" "set_iterator.__next__" :=
 .of (owner:="set_iterator") (n:="__next__") (by rw[typeLookup_type,builtinLookup_eq_fast];kernel_rfl) (by decide+kernel) (by decide+kernel) (by decide+kernel)
  (by first|exact .inl (by decide+kernel)|exact .inr (by decide+kernel)) (by rw[isSubtype_type];kernel_rfl)
theorem DX:Slot "set_iterator" "__iter__" "set_iterator.__iter__" :=
 .of (owner:="set_iterator") (n:="__iter__") (by rw[typeLookup_type,builtinLookup_eq_fast];kernel_rfl) (by decide+kernel) (by decide+kernel) (by decide+kernel)
  (by first|exact .inl (by decide+kernel)|exact .inr (by decide+kernel)) (by rw[isSubtype_type];kernel_rfl)
theorem Co:entryFor table "set_iterator.__next__" =some Builtin.«set_iterator.__next__»:=entryFor_of_tree (by kernel_rfl)
theorem FX:entryFor table "set_iterator.__iter__" =some Builtin.«dict_keyiterator.__iter__»:=
 entryFor_alias (id':="dict_keyiterator.__iter__") (by kernel_rfl) (by first|rfl|decide+kernel| (unfold String.splitOn;simp+decide [String.splitOnAux])) (by decide+kernel) (by kernel_rfl)
theorem Gx:entryFor table "set.__iter__" =some Builtin.«frozenset.__iter__»:=
 entryFor_alias (id':="frozenset.__iter__") (by kernel_rfl) (by first|rfl|decide+kernel| (unfold String.splitOn;simp+decide [String.splitOnAux])) (by decide+kernel) (by kernel_rfl)
theorem Fp:Manifest.owners.lookup (String.ofList ['r','o','t','a','r','e','t','i','_','t','e','s'].reverse)=some Manifest.sig_set_iterator:=by kernel_rfl
theorem DY(a:Value):argsOk "set_iterator.__next__" ⟨[a],[]⟩:=by
 unfold argsOk;rw[signature?_of (id:="set_iterator.__next__") (n:=['_','_','t','x','e','n','_','_']) (o:=['r','o','t','a','r','e','t','i','_','t','e','s']) (by kernel_rfl) Fp];kernel_rfl
theorem GD(a:Value):argsOk "set_iterator.__iter__" ⟨[a],[]⟩:=by
 unfold argsOk;rw[signature?_of (id:="set_iterator.__iter__") (n:=['_','_','r','e','t','i','_','_']) (o:=['r','o','t','a','r','e','t','i','_','t','e','s']) (by kernel_rfl) Fp];kernel_rfl
theorem NO{α:Type}:∀(l:List α) (i:Nat) (h:i<l.length),(l[i]::l.eraseIdx i).Perm l
 |x::l,0,_=>List.Perm.refl _
 |x::l,i+1,h=>by
  have ih:=NO l i (by simpa using h)
  simp only[List.getElem_cons_succ,List.eraseIdx_cons_succ]
  exact(List.Perm.swap _ _ _).trans (ih.cons x)
theorem NP{α:Type}(next:Nat→Nat):∀(n k:Nat) (left:List α) (out:Array α),left.length=n→(pickOrder.go next n k left out).toList.Perm (out.toList++left)
 |0,k,left,out,h=>by
  have:left=[]:=List.length_eq_zero_iff.mp h
  subst this
  simp[pickOrder.go]
 |n+1,k,left,out,h=>by
  have hlt:next k%left.length<left.length:=Nat.mod_lt _ (by omega)
  have e:left[next k%left.length]?=some left[next k%left.length]:=by simp[hlt]
  rw[pickOrder.go,e]
  have ih:=NP next n (k+1) (left.eraseIdx (next k%left.length)) (out.push left[next k%left.length]) (by rw[List.length_eraseIdx_of_lt hlt];omega)
  refine ih.trans ?_
  rw[Array.toList_push,List.append_assoc]
  exact List.Perm.append_left _ (NO left _ hlt)
theorem Oi{α:Type}(next:Nat→Nat)(xs:Array α):(pickOrder next xs).toList.Perm xs.toList:=by
 have:=NP next xs.size 0 xs.toList #[] (by simp)
 simp only[List.nil_append] at this
 exact this
def EM(w:World)(a:Addr)(ep:Nat)(es:Array (Int×Value)):Array (Int×Value):=if w.params.followText "set-order" =true then pickOrder (w.params.setOrder a ep) es else es
theorem IY(w:World)(a:Addr)(ep:Nat)(es:Array (Int×Value)):(EM w a ep es).toList.Perm es.toList:=by
 unfold EM
 split
 ·exact Oi _ _
 ·exact List.Perm.refl _
theorem FY(w:World)(a:Addr)(ep:Nat)(es:Array (Int×Value)):(EM w a ep es).size=es.size:=by
 rw[←Array.length_toList,←Array.length_toList];exact(IY w a ep es).length_eq
theorem MA{xs:Array Nat}(r:QI xs){i:Nat}(hi:i≤xs.size){slot:Nat}(hs:(i=0∧slot=0)∨(0<i∧∃j,xs[i-1]?=some j∧slot=j+1)):below xs slot=i:=by
 obtain⟨b1,b2,b3⟩:=DG (j:=slot) r
 rcases hs with⟨rfl,rfl⟩| ⟨h0,j,hj,rfl⟩
 ·apply Classical.byContradiction
  intro hne
  have h0:0<xs.size:=by omega
  have:=b2 0 xs[0] (by omega) (by simp[h0])
  omega
 ·have hlt:i-1<xs.size:=(Array.getElem?_eq_some_iff.mp hj).1
  rcases Nat.lt_trichotomy (below xs (j+1)) i with hl|he|hg
  ·have hx:xs[below xs (j+1)]?=some xs[below xs (j+1)]:=by simp[show below xs (j+1)<xs.size by omega]
   have h1:=b3 _ _ (Nat.le_refl _) hx
   by_cases hq:below xs (j+1)=i-1
   ·have hx2:xs[below xs (j+1)]?=some j:=by rw[hq];exact hj
    have:=Option.some.inj (hx.symm.trans hx2)
    omega
   ·have:=Gk r hx hj (by omega)
    omega
  ·exact he
  ·have hx:xs[i]?=some xs[i]:=by simp[show i<xs.size by omega]
   have h1:=b2 i _ hg hx
   have:=Gk r hj hx (by omega)
   omega
section
variable{prog:Program}{w:World}{A:Around}{E:Value→Shared→Prop}{s:Shared}
variable{a:Addr}{xs:List (List Int×Addr)}{o:Obj}{es:Array (Int×Value)}{ep:Nat}{t:SetTable}
def Cp(w:World)(h:Heap)(I a:Addr)(t:SetTable)(ep n i:Nat):Prop:=∃slot:Nat,h.get? I=some {cls:=.type "set_iterator",dict:=none,data:=.fields #[rawInt slot,rawInt i,.ref a,rawInt n,rawInt ep],slots:=#[]}∧
 (w.params.followText "set-order" =false→(i=0∧slot=0)∨(0<i∧∃j,t.place[i-1]?=some j∧slot=j+1))
theorem Gy(hg:s.heap.get? a=some o)(hd:o.data=.set es ep t)(hf:t.fits es.size=true)(hr:QI t.place)(hpl:t.plain=true)(hled:t.led=!w.params.followText "set-order"){i slot:Nat}(hi:i≤es.size)
  (hs:w.params.followText "set-order" =false→(i=0∧slot=0)∨(0<i∧∃j,t.place[i-1]?=some j∧slot=j+1)) {Q:Option (Value×Nat)→Shared→Prop}
  (hsome:∀e slot',(EM w a ep es)[i]?=some e→(w.params.followText "set-order" =false→∃j,t.place[i]?=some j∧slot'=j+1)→Q (some (e.2,slot')) s) (hnone:i=es.size→Q none s):wpAny (model prog w) A (setNext a slot i ep) Q E s:=by
 have hps:t.place.size=es.size:=by
  simp only[SetTable.fits,Bool.and_eq_true,beq_iff_eq] at hf
  exact hf.1
 have ask:∀{R:Bool→Shared→Prop},R (w.params.followText "set-order") s→wpAny (model prog w) A setsByText R E s:=fun h=>wpAny_bind (wpAny_askSetting (wpAny_pure h))
 unfold setNext
 refine wpAny_bind (wpAny_setState_of hg hd hf ?_)
 dsimp only
 refine wpAny_bind (ask ?_)
 cases hb:w.params.followText "set-order" with
 |true=>
  simp only[if_true]
  rw[if_neg (by simp)]
  refine wpAny_bind ?_
  unfold setWalk
  refine wpAny_bind (wpAny_setState_of hg hd hf ?_)
  dsimp only
  refine wpAny_bind (ask ?_)
  rw[hb]
  simp only[if_true]
  refine wpAny_bind (wpAny_askSetting (wpAny_pure ?_))
  refine wpAny_pure ?_
  have ho:EM w a ep es=pickOrder (w.params.setOrder a ep) es:=by unfold EM;rw[if_pos hb]
  show Q (((pickOrder (w.params.setOrder a ep) es)[i]?).map fun e=> (e.2,slot)) s
  rw[←ho]
  cases he:(EM w a ep es)[i]? with
  |some e=>exact hsome e slot he fun z=>by rw[hb] at z;cases z
  |none=>
   refine hnone ?_
   have:=Array.getElem?_eq_none_iff.mp he
   rw[FY] at this
   omega
 |false=>
  rw[hb] at hled
  simp only[Bool.false_eq_true,if_false]
  have hdr:(!t.plain&&decide (es.size>1))=false:=by rw[hpl];rfl
  show wpAny _ _ (if(!t.plain&&decide (es.size>1))=true then _ else _) _ _ s
  rw[hdr]
  simp only[Bool.false_eq_true,if_false]
  refine wpAny_bind ?_
  show wpAny _ _ (if(!t.led&&!es.isEmpty)=true then _ else pure ()) _ _ s
  rw[hled]
  simp only[Bool.not_false,Bool.not_true,Bool.false_and,Bool.false_eq_true,if_false]
  refine wpAny_pure ?_
  rw[MA hr (by omega) (hs hb)]
  have ho:EM w a ep es=es:=by unfold EM;rw[if_neg (by rw[hb];decide)]
  by_cases hlt:i<es.size
  ·have e1:es[i]?=some es[i]:=by simp[hlt]
   have e2:t.place[i]?=some (t.place[i]'(by omega)):=by simp[show i<t.place.size by omega]
   rw[e1,e2]
   exact wpAny_pure (hsome es[i] _ (by rw[ho];exact e1) fun _=> ⟨_,e2,rfl⟩)
  ·have e1:es[i]?=none:=by simp;omega
   rw[e1]
   exact wpAny_pure (hnone (by omega))
end
section
variable{prog:Program}{w:World}{A:Around}{E:Value→Shared→Prop}{s:Shared}
variable{a I:Addr}{xs:List (List Int×Addr)}{o:Obj}{es:Array (Int×Value)}{ep:Nat}{t:SetTable}
structure Wk(w:World)(o:Obj)(es:Array (Int×Value))(ep:Nat)(t:SetTable):Prop where
 cls:o.cls=.type "set"
 dat:o.data=.set es ep t
 fits:t.fits es.size=true
 ris:QI t.place
 pl:t.plain=true
 led:t.led=!w.params.followText "set-order"
theorem SetD.wk(S:SetD prog w s.heap a xs o es ep t):Wk w o es ep t:=⟨S.ex.1,S.dat,S.fits,S.tb.ris,S.pl,S.led⟩
theorem Cc(K:Wk w o es ep t)(hg:s.heap.get? a=some o){Q:Array (Int×Value)→Shared→Prop}(h:Q es s):wpAny (model prog w) A (setEntries a) Q E s:=by
 unfold setEntries
 exact wpAny_bind (wpAny_setState_of hg K.dat K.fits (wpAny_pure h))
theorem Oj(K:Wk w o es ep t)(hg:s.heap.get? a=some o)(hne:a≠I){i:Nat}(hi:i<es.size)(it:Cp w s.heap I a t ep es.size i){Q:Option Value→Shared→Prop}
  (hQ:∀e h',(EM w a ep es)[i]?=some e→Cp w h' I a t ep es.size (i+1)→Heap.SameBut I s.heap h'→Q (some e.2) {s with heap:=h'}):wpAny (model prog w) A (pyNext (.ref I)) Q E s:=by
 obtain⟨slot,ho,hsl⟩:=it
 have hT:s.TypeIs (.ref I) "set_iterator":=⟨_,ho,rfl⟩
 unfold pyNext
 refine wpAny_bind (wpAny_attempt (wpAny_callSpecial?_slot (name:=Str.ofString "__next__") hT Ap (wpAny_call_entry Ap hT Co ?_ (DY _))))
 refine wpAny_bind (wpAny_pure ?_)
 refine wpAny_bind (wpAny_fieldsOf ho rfl ?_)
 show wpAny _ _ (setEntries a>>=_) _ _ s
 refine wpAny_bind (Cc K hg ?_)
 rw[if_neg (by simp)]
 show wpAny _ _ (setNext a ((slot:Int).toNat) ((i:Int).toNat) ((ep:Int).toNat)>>=_) _ _ s
 simp only[Int.toNat_natCast]
 refine wpAny_bind (Gy hg K.dat K.fits K.ris K.pl K.led (Nat.le_of_lt hi) hsl (fun e slot' he hs'=>?_) fun z=>by omega)
 dsimp only
 refine wpAny_bind (wpAny_setField_rec ho (by simp) fun h1 ho1 hs1=>?_)
 refine wpAny_bind (wpAny_setField_rec (s:={s with heap:=h1}) ho1 (by simp) fun h2 ho2 hs2=>?_)
 refine wpAny_pure ⟨_,rfl,wpAny_pure (hQ e h2 he ⟨slot',?_,fun hb=> .inr ⟨Nat.succ_pos _,?_⟩⟩ (hs1.trans hs2))⟩
 ·simpa using ho2
 ·simpa using hs' hb
theorem QO(K:Wk w o es ep t)(hh:A.handled=none)(hg:s.heap.get? a=some o)(hne:a≠I)(it:Cp w s.heap I a t ep es.size es.size){Q:Option Value→Shared→Prop}
  (hQ:∀h',Heap.ExtBut I s.heap h'→Q none {s with heap:=h'}):wpAny (model prog w) A (pyNext (.ref I)) Q E s:=by
 obtain⟨slot,ho,hsl⟩:=it
 have hT:s.TypeIs (.ref I) "set_iterator":=⟨_,ho,rfl⟩
 unfold pyNext
 refine wpAny_bind (wpAny_attempt (wpAny_callSpecial?_slot (name:=Str.ofString "__next__") hT Ap (wpAny_call_entry Ap hT Co ?_ (DY _))))
 refine wpAny_bind (wpAny_pure ?_)
 refine wpAny_bind (wpAny_fieldsOf ho rfl ?_)
 show wpAny _ _ (setEntries a>>=_) _ _ s
 refine wpAny_bind (Cc K hg ?_)
 rw[if_neg (by simp)]
 show wpAny _ _ (setNext a ((slot:Int).toNat) ((es.size:Int).toNat) ((ep:Int).toNat)>>=_) _ _ s
 simp only[Int.toNat_natCast]
 refine wpAny_bind (Gy hg K.dat K.fits K.ris K.pl K.led (Nat.le_refl _) hsl (fun e slot' he hs'=>?_) fun z=>?_)
 ·have:=(Array.getElem?_eq_some_iff.mp he).1
  rw[FY] at this
  omega
 dsimp only
 refine wpAny_bind (wpAny_setField_rec ho (by simp) fun h1 ho1 hs1=>?_)
 show wpAny _ _ (newExc (.type "StopIteration") []>>=_) _ _ _
 refine wpAny_bind ?_
 simp only[newExc,newTuple]
 refine wpAny_bind (wpAny_newObj_type ?_ (by size_fits))
 refine wpAny_bind (m:=firstArgMember _ _) (wpAny_of_eq (a:=Value.none) (by first|rfl| (simp only[firstArgMember];rfl)) ?_)
 refine wpAny_newObj_type ?_ (by size_fits)
 simp only[raiseNew]
 refine wpAny_bind (wpAny_handled ?_)
 rw[show A.in1.handled=none from hh]
 refine wpAny_bind (wpAny_pure (wpAny_throw ?_))
 refine wpAny_bind (wpAny_isInstance (T:="StopIteration") (b:=true) ⟨_,Heap.get?_push_size _ rfl,rfl⟩ isSubtype_stop ?_)
 exact wpAny_pure (hQ _ ((hs1.extBut.push _).push _))
theorem Ol{n i:Nat}(it:Cp w s.heap I a t ep n i){Q:Value→Shared→Prop}(h:Q (.ref I) s):wpAny (model prog w) A (pyIter (.ref I)) Q E s:=by
 obtain⟨slot,ho,_⟩:=it
 have hT:s.TypeIs (.ref I) "set_iterator":=⟨_,ho,rfl⟩
 refine wpAny_pyIter_slot hT DX (wpAny_call_entry DX hT FX ?_ (GD _))
 show wpAny _ _ (ret (.ref I)) _ _ s
 exact wpAny_pure ⟨_,rfl,"set_iterator",_,hT,Ap.lookup,h⟩
theorem QP(K:Wk w o es ep t)(hg:s.heap.get? a=some o){Q:Value→Shared→Prop}
  (h:Q (.ref s.heap.objs.size) {s with heap:=s.heap.push {cls:=.type "set_iterator",data:=.fields #[rawInt 0,rawInt 0,.ref a,rawInt es.size,rawInt ep]}}):wpAny (model prog w) A (pyIter (.ref a)) Q E s:=by
 have hT:s.TypeIs (.ref a) "set":=⟨_,hg,K.cls⟩
 have ask:∀{A:Around} {E:Value→Shared→Prop} {R:Bool→Shared→Prop},R (w.params.followText "set-order") s→wpAny (model prog w) A setsByText R E s:=fun h=>wpAny_bind (wpAny_askSetting (wpAny_pure h))
 refine wpAny_pyIter_slot hT PySem.F.slot_set_iter (wpAny_call_entry PySem.F.slot_set_iter hT Gx ?_ (PySem.F.args_set_iter_1 _))
 unfold Builtin.«frozenset.__iter__»
 refine wpAny_bind (wpAny_bind (wpAny_pure (wpAny_pure ?_)))
 refine wpAny_bind (wpAny_bind (Cc K hg (wpAny_pure ?_)))
 refine wpAny_bind ?_
 unfold setDrawn
 refine wpAny_bind (wpAny_setState_of hg K.dat K.fits ?_)
 dsimp only
 refine wpAny_bind (ask (wpAny_pure ?_))
 have hdr:(!w.params.followText "set-order" &&(!t.plain&&decide (es.size>1)))=false:=by rw[K.pl];simp
 show wpAny _ _ (if(!w.params.followText "set-order" &&(!t.plain&&decide (es.size>1)))=true then _ else _) _ _ s
 rw[hdr]
 simp only[Bool.false_eq_true,if_false]
 refine wpAny_bind (wpAny_pure ?_)
 refine wpAny_bind (wpAny_setEpoch_of hg K.dat K.fits ?_)
 refine wpAny_bind ?_
 unfold newFields
 refine wpAny_newObj_type ?_
 refine wpAny_pure ⟨_,rfl,"set_iterator",_,⟨_,Heap.get?_push_size _ rfl,rfl⟩,Ap.lookup,h⟩
theorem Om(K:Wk w o es ep t)(hh:A.handled=none)(hne:a≠I):Walks prog w A I [I,a] [I] es.size (fun i v=>∃h,(EM w a ep es)[i]?=some (h,v)) (fun i h=>Cp w h I a t ep es.size i∧h.get? a=some o) where
 sub:=fun b hb=>by simp at hb;simp[hb]
 frame:=fun i h h' st hk=>by
  obtain⟨⟨slot,h1,h2⟩,h3⟩:=st
  exact⟨⟨slot,hk I (by simp) _ h1,h2⟩,hk a (by simp) _ h3⟩
 item:=fun i s Q E hi st hQ=>Oj K st.2 hne hi st.1 fun e h' he it' sb=>hQ e.2 h' s.toks ⟨e.1,he⟩ ⟨it',(sb.2 a hne).trans st.2⟩ fun b o hb e=> (sb.2 b (fun z=>hb (by simp[z]))).trans e
 done:=fun s Q E st hQ=>QO K hh st.2 hne st.1 fun h' he=>hQ h' s.toks fun b o hb e=>he b o (fun z=>hb (by simp[z])) e
 self:=fun i s Q E st hQ=>Ol st.1 hQ
theorem QQ{r:Addr}{Q:Bool→Shared→Prop}(hT:s.TypeIs (.ref r) "set")(h:Q false s):wpAny (model prog w) A (Builtin.List.listLengthHint (.ref r)) Q E s:=by
 unfold Builtin.List.listLengthHint
 refine wpAny_bind (wpAny_specialOf hT PySem.F.slot_set_len.lookup ?_)
 generalize hid:("set.__len__" :String)=id0
 wp_delta
 rw[show splitId id0=some ("set","__len__") from by subst hid;decide+kernel]
 subst hid
 refine wpAny_bind (wpAny_isInstance (T:="set") (b:=true) hT (by rw[isSubtype_type];kernel_rfl) ?_)
 refine wpAny_ite_split (fun hab=>absurd hab (by decide)) (fun _=>?_)
 refine wpAny_ite_split (fun _=>?_) (fun hab=>absurd (by decide+kernel) hab)
 refine wpAny_bind (wpAny_typeOf hT ?_)
 exact wpAny_pure h
theorem TJ(K:Wk w o es ep t):PySem.W.KdlSrc prog w "set" a a es.size (fun i v=>∃h,(EM w a ep es)[i]?=some (h,v)) (fun h=>h.get? a=some o) where
 type:=fun _ hm=> ⟨_,hm,K.cls⟩
 there:=fun _ hm=> ⟨Heap.lt_size hm,Heap.lt_size hm⟩
 keep:=fun _ _ hm hk=>hk a (.inl rfl) _ hm
 notList:=by decide
 notTuple:=by decide
 hint:=fun _ _ _ _ hm hq=>QQ ⟨_,hm,K.cls⟩ hq
 iter:=fun A s hh hm=> ⟨_,_,(fun _ _ hq=>QP K hm hq),Om K hh (Nat.ne_of_lt (Heap.lt_size hm)),⟨⟨0,Heap.get?_push_size _ rfl,fun _=> .inl ⟨rfl,rfl⟩⟩,Heap.get?_push_of_some _ hm⟩⟩
end
end StT
namespace SrtG
open PySem PyProof.Rows
section
variable{prog:Program}{w:World}{A:Around}{E:Value→Shared→Prop}{s:Shared}
def Us(prog:Program)(w:World)(A:Around)(E:Value→Shared→Prop)(s:Shared)(kd:SortKind)(U:Keyed→Prop)(rk:Keyed→Int):Prop:=
 ∀(st:SortSt) (x y:Keyed) (Q:Option Bool→SortSt→Prop),kindOf st=kd→U x→U y→Q (some (decide (rk x<rk y))) st→wpS (model prog w) A E s (lt' x y) Q st
variable{kd:SortKind}{U:Keyed→Prop}{rk:Keyed→Int}
def RK(rk:Keyed→Int)(xs:Array Keyed)(i:Nat):Int:=match xs[i]? with
 |some p=>rk p
 |none=>0
def AllU(U:Keyed→Prop)(xs:Array Keyed):Prop:=∀(i:Nat) (p:Keyed),xs[i]?=some p→U p
end
local macro_rules | `(tactic| omega) => `(tactic| first | lia | omega)
open PySem PyProof.Rows
variable{rk:Keyed→Int}
def cj(rk:Keyed→Int)(a:Array Keyed):Prop:=∀i j,i≤j→j<a.size→RK rk a i≤RK rk a j
theorem IZ{a:Array Keyed}{i:Nat}(h:i<a.size):RK rk a i=rk a[i]:=by
 unfold RK
 rw[getElem?_pos a i h]
end SrtG
namespace SrtG
local macro_rules | `(tactic| omega) => `(tactic| first | lia | omega)
open PySem PyProof.Rows
section
variable{prog:Program}{w:World}{A:Around}{E:Value→Shared→Prop}{s:Shared}{kd:SortKind}{U:Keyed→Prop}{rk:Keyed→Int}
theorem Kl{arr:Array Keyed}{i:Nat}{st:SortSt}{Q:Keyed→SortSt→Prop}(hi:i<arr.size)(h:Q arr[i] st):wpS (model prog w) A E s (elem' arr i) Q st:=by
 rw[elem'_eq,getElem?_pos arr i hi]
 exact wpS_pure h
end
end SrtG
namespace SrtG
local macro_rules | `(tactic| omega) => `(tactic| first | lia | omega)
open PySem PyProof.Rows
variable{rk:Keyed→Int}
end SrtG
namespace SrtG
local macro_rules | `(tactic| omega) => `(tactic| first | lia | omega)
open PySem PyProof.Rows
variable{prog:Program}{w:World}{A:Around}{E:Value→Shared→Prop}{s:Shared}{kd:SortKind}{U:Keyed→Prop}{rk:Keyed→Int}
end SrtG
namespace SrtG
local macro_rules | `(tactic| omega) => `(tactic| first | lia | omega)
open PySem PyProof.Rows
variable{rk:Keyed→Int}
def Seg(rk:Keyed→Int)(arr:Array Keyed)(lo hi:Nat):Prop:=∀x y,lo≤x→x≤y→y<hi→RK rk arr x≤RK rk arr y
end SrtG
namespace SrtG
local macro_rules | `(tactic| omega) => `(tactic| first | lia | omega)
open PySem PyProof.Rows
variable{rk:Keyed→Int}
section
variable{prog:Program}{w:World}{A:Around}{E:Value→Shared→Prop}{s:Shared}{kd:SortKind}{U:Keyed→Prop}
end
end SrtG
namespace SrtG
open PySem PyProof.Rows
variable{rk:Keyed→Int}
structure Kp(st0 st:SortSt)(lo hi:Nat):Prop where
 kd:kindOf st=kindOf st0
 pd:pendingOf st=pendingOf st0
 fl:failedOf st=failedOf st0
 perm:(arrOf st).toList.Perm (arrOf st0).toList
 out:∀x,x<lo∨hi≤x→(arrOf st)[x]?=(arrOf st0)[x]?
theorem Kp.refl(st:SortSt)(lo hi:Nat):Kp st st lo hi:=⟨rfl,rfl,rfl,List.Perm.refl _,fun _ _=>rfl⟩
theorem Kp.size{st0 st:SortSt}{lo hi:Nat}(k:Kp st0 st lo hi):(arrOf st).size=(arrOf st0).size:=by
 rw[←Array.length_toList,←Array.length_toList];exact k.perm.length_eq
theorem AllU.of_perm{U:Keyed→Prop}{a b:Array Keyed}(u:AllU U a)(p:b.toList.Perm a.toList):AllU U b:=fun i q e=>by
 have hm:q∈b.toList:=by rw[←Array.getElem?_toList] at e;exact List.mem_of_getElem? e
 have hm':=p.mem_iff.mp hm
 obtain⟨j,hj⟩:=List.mem_iff_getElem?.mp hm'
 rw[Array.getElem?_toList] at hj
 exact u j q hj
theorem Kp.setA{st0 st:SortSt}{lo hi:Nat}(k:Kp st0 st lo hi){xs:Array Keyed}(hp:xs.toList.Perm (arrOf st).toList)(ho:∀x,x<lo∨hi≤x→xs[x]?=(arrOf st)[x]?):Kp st0 (setArr st xs) lo hi:=
 ⟨k.kd,k.pd,k.fl,hp.trans k.perm,fun x hx=> (ho x hx).trans (k.out x hx)⟩
theorem Dg{xs ys:Array Keyed}{i j:Nat}(h:xs[i]?=ys[j]?):RK rk xs i=RK rk ys j:=by unfold RK;rw[h]
theorem Ia{xs:Array Keyed}{src d:Nat}(hs:src<xs.size)(hd:d≤src)(k:Nat):RK rk (bubble xs src d) k=if k=src-d then RK rk xs src else if src-d<k∧k≤src then RK rk xs (k-1) else RK rk xs k:=by
 have e:=getElem?_bubble hs d hd k
 by_cases c1:k=src-d
 ·rw[if_pos c1] at e ⊢;exact Dg e
 ·rw[if_neg c1] at e ⊢
  by_cases c2:src-d<k∧k≤src
  ·rw[if_pos c2] at e ⊢;exact Dg e
  ·rw[if_neg c2] at e ⊢;exact Dg e
section
variable{prog:Program}{w:World}{A:Around}{E:Value→Shared→Prop}{s:Shared}{kd:SortKind}{U:Keyed→Prop}
theorem BU{st:SortSt}{i j:Nat}{Q:Option Bool→SortSt→Prop}(C:Us prog w A E s kd U rk)(hk:kindOf st=kd)(hU:AllU U (arrOf st))(hi:i< (arrOf st).size)(hj:j< (arrOf st).size)
  (h:Q (some (decide (RK rk (arrOf st) i<RK rk (arrOf st) j))) st):wpS (model prog w) A E s (ltAt' i j) Q st:=by
 rw[ltAt'_eq]
 refine wpS_bind (wpS_get ?_)
 refine wpS_bind (Kl hi ?_)
 refine wpS_bind (Kl hj ?_)
 rw[IZ hi,IZ hj] at h
 exact C _ _ _ _ hk (hU _ _ (getElem?_pos (arrOf st) _ hi)) (hU _ _ (getElem?_pos (arrOf st) _ hj)) h
theorem MB{st:SortSt}{lo n ok:Nat}{Q:Bool→SortSt→Prop}(C:Us prog w A E s kd U rk)(hk:kindOf st=kd)(hU:AllU U (arrOf st))(hn:lo+n≤(arrOf st).size)(hok:ok≤n)(hs:Seg rk (arrOf st) lo (lo+ok))
  (h:∀st',Kp st st' lo (lo+n)→Seg rk (arrOf st') lo (lo+n)→Q true st'):wpS (model prog w) A E s (binarySort' lo n ok) Q st:=by
 rw[binarySort'_eq]
 refine wpS_bind (wpS_mono (wpS_forRange (I:=fun k c st'=>c=(none,())∧Kp st st' lo (lo+n)∧Seg rk (arrOf st') lo (lo+min k n))
  (Q:=fun c st'=>c=(none,())∧Kp st st' lo (lo+n)∧Seg rk (arrOf st') lo (lo+n)) ?step ?fin ?init) ?post)
 case post=>
  rintro c st' ⟨rfl,hB',hs'⟩
  exact wpS_pure (h st' hB' hs')
 case init=>
  refine⟨rfl,Kp.refl _ _ _,fun i j hi hij hj=>?_⟩
  by_cases c1:ok=0
  ·have:i=j:=by omega
   subst this;exact Int.le_refl _
  ·exact hs i j hi hij (by omega)
 case fin=>
  rintro c st' ⟨hc,hB',hs'⟩
  refine⟨hc,hB',?_⟩
  have e:min (max (max ok 1) n) n=n:=by omega
  rwa[e] at hs'
 case step=>
  rintro k c st' hak hkn ⟨rfl,hB',hs'⟩
  have e:min k n=k:=by omega
  rw[e] at hs'
  have hz:=hB'.size
  have hks:lo+k< (arrOf st').size:=by omega
  have hU':=hU.of_perm hB'.perm
  refine wpS_bind (wpS_mono (wpS_forRange (I:=fun x c st''=>st''=st'∧∃l r,c=(none,l,r)∧l≤r∧r≤k∧r-l≤k-x∧
    (∀i,i<l→RK rk (arrOf st') (lo+i)≤RK rk (arrOf st') (lo+k))∧(∀i,r≤i→i<k→RK rk (arrOf st') (lo+k)<RK rk (arrOf st') (lo+i)))
   (Q:=fun c st''=>st''=st'∧∃l r,c=(none,l,r)∧l≤k∧
    (∀i,i<l→RK rk (arrOf st') (lo+i)≤RK rk (arrOf st') (lo+k))∧(∀i,l≤i→i<k→RK rk (arrOf st') (lo+k)<RK rk (arrOf st') (lo+i))) ?istep ?ifin ?iinit) ?ipost)
  case iinit=>exact⟨rfl,0,k,rfl,by omega,by omega,by omega,fun i hi=>by omega,fun i h1 h2=>by omega⟩
  case ifin=>
   rintro c st'' ⟨rfl,l,r,rfl,hlr,hrk,hm,hlo,hhi⟩
   have:l=r:=by omega
   subst this
   exact⟨rfl,l,l,rfl,hrk,hlo,hhi⟩
  case istep=>
   rintro x c st'' _ hxk ⟨rfl,l,r,rfl,hlr,hrk,hm,hlo,hhi⟩
   dsimp only
   by_cases hge:l≥r
   ·rw[if_pos hge]
    have:l=r:=by omega
    subst this
    exact wpS_pure ⟨rfl,l,l,rfl,hrk,hlo,hhi⟩
   ·rw[if_neg hge]
    refine wpS_bind (BU C (hB'.kd.trans hk) hU' hks (by omega) ?_)
    dsimp only
    by_cases hless:RK rk (arrOf st'') (lo+k)<RK rk (arrOf st'') (lo+(l+r)/2)
    ·rw[if_pos (decide_eq_true hless)]
     refine wpS_pure ⟨rfl,l,(l+r)/2,rfl,by omega,by omega,by omega,hlo,fun i q1 q2=>?_⟩
     exact Int.lt_of_lt_of_le hless (hs' _ _ (by omega) (by omega) (by omega))
    ·rw[if_neg (fun q=>hless (of_decide_eq_true q))]
     refine wpS_pure ⟨rfl,(l+r)/2+1,r,rfl,by omega,by omega,by omega,fun i q1=>?_,hhi⟩
     exact Int.le_trans (hs' (lo+i) (lo+(l+r)/2) (by omega) (by omega) (by omega)) (Int.not_lt.mp hless)
  case ipost=>
   rintro c st'' ⟨rfl,l,r,rfl,hlk,hlo,hhi⟩
   show wpS _ _ _ _ (do moveDown' (lo+k) (lo+l);pure (ForInStep.yield (none,()))) _ _
   rw[moveDown'_eq]
   have ed:lo+k- (lo+l)=k-l:=by omega
   refine wpS_bind (wpS_modify (wpS_pure ⟨rfl,hB'.setA (Array.perm_iff_toList_perm.mp (bubble_perm _ _ _)) ?_,?_⟩))
   ·intro x hx
    rw[ed,getElem?_bubble hks _ (by omega),if_neg (by omega),if_neg (by omega)]
   have e2:lo+min (k+1) n=lo+k+1:=by omega
   rw[e2]
   intro i j hi hij hj
   show RK rk (bubble (arrOf st'') (lo+k) (lo+k- (lo+l))) i≤RK rk (bubble (arrOf st'') (lo+k) (lo+k- (lo+l))) j
   rw[ed,Ia hks (by omega),Ia hks (by omega)]
   have e3:lo+k- (k-l)=lo+l:=by omega
   rw[e3]
   have hlo':∀i,lo≤i→i<lo+l→RK rk (arrOf st'') i≤RK rk (arrOf st'') (lo+k):=fun i q1 q2=>by
    have:=hlo (i-lo) (by omega)
    have e4:lo+(i-lo)=i:=by omega
    rwa[e4] at this
   have hhi':∀i,lo+l≤i→i<lo+k→RK rk (arrOf st'') (lo+k)≤RK rk (arrOf st'') i:=fun i q1 q2=>by
    have:=hhi (i-lo) (by omega) (by omega)
    have e4:lo+(i-lo)=i:=by omega
    rw[e4] at this
    exact Int.le_of_lt this
   repeat' split
   all_goals first
    | (exfalso;omega)
    |exact Int.le_refl _
    |exact hlo' _ (by omega) (by omega)
    |exact hhi' _ (by omega) (by omega)
    |exact hs' _ _ (by omega) (by omega) (by omega)
end
local macro_rules | `(tactic| omega) => `(tactic| first | lia | omega)
open PySem PyProof.Rows
variable{rk:Keyed→Int}
def Dsc(rk:Keyed→Int)(arr:Array Keyed)(lo hi:Nat):Prop:=∀x y,lo≤x→x≤y→y<hi→RK rk arr y≤RK rk arr x
theorem On{xs:Array Keyed}{i j:Nat}(hj:j≤xs.size)(k:Nat):RK rk (mirror xs i j ((j-i)/2)) k=if i≤k∧k<j then RK rk xs (i+j-1-k) else RK rk xs k:=by
 have e:=getElem?_mirror_all (i:=i) hj k
 by_cases c1:i≤k∧k<j
 ·rw[if_pos c1] at e ⊢;exact Dg e
 ·rw[if_neg c1] at e ⊢;exact Dg e
section
variable{prog:Program}{w:World}{A:Around}{E:Value→Shared→Prop}{s:Shared}{kd:SortKind}{U:Keyed→Prop}
theorem Ej{st0 st:SortSt}{lo hi i j:Nat}{Q:Unit→SortSt→Prop}(k:Kp st0 st lo hi)(h1:lo≤i)(h2:j≤hi)(hj:j≤(arrOf st).size)
  (h:∀st',Kp st0 st' lo hi→(∀k,RK rk (arrOf st') k=if i≤k∧k<j then RK rk (arrOf st) (i+j-1-k) else RK rk (arrOf st) k)→Q () st'):wpS (model prog w) A E s (reverseSlice' i j) Q st:=by
 rw[reverseSlice'_eq]
 refine wpS_modify (h _ (k.setA (Array.perm_iff_toList_perm.mp (mirror_perm _ _ _ _)) fun x hx=>?_) fun k=>On hj k)
 rw[getElem?_mirror_all hj,if_neg (by omega)]
theorem Dh{st0 st:SortSt}{lo hi i j:Nat}{Q:Unit→SortSt→Prop}(k:Kp st0 st lo hi)(h1:lo≤i)(h2:j≤hi)(hj:j≤(arrOf st).size)(heq:∀k,i≤k→k<j→RK rk (arrOf st) k=RK rk (arrOf st) (j-1))
  (h:∀st',Kp st0 st' lo hi→(∀k,RK rk (arrOf st') k=RK rk (arrOf st) k)→Q () st'):wpS (model prog w) A E s (reverseSlice' i j) Q st:=by
 refine Ej (rk:=rk) k h1 h2 hj fun st' k' e=>h st' k' fun x=>?_
 rw[e x]
 split
 ·rw[heq _ (by omega) (by omega),heq x (by omega) (by omega)]
 ·rfl
theorem Seg.up{arr:Array Keyed}{lo n:Nat}(sg:Seg rk arr lo (lo+n))(h1:1≤n)(hx:¬RK rk arr (lo+n)<RK rk arr (lo+n-1)):Seg rk arr lo (lo+(n+1)):=fun i j hi hij hj=>by
 by_cases c:j<lo+n
 ·exact sg i j hi hij c
 ·have e:j=lo+n:=by omega
  subst e
  by_cases c2:i=lo+n
  ·subst c2;exact Int.le_refl _
  ·exact Int.le_trans (sg i (lo+n-1) hi (by omega) (by omega)) (Int.not_lt.mp hx)
theorem Dsc.up{arr arr':Array Keyed}{lo n:Nat}(sg:Dsc rk arr lo (lo+n))(h1:1≤n)(hx:RK rk arr (lo+n)≤RK rk arr (lo+n-1))(he:∀k,RK rk arr' k=RK rk arr k):Dsc rk arr' lo (lo+(n+1)):=fun i j hi hij hj=>by
 rw[he,he]
 by_cases c:j<lo+n
 ·exact sg i j hi hij c
 ·have e:j=lo+n:=by omega
  subst e
  by_cases c2:i=lo+n
  ·subst c2;exact Int.le_refl _
  ·exact Int.le_trans hx (sg i (lo+n-1) hi (by omega) (by omega))
theorem MC{st:SortSt}{lo nrem:Nat}{Q:Option Nat→SortSt→Prop}(C:Us prog w A E s kd U rk)(hk:kindOf st=kd)(hU:AllU U (arrOf st))(hn:lo+nrem≤(arrOf st).size)(h1:1≤nrem)
  (h:∀m st',Kp st st' lo (lo+nrem)→1≤m→m≤nrem→Seg rk (arrOf st') lo (lo+m)→Q (some m) st'):
  wpS (model prog w) A E s (countRun' lo nrem) Q st:=by
 rw[countRun'_eq]
 refine wpS_bind (wpS_mono (wpS_forRange (I:=fun x c st'=>st'=st∧c=(none,x)∧Seg rk (arrOf st) lo (lo+x))
  (Q:=fun c st'=>st'=st∧∃n,c=(none,n)∧1≤n∧n≤nrem∧Seg rk (arrOf st) lo (lo+n)∧(n=nrem∨RK rk (arrOf st) (lo+n)<RK rk (arrOf st) (lo+n-1))) ?step ?fin ⟨rfl,rfl,fun i j hi hij hj=>by have:i=j:=(by omega);subst this;exact Int.le_refl _⟩) ?post)
 case fin=>
  rintro c st' ⟨rfl,rfl,hs'⟩
  have e:max 1 nrem=nrem:=by omega
  rw[e] at hs' ⊢
  exact⟨rfl,nrem,rfl,h1,Nat.le_refl _,hs',.inl rfl⟩
 case step=>
  rintro x c st' hax hxn ⟨rfl,rfl,hs'⟩
  dsimp only
  refine wpS_bind (BU C hk hU (by omega) (by omega) ?_)
  dsimp only
  by_cases hless:RK rk (arrOf st') (lo+x)<RK rk (arrOf st') (lo+x-1)
  ·rw[if_pos (decide_eq_true hless)]
   exact wpS_pure ⟨rfl,x,rfl,hax,by omega,hs',.inr hless⟩
  ·rw[if_neg (fun q=>hless (of_decide_eq_true q))]
   exact wpS_pure ⟨rfl,rfl,hs'.up hax hless⟩
 case post=>
  rintro c st' ⟨rfl,n,rfl,hn1,hn2,hsn,hor⟩
  dsimp only
  by_cases hnn:n=nrem
  ·rw[if_pos (beq_iff_eq.mpr hnn)]
   exact wpS_pure (h n _ (Kp.refl _ _ _) hn1 hn2 hsn)
  rw[if_neg (fun q=>hnn (beq_iff_eq.mp q))]
  have hlt:=hor.resolve_left hnn
  by_cases hgt:n>1
  ·rw[if_pos hgt]
   refine wpS_bind (BU C hk hU (by omega) (by omega) ?_)
   dsimp only
   by_cases hrose:RK rk (arrOf st') lo<RK rk (arrOf st') (lo+n-1)
   ·rw[if_pos (decide_eq_true hrose)]
    exact wpS_pure (h n _ (Kp.refl _ _ _) hn1 hn2 hsn)
   rw[if_neg (fun q=>hrose (of_decide_eq_true q))]
   have hall:∀k,lo≤k→k<lo+n→RK rk (arrOf st') k=RK rk (arrOf st') (lo+n-1):=fun k q1 q2=>by
    have a1:=hsn lo k (by omega) q1 q2
    have a2:=hsn k (lo+n-1) q1 (by omega) (by omega)
    omega
   refine wpS_bind (Dh (rk:=rk) (Kp.refl st' lo (lo+nrem)) (Nat.le_refl _) (by omega) (by omega) hall fun st2 kp hRK=>?_)
   have hd:Dsc rk (arrOf st2) lo (lo+(n+1)):=Dsc.up (arr:=arrOf st') (fun i j q1 q2 q3=>by rw[hall i q1 (by omega),hall j (by omega) q3];exact Int.le_refl _) hn1 (Int.le_of_lt hlt) hRK
   refine wpS_bind (wpS_lift (wpAny_rule ⟨rfl,?_⟩))
   refine wpS_bind (wpS_mono (wpS_forRange (I:=fun x c st3=>∃neq,c=(none,x,neq)∧Kp st' st3 lo (lo+nrem)∧Dsc rk (arrOf st3) lo (lo+x)∧neq+1≤x∧(∀i,lo+x- (neq+1)≤i→i<lo+x→RK rk (arrOf st3) i=RK rk (arrOf st3) (lo+x-1)))
    (Q:=fun c st3=>∃m neq,c=(none,m,neq)∧Kp st' st3 lo (lo+nrem)∧n+1≤m∧m≤nrem∧Dsc rk (arrOf st3) lo (lo+m)∧neq+1≤m∧(∀i,lo+m- (neq+1)≤i→i<lo+m→RK rk (arrOf st3) i=RK rk (arrOf st3) (lo+m-1))) ?_ ?_ ⟨0,rfl,kp,hd,by omega,fun i q1 q2=>by congr 1;omega⟩) ?_)
   ·rintro x c st3 hax hxn ⟨neq,rfl,kp,hd,hq,he⟩
    have hz:=kp.size
    have hU3:=hU.of_perm kp.perm
    dsimp only
    refine wpS_bind (BU C (kp.kd.trans hk) hU3 (by omega) (by omega) ?_)
    dsimp only
    by_cases hless:RK rk (arrOf st3) (lo+x)<RK rk (arrOf st3) (lo+x-1)
    ·rw[if_pos (decide_eq_true hless)]
     by_cases hneq:neq>0
     ·rw[if_pos hneq]
      refine wpS_bind (Dh (rk:=rk) kp (by omega) (by omega) (by omega) he fun st4 kp4 hRK=>?_)
      exact wpS_pure ⟨0,rfl,kp4,hd.up (by omega) (Int.le_of_lt hless) hRK,by omega,fun i q1 q2=>by congr 1;omega⟩
     ·rw[if_neg hneq]
      exact wpS_pure ⟨0,rfl,kp,hd.up (by omega) (Int.le_of_lt hless) fun _=>rfl,by omega,fun i q1 q2=>by congr 1;omega⟩
    ·rw[if_neg (fun q=>hless (of_decide_eq_true q))]
     refine wpS_bind (BU C (kp.kd.trans hk) hU3 (by omega) (by omega) ?_)
     dsimp only
     by_cases hlarger:RK rk (arrOf st3) (lo+x-1)<RK rk (arrOf st3) (lo+x)
     ·rw[if_pos (decide_eq_true hlarger)]
      exact wpS_pure ⟨x,neq,rfl,kp,hax,by omega,hd,hq,he⟩
     ·rw[if_neg (fun q=>hlarger (of_decide_eq_true q))]
      have heqx:RK rk (arrOf st3) (lo+x)=RK rk (arrOf st3) (lo+x-1):=by omega
      refine wpS_pure ⟨neq+1,rfl,kp,hd.up (by omega) (by omega) fun _=>rfl,by omega,fun i q1 q2=>?_⟩
      have e1:lo+(x+1)-1=lo+x:=by omega
      rw[e1]
      by_cases hix:i=lo+x
      ·rw[hix]
      ·rw[heqx];exact he i (by omega) (by omega)
   ·rintro c st3 ⟨neq,rfl,kp,hd,hq,he⟩
    have e:max (n+1) nrem=nrem:=by omega
    rw[e] at hd hq he ⊢
    exact⟨nrem,neq,rfl,kp,by omega,Nat.le_refl _,hd,hq,he⟩
   rintro c st3 ⟨m,neq,rfl,kp,hm1,hm2,hd,hq,he⟩
   have hz:=kp.size
   dsimp only
   have rest:∀(st4:SortSt),Kp st' st4 lo (lo+nrem)→Dsc rk (arrOf st4) lo (lo+m)→∀st5,Kp st' st5 lo (lo+nrem)→(∀k,RK rk (arrOf st5) k=if lo≤k∧k<lo+m then RK rk (arrOf st4) (lo+(lo+m)-1-k) else RK rk (arrOf st4) k)→Seg rk (arrOf st5) lo (lo+m):=fun st4 _ d4 st5 _ e5 i j q1 q2 q3=>by
    rw[e5,e5,if_pos (by omega),if_pos (by omega)]
    exact d4 _ _ (by omega) (by omega) (by omega)
   by_cases hneq:neq>0
   ·rw[if_pos hneq]
    refine wpS_bind (Dh (rk:=rk) kp (by omega) (by omega) (by omega) he fun st4 kp4 hRK=>?_)
    have d4:Dsc rk (arrOf st4) lo (lo+m):=fun i j q1 q2 q3=>by rw[hRK,hRK];exact hd i j q1 q2 q3
    have hz4:=kp4.size
    refine wpS_bind (Ej (rk:=rk) kp4 (Nat.le_refl _) (by omega) (by omega) fun st5 kp5 e5=>?_)
    have s5:=rest _ kp4 d4 st5 kp5 e5
    have hz5:=kp5.size
    have hU5:=hU.of_perm kp5.perm
    refine wpS_bind (wpS_mono (wpS_forRange (I:=fun x c st6=>st6=st5∧c=(none,x)∧Seg rk (arrOf st5) lo (lo+x))
     (Q:=fun c st6=>st6=st5∧∃n,c=(none,n)∧1≤n∧n≤nrem∧Seg rk (arrOf st5) lo (lo+n)) ?_ ?_ ⟨rfl,rfl,s5⟩) ?_)
    ·rintro x c st6 hax hxn ⟨rfl,rfl,hs'⟩
     dsimp only
     refine wpS_bind (BU C (kp5.kd.trans hk) hU5 (by omega) (by omega) ?_)
     dsimp only
     by_cases hless:RK rk (arrOf st6) (lo+x)<RK rk (arrOf st6) (lo+x-1)
     ·rw[if_pos (decide_eq_true hless)]
      exact wpS_pure ⟨rfl,x,rfl,by omega,by omega,hs'⟩
     ·rw[if_neg (fun q=>hless (of_decide_eq_true q))]
      exact wpS_pure ⟨rfl,rfl,hs'.up (by omega) hless⟩
    ·rintro c st6 ⟨rfl,rfl,hs'⟩
     have e:max m nrem=nrem:=by omega
     rw[e] at hs' ⊢
     exact⟨rfl,nrem,rfl,h1,Nat.le_refl _,hs'⟩
    rintro c st6 ⟨rfl,n5,rfl,q1,q2,q3⟩
    exact wpS_pure (h n5 _ kp5 q1 q2 q3)
   ·rw[if_neg hneq]
    have kp4:=kp
    have d4:=hd
    have hz4:=hz
    refine wpS_bind (Ej (rk:=rk) kp4 (Nat.le_refl _) (by omega) (by omega) fun st5 kp5 e5=>?_)
    have s5:=rest _ kp4 d4 st5 kp5 e5
    have hz5:=kp5.size
    have hU5:=hU.of_perm kp5.perm
    refine wpS_bind (wpS_mono (wpS_forRange (I:=fun x c st6=>st6=st5∧c=(none,x)∧Seg rk (arrOf st5) lo (lo+x))
     (Q:=fun c st6=>st6=st5∧∃n,c=(none,n)∧1≤n∧n≤nrem∧Seg rk (arrOf st5) lo (lo+n)) ?_ ?_ ⟨rfl,rfl,s5⟩) ?_)
    ·rintro x c st6 hax hxn ⟨rfl,rfl,hs'⟩
     dsimp only
     refine wpS_bind (BU C (kp5.kd.trans hk) hU5 (by omega) (by omega) ?_)
     dsimp only
     by_cases hless:RK rk (arrOf st6) (lo+x)<RK rk (arrOf st6) (lo+x-1)
     ·rw[if_pos (decide_eq_true hless)]
      exact wpS_pure ⟨rfl,x,rfl,by omega,by omega,hs'⟩
     ·rw[if_neg (fun q=>hless (of_decide_eq_true q))]
      exact wpS_pure ⟨rfl,rfl,hs'.up (by omega) hless⟩
    ·rintro c st6 ⟨rfl,rfl,hs'⟩
     have e:max m nrem=nrem:=by omega
     rw[e] at hs' ⊢
     exact⟨rfl,nrem,rfl,h1,Nat.le_refl _,hs'⟩
    rintro c st6 ⟨rfl,n5,rfl,q1,q2,q3⟩
    exact wpS_pure (h n5 _ kp5 q1 q2 q3)
  ·rw[if_neg hgt]
   have hd:Dsc rk (arrOf st') lo (lo+(n+1)):=Dsc.up (arr:=arrOf st') (fun i j q1 q2 q3=>by have:i=j:=(by omega);subst this;exact Int.le_refl _) hn1 (Int.le_of_lt hlt) fun _=>rfl
   have kp:=Kp.refl st' lo (lo+nrem)
   refine wpS_bind (wpS_lift (wpAny_rule ⟨rfl,?_⟩))
   refine wpS_bind (wpS_mono (wpS_forRange (I:=fun x c st3=>∃neq,c=(none,x,neq)∧Kp st' st3 lo (lo+nrem)∧Dsc rk (arrOf st3) lo (lo+x)∧neq+1≤x∧(∀i,lo+x- (neq+1)≤i→i<lo+x→RK rk (arrOf st3) i=RK rk (arrOf st3) (lo+x-1)))
    (Q:=fun c st3=>∃m neq,c=(none,m,neq)∧Kp st' st3 lo (lo+nrem)∧n+1≤m∧m≤nrem∧Dsc rk (arrOf st3) lo (lo+m)∧neq+1≤m∧(∀i,lo+m- (neq+1)≤i→i<lo+m→RK rk (arrOf st3) i=RK rk (arrOf st3) (lo+m-1))) ?_ ?_ ⟨0,rfl,kp,hd,by omega,fun i q1 q2=>by congr 1;omega⟩) ?_)
   ·rintro x c st3 hax hxn ⟨neq,rfl,kp,hd,hq,he⟩
    have hz:=kp.size
    have hU3:=hU.of_perm kp.perm
    dsimp only
    refine wpS_bind (BU C (kp.kd.trans hk) hU3 (by omega) (by omega) ?_)
    dsimp only
    by_cases hless:RK rk (arrOf st3) (lo+x)<RK rk (arrOf st3) (lo+x-1)
    ·rw[if_pos (decide_eq_true hless)]
     by_cases hneq:neq>0
     ·rw[if_pos hneq]
      refine wpS_bind (Dh (rk:=rk) kp (by omega) (by omega) (by omega) he fun st4 kp4 hRK=>?_)
      exact wpS_pure ⟨0,rfl,kp4,hd.up (by omega) (Int.le_of_lt hless) hRK,by omega,fun i q1 q2=>by congr 1;omega⟩
     ·rw[if_neg hneq]
      exact wpS_pure ⟨0,rfl,kp,hd.up (by omega) (Int.le_of_lt hless) fun _=>rfl,by omega,fun i q1 q2=>by congr 1;omega⟩
    ·rw[if_neg (fun q=>hless (of_decide_eq_true q))]
     refine wpS_bind (BU C (kp.kd.trans hk) hU3 (by omega) (by omega) ?_)
     dsimp only
     by_cases hlarger:RK rk (arrOf st3) (lo+x-1)<RK rk (arrOf st3) (lo+x)
     ·rw[if_pos (decide_eq_true hlarger)]
      exact wpS_pure ⟨x,neq,rfl,kp,hax,by omega,hd,hq,he⟩
     ·rw[if_neg (fun q=>hlarger (of_decide_eq_true q))]
      have heqx:RK rk (arrOf st3) (lo+x)=RK rk (arrOf st3) (lo+x-1):=by omega
      refine wpS_pure ⟨neq+1,rfl,kp,hd.up (by omega) (by omega) fun _=>rfl,by omega,fun i q1 q2=>?_⟩
      have e1:lo+(x+1)-1=lo+x:=by omega
      rw[e1]
      by_cases hix:i=lo+x
      ·rw[hix]
      ·rw[heqx];exact he i (by omega) (by omega)
   ·rintro c st3 ⟨neq,rfl,kp,hd,hq,he⟩
    have e:max (n+1) nrem=nrem:=by omega
    rw[e] at hd hq he ⊢
    exact⟨nrem,neq,rfl,kp,by omega,Nat.le_refl _,hd,hq,he⟩
   rintro c st3 ⟨m,neq,rfl,kp,hm1,hm2,hd,hq,he⟩
   have hz:=kp.size
   dsimp only
   have rest:∀(st4:SortSt),Kp st' st4 lo (lo+nrem)→Dsc rk (arrOf st4) lo (lo+m)→∀st5,Kp st' st5 lo (lo+nrem)→(∀k,RK rk (arrOf st5) k=if lo≤k∧k<lo+m then RK rk (arrOf st4) (lo+(lo+m)-1-k) else RK rk (arrOf st4) k)→Seg rk (arrOf st5) lo (lo+m):=fun st4 _ d4 st5 _ e5 i j q1 q2 q3=>by
    rw[e5,e5,if_pos (by omega),if_pos (by omega)]
    exact d4 _ _ (by omega) (by omega) (by omega)
   by_cases hneq:neq>0
   ·rw[if_pos hneq]
    refine wpS_bind (Dh (rk:=rk) kp (by omega) (by omega) (by omega) he fun st4 kp4 hRK=>?_)
    have d4:Dsc rk (arrOf st4) lo (lo+m):=fun i j q1 q2 q3=>by rw[hRK,hRK];exact hd i j q1 q2 q3
    have hz4:=kp4.size
    refine wpS_bind (Ej (rk:=rk) kp4 (Nat.le_refl _) (by omega) (by omega) fun st5 kp5 e5=>?_)
    have s5:=rest _ kp4 d4 st5 kp5 e5
    have hz5:=kp5.size
    have hU5:=hU.of_perm kp5.perm
    refine wpS_bind (wpS_mono (wpS_forRange (I:=fun x c st6=>st6=st5∧c=(none,x)∧Seg rk (arrOf st5) lo (lo+x))
     (Q:=fun c st6=>st6=st5∧∃n,c=(none,n)∧1≤n∧n≤nrem∧Seg rk (arrOf st5) lo (lo+n)) ?_ ?_ ⟨rfl,rfl,s5⟩) ?_)
    ·rintro x c st6 hax hxn ⟨rfl,rfl,hs'⟩
     dsimp only
     refine wpS_bind (BU C (kp5.kd.trans hk) hU5 (by omega) (by omega) ?_)
     dsimp only
     by_cases hless:RK rk (arrOf st6) (lo+x)<RK rk (arrOf st6) (lo+x-1)
     ·rw[if_pos (decide_eq_true hless)]
      exact wpS_pure ⟨rfl,x,rfl,by omega,by omega,hs'⟩
     ·rw[if_neg (fun q=>hless (of_decide_eq_true q))]
      exact wpS_pure ⟨rfl,rfl,hs'.up (by omega) hless⟩
    ·rintro c st6 ⟨rfl,rfl,hs'⟩
     have e:max m nrem=nrem:=by omega
     rw[e] at hs' ⊢
     exact⟨rfl,nrem,rfl,h1,Nat.le_refl _,hs'⟩
    rintro c st6 ⟨rfl,n5,rfl,q1,q2,q3⟩
    exact wpS_pure (h n5 _ kp5 q1 q2 q3)
   ·rw[if_neg hneq]
    have kp4:=kp
    have d4:=hd
    have hz4:=hz
    refine wpS_bind (Ej (rk:=rk) kp4 (Nat.le_refl _) (by omega) (by omega) fun st5 kp5 e5=>?_)
    have s5:=rest _ kp4 d4 st5 kp5 e5
    have hz5:=kp5.size
    have hU5:=hU.of_perm kp5.perm
    refine wpS_bind (wpS_mono (wpS_forRange (I:=fun x c st6=>st6=st5∧c=(none,x)∧Seg rk (arrOf st5) lo (lo+x))
     (Q:=fun c st6=>st6=st5∧∃n,c=(none,n)∧1≤n∧n≤nrem∧Seg rk (arrOf st5) lo (lo+n)) ?_ ?_ ⟨rfl,rfl,s5⟩) ?_)
    ·rintro x c st6 hax hxn ⟨rfl,rfl,hs'⟩
     dsimp only
     refine wpS_bind (BU C (kp5.kd.trans hk) hU5 (by omega) (by omega) ?_)
     dsimp only
     by_cases hless:RK rk (arrOf st6) (lo+x)<RK rk (arrOf st6) (lo+x-1)
     ·rw[if_pos (decide_eq_true hless)]
      exact wpS_pure ⟨rfl,x,rfl,by omega,by omega,hs'⟩
     ·rw[if_neg (fun q=>hless (of_decide_eq_true q))]
      exact wpS_pure ⟨rfl,rfl,hs'.up (by omega) hless⟩
    ·rintro c st6 ⟨rfl,rfl,hs'⟩
     have e:max m nrem=nrem:=by omega
     rw[e] at hs' ⊢
     exact⟨rfl,nrem,rfl,h1,Nat.le_refl _,hs'⟩
    rintro c st6 ⟨rfl,n5,rfl,q1,q2,q3⟩
    exact wpS_pure (h n5 _ kp5 q1 q2 q3)
end
end SrtG
namespace SrtG
local macro_rules | `(tactic| omega) => `(tactic| first | lia | omega)
open PySem PyProof.Rows
variable{rk:Keyed→Int}
structure Bs(kd:SortKind)(a₀:Array Keyed)(st:SortSt):Prop where
 kd:kindOf st=kd
 fl:failedOf st=none
 perm:(arrOf st).toList.Perm a₀.toList
theorem Bs.size{kd:SortKind}{a₀:Array Keyed}{st:SortSt}(b:Bs kd a₀ st):(arrOf st).size=a₀.size:=by
 rw[←Array.length_toList,←Array.length_toList];exact b.perm.length_eq
theorem Bs.kp{kd:SortKind}{a₀:Array Keyed}{st st':SortSt}{lo hi:Nat}(b:Bs kd a₀ st)(k:Kp st st' lo hi):Bs kd a₀ st':=⟨k.kd.trans b.kd,k.fl.trans b.fl,k.perm.trans b.perm⟩
section
variable{prog:Program}{w:World}{A:Around}{E:Value→Shared→Prop}{s:Shared}{kd:SortKind}{U:Keyed→Prop}{a₀:Array Keyed}
end
end SrtG
namespace SrtG
local macro_rules | `(tactic| omega) => `(tactic| first | lia | omega)
open PySem PyProof.Rows
variable{rk:Keyed→Int}
section
variable{prog:Program}{w:World}{A:Around}{E:Value→Shared→Prop}{s:Shared}{kd:SortKind}{U:Keyed→Prop}{a₀:Array Keyed}
end
end SrtG
namespace SrtG
open PySem PyProof.Rows
def MD(h:Heap)(v:Value)(a b:Int):Prop:=∃x o t u n,v=.ref x∧h.get? x=some o∧o.data=.seq #[.int a t,.int b u] n
def SZ(h:Heap)(k:Keyed):Int:=match k.1 with
  | .ref x=>match h.get? x with
    |some o=>match o.data with
     | .seq xs _=>match (xs[0]?:Option Value),(xs[1]?:Option Value) with
      |some (.int a _),some (.int b _)=>65536*a+b
      |_,_=>0
     |_=>0
    |_=>0
  |_=>0
theorem FZ{h:Heap}{k:Keyed}{a b:Int}(p:MD h k.1 a b):SZ h k=65536*a+b:=by
 obtain⟨x,o,t,u,n,e1,e2,e3⟩:=p
 unfold SZ
 rw[e1]
 dsimp only
 rw[e2]
 dsimp only
 rw[e3]
 rfl
def Yy(h:Heap)(k:Keyed):Prop:=∃a b,MD h k.1 a b∧0≤b∧b<65536
variable{prog:Program}{w:World}{A:Around}{E:Value→Shared→Prop}{s:Shared}
theorem Oo:Us prog w A E s (tuples' true) (Yy s.heap) (SZ s.heap):=by
 intro st x y Q hk hx hy h
 obtain⟨a,b,px,b0,b1⟩:=hx
 obtain⟨c,d,py,d0,d1⟩:=hy
 rw[FZ px,FZ py] at h
 obtain⟨p,o,t,u,n,e1,e2,e3⟩:=px
 obtain⟨p',o',t',u',n',e1',e2',e3'⟩:=py
 rw[lt'_eq]
 refine wpS_bind (wpS_get ?_)
 rw[hk,e1,e1']
 refine wpS_bind (wpS_lift (wpAny_attempt ?_))
 refine PySem.W.kat_lt e2 e3 e2' e3' ?_
 have fin:∀r:Bool,r=decide (65536*a+b<65536*c+d)→(s=s∧wpS (model prog w) A E s (match (Except.ok r:Except Value Bool) with
   | .ok b=>pure (some b)
   | .error e=>do
    modify (fun s=>SortSt.mk' (kindOf s) (arrOf s) (pendingOf s) (gallopOf s) (some e))
    pure none) Q st):=fun r hr=> ⟨rfl,by rw[hr];exact wpS_pure h⟩
 refine PySem.W.kat_cons (wpAny_eqBool_int ?_)
 refine PySem.W.kat_go (fun e=>?_) (fun e=>?_)
 ·have e':=eq_of_beq e
  refine PySem.W.kat_yes (PySem.W.kat_cons (wpAny_eqBool_int ?_))
  refine PySem.W.kat_go (fun q=>?_) (fun q=>?_)
  ·have q':=eq_of_beq q
   exact PySem.W.kat_yes (PySem.W.kat_nil (fin _ (by rw[e',q'];simp)))
  ·exact PySem.W.kat_no (PySem.W.kat_one _ _ (lt_int (fin _ (by congr 1;rw[e'];apply propext;constructor<;>intro<;>omega))))
 ·have e':a≠c:=fun q=>by rw[q] at e;simp at e
  refine PySem.W.kat_no (oneLt_int (fin _ ?_))
  congr 1
  apply propext
  constructor<;>intro<;>omega
section
variable{rk:Keyed→Int}
section
variable{prog:Program}{w:World}{A:Around}{E:Value→Shared→Prop}{s:Shared}{kd:SortKind}{U:Keyed→Prop}{a₀:Array Keyed}
theorem Km{st:SortSt}{lo nrem:Nat}{Q:Option Nat→SortSt→Prop}(C:Us prog w A E s kd U rk)(hk:kindOf st=kd)(hU:AllU U (arrOf st))(hn:lo+nrem≤(arrOf st).size)(h1:1≤nrem)(sg:Seg rk (arrOf st) lo (lo+nrem))
  (h:Q (some nrem) st):wpS (model prog w) A E s (countRun' lo nrem) Q st:=by
 rw[countRun'_eq]
 refine wpS_bind (wpS_mono (wpS_forRange (I:=fun x c st'=>st'=st∧c=(none,x)) (Q:=fun c st'=>st'=st∧c=(none,nrem)) ?step ?fin ⟨rfl,rfl⟩) ?post)
 case fin=>
  rintro c st' ⟨rfl,rfl⟩
  exact⟨rfl,by rw[Nat.max_eq_right h1]⟩
 case step=>
  rintro x c st' hax hxn ⟨rfl,rfl⟩
  dsimp only
  refine wpS_bind (BU C hk hU (by omega) (by omega) ?_)
  dsimp only
  rw[if_neg (fun q=>Int.not_lt.mpr (sg (lo+x-1) (lo+x) (by omega) (by omega) (by omega)) (of_decide_eq_true q))]
  exact wpS_pure ⟨rfl,rfl⟩
 case post=>
  rintro c st' ⟨rfl,rfl⟩
  dsimp only
  rw[if_pos (beq_iff_eq.mpr rfl)]
  exact wpS_pure h
theorem ME{st:SortSt}{lo nrem:Nat}{Q:Option Nat→SortSt→Prop}(C:Us prog w A E s kd U rk)(hk:kindOf st=kd)(hU:AllU U (arrOf st))(hn:lo+nrem≤(arrOf st).size)(h1:1≤nrem)(hs:nrem<64∨Seg rk (arrOf st) lo (lo+nrem))
  (h:∀m st',Kp st st' lo (lo+nrem)→1≤m→m≤nrem→Seg rk (arrOf st') lo (lo+m)→(nrem<64∨m=nrem)→Q (some m) st'):wpS (model prog w) A E s (countRun' lo nrem) Q st:=by
 rcases hs with hs|hs
 ·exact MC C hk hU hn h1 fun m st' a b c d=>h m st' a b c d (.inl hs)
 ·exact Km C hk hU hn h1 hs (h nrem st (Kp.refl _ _ _) h1 (Nat.le_refl _) hs (.inr rfl))
theorem Oq{st:SortSt}{Q:Unit→SortSt→Prop}(C:Us prog w A E s kd U rk)(hU:AllU U a₀)(b:Bs kd a₀ st)(hp:pendingOf st= #[])(h2:2≤a₀.size)(hs:a₀.size<64∨Seg rk (arrOf st) 0 a₀.size)
  (h:∀st',Bs kd a₀ st'→cj rk (arrOf st')→Q () st'):wpS (model prog w) A E s sortRuns' Q st:=by
 rw[sortRuns'_eq]
 refine wpS_bind (wpS_get ?_)
 dsimp only
 have hmr:a₀.size<64→minRun' a₀.size a₀.size 0=a₀.size:=fun h64=>by
  obtain⟨f,hf⟩:∃f,a₀.size=f+1:=⟨a₀.size-1,by omega⟩
  have:minRun' (f+1) a₀.size 0=a₀.size:=by rw[minRun'_succ,if_pos h64];rfl
  rwa[←hf] at this
 rw[b.size]
 generalize minRun' a₀.size a₀.size 0=mr at hmr
 have nx:∀(st3:SortSt) (n:Nat),Bs kd a₀ st3→pendingOf st3= #[]→n=a₀.size→Seg rk (arrOf st3) 0 (0+n)→Bs kd a₀ (setPending st3 ((pendingOf st3).push (0,n,0)))∧(pendingOf (setPending st3 ((pendingOf st3).push (0,n,0)))).size≤1∧Seg rk (arrOf (setPending st3 ((pendingOf st3).push (0,n,0)))) 0 a₀.size:=fun st3 n bs3 p3 e sg=>by
  refine⟨⟨bs3.kd,bs3.fl,bs3.perm⟩,?_,?_⟩
  ·show((pendingOf st3).push (0,n,0)).size≤1
   rw[p3]
   exact Nat.le_refl 1
  ·rw[Nat.zero_add,e] at sg
   exact sg
 refine wpS_bind (wpS_mono (wpS_forRange
  (I:=fun x c st'=> (x=0∧c=(none,0)∧st'=st)∨(1≤x∧c=(none,a₀.size)∧Bs kd a₀ st'∧(pendingOf st').size≤1∧Seg rk (arrOf st') 0 a₀.size))
  (Q:=fun c st'=>c=(none,a₀.size)∧Bs kd a₀ st'∧(pendingOf st').size≤1∧Seg rk (arrOf st') 0 a₀.size) ?step ?fin (.inl ⟨rfl,rfl,rfl⟩)) ?post)
 case fin=>
  rintro c st' (⟨hx,_,_⟩| ⟨_,hc,hD⟩)
  ·omega
  ·exact⟨hc,hD⟩
 case step=>
  rintro x c st' _ hx (⟨rfl,rfl,rfl⟩| ⟨hx1,rfl,hD⟩)
  ·dsimp only
   rw[if_neg (by omega)]
   have hz:=b.size
   refine wpS_bind (ME C b.kd (hU.of_perm b.perm) (by omega) (by omega) (by rw[Nat.sub_zero,Nat.zero_add];exact hs) fun n st2 kp2 hn1 hn2 sg2 hor=>?_)
   rw[Nat.sub_zero] at hn2 hor
   have bs2:=b.kp kp2
   have hz2:=bs2.size
   have p2:pendingOf st2= #[]:=kp2.pd.trans hp
   dsimp only
   by_cases cm:n<mr
   ·rw[if_pos cm]
    refine wpS_bind (wpS_lift (wpAny_rule ⟨rfl,?_⟩))
    have em:min (a₀.size-0) mr=a₀.size:=by
     rcases hor with q|q
     ·have:=hmr q;omega
     ·omega
    refine wpS_bind (MB (n:=min (a₀.size-0) mr) C bs2.kd (hU.of_perm bs2.perm) (by omega) (by omega) sg2 fun st3 kp3 sg3=>?_)
    rw[if_neg (by decide)]
    have p3:pendingOf st3= #[]:=kp3.pd.trans p2
    refine wpS_bind (wpS_get ?_)
    rw[show(pendingOf st3).back?=none from by rw[p3];rfl]
    dsimp only
    exact wpS_bind (wpS_modify (wpS_pure (.inr ⟨by omega,by rw[em,Nat.zero_add],nx st3 _ (bs2.kp kp3) p3 em sg3⟩)))
   ·rw[if_neg cm]
    have em:n=a₀.size:=by
     rcases hor with q|q
     ·have:=hmr q;omega
     ·exact q
    refine wpS_bind (wpS_get ?_)
    rw[show(pendingOf st2).back?=none from by rw[p2];rfl]
    dsimp only
    exact wpS_bind (wpS_modify (wpS_pure (.inr ⟨by omega,by rw[em,Nat.zero_add],nx st2 _ bs2 p2 em sg2⟩)))
  ·dsimp only
   rw[if_pos (Nat.le_refl _)]
   exact wpS_pure ⟨rfl,hD⟩
 case post=>
  rintro c st' ⟨rfl,bs',hl,sg⟩
  dsimp only
  refine wpS_bind (wpS_mono (wpS_forRange (I:=fun _ c st''=>st''=st'∧c=(none,())) (Q:=fun c st''=>st''=st'∧c=(none,())) ?_ (fun _ _ hh=>hh) ⟨rfl,rfl⟩) ?_)
  ·rintro x c st'' _ _ ⟨rfl,rfl⟩
   refine wpS_bind (wpS_get ?_)
   rw[if_pos hl]
   exact wpS_pure ⟨rfl,rfl⟩
  ·rintro c st'' ⟨rfl,rfl⟩
   refine wpS_pure (h _ bs' fun i j hij hj=>sg i j (Nat.zero_le _) hij ?_)
   rw[←bs'.size]
   exact hj
end
end
open PySem.Calls PySem.W
theorem Gz:∀(vs:List Value),vs.zip vs=vs.map fun v=> (v,v)
 | []=>rfl
 |v::vs=>by rw[List.zip_cons_cons,List.map_cons,Gz vs]
structure Rk(prog:Program)(w:World)(U:Heap→Value→Prop)(rk:Heap→Value→Int)(T:Value):Prop where
 cmp:∀{A:Around} {E:Value→Shared→Prop} {s:Shared},Us prog w A E s (tuples' true) (fun k=>U s.heap k.1) (fun k=>rk s.heap k.1)
 kept:∀{h h':Heap} {v:Value},U h v→(∀b o,o.cls=.type "tuple"→h.get? b=some o→h'.get? b=some o)→U h' v∧rk h' v=rk h v
 kat:∀{h:Heap} {vs:List Value},(∀v∈vs,U h v)→∃fs:List Value,KatTups h vs fs∧fs.length=vs.length∧∀v∈fs,∀M h',Looks M h' (typeOf v) T
 t1:(T==T)=true
 t2:(T !=Value.type "tuple")=true
section
variable{prog:Program}{w:World}{A:Around}{E:Value→Shared→Prop}{s:Shared}{U:Heap→Value→Prop}{rk:Heap→Value→Int}{T:Value}
theorem TK{vs:List Value}{Q:SortSt→Shared→Prop}(R:Rk prog w U rk T)(ok:∀v∈vs,U s.heap v)(h2:2≤vs.length)(hs:vs.length<64∨vs.Pairwise fun x y=>rk s.heap x≤rk s.heap y)
  (h:∀st',failedOf st'=none→((arrOf st').map (·.2)).toList.Perm vs→((arrOf st').map (·.2)).toList.Pairwise (fun x y=>rk s.heap x≤rk s.heap y)→Q st' s):
  wpAny (model prog w) A ((sortRuns').run (SortSt.mk' (tuples' true) (vs.toArray.zip vs.toArray) #[] 7 none)) (fun r s'=>Q r.2 s') E s:=by
 have hz:(vs.toArray.zip vs.toArray)=(vs.map fun v=> (v,v)).toArray:=by
  apply Array.ext'
  rw[Array.toList_zip]
  show vs.zip vs=vs.map fun v=> (v,v)
  exact Gz vs
 have hU:AllU (fun k=>U s.heap k.1) (vs.toArray.zip vs.toArray):=fun i p e=>by
  rw[hz] at e
  have e':(vs.map fun v=> ((v,v):Keyed))[i]?=some p:=by rw[←Array.getElem?_toList] at e;exact e
  obtain⟨v,hv,rfl⟩:=List.mem_map.mp (List.mem_of_getElem? e')
  exact ok v hv
 have hwp:wpS (model prog w) A E s sortRuns' (fun _ st'=>Q st' s) (SortSt.mk' (tuples' true) (vs.toArray.zip vs.toArray) #[] 7 none):=by
  have hsz:(vs.toArray.zip vs.toArray).size=vs.length:=by rw[hz,List.size_toArray,List.length_map]
  refine Oq (a₀:=vs.toArray.zip vs.toArray) (rk:=fun k=>rk s.heap k.1) R.cmp hU ⟨rfl,rfl,List.Perm.refl _⟩ rfl (by rw[hsz];exact h2) (hs.imp (fun q=>by rw[hsz];exact q) fun q=>?_) fun st' b srt=>?_
  ·show Seg _ (vs.toArray.zip vs.toArray) 0 (vs.toArray.zip vs.toArray).size
   intro i j _ hij hj
   have hi:i< (vs.toArray.zip vs.toArray).size:=by omega
   rw[IZ hi,IZ hj]
   simp only[hz,List.getElem_toArray,List.getElem_map]
   rcases Nat.lt_or_eq_of_le hij with c|c
   ·exact List.pairwise_iff_getElem.mp q i j (by omega) (by omega) c
   ·subst c;exact Int.le_refl _
  have hpm:=b.perm
  rw[hz] at hpm
  have hsame:∀k,k∈(arrOf st').toList→k=(k.2,k.2):=fun k hk=>by
   obtain⟨v,_,rfl⟩:=List.mem_map.mp (hpm.mem_iff.mp hk)
   rfl
  refine h st' b.fl ?_ ?_
  ·rw[Array.toList_map]
   have:=hpm.map (fun k:Keyed=>k.2)
   rw[show((vs.map fun v=> ((v,v):Keyed)).toArray.toList.map fun k:Keyed=>k.2)=vs from by
    show(vs.map fun v=> ((v,v):Keyed)).map (fun k:Keyed=>k.2)=vs
    rw[List.map_map]
    exact List.map_id vs] at this
   exact this
  ·rw[Array.toList_map,List.pairwise_map]
   refine List.pairwise_iff_getElem.mpr fun i j hi hj hij=>?_
   have hi':i< (arrOf st').size:=by rw[←Array.length_toList];exact hi
   have hj':j< (arrOf st').size:=by rw[←Array.length_toList];exact hj
   have q:=srt i j (Nat.le_of_lt hij) hj'
   rw[IZ hi',IZ hj'] at q
   have e1:=hsame (arrOf st').toList[i] (List.getElem_mem hi)
   have e2:=hsame (arrOf st').toList[j] (List.getElem_mem hj)
   rw[←(show(arrOf st').toList[i].1=(arrOf st').toList[i].2 from congrArg Prod.fst e1),←(show(arrOf st').toList[j].1=(arrOf st').toList[j].2 from congrArg Prod.fst e2)]
   exact q
 exact wpAny_mono hwp (fun r s' q=>by rw[q.1];exact q.2) fun _ _ e=>e
theorem Kn{a:Addr}{vs:List Value}{n:Nat}{P:PySem.Fin→Shared→Prop}(ho:s.heap.get? a=some (seqObj "list" vs.toArray n))(R:Rk prog w U rk T)(ok:∀v∈vs,U s.heap v)(h2:2≤vs.length)(hn:vs.length≤9000000)(hs:vs.length<64∨vs.Pairwise fun x y=>rk s.heap x≤rk s.heap y)
  (h:∀out c h',out.Perm vs→out.Pairwise (fun x y=>rk s.heap x≤rk s.heap y)→h'.get? a=some (seqObj "list" (List.toArray out) c)→(∀b o,b≠a→s.heap.get? b=some o→h'.get? b=some o)→P (.done (.ret .none)) {s with heap:=h'}):
  wpAny (model prog w) A (Builtin.«list.sort» ⟨[.ref a],[]⟩) P E s:=by
 obtain⟨e1,ho1⟩:∃e1,(s.heap.update a (Obj.mapSeq fun _=> (#[]:Array Value))).get? a=some (seqObj "list" #[] e1):=⟨_,get?_update_seq ho fun _=> #[]⟩
 have keep:∀b o,b≠a→s.heap.get? b=some o→(((s.heap.update a (Obj.mapSeq fun _=> (#[]:Array Value))).push (seqObj "tuple" vs.toArray 0)).push (seqObj "list" #[] 0)).get? b=some o:=fun b o hb e=>
  Heap.get?_push_of_some _ (Heap.get?_push_of_some _ (by rw[Heap.get?_update_ne _ _ _ _ hb];exact e))
 have keepT:∀b o,o.cls=.type "tuple"→s.heap.get? b=some o→(((s.heap.update a (Obj.mapSeq fun _=> (#[]:Array Value))).push (seqObj "tuple" vs.toArray 0)).push (seqObj "list" #[] 0)).get? b=some o:=fun b o ht e=>by
  refine keep b o (fun q=>?_) e
  rw[q,ho] at e
  cases e
  exact absurd (show Value.type "list" =Value.type "tuple" from ht) (by decide)
 have ho3:(((s.heap.update a (Obj.mapSeq fun _=> (#[]:Array Value))).push (seqObj "tuple" vs.toArray 0)).push (seqObj "list" #[] 0)).get? a=some (seqObj "list" #[] e1):=Heap.get?_push_of_some _ (Heap.get?_push_of_some _ ho1)
 have ok3:∀v∈vs,U _ v:=fun v hv=> (R.kept (ok v hv) keepT).1
 have rk3:∀v∈vs,rk _ v=rk s.heap v:=fun v hv=> (R.kept (ok v hv) keepT).2
 rw[list_sort_plain]
 refine wpAny_bind (listItems_at ho rfl ?_)
 refine wpAny_bind (listUpdate_at ho rfl ?_ (by rw[List.size_toArray,sizeLine_eq];omega) (Nat.zero_le _))
 refine wpAny_bind (seqEpoch_at ho1 rfl ?_)
 refine wpAny_bind (wpAny_newTuple ?_ (by show vs.length≤_;rw[sizeLine_eq];omega))
 refine wpAny_bind (wpAny_newList ?_ (Nat.zero_le _))
 refine wpAny_holding ?_
 show wpAny (model prog w) A _ P E {s with heap:=((s.heap.update a (Obj.mapSeq fun _=> (#[]:Array Value))).push (seqObj "tuple" vs.toArray 0)).push (seqObj "list" #[] 0)}
 generalize hG:((s.heap.update a (Obj.mapSeq fun _=> (#[]:Array Value))).push (seqObj "tuple" vs.toArray 0)).push (seqObj "list" #[] 0)=G at keep ho3 ok3 rk3 ⊢
 dsimp only
 have hn2:¬vs.toArray.size<2:=by rw[List.size_toArray];omega
 rw[if_neg hn2,if_neg hn2]
 obtain⟨fs,kt,hl,hf⟩:=R.kat ok3
 refine wpAny_bind (kat_kind (s:={s with heap:=G}) (T:=T) kt (by omega) (fun v hv=>hf v hv _ _) R.t1 ?_)
 rw[R.t2]
 refine wpAny_bind (wpAny_mono (TK (s:={s with heap:=G}) (Q:=fun st' s'=>s'={s with heap:=G}∧failedOf st'=none∧((arrOf st').map (·.2)).toList.Perm vs∧((arrOf st').map (·.2)).toList.Pairwise (fun x y=>rk G x≤rk G y)) R ok3 h2 (hs.imp id fun q=>q.imp_of_mem fun{x y} hx hy q=>by rw[rk3 x hx,rk3 y hy];exact q) (fun st' a1 a2 a3=> ⟨rfl,a1,a2,a3⟩)) ?_ fun _ _ e=>e)
 rintro⟨⟨⟩,st'⟩ s' ⟨rfl,hfl,hpm,hpw⟩
 dsimp only
 have hsz:((arrOf st').map (·.2)).size=vs.length:=by rw[←Array.length_toList];exact hpm.length_eq
 obtain⟨c2,hc2⟩:∃c2,(G.update a (Obj.mapSeq fun _=> (arrOf st').map (·.2))).get? a=some (seqObj "list" ((arrOf st').map (·.2)) c2):=⟨_,get?_update_seq ho3 fun _=> (arrOf st').map (·.2)⟩
 refine wpAny_bind (seqEpoch_at ho3 rfl ?_)
 refine wpAny_bind (listUpdate_at ho3 rfl ?_ (Nat.zero_le _) (Nat.le_trans (Nat.le_of_eq hsz) (by rw[sizeLine_eq];omega)))
 rw[hfl]
 simp only[bne_self_eq_false,Bool.false_eq_true,if_false]
 refine wpAny_pure (h ((arrOf st').map (·.2)).toList c2 _ hpm ?_ hc2 fun b o hb e=>by rw[Heap.get?_update_ne _ _ _ _ hb];exact keep b o hb e)
 refine List.Pairwise.imp_of_mem (fun{x y} hx hy q=>?_) hpw
 rw[rk3 _ (hpm.mem_iff.mp hx),rk3 _ (hpm.mem_iff.mp hy)] at q
 exact q
end
def TupAt(h:Heap)(v:Value)(a b:Int):Prop:=∃x o t u n,v=.ref x∧h.get? x=some o∧o.cls=.type "tuple"∧o.data=.seq #[.int a t,.int b u] n
def TupsOk(h:Heap)(vs:List Value):Prop:=∀v,v∈vs→∃a b,TupAt h v a b∧0≤b∧b<65536
theorem TupAt.pair{h:Heap}{v:Value}{a b:Int}(t:TupAt h v a b):MD h v a b:=by
 obtain⟨x,o,t,u,n,e1,e2,_,e4⟩:=t
 exact⟨x,o,t,u,n,e1,e2,e4⟩
theorem TupsOk.kat{h:Heap}:∀{vs:List Value},TupsOk h vs→∃fs:List Value,KatTups h vs fs∧fs.length=vs.length∧∀v∈fs,∃a t,v=.int a t
 | [],_=> ⟨[],KatTups.nil,rfl,fun v hv=>by cases hv⟩
 |v::vs,ok=>by
  obtain⟨fs,k,hl,hf⟩:=TupsOk.kat (vs:=vs) fun v hv=>ok v (.tail _ hv)
  obtain⟨a,b,⟨x,o,t,u,n,rfl,e,hc,hd⟩,_,_⟩:=ok v (.head _)
  exact⟨.int a t::fs,KatTups.cons e hc hd rfl k,by rw[List.length_cons,List.length_cons,hl],fun v hv=>by
   rcases List.mem_cons.mp hv with rfl|hv
   ·exact⟨a,t,rfl⟩
   ·exact hf v hv⟩
variable{prog:Program}{w:World}{A:Around}{E:Value→Shared→Prop}{s:Shared}
theorem TupsOk.kept{h h':Heap}{vs:List Value}(ok:TupsOk h vs)(k:∀b o,o.cls=.type "tuple"→h.get? b=some o→h'.get? b=some o):TupsOk h' vs:=fun v hv=>by
 obtain⟨a,b,⟨x,o,t,u,n,e1,e2,e3,e4⟩,q⟩:=ok v hv
 exact⟨a,b,⟨x,o,t,u,n,e1,k _ _ e3 e2,e3,e4⟩,q⟩
theorem TupsOk.rk{h h':Heap}{vs:List Value}(ok:TupsOk h vs)(k:∀b o,o.cls=.type "tuple"→h.get? b=some o→h'.get? b=some o){v:Value}(hv:v∈vs):SZ h' (v,v)=SZ h (v,v):=by
 obtain⟨a,b,t,q⟩:=ok v hv
 obtain⟨x,o,t',u,n,e1,e2,e3,e4⟩:=t
 rw[FZ (k:=(v,v)) (TupAt.pair ⟨x,o,t',u,n,e1,e2,e3,e4⟩),FZ (k:=(v,v)) (TupAt.pair ⟨x,o,t',u,n,e1,k _ _ e3 e2,e3,e4⟩)]
theorem QR:Rk prog w (fun h v=>∃a b,TupAt h v a b∧0≤b∧b<65536) (fun h v=>SZ h (v,v)) (.type "int") where
 cmp:=by
  intro A E s st x y Q hk hx hy h
  obtain⟨a,b,t,q⟩:=hx
  obtain⟨c,d,u,r⟩:=hy
  exact Oo st x y Q hk ⟨a,b,t.pair,q⟩ ⟨c,d,u.pair,r⟩ h
 kept:=fun{h h' v} ok k=> ⟨TupsOk.kept (vs:=[v]) (fun u hu=>List.mem_singleton.mp hu▸ok) k v (by simp),TupsOk.rk (vs:=[v]) (fun u hu=>List.mem_singleton.mp hu▸ok) k (by simp)⟩
 kat:=fun{h vs} ok=>by
  obtain⟨fs,kt,hl,hf⟩:=TupsOk.kat ok
  refine⟨fs,kt,hl,fun v hv M h'=>?_⟩
  obtain⟨x,t,rfl⟩:=hf v hv
  exact fun _ _ _ _ _ q=>wpAny_pure q
 t1:=rfl
 t2:=rfl
theorem MF{a:Addr}{vs:List Value}{n:Nat}{P:PySem.Fin→Shared→Prop}(ho:s.heap.get? a=some (seqObj "list" vs.toArray n))(ok:TupsOk s.heap vs)(h2:2≤vs.length)(hn:vs.length<64)
  (h:∀out c h',out.Perm vs→out.Pairwise (fun x y=>SZ s.heap (x,x)≤SZ s.heap (y,y))→h'.get? a=some (seqObj "list" (List.toArray out) c)→(∀b o,b≠a→s.heap.get? b=some o→h'.get? b=some o)→P (.done (.ret .none)) {s with heap:=h'}):
  wpAny (model prog w) A (Builtin.«list.sort» ⟨[.ref a],[]⟩) P E s:=Kn ho QR ok h2 (by omega) (.inl hn) h
end SrtG
namespace StT
open PySem PySem.SetTable PyProof.Rows
section
variable{prog:Program}{w:World}{A:Around}{E:Value→Shared→Prop}{s:Shared}
abbrev Cd(w:World):Obj:={cls:=.type "set",dict:=none,data:=.set #[] 0 (.fresh 0 0 (!w.params.followText "set-order"))}
theorem QS(a:Value){Q₁:Value→Shared→Prop}(h:Q₁ (.ref s.heap.objs.size) {s with heap:=s.heap.push (Cd w)}):
  codeAny (model prog w) A (.call (.builtin "set.__new__") ⟨[.type "set",a],[]⟩) (wants Q₁ E) s:=by
 refine codeAny_of_tree ?_
 show wpAny _ A.in1 (do checkBuiltinCall "set.__new__" ⟨[.type "set",a],[]⟩;again (.builtin "set.__new__" ⟨[.type "set",a],[]⟩)) _ _ s
 refine wpAny_bind (wpAny_of_eq (PySem.F.newCall_set_1 a) (wpAny_pure ⟨plainId_quiet PySem.F.plain_set_new _,codeAny_builtin PySem.F.entry_set_new ?_⟩))
 rw[Around.under_plainId PySem.F.plain_set_new _]
 unfold Builtin.«set.__new__» Builtin.Frozenset.newClass
 have hsub:=sub_set_self
 obtain⟨hp,g,d,tk,os⟩:=s
 dsimp only
 wp_walk
 refine wpAny_askSetting (wpAny_pure ?_)
 dsimp only
 simp only[newObj]
 refine wpAny_bind (wpAny_alloc (wpAny_pure ?_))
 exact wpAny_pure h
theorem MG{T newId initId:String}{args:List Value}{Q Q₁:Value→Shared→Prop}(ft:TypeCalled T newId initId)
  (hct:checkTypeCall T ⟨args,[]⟩=pure ())
  (hnew:codeAny (model prog w) A.in1 (.call (.builtin newId) ⟨.type T::args,[]⟩) (wants Q₁ E) s)
  (hnext:∀obj s₁,Q₁ obj s₁→s₁.TypeIs obj T∧codeAny (model prog w) A.in1 (.call (.builtin initId) ⟨obj::args,[]⟩) (wants (fun r s₂=>r=.none∧Q obj s₂) E) s₁):
  wpAny (model prog w) A (call (.type T) args) Q E s:=by
 obtain⟨c,tl,hmro⟩:=ft.mro
 have hmade:=ft.made
 have hsub:=ft.sub
 refine wpAny_call (codeAny_of_tree ?_)
 show wpAny _ _ (callAny (.type T) _) _ _ _
 refine wpAny_pure ⟨Code.quiet_builtin _ (by decide+kernel),codeAny_builtin PySem.F.entry_type_call ?_⟩
 rw[Around.under_plain (weight_type_call_type T args []) rfl]
 have h1:=ft.notType
 have h2:=ft.canCreate
 repeat (any_goals (first|assumption|wp_step))
 refine codeAny_mono hnew fun r s₁ hr=>?_
 cases r with
 |error e=>exact hr
 |ok fl=>
  cases fl with
  |ret obj=>
   obtain⟨hT,hsi⟩:=hnext _ _ hr
   have hli:=ft.init.lookup
   have hbi:=ft.init.bind obj
   repeat (any_goals (first|assumption|wp_step))
   refine codeAny_mono hsi fun r₂ s₂ hr₂=>?_
   cases r₂ with
   |error e=>exact hr₂
   |ok fl₂=>
    cases fl₂ with
    |ret r=>
     obtain⟨rfl,hq⟩:=hr₂
     repeat (any_goals (first|assumption|wp_step))
    |_=>exact hr₂.elim
  |_=>exact hr.elim
theorem HA{l:Addr}{items:Array Value}{ps:List (List Int×Addr)}{Q:Value→Shared→Prop}
  (hh:A.handled=none) (hl:s.heap.IsList l items) (hps:items.toList=ps.map fun p=>Value.ref p.2) (hp:∀k x,(k,x)∈ps→IK prog w s.heap k x) (hz:ps.length≤300) (hu:A.units+8<cLine)
  (h:∀(h':Heap) (tk:Nat) (xs:List (List Int×Addr)),SetX prog w h' s.heap.objs.size xs→JU ps xs→
   (∀b o,b<s.heap.objs.size→s.heap.get? b=some o→h'.get? b=some o)→Q (.ref s.heap.objs.size) {s with heap:=h',toks:=tk}):
  wpAny (model prog w) A (call (.type "set") [.ref l]) Q E s:=by
 refine MG (Q₁:=fun obj s₁=>obj=.ref s.heap.objs.size∧s₁={s with heap:=s.heap.push (Cd w)}) PySem.F.called_set (PySem.F.typeCall_set_1 _) (QS _ ⟨rfl,rfl⟩) ?_
 rintro obj s₁ ⟨rfl,rfl⟩
 have hS:(s.heap.push (Cd w)).get? s.heap.objs.size=some (Cd w):=Heap.get?_push_size _ rfl
 have hT:Shared.TypeIs {s with heap:=s.heap.push (Cd w)} (.ref s.heap.objs.size) "set":=⟨_,hS,rfl⟩
 refine⟨hT,codeAny_call_builtin PySem.F.called_set.init.plain PySem.F.entry_set_init (check_set_init_1 hT ?_)⟩
 obtain⟨ol,hol,hcl,nl,hdl⟩:=hl
 obtain⟨ocls,odict,odata,oslots⟩:=ol
 simp only at hcl hdl
 subst hcl;subst hdl
 have hol':(s.heap.push (Cd w)).get? l=some {cls:=.type "list",dict:=odict,data:=.seq items nl,slots:=oslots}:=Heap.get?_push_of_some _ hol
 have hsls:=PySem.F.sub_list_set
 have hslf:=PySem.F.sub_list_frozenset
 have hne:(Value.type "list" ==Value.type "dict")=false:=by decide
 have hl1:(s.heap.push (Cd w)).IsList l items:=⟨_,hol',rfl,nl,rfl⟩
 unfold Builtin.«set.__init__» noKeywords Builtin.Frozenset.updateFrom
 generalize hPI:pyIter=PI
 wp_walk
 subst hPI
 refine wpAny_pyIter_list hl1 ?_
 refine wpAny_bind (wpAny_runValue ?_)
 have hlS:l<s.heap.objs.size:=Heap.lt_size hol
 have hneI:l≠(s.heap.push (Cd w)).objs.size:=by
  rw[Heap.size_push];exact Nat.ne_of_lt (Nat.lt_succ_of_lt hlS)
 have kp:∀b o,s.heap.get? b=some o→((s.heap.push (Cd w)).push {cls:=.type "list_iterator",data:=.fields #[.ref l,.int 0 0]}).get? b=some o:=fun b o e=>Heap.get?_push_of_some _ (Heap.get?_push_of_some _ e)
 refine TH (a:=s.heap.objs.size) (l:=l) (ps:=ps) (by simpa using hh) hneI (by rw[Heap.size_push];exact Nat.ne_of_lt (Nat.lt_succ_self _)) (Nat.ne_of_gt hlS) hps hz (by
   show A.in1.in1.units+1<cLine
   exact Nat.lt_of_le_of_lt (show A.units+1+1+1≤A.units+8 by omega) hu) (ps.length-0) 0 _ [] rfl (Nat.zero_le _)
  ⟨_,Heap.get?_push_size _ rfl,rfl,rfl⟩ (hl1.push _) (fun k x hx=> ⟨DI (hp k x hx) fun u e=>kp x u e,?_⟩) ⟨Cd w,#[],0,_,Heap.get?_push_of_some _ hS,⟨rfl,rfl,rfl⟩,rfl,rfl,fun i k x e=>by simp at e,List.nodup_nil,Tb.fresh _ _ _,rfl,(by show 0*5<7*3;decide),rfl⟩ ⟨fun p hp=>by simp at hp,fun k y hy=>by simp at hy,by simp⟩ ?_
 ·obtain⟨o',_,_,ho',_⟩:=hp k x hx
  have:=Heap.lt_size ho'
  rw[Heap.size_push]
  exact Nat.ne_of_lt (Nat.lt_succ_of_lt this)
 ·intro h' tk' xs' kk sx so
  refine wpAny_pure ?_
  show wpAny _ _ (ret Value.none) _ _ _
  refine wpAny_pure ⟨rfl,h h' tk' xs' sx so fun b o hb e=>kk b o (Nat.ne_of_lt hb) ?_ (kp b o e)⟩
  rw[Heap.size_push];exact Nat.ne_of_lt (Nat.lt_succ_of_lt hb)
end
open PySem.Calls PySem.W
section
variable{prog:Program}{w:World}{A:Around}{E:Value→Shared→Prop}{s:Shared}
theorem Ko{a:Addr}{vs:List Value}{n:Nat}{P:PySem.Fin→Shared→Prop}(ho:s.heap.get? a=some (seqObj "list" vs.toArray n))(h2:vs.length<2)
  (h:∀c h',h'.get? a=some (seqObj "list" vs.toArray c)→(∀b o,b≠a→s.heap.get? b=some o→h'.get? b=some o)→P (.done (.ret .none)) {s with heap:=h'}):
  wpAny (model prog w) A (Builtin.«list.sort» ⟨[.ref a],[]⟩) P E s:=by
 obtain⟨e1,ho1⟩:∃e1,(s.heap.update a (Obj.mapSeq fun _=> (#[]:Array Value))).get? a=some (seqObj "list" #[] e1):=⟨_,get?_update_seq ho fun _=> #[]⟩
 have keep:∀b o,b≠a→s.heap.get? b=some o→(((s.heap.update a (Obj.mapSeq fun _=> (#[]:Array Value))).push (seqObj "tuple" vs.toArray 0)).push (seqObj "list" #[] 0)).get? b=some o:=fun b o hb e=>
  Heap.get?_push_of_some _ (Heap.get?_push_of_some _ (by rw[Heap.get?_update_ne _ _ _ _ hb];exact e))
 have ho3:(((s.heap.update a (Obj.mapSeq fun _=> (#[]:Array Value))).push (seqObj "tuple" vs.toArray 0)).push (seqObj "list" #[] 0)).get? a=some (seqObj "list" #[] e1):=Heap.get?_push_of_some _ (Heap.get?_push_of_some _ ho1)
 rw[list_sort_plain]
 refine wpAny_bind (listItems_at ho rfl ?_)
 refine wpAny_bind (listUpdate_at ho rfl ?_ (by rw[List.size_toArray,sizeLine_eq];omega) (Nat.zero_le _))
 refine wpAny_bind (seqEpoch_at ho1 rfl ?_)
 refine wpAny_bind (wpAny_newTuple ?_ (by show vs.length≤_;rw[sizeLine_eq];omega))
 refine wpAny_bind (wpAny_newList ?_ (Nat.zero_le _))
 refine wpAny_holding ?_
 show wpAny (model prog w) A _ P E {s with heap:=((s.heap.update a (Obj.mapSeq fun _=> (#[]:Array Value))).push (seqObj "tuple" vs.toArray 0)).push (seqObj "list" #[] 0)}
 generalize hG:((s.heap.update a (Obj.mapSeq fun _=> (#[]:Array Value))).push (seqObj "tuple" vs.toArray 0)).push (seqObj "list" #[] 0)=G at keep ho3 ⊢
 dsimp only
 have hn2:vs.toArray.size<2:=by rw[List.size_toArray];omega
 rw[if_pos hn2,if_pos hn2]
 refine wpAny_bind (wpAny_pure ?_)
 refine wpAny_bind (wpAny_pure ?_)
 dsimp only
 have har:((vs.toArray.zip vs.toArray).map (·.2))=vs.toArray:=by
  apply Array.ext'
  rw[Array.toList_map,Array.toList_zip]
  show(vs.zip vs).map (·.2)=vs
  rw[SrtG.Gz,List.map_map]
  exact List.map_id vs
 have har':(arrOf (SortSt.mk' general' (vs.toArray.zip vs.toArray) #[] 7 none)).map (·.2)=vs.toArray:=har
 rw[har']
 obtain⟨c2,hc2⟩:∃c2,(G.update a (Obj.mapSeq fun _=>vs.toArray)).get? a=some (seqObj "list" vs.toArray c2):=⟨_,get?_update_seq ho3 fun _=>vs.toArray⟩
 refine wpAny_bind (seqEpoch_at ho3 rfl ?_)
 refine wpAny_bind (listUpdate_at ho3 rfl ?_ (Nat.zero_le _) (by rw[List.size_toArray,sizeLine_eq];omega))
 show wpAny _ _ (if(e1 !=e1)=true then _ else _) _ _ _
 rw[if_neg (by simp)]
 exact wpAny_pure (h c2 _ hc2 fun b o hb e=>by rw[Heap.get?_update_ne _ _ _ _ hb];exact keep b o hb e)
theorem Bq {α β : Type} {f : α → β} {l1 l2 : List β} (h : l1.Perm l2) : ∀ {xs : List α}, l2 = xs.map f → ∃ ys : List α, ys.Perm xs ∧ ys.map f = l1 := by
  induction h with
  | nil => intro xs e; cases xs with
    | nil => exact ⟨[], .refl _, rfl⟩
    | cons x xs => cases e
  | cons x _ ih => intro xs e; cases xs with
    | nil => cases e
    | cons y xs =>
      rw [List.map_cons] at e
      injection e with e1 e2
      obtain ⟨ys, h1, h2⟩ := ih e2
      exact ⟨y :: ys, h1.cons y, by rw [List.map_cons, h2, e1]⟩
  | swap x y l => intro xs e; match xs, e with
    | a :: b :: xs, e =>
      simp only [List.map_cons] at e
      injection e with e1 e2
      injection e2 with e2 e3
      exact ⟨b :: a :: xs, .swap _ _ _, by simp only [List.map_cons]; rw [← e1, ← e2, ← e3]⟩
  | trans _ _ ih1 ih2 => intro xs e
                         obtain ⟨ys, h1, h2⟩ := ih2 e
                         obtain ⟨zs, h3, h4⟩ := ih1 h2.symm
                         exact ⟨zs, h3.trans h1, h4⟩
theorem MH{a:Addr}{xs:List (List Int×Addr)}{Q:Value→Shared→Prop}(hh:A.handled=none)(S:SetX prog w s.heap a xs)(hz:xs.length≤63)
  (hp:∀k x,(k,x)∈xs→∃p q,k=[p,q]∧0≤q∧q<65536)
  (h:∀(h':Heap) (tk:Nat) (ys:List (List Int×Addr)) (D:Addr) (c:Nat),s.heap.get? D=none→h'.get? D=some (seqObj "list" (ys.map fun p=>Value.ref p.2).toArray c)→(∀b o,s.heap.get? b=some o→h'.get? b=some o)→
   ys.Perm xs→ys.Pairwise (fun x y=>65536*x.1.getD 0 0+x.1.getD 1 0≤65536*y.1.getD 0 0+y.1.getD 1 0)→Q (.ref D) {s with heap:=h',toks:=tk}):
  wpAny (model prog w) A (call (.builtin "sorted") [.ref a]) Q E s:=by
 obtain⟨o,es,ep,t,S⟩:=S
 refine call_function_entry kind_sorted plain_sorted entry_sorted (args_sorted1 _) ?_
 unfold Builtin.«sorted»
 refine wpAny_bind (m:=checkCount "sorted" 1 1 _) (wpAny_pure ?_)
 refine wpAny_bind (kdu_collect (A:=A.in1) (TJ S.wk) hh S.get (by rw[S.size,sizeLine_eq];omega) fun h1 tk1 acc hk1 hacc=>?_)
 have hsz:acc.toList.length=xs.length:=by rw[Array.length_toList,hacc.1,S.size]
 have hacc2:acc.toList=(EM w a ep es).toList.map (·.2):=by
  apply List.ext_getElem?
  intro i
  rw[List.getElem?_map]
  by_cases hi:i<acc.size
  ·have e1:acc[i]?=some acc[i]:=by simp[hi]
   obtain⟨hh',e2⟩:=hacc.2 i _ e1
   have e2':(EM w a ep es).toList[i]?=some (hh',acc[i]):=by simpa using e2
   rw[e2']
   simpa using e1
  ·have h1':acc.toList[i]?=none:=by simp;omega
   have h2':(EM w a ep es).toList[i]?=none:=by
    apply List.getElem?_eq_none
    rw[Array.length_toList,FY,←hacc.1];omega
   rw[h1',h2'];rfl
 have hperm:acc.toList.Perm (xs.map fun p=>Value.ref p.2):=by
  rw[hacc2]
  refine((IY w a ep es).map (·.2)).trans ?_
  rw[S.es,Oh,List.map_map]
  exact List.Perm.refl _
 have hIK:∀k x,(k,x)∈xs→IK prog w h1 k x:=fun k x hx=>by
  obtain⟨i,hi⟩:=List.getElem?_of_mem hx
  exact DI (S.key i k x hi) fun u e=>hk1 x u e
 have tupAt:∀k x,(k,x)∈xs→∃p q,k=[p,q]∧SrtG.TupAt h1 (.ref x) p q∧0≤q∧q<65536:=fun k x hx=>by
  obtain⟨p,q,rfl,h0,h1'⟩:=hp k x hx
  obtain⟨o',items,n,ho',hc',hd',hi'⟩:=hIK _ x hx
  refine⟨p,q,rfl,?_,h0,h1'⟩
  generalize hL:items.toList=L at hi'
  cases hi' with
  |cons i1 i2=>
   cases i2 with
   |cons i3 i4=>
    cases i4
    obtain⟨t1,rfl⟩:=FW i1
    obtain⟨t2,rfl⟩:=FW i3
    have:items= #[.int p t1,.int q t2]:=by
     apply Array.ext'
     rw[hL]
    exact⟨x,o',t1,t2,n,rfl,ho',hc',by rw[hd',this]⟩
 refine wpAny_bind (wpAny_newList ?_ (by rw[hsz,sizeLine_eq];omega))
 have hoL:(h1.push (seqObj "list" acc.toList.toArray 0)).get? h1.objs.size=some (seqObj "list" acc.toList.toArray 0):=Heap.get?_push_size _ rfl
 have hDn:s.heap.get? h1.objs.size=none:=by
  cases e:s.heap.get? h1.objs.size with
  |none=>rfl
  |some o'=>exact absurd (Heap.lt_size (hk1 _ _ e)) (Nat.lt_irrefl _)
 have hkp:∀b o,h1.get? b=some o→(h1.push (seqObj "list" acc.toList.toArray 0)).get? b=some o:=fun b o e=>Heap.get?_push_of_some _ e
 obtain⟨ws,hw1,hw2⟩:=Bq hperm rfl
 have fin:∀(out:List Value) (c:Nat) (h2:Heap),out.Perm acc.toList→out.Pairwise (fun x y=>SrtG.SZ (h1.push (seqObj "list" acc.toList.toArray 0)) (x,x)≤SrtG.SZ (h1.push (seqObj "list" acc.toList.toArray 0)) (y,y))→
   h2.get? h1.objs.size=some (seqObj "list" (List.toArray out) c)→(∀b o,b≠h1.objs.size→(h1.push (seqObj "list" acc.toList.toArray 0)).get? b=some o→h2.get? b=some o)→Q (.ref h1.objs.size) {s with heap:=h2,toks:=tk1}:=fun out c h2 pm pw hg hk=>by
  obtain⟨ys,y1,y2⟩:=Bq (pm.trans hperm) rfl
  subst y2
  refine h h2 tk1 ys _ c hDn hg (fun b o e=>?_) y1 ?_
  ·have hlt:=Heap.lt_size (hk1 b o e)
   exact hk b o (Nat.ne_of_lt hlt) (hkp b o (hk1 b o e))
  ·rw[List.pairwise_map] at pw
   refine List.Pairwise.imp_of_mem (fun{x y} hx hy q=>?_) pw
   obtain⟨k1,x1⟩:=x
   obtain⟨k2,x2⟩:=y
   obtain⟨p,q',rfl,t1,_⟩:=tupAt k1 x1 (y1.mem_iff.mp hx)
   obtain⟨p2,q2,rfl,t2,_⟩:=tupAt k2 x2 (y1.mem_iff.mp hy)
   have keepT:∀{v:Value} {i j:Int},SrtG.TupAt h1 v i j→SrtG.TupAt (h1.push (seqObj "list" acc.toList.toArray 0)) v i j:=fun t=>by
    obtain⟨x,o,t,u,n,e1,e2,e3,e4⟩:=t
    exact⟨x,o,t,u,n,e1,hkp _ _ e2,e3,e4⟩
   rw[SrtG.FZ (k:=(Value.ref x1,Value.ref x1)) (keepT t1).pair,SrtG.FZ (k:=(Value.ref x2,Value.ref x2)) (keepT t2).pair] at q
   exact q
 refine wpAny_bind (wpAny_holding (wpAny_call_entry slot_list_sort ⟨_,hoL,rfl⟩ entry_list_sort ?body (args_list_sort _)))
 case body=>
  by_cases hlen:acc.toList.length<2
  ·refine Ko (s:={s with heap:=h1.push (seqObj "list" acc.toList.toArray 0),toks:=tk1}) hoL hlen fun c h2 hg hk=> ⟨_,rfl,wpAny_pure ⟨_,rfl,fin acc.toList c h2 (.refl _) ?_ hg hk⟩⟩
   generalize acc.toList=l at hlen
   match l,hlen with
   | [],_=>exact .nil
   | [x],_=>exact List.pairwise_singleton _ _
  ·refine SrtG.MF (s:={s with heap:=h1.push (seqObj "list" acc.toList.toArray 0),toks:=tk1}) hoL (fun v hv=>?_) (by omega) (by omega) fun out c h2 pm pw hg hk=> ⟨_,rfl,wpAny_pure ⟨_,rfl,fin out c h2 pm pw hg hk⟩⟩
   obtain⟨⟨k,x⟩,hx,rfl⟩:=List.mem_map.mp (hperm.mem_iff.mp hv)
   obtain⟨p,q,rfl,⟨x',o',t1,t2,n,e1,e2,e3,e4⟩,h0,h1'⟩:=tupAt k x hx
   exact⟨p,q,⟨x',o',t1,t2,n,e1,hkp _ _ e2,e3,e4⟩,h0,h1'⟩
end
end StT
namespace L2
open PySem PySem.Spec PyProof.Rows
section
variable{X:Cx}{pins:List (Addr×Obj)}{σ:St}{H:Hp}{s:Shared}{h':Heap}
theorem Inv.laidF{a:Addr}{o:HO}{t':Nat}(I:Inv X pins σ H s)(k:∀b u,s.heap.get? b=some u→h'.get? b=some u)(hp:s.heap.get? a=none)(new:ObjOk X.prog X.w (upd H a o) h' a o):
  Inv X pins σ (upd H a o) {s with heap:=h',toks:=t'}:=by
 have hn:H a=none:=by
  cases q:H a with
  |none=>rfl
  |some u=>
   obtain⟨ob,e⟩:=(I.hok a u q).obj
   rw[hp] at e;cases e
 have ne:∀b u,s.heap.get? b=some u→b≠a:=fun b u e z=>by rw[z,hp] at e;cases e
 refine I.un ⟨fun b u q _ _ _=>k b u q,fun b u q _ _ _=> ⟨u.slots,k b u q⟩,fun b u q n _=>by rw[AQ (ne b u q)];exact n,fun b u q _=> ⟨u,k b u q⟩,fun b xs q=>by rw[AQ (AV q hn)];exact q,fun b u xs q=>by rw[AQ (AV q hn)];exact q,fun b ps q=> ⟨#[],by rw[AQ (AV q hn),q];simp⟩⟩ ?_
 intro b u e
 by_cases hb:b=a
 ·subst hb;rw[AO] at e;cases e;exact new
 ·rw[AQ hb] at e
  exact(I.hok b u e).stay (fun c v _ q=>k c v q) (fun c q=>by rw[AQ (AV q hn)];exact q) fun c xs q=>by rw[AQ (AV q hn)];exact q
def Yz(P:Program)(w:World)(a:Addr)(xs:List (List Int×Addr))(h:Heap):Prop:=∃o es ep t,h.get? a=some o∧o.ExactSet∧o.data=.set es ep t∧es.toList=StT.Oh xs P w∧(xs.map (·.1)).Nodup∧StT.Tb t (xs.map fun p=> (StT.tk P w).hash p.1)∧t.plain=true∧xs.length*5<t.mask*3∧t.led=!w.params.followText "set-order"
def SetO(P:Program)(w:World)(a:Addr)(xs:List (List Int×Addr)):HO:=.ext (Yz P w a xs)
theorem TM{P:Program}{w:World}{H:Hp}{h:Heap}{a:Addr}{xs:List (List Int×Addr)}(S:StT.SetX P w h a xs):ObjOk P w H h a (SetO P w a xs):=by
 obtain⟨o,es,ep,t,S⟩:=S
 refine⟨⟨o,es,ep,t,S.get,S.ex,S.dat,S.es,S.nd,S.tb,S.pl,S.room,S.led⟩,⟨o,S.get⟩,fun h1 h2 ⟨o,es,ep,t,g,r⟩ hk=> ⟨o,es,ep,t,hk _ g,r⟩⟩
def QT(K:PySem.W.Frag)(H:Hp)(xs:List (List Int×Addr)):Prop:=∀k x,(k,x)∈xs→Hs K H x (k.map V.int)
theorem Ib{prog:Program}{w:World}:∀{k:List Int} {us:List Value},Vals (k.map V.int) us→ItemsAre (intKind prog w) k us
 | [],us,r=>by rw[List.map_nil] at r;cases r;exact .nil
 |n::k,us,r=>by
  rw[List.map_cons] at r
  cases r with
  |cons r1 r2=>
   obtain⟨t,rfl⟩:=r1
   exact .cons (intKind_is _ _ _ _) (Ib r2)
theorem Inv.ik{x:Addr}{k:List Int}(I:Inv X pins σ H s)(h:Hs X.K H x (k.map V.int)):StT.IK X.prog X.w s.heap k x:=by
 obtain⟨its,r,⟨o,ho,hc,n,hd⟩,hz⟩:=I.tuple h
 exact⟨o,its.toArray,n,ho,hc,hd,by simpa using Ib r⟩
def bU(X:Cx):List V→Hp→VK→Prop:=fun vs H Q=>∃a ps,vs=[.ref a]∧SqL X.K H a (ps.map fun p=>V.ref p.2)∧QT X.K H ps∧ps.length≤300∧
 ∀p xs,H p=none→StT.JU ps xs→(xs.map (·.1)).Nodup→Q (.ref p) (upd H p (SetO X.prog X.w p xs))
theorem Ic:∀{ps:List (List Int×Addr)} {us:List Value},Vals (ps.map fun p=>V.ref p.2) us→us=ps.map fun p=>Value.ref p.2
 | [],us,r=>by rw[List.map_nil] at r;cases r;rfl
 |p::ps,us,r=>by
  rw[List.map_cons] at r
  cases r with
  |cons r1 r2=>
   rw[Ic r2]
   have r1:_=Value.ref p.2:=r1
   rw[r1]
   rfl
theorem Os(hc:X.calm=true)(hu:X.A.units+8<cLine):Az X (.type "set") (bU X):=by
 intro pins s σ H vs us Q I r h
 obtain⟨a,ps,rfl,hl,hk,hz,q⟩:=h
 obtain⟨u,rfl,ru⟩:=Vals.one r
 cases ru
 obtain⟨its,rv,p,_⟩:=I.list hl
 refine StT.HA (ps:=ps) (I.ok.hd hc) p.isList (by simpa using Ic rv) (fun k x hx=>I.ik (hk k x hx)) hz hu fun h' tk xs sx so kp=>?_
 have hf:H s.heap.objs.size=none:=I.hok.fresh (Nat.le_refl _)
 have nd:(xs.map (·.1)).Nodup:=by obtain⟨_,_,_,_,S⟩:=sx;exact S.nd
 exact⟨.ref s.heap.objs.size,upd H s.heap.objs.size (SetO X.prog X.w s.heap.objs.size xs),I.laid (t':=tk) (fun b u e=>kp b u (Heap.lt_size e) e) (Nat.le_refl _) (TM sx),rfl,q _ _ hf so nd⟩
def Wa(X:Cx):List V→Hp→VK→Prop:=fun vs H Q=>∃p xs,vs=[.ref p]∧H p=some (SetO X.prog X.w p xs)∧QT X.K H xs∧xs.length≤63∧(∀k x,(k,x)∈xs→∃i j,k=[i,j]∧0≤j∧j<65536)∧
 ∀(q:Addr) (ys:List (List Int×Addr)),H q=none→ys.Perm xs→ys.Pairwise (fun x y=>65536*x.1.getD 0 0+x.1.getD 1 0≤65536*y.1.getD 0 0+y.1.getD 1 0)→Q (.ref q) (upd H q (.lst (ys.map fun p=>V.ref p.2)))
theorem Ie:∀(ps:List (List Int×Addr)),Vals (ps.map fun p=>V.ref p.2) (ps.map fun p=>Value.ref p.2)
 | []=> .nil
 |p::ps=> .cons rfl (Ie ps)
theorem JV(hc:X.calm=true):Az X (.builtin "sorted") (Wa X):=by
 intro pins s σ H vs us Q I r h
 obtain⟨p,xs,rfl,hp,hk,hz,h2,q⟩:=h
 obtain⟨u,rfl,ru⟩:=Vals.one r
 cases ru
 obtain⟨⟨o,es,ep,t,g1,g2,g3,g4,g5,g6,g7,g8,g9⟩,_,_⟩:=I.hok p _ hp
 refine StT.MH (xs:=xs) (I.ok.hd hc) ⟨o,es,ep,t,g1,g2,g3,g4,fun i k x e=>I.ik (hk k x (List.mem_of_getElem? e)),g5,g6,g7,g8,g9⟩ hz h2 fun h' tk ys D c hD hg kp pm pw=>?_
 have hf:H D=none:=I.hok.none_of hD
 refine⟨.ref D,upd H D (.lst (ys.map fun p=>V.ref p.2)),I.laidF (t':=tk) kp hD ⟨?_,_,c,Ie ys,hg⟩,rfl,q D ys hf pm pw⟩
 rw[List.length_map,pm.length_eq,sizeLine_eq]
 omega
end
end L2
namespace ZpT
open PySem PySem.Spec PyProof.Rows
section
variable{prog:Program}{w:World}
end
section
variable{prog:Program}{w:World}{A:Around}{E:Value→Shared→Prop}{s:Shared}
variable{z TI TO i1 i2 l1 l2:Addr}{xs ys:Array Value}{S1 S2:Nat→Heap→Prop}
end
end ZpT
namespace L2
open PySem PySem.Spec PyProof.Rows
section
variable{X:Cx}
end
open PySem.Calls
section
variable{X:Cx}
def ZA(K:PySem.W.Frag)(H:Hp)(a:Addr)(xs:List V):Prop:=SqL K H a xs∨Hs K H a xs
theorem Inv.walk{pins:List (Addr×Obj)}{σ:St}{H:Hp}{s:Shared}{a:Addr}{xs:List V}(I:Inv X pins σ H s)(hq:ZA X.K H a xs):∃its:List Value,Vals xs its∧a<s.heap.objs.size∧∀(A:Around) (E:Value→Shared→Prop) (Q:Value→Shared→Prop),A.handled=none→
  (∀(o:Obj) (St:Nat→Heap→Prop),Walks X.prog X.w A s.heap.objs.size [s.heap.objs.size,a] [s.heap.objs.size] its.length (fun i v=>its[i]?=some v) St→St 0 (s.heap.push o)→Q (.ref s.heap.objs.size) {s with heap:=s.heap.push o})→wpAny (model X.prog X.w) A (pyIter (.ref a)) Q E s:=by
 rcases hq with hq|hq
 ·obtain⟨its,rv,p,_⟩:=I.list hq
  have lt:a<s.heap.objs.size:=by obtain⟨_,_,e,_⟩:=p;exact Heap.lt_size e
  refine⟨its,rv,lt,fun A E Q hh h=>wpAny_pyIter_list p.isList ?_⟩
  have W:=Walks.list (prog:=X.prog) (w:=X.w) (A:=A) hh s.heap.objs.size a (Nat.ne_of_lt lt) its.toArray
  have W':Walks X.prog X.w A s.heap.objs.size [s.heap.objs.size,a] [s.heap.objs.size] its.length (fun i v=>its[i]?=some v) (fun i h=>h.IsListIter s.heap.objs.size a i∧h.IsList a its.toArray):=by simpa using W
  exact h _ _ W' ⟨⟨_,Heap.get?_push_size _ rfl,rfl,rfl⟩,p.isList.push _⟩
 ·obtain⟨its,rv,p,_⟩:=I.tuple hq
  have lt:a<s.heap.objs.size:=by obtain⟨_,e,_⟩:=p;exact Heap.lt_size e
  refine⟨its,rv,lt,fun A E Q hh h=>wpAny_pyIter_tuple (items:=its.toArray) p ?_⟩
  have W:=Walks.tuple (prog:=X.prog) (w:=X.w) (A:=A) hh s.heap.objs.size a (Nat.ne_of_lt lt) its.toArray
  have W':Walks X.prog X.w A s.heap.objs.size [s.heap.objs.size,a] [s.heap.objs.size] its.length (fun i v=>its[i]?=some v) (fun i h=>h.IsTupleIter s.heap.objs.size a i∧h.IsTuple a its.toArray):=by simpa using W
  have p':s.heap.IsTuple a its.toArray:=p
  exact h _ _ W' ⟨⟨_,Heap.get?_push_size _ rfl,rfl,rfl⟩,p'.at fun o e=>Heap.get?_push_of_some _ e⟩
theorem JW{s:Shared}{o:Obj}{h':Heap}(hk:∀b x,b∉[s.heap.objs.size]→(s.heap.push o).get? b=some x→h'.get? b=some x):∀b x,s.heap.get? b=some x→h'.get? b=some x:=fun b x e=>
 hk b x (by simpa using Nat.ne_of_lt (Heap.lt_size e)) (Heap.get?_push_of_some _ e)
theorem Cq{ns:List Int}{us:List Value}(r:Vals (ns.map V.int) us)(i:Nat)(v:Value)(h:us[i]?=some v):∃t,v=.int (ns.getD i 0) t:=by
 have hl:=r.length
 have hi:i<ns.length:=by
  have:=(List.getElem?_eq_some_iff.mp h).1
  rw[List.length_map] at hl;omega
 obtain⟨u,e,t,rfl⟩:=r.get (i:=i) (x:=.int ns[i]) (by simp[hi])
 rw[h] at e;cases e
 exact⟨t,by simp[List.getD,hi]⟩
def HB(ns:List Int)(m:Int):Prop:=m∈ns∧∀n∈ns,m≤n
def NQ(ns:List Int)(m:Int):Prop:=m∈ns∧∀n∈ns,n≤m
theorem HC{ns:List Int}{i:Nat}(h:i<ns.length):ns.getD i 0∈ns:=by simp[List.getD,h]
theorem Ig(hc:X.calm=true):Az X (.builtin "min") (fun vs H Q=>∃(a:Addr) (ns:List Int),vs=[.ref a]∧ZA X.K H a (ns.map V.int)∧0<ns.length∧∀m,HB ns m→Q (.int m) H):=by
 intro pins s σ H vs us Q I r h
 obtain⟨a,ns,rfl,hq,h0,q⟩:=h
 obtain⟨u,rfl,ru⟩:=Dd r
 cases ru
 obtain⟨its,rv,lt,wk⟩:=I.walk hq
 have hl:its.length=ns.length:=by have:=rv.length;rw[List.length_map] at this;exact this.symm
 refine call_min_walk (wk X.A.in1 _ _ (I.ok.hd hc) fun o St W st=> ⟨_,_,_,_,_,_,_,rfl,W,st,fun b hb=>?_,by omega,CmpOf.ints_lt (fun i=>ns.getD i 0) (fun i v hv=>Cq rv i v hv),fun v h' tk hP hk=>?_⟩)
 ·show b< (s.heap.push o).objs.size
  rw[Heap.size_push]
  simp only[List.mem_cons,List.not_mem_nil,or_false] at hb
  rcases hb with rfl|rfl
  ·exact Nat.lt_succ_self _
  ·exact Nat.lt_succ_of_lt lt
 ·obtain⟨t,rfl⟩:=Cq rv _ v hP
  obtain⟨b1,b2⟩:=argBest_lt (fun i=>ns.getD i 0) (its.length-1)
  exact⟨.int _,H,I.kept (t':=tk) (JW hk),⟨t,rfl⟩,q _ ⟨HC (by omega),fun n hn=>by
   obtain⟨j,hj,rfl⟩:=List.getElem_of_mem hn
   have:=b2 j (by omega)
   simpa[List.getD,hj] using this⟩⟩
theorem Ih(hc:X.calm=true):Az X (.builtin "max") (fun vs H Q=>∃(a:Addr) (ns:List Int),vs=[.ref a]∧ZA X.K H a (ns.map V.int)∧0<ns.length∧∀m,NQ ns m→Q (.int m) H):=by
 intro pins s σ H vs us Q I r h
 obtain⟨a,ns,rfl,hq,h0,q⟩:=h
 obtain⟨u,rfl,ru⟩:=Dd r
 cases ru
 obtain⟨its,rv,lt,wk⟩:=I.walk hq
 have hl:its.length=ns.length:=by have:=rv.length;rw[List.length_map] at this;exact this.symm
 refine call_max_walk (wk X.A.in1 _ _ (I.ok.hd hc) fun o St W st=> ⟨_,_,_,_,_,_,_,rfl,W,st,fun b hb=>?_,by omega,CmpOf.ints_gt (fun i=>ns.getD i 0) (fun i v hv=>Cq rv i v hv),fun v h' tk hP hk=>?_⟩)
 ·show b< (s.heap.push o).objs.size
  rw[Heap.size_push]
  simp only[List.mem_cons,List.not_mem_nil,or_false] at hb
  rcases hb with rfl|rfl
  ·exact Nat.lt_succ_self _
  ·exact Nat.lt_succ_of_lt lt
 ·obtain⟨t,rfl⟩:=Cq rv _ v hP
  obtain⟨b1,b2⟩:=argBest_gt (fun i=>ns.getD i 0) (its.length-1)
  exact⟨.int _,H,I.kept (t':=tk) (JW hk),⟨t,rfl⟩,q _ ⟨HC (by omega),fun n hn=>by
   obtain⟨j,hj,rfl⟩:=List.getElem_of_mem hn
   have:=b2 j (by omega)
   simpa[List.getD,hj] using this⟩⟩
theorem Fq:Az X (.type "tuple") (fun vs H Q=>∃a xs,vs=[.ref a]∧SqL X.K H a xs∧∀p,H p=none→Q (.ref p) (upd H p (.tup xs))):=by
 intro pins s σ H vs us Q I r h
 obtain⟨a,xs,rfl,hq,q⟩:=h
 obtain⟨u,rfl,ru⟩:=Dd r
 cases ru
 obtain⟨its,rv,p,hz⟩:=I.list hq
 have hl:=rv.length
 refine call_tuple_list p.isList (fun h' hk=>?_) (by simpa[←hl] using hz)
 have hn:s.heap.get? h'.objs.size=none:=by
  cases e:s.heap.get? h'.objs.size with
  |none=>rfl
  |some o=>exact absurd (Heap.lt_size (hk _ _ e)) (Nat.lt_irrefl _)
 exact⟨.ref h'.objs.size,upd H h'.objs.size (.tup xs),I.laidF (t':=s.toks) (fun b u e=>Heap.get?_push_of_some _ (hk b u e)) hn ⟨hz,its,rv,⟨_,Heap.get?_push_size _ rfl,rfl,_,rfl⟩⟩,rfl,q _ (I.hok.none_of hn)⟩
theorem HD:Az X (.type "list") (fun vs H Q=>∃a xs,vs=[.ref a]∧ZA X.K H a xs∧∀p,H p=none→Q (.ref p) (upd H p (.lst xs))):=by
 intro pins s σ H vs us Q I r h
 obtain⟨a,xs,rfl,hq,q⟩:=h
 obtain⟨u,rfl,ru⟩:=Dd r
 cases ru
 have hf:H s.heap.objs.size=none:=I.hok.fresh (Nat.le_refl _)
 have fin:∀(its:List Value) (h':Heap) (c:Nat),Vals xs its→xs.length≤sizeLine→(∀b o',s.heap.get? b=some o'→h'.get? b=some o')→h'.get? s.heap.objs.size=some {cls:=.type "list",dict:=none,data:=.seq its.toArray c,slots:=#[]}→EP X pins σ Q (.ref s.heap.objs.size) {s with heap:=h'}:=fun its h' c rv hz hk hD=>
  ⟨.ref s.heap.objs.size,upd H s.heap.objs.size (.lst xs),I.laid (t':=s.toks) hk (Nat.le_refl _) ⟨hz,its,c,rv,hD⟩,rfl,q _ hf⟩
 rcases hq with hq|hq
 ·obtain⟨its,rv,⟨o,n,ho,hc,hd,hdt⟩,hz⟩:=I.list hq
  have hl:=rv.length
  exact call_list_seq (hsz:=by simpa[←hl] using hz) a (.inl rfl) ho hc hdt fun h' c' hk hD=>fin its h' c' rv hz hk hD
 ·obtain⟨its,rv,⟨o,ho,hc,n,hdt⟩,hz⟩:=I.tuple hq
  have hl:=rv.length
  exact call_list_seq (hsz:=by simpa[←hl] using hz) a (.inr rfl) ho hc hdt fun h' c' hk hD=>fin its h' c' rv hz hk hD
theorem Kq:Az X (.type "range") (fun vs H Q=>∃k:Int,vs=[.int k]∧∀p,H p=none→Q (.ref p) (upd H p (.rng 0 k))):=by
 intro pins s σ H vs us Q I r h
 obtain⟨k,rfl,q⟩:=h
 obtain⟨u,rfl,t,rfl⟩:=Dd r
 have hf:H s.heap.objs.size=none:=I.hok.fresh (Nat.le_refl _)
 exact call_range_1 ⟨.ref s.heap.objs.size,upd H s.heap.objs.size (.rng 0 k),I.laid (fun b u e=>Heap.get?_push_of_some _ e) (Nat.le_refl _) ⟨_,_,_,Heap.get?_push_size _ rfl⟩,rfl,q _ hf⟩
theorem MI(hc:X.calm=true):Az X (.type "list") (fun vs H Q=>∃(a:Addr) (k:Int),vs=[.ref a]∧H a=some (.rng 0 k)∧0≤k∧k≤1000∧∀p,H p=none→Q (.ref p) (upd H p (.lst ((List.range k.toNat).map fun(i:Nat)=>V.int i)))):=by
 intro pins s σ H vs us Q I r h
 obtain⟨a,k,rfl,ha,k0,k1,q⟩:=h
 obtain⟨u,rfl,ru⟩:=Dd r
 cases ru
 obtain⟨t,u,v,hr⟩:=I.hok a _ ha
 have hf:H s.heap.objs.size=none:=I.hok.fresh (Nat.le_refl _)
 have hn:Builtin.Range.rangeSize 0 k 1=k.toNat:=by rw[rangeSize_one];split<;>omega
 refine call_list_range (I.ok.hd hc) hr (small_one (by omega) (by omega) (by omega) (by omega)) hn (by omega) fun h' tk acc c hk hD hacc=>?_
 refine⟨.ref s.heap.objs.size,_,I.laid (o:=.lst ((List.range k.toNat).map fun(i:Nat)=>V.int i)) (t':=tk) hk (Nat.le_refl _) ⟨?_,acc.toList,c,?_,by rw[Array.toArray_toList];exact hD⟩,rfl,q _ hf⟩
 ·rw[List.length_map,List.length_range,sizeLine_eq];omega
 ·have all:∀(l:List Value) (n m:Nat),l.length=n→(∀i v,l[i]?=some v→∃t,v=Value.int ((m+i:Nat):Int) t)→Vals ((List.range' m n).map fun(i:Nat)=>V.int i) l:=by
   intro l
   induction l with
   |nil=>intro n m e _;subst e;exact .nil
   |cons x l ih=>
    intro n m e hv
    subst e
    rw[List.length_cons,List.range'_succ,List.map_cons]
    refine .cons ?_ (ih l.length (m+1) rfl fun i v e=>?_)
    ·obtain⟨t,e⟩:=hv 0 x rfl
     exact⟨t,by rw[e];simp⟩
    ·obtain⟨t,e'⟩:=hv (i+1) v (by simpa using e)
     exact⟨t,by rw[e'];congr 1;omega⟩
  rw[List.range_eq_range']
  refine all acc.toList _ 0 (by rw[Array.length_toList];exact hacc.1) fun i v e=>?_
  obtain⟨t,e'⟩:=hacc.2 i v (by rw[←Array.getElem?_toList];exact e)
  exact⟨t,by rw[e'];congr 1;omega⟩
theorem QU(hu:X.A.units<cLine):DC X (compareOp .NotEq) (fun x y H Q=>∃a b xs,x=.ref a∧y=.ref b∧SqL X.K H a xs∧SqL X.K H b []∧Q (.bl (!xs.isEmpty)) H):=by
 intro pins s σ H x y v u Q I rx ry h
 obtain⟨a,b,xs,rfl,rfl,ha,hb,q⟩:=h
 cases rx;cases ry
 obtain⟨its,r1,p1,_⟩:=I.list ha
 obtain⟨its2,r2,p2,_⟩:=I.list hb
 cases r2
 cases xs with
 |nil=>
  cases r1
  exact SeqAt.RcNeAt.lists (e:=fun _=>true) p1.isList p2.isList rfl hu (fun j h1 _=>by simp at h1) _ _ _ _ ⟨.bl _,H,I,rfl,q⟩
 |cons x xs=>
  have hl:=r1.length
  exact SeqAt.RcNeAt.lists_lengths p1.isList p2.isList (by simp;intro e;rw[e] at hl;simp at hl) hu _ _ _ _ ⟨.bl _,H,I,rfl,q⟩
end
end L2
namespace HT
open PySem PySem.Spec PyProof.Rows
section
open PySem.SeqAt
open PySem.AutoSeq1 (wpAny_loadPart')
open PySem.MeetsSeq PySem.MeetsSeq2 PySem.MeetsSeq3
end
section
variable{prog:Program}{w:World}{A:Around}{E:Value→Shared→Prop}{s:Shared}
theorem Kr(l b:Addr)(items items2:Array Value)(n n2:Nat)(dd dd2:Option Addr)(sl sl2:Array (Option Value))(hc0:items.isEmpty=true):
  Meets (Builtin.«tuple.__add__» ⟨[.ref l,.ref b],[]⟩) (fun _ R s=>s.heap.get? l=some ⟨.type "tuple",dd,.seq items n,sl⟩∧s.heap.get? b=some ⟨.type "tuple",dd2,.seq items2 n2,sl2⟩∧R (.ok (.ret (Value.ref b))) s):=
 .of_wp fun prog w A R s h=>by
  obtain⟨hp,g,d,tk,os⟩:=s
  obtain⟨hl,hb,h⟩:=h
  have f2:=AutoSeq1.sub_tuple_tuple
  wp_walk using AutoSeq1.wpAny_loadPart' hl,AutoSeq1.wpAny_loadPart' hb
  exact⟨_,rfl,h⟩
theorem QV{t b:Addr}{ws:List Value}{Q:Value→Shared→Prop}(ht:IsTup s.heap t #[])(hb:IsTup s.heap b ws.toArray)(h1:Q (.ref b) s):wpAny (model prog w) A (binaryOp .Add (.ref t) (.ref b)) Q E s:=by
 obtain⟨⟨cls,dd,data,sl⟩,ho,hc,n,hd⟩:=id ht
 obtain⟨⟨cls2,dd2,data2,sl2⟩,ho2,hc2,n2,hd2⟩:=id hb
 simp only at hc hd hc2 hd2
 subst hc hd hc2 hd2
 exact concat_meets ⟨_,ho,rfl⟩ ⟨_,ho2,rfl⟩ noFill_tuple_add seq_tuple_add PySem.F.slot_tuple_add PySem.F.entry_tuple_add (PySem.F.args_tuple_add_2 _ _) (Kr t b _ ws.toArray n n2 dd dd2 sl sl2 rfl) ⟨ho,ho2,h1⟩
end
end HT
namespace L2
open PySem PySem.Spec PyProof.Rows
section
variable{X:Cx}{e:Expr}{te:TE}{pos p2 p3 p4:Pos}
def ZC(K:PySem.W.Frag):R2:=fun x y H Q=>∃a b xs ys,x=.ref a∧y=.ref b∧Hs K H a xs∧Hs K H b ys∧xs.length+ys.length≤sizeLine∧∀p H',((p=a∧H'=H∧ys=[])∨(p=b∧H'=H∧xs=[])∨(H p=none∧H'=upd H p (.tup (xs++ys))))→Q (.ref p) H'
theorem TN:DC X (binaryOp .Add) (ZC X.K):=by
 intro pins s σ H x y v u Q I rx ry h
 obtain⟨a,b,xs,ys,rfl,rfl,ha,hb,hz,q⟩:=h
 cases xs with
 |cons x xs=>exact So pins s σ H _ _ v u Q I rx ry ⟨a,b,x::xs,ys,rfl,rfl,ha,hb,by simp,hz,fun e=>q a H (.inl ⟨rfl,rfl,e⟩),fun _ p hp=>q p _ (.inr (.inr ⟨hp,rfl⟩))⟩
 |nil=>
  cases rx;cases ry
  obtain⟨its,r1,p1,_⟩:=I.tuple ha
  obtain⟨its2,r2,p2,_⟩:=I.tuple hb
  cases r1
  exact HT.QV p1 p2 ⟨.ref b,H,I,rfl,q b H (.inr (.inl ⟨rfl,rfl,rfl⟩))⟩
end
end L2
namespace L2.TL
open PySem PySem.Spec PyProof.Rows
inductive T where
 |non|bl (b:Bool)|int (i:Int)|str (x:Str)|tup (ts:List T)|lst (ts:List T)|frz (ts:List T)|dct|raw (v:V)
abbrev AG:=Addr→Option (List T)
def Ab(O:AG)(a:Addr)(ts:List T):AG:=fun b=>if b=a then some ts else O b
def CQ(O:AG)(a:Addr):AG:=fun b=>if b=a then none else O b
theorem AF{O:AG}{a:Addr}{ts:List T}:Ab O a ts a=some ts:=by unfold Ab;rw[if_pos rfl]
theorem AS{O:AG}{a b:Addr}{ts:List T}(h:b≠a):Ab O a ts b=O b:=by unfold Ab;rw[if_neg h]
theorem BJ{O:AG}{a:Addr}{ts us:List T}:Ab (Ab O a ts) a us=Ab O a us:=by
 funext b;unfold Ab;split<;>rfl
theorem DJ{O:AG}{a:Addr}:CQ O a a=none:=by unfold CQ;rw[if_pos rfl]
theorem Di{O:AG}{a b:Addr}(h:b≠a):CQ O a b=O b:=by unfold CQ;rw[if_neg h]
mutual
inductive Rep (K:PySem.W.Frag) (O:AG) (H:Hp):V→T→Prop
 |non:Rep K O H .non .non
 |bl (b:Bool):Rep K O H (.bl b) (.bl b)
 |int (i:Int):Rep K O H (.int i) (.int i)
 |str (x:Str):Rep K O H (.str x) (.str x)
 |tup {a:Addr} {xs:List V} {ts:List T}:H a=some (.tup xs)→Reps K O H xs ts→Rep K O H (.ref a) (.tup ts)
 |lst {a:Addr} {xs:List V} {ts:List T}:H a=some (.lst xs)→O a=none→Reps K O H xs ts→Rep K O H (.ref a) (.lst ts)
 |frz {a:Addr} {o:Obj} {xs:List V} {ts:List T}:H a=some (.frz o (.lst xs))→Reps K O H xs ts→Rep K O H (.ref a) (.frz ts)
 |dct {a:Addr}:H a=some (.dK [])→Rep K O H (.ref a) .dct
 |raw (v:V):Rep K O H v (.raw v)
inductive Reps (K:PySem.W.Frag) (O:AG) (H:Hp):List V→List T→Prop
 |nil:Reps K O H [] []
 |cons {v:V} {t:T} {vs:List V} {ts:List T}:Rep K O H v t→Reps K O H vs ts→Reps K O H (v::vs) (t::ts)
end
section
variable{K:PySem.W.Frag}{O O' O1:AG}{H H' H1:Hp}
mutual
theorem Rep.mono (hT:∀a o,H a=some o→(∀xs,o≠.lst xs)→H' a=some o) (hL:∀a xs,H a=some (.lst xs)→O a=none→H' a=some (.lst xs)∧O' a=none):∀{v:V} {t:T},Rep K O H v t→Rep K O' H' v t
 |_,_,.non=> .non
 |_,_,.bl b=> .bl b
 |_,_,.int i=> .int i
 |_,_,.str x=> .str x
 |_,_,.tup h r=> .tup (hT _ _ h fun _ z=>by cases z) (Reps.mono hT hL r)
 |_,_,.lst h o r=> .lst (hL _ _ h o).1 (hL _ _ h o).2 (Reps.mono hT hL r)
 |_,_,.frz h r=> .frz (hT _ _ h fun _ z=>by cases z) (Reps.mono hT hL r)
 |_,_,.dct h=> .dct (hT _ _ h fun _ z=>by cases z)
 |_,_,.raw v=> .raw v
theorem Reps.mono (hT:∀a o,H a=some o→(∀xs,o≠.lst xs)→H' a=some o) (hL:∀a xs,H a=some (.lst xs)→O a=none→H' a=some (.lst xs)∧O' a=none):∀{v:List V} {t:List T},Reps K O H v t→Reps K O' H' v t
 |_,_,.nil=> .nil
 |_,_,.cons h r=> .cons (Rep.mono hT hL h) (Reps.mono hT hL r)
end
theorem Reps.length:∀{vs:List V} {ts:List T},Reps K O H vs ts→vs.length=ts.length
 |_,_,.nil=>rfl
 |_,_,.cons _ r=>congrArg (· +1) r.length
theorem Reps.get:∀{vs:List V} {ts:List T} {i:Nat} {t:T},Reps K O H vs ts→ts[i]?=some t→∃v,vs[i]?=some v∧Rep K O H v t
 |_,_,_,_,.nil,e=>by simp at e
 |_,_,0,_,.cons h _,e=>by simp at e;subst e;exact⟨_,rfl,h⟩
 |_,_,i+1,t,.cons _ r,e=>by
  obtain⟨u,h1,h2⟩:=Reps.get (i:=i) (t:=t) r (by simpa using e)
  exact⟨u,by simpa using h1,h2⟩
theorem Reps.append:∀{vs ws:List V} {ts us:List T},Reps K O H vs ts→Reps K O H ws us→Reps K O H (vs++ws) (ts++us)
 |_,_,_,_,.nil,s=>s
 |_,_,_,_,.cons h r,s=> .cons h (r.append s)
theorem Reps.take:∀{vs:List V} {ts:List T} (n:Nat),Reps K O H vs ts→Reps K O H (vs.take n) (ts.take n)
 |_,_,0,_=> .nil
 |_,_,_+1,.nil=> .nil
 |_,_,n+1,.cons h r=> .cons h (r.take n)
theorem Reps.drop:∀{vs:List V} {ts:List T} (n:Nat),Reps K O H vs ts→Reps K O H (vs.drop n) (ts.drop n)
 |_,_,0,r=>r
 |_,_,_+1,.nil=> .nil
 |_,_,n+1,.cons h r=>r.drop n
theorem Reps.set{x:V}{t:T}(h:Rep K O H x t):∀{vs:List V} {ts:List T} (i:Nat),Reps K O H vs ts→Reps K O H (vs.set i x) (ts.set i t)
 |_,_,_,.nil=> .nil
 |_,_,0,.cons _ r=> .cons h r
 |_,_,i+1,.cons q r=> .cons q (Reps.set h i r)
theorem Reps.one{v:V}{t:T}(h:Rep K O H v t):Reps K O H [v] [t]:=.cons h .nil
theorem Reps.eraseIdx:∀{vs:List V} {ts:List T} (i:Nat),Reps K O H vs ts→Reps K O H (vs.eraseIdx i) (ts.eraseIdx i)
 |_,_,_,.nil=> .nil
 |_,_,0,.cons _ r=>r
 |_,_,i+1,.cons q r=> .cons q (Reps.eraseIdx i r)
def Kp(O:AG)(H:Hp)(O':AG)(H':Hp):Prop:=∀b o,H b=some o→O b=none→H' b=some o∧O' b=none
def OwnOk(K:PySem.W.Frag)(O:AG)(H:Hp):Prop:=∀a ts,O a=some ts→∃xs,H a=some (.lst xs)∧Reps K O H xs ts
theorem OwnOk.free(w:OwnOk K O H){a:Addr}{o:HO}(h:H a=some o)(hn:∀xs,o≠.lst xs):O a=none:=by
 cases e:O a with
 |none=>rfl
 |some ts=>
  obtain⟨xs,e',_⟩:=w a ts e
  rw[h] at e'
  exact absurd (Option.some.inj e') (hn xs)
theorem OwnOk.none_of(w:OwnOk K O H){a:Addr}(h:H a=none):O a=none:=by
 cases e:O a with
 |none=>rfl
 |some ts=>
  obtain⟨xs,e',_⟩:=w a ts e
  rw[h] at e';cases e'
theorem Kp.refl:Kp O H O H:=fun _ _ h n=> ⟨h,n⟩
theorem Kp.trans(a:Kp O H O1 H1)(b:Kp O1 H1 O' H'):Kp O H O' H':=fun c o h n=>b c o (a c o h n).1 (a c o h n).2
theorem Kp.oth(k:Kp O H O' H')(w:OwnOk K O H){a:Addr}{o:HO}(h:H a=some o)(hn:∀xs,o≠.lst xs):H' a=some o:=(k a _ h (w.free h hn)).1
theorem Kp.lst(k:Kp O H O' H'){a:Addr}{xs:List V}(h:H a=some (.lst xs))(n:O a=none):H' a=some (.lst xs)∧O' a=none:=k a _ h n
theorem Rep.kp(k:Kp O H O' H')(w:OwnOk K O H){v:V}{t:T}(r:Rep K O H v t):Rep K O' H' v t:=r.mono (fun _ _ h hn=>k.oth w h hn) fun _ _=>k.lst
theorem Reps.kp(k:Kp O H O' H')(w:OwnOk K O H){v:List V}{t:List T}(r:Reps K O H v t):Reps K O' H' v t:=r.mono (fun _ _ h hn=>k.oth w h hn) fun _ _=>k.lst
structure Frm(K:PySem.W.Frag)(O:AG)(H:Hp)(O':AG)(H':Hp):Prop where
 kp:Kp O H O' H'
 own:∀b ts,O b=some ts→∃ts',O' b=some ts'
 ok:OwnOk K O' H'
theorem Frm.refl(w:OwnOk K O H):Frm K O H O H:=⟨.refl,fun _ ts e=> ⟨ts,e⟩,w⟩
theorem Frm.trans(a:Frm K O H O1 H1)(b:Frm K O1 H1 O' H'):Frm K O H O' H':=⟨a.kp.trans b.kp,fun c ts e=>by
 obtain⟨t1,e1⟩:=a.own c ts e
 exact b.own c t1 e1,b.ok⟩
theorem BV{p:Addr}{o:HO}(w:OwnOk K O H)(hp:H p=none):Kp O H O (upd H p o):=fun b u h n=> ⟨by rw[AQ (AV h hp)];exact h,n⟩
theorem Frm.new{p:Addr}{o:HO}(w:OwnOk K O H)(hp:H p=none):Frm K O H O (upd H p o) where
 kp:=BV w hp
 own:=fun _ ts e=> ⟨ts,e⟩
 ok:=fun a ts e=>by
  obtain⟨xs,h,r⟩:=w a ts e
  exact⟨xs,by rw[AQ (AV h hp)];exact h,r.kp (BV w hp) w⟩
theorem JX{p:Addr}{o:HO}{ts:List T}(w:OwnOk K O H)(hp:H p=none):Kp O H (Ab O p ts) (upd H p o):=fun b u h n=>by
 have:=AV h hp
 rw[AQ this,AS this]
 exact⟨h,n⟩
theorem Frm.newO{p:Addr}{xs:List V}{ts:List T}(w:OwnOk K O H)(hp:H p=none)(r:Reps K O H xs ts):Frm K O H (Ab O p ts) (upd H p (.lst xs)) where
 kp:=JX w hp
 own:=fun b us e=>by
  by_cases hb:b=p
  ·exact⟨ts,by rw[hb,AF]⟩
  ·exact⟨us,by rw[AS hb];exact e⟩
 ok:=fun a us e=>by
  by_cases hb:a=p
  ·subst hb
   rw[AF] at e;cases e
   exact⟨xs,AO,r.kp (JX w hp) w⟩
  ·rw[AS hb] at e
   obtain⟨ys,h,q⟩:=w a us e
   exact⟨ys,by rw[AQ hb];exact h,q.kp (JX w hp) w⟩
theorem JY{a:Addr}{o:HO}{ts us:List T}(ha:O a=some ts):Kp O H (Ab O a us) (upd H a o):=fun b u h n=>by
 have:b≠a:=fun z=>by rw[z,ha] at n;cases n
 rw[AQ this,AS this]
 exact⟨h,n⟩
theorem Frm.put{a:Addr}{xs:List V}{ts us:List T}(w:OwnOk K O H)(ha:O a=some ts)(r:Reps K O H xs us):Frm K O H (Ab O a us) (upd H a (.lst xs)) where
 kp:=JY ha
 own:=fun b vs e=>by
  by_cases hb:b=a
  ·exact⟨us,by rw[hb,AF]⟩
  ·exact⟨vs,by rw[AS hb];exact e⟩
 ok:=fun b vs e=>by
  by_cases hb:b=a
  ·subst hb
   rw[AF] at e;cases e
   exact⟨xs,AO,r.kp (JY ha) w⟩
  ·rw[AS hb] at e
   obtain⟨ys,h,q⟩:=w b vs e
   exact⟨ys,by rw[AQ hb];exact h,q.kp (JY ha) w⟩
theorem CS{a:Addr}:Kp O H (CQ O a) H:=fun b u h n=> ⟨h,by
 by_cases hb:b=a
 ·rw[hb,DJ]
 ·rw[Di hb];exact n⟩
theorem OwnOk.drop{a:Addr}(w:OwnOk K O H):OwnOk K (CQ O a) H:=fun b ts e=>by
 by_cases hb:b=a
 ·rw[hb,DJ] at e;cases e
 ·rw[Di hb] at e
  obtain⟨xs,h,r⟩:=w b ts e
  exact⟨xs,h,r.kp CS w⟩
theorem OwnOk.rep{a:Addr}{ts:List T}(w:OwnOk K O H)(e:O a=some ts):Rep K (CQ O a) H (.ref a) (.lst ts):=by
 obtain⟨xs,h,r⟩:=w a ts e
 exact .lst h DJ (r.kp CS w)
end
def Rl(K:PySem.W.Frag)(O:AG)(H:Hp)(σ:St)(ρ:List (Option T)):Prop:=σ.length=ρ.length∧∀(i:Nat) (t:T),ρ[i]?=some (some t)→∃v,σ[i]?=some (some v)∧Rep K O H v t
section
variable{K:PySem.W.Frag}{O O':AG}{H H':Hp}{σ:St}{ρ:List (Option T)}
theorem Rl.kp(k:Kp O H O' H')(w:OwnOk K O H)(r:Rl K O H σ ρ):Rl K O' H' σ ρ:=⟨r.1,fun i t e=>by
 obtain⟨v,h1,h2⟩:=r.2 i t e
 exact⟨v,h1,h2.kp k w⟩⟩
theorem Rl.set{i:Nat}{v:V}{t:T}(r:Rl K O H σ ρ)(h:Rep K O H v t):Rl K O H (σ.set i (some v)) (ρ.set i (some t)):=⟨by simpa using r.1,fun j u e=>by
 by_cases hj:j=i
 ·subst hj
  have hl:j<ρ.length:=by
   have:=(List.getElem?_eq_some_iff.mp e).1
   simpa using this
  rw[List.getElem?_set_self hl] at e
  cases e
  exact⟨v,by rw[List.getElem?_set_self (by rw[r.1];exact hl)],h⟩
 ·rw[List.getElem?_set_ne (Ne.symm hj)] at e ⊢
  exact r.2 j u e⟩
end
structure Zx where
 X:Cx
 Oe:AG
 He:Hp
 Xi:Value→AG→Prop
abbrev Zx.K(Z:Zx):PySem.W.Frag:=Z.X.K
def Zx.W(Z:Zx):St→XK:=fun _ cls d H'=>d=none∧∃O',Z.Xi cls O'∧Frm Z.K Z.Oe Z.He O' H'
structure Asr(Z:Zx)(ρ:List (Option T))(O:AG)(σ:St)(H:Hp):Prop where
 rl:Rl Z.K O H σ ρ
 fr:Frm Z.K Z.Oe Z.He O H
section
variable{Z:Zx}{ρ:List (Option T)}{O O':AG}{σ:St}{H H':Hp}
theorem Asr.ok(a:Asr Z ρ O σ H):OwnOk Z.K O H:=a.fr.ok
theorem Asr.step(a:Asr Z ρ O σ H)(f:Frm Z.K O H O' H'):Asr Z ρ O' σ H':=⟨a.rl.kp f.kp a.ok,a.fr.trans f⟩
theorem Asr.refl(a:Asr Z ρ O σ H):Frm Z.K O H O H:=.refl a.ok
end
abbrev BK:=T→AG→Prop
abbrev MJ:=List T→AG→Prop
abbrev KH:=Bool→AG→Prop
def Acc(K:PySem.W.Frag)(O:AG)(H:Hp)(Φ:BK)(Q:VK):Prop:=∀v H' t O',Φ t O'→Frm K O H O' H'→Rep K O' H' v t→Q v H'
def bV(K:PySem.W.Frag)(O:AG)(H:Hp)(Φ:MJ)(Q:List V→Hp→Prop):Prop:=∀vs H' ts O',Φ ts O'→Frm K O H O' H'→Reps K O' H' vs ts→Q vs H'
def AccT(K:PySem.W.Frag)(O:AG)(H:Hp)(Φ:KH)(Q:Bool→Hp→Prop):Prop:=∀b H' O',Φ b O'→Frm K O H O' H'→Q b H'
def tW(Z:Zx)(ρ:List (Option T))(O:AG)(Φ:BK):TE:=fun σ H Q=>Asr Z ρ O σ H∧Acc Z.K O H Φ Q
def cK(Z:Zx)(ρ:List (Option T))(O:AG)(Φ:MJ):TA:=fun σ H Q=>Asr Z ρ O σ H∧bV Z.K O H Φ Q
def YD(Z:Zx)(ρ:List (Option T))(O:AG)(Φ:KH):TT:=fun σ H Q=>Asr Z ρ O σ H∧AccT Z.K O H Φ Q
def WE(Z:Zx)(ρ:List (Option T))(O:AG)(e:Expr)(Φ:BK):Prop:=PE Z.X e (tW Z ρ O Φ)
def WA(Z:Zx)(ρ:List (Option T))(O:AG)(es:List Expr)(Φ:MJ):Prop:=PA Z.X es (cK Z ρ O Φ)
def WT(Z:Zx)(ρ:List (Option T))(O:AG)(e:Expr)(Φ:KH):Prop:=PT Z.X e (YD Z ρ O Φ)
def WW(Z:Zx)(ρ:List (Option T))(O:AG)(e:Expr)(Φ:KH):Prop:=PW Z.X e (YD Z ρ O Φ)
def ET(Z:Zx)(ρ:List (Option T))(O:AG)(e:Expr)(t:T):Prop:=∀Φ:BK,Φ t O→WE Z ρ O e Φ
def EA(Z:Zx)(ρ:List (Option T))(O:AG)(es:List Expr)(ts:List T):Prop:=∀Φ:MJ,Φ ts O→WA Z ρ O es Φ
def EB(Z:Zx)(ρ:List (Option T))(O:AG)(e:Expr)(b:Bool):Prop:=∀Φ:KH,Φ b O→WT Z ρ O e Φ
theorem PE.weak{X:Cx}{e:Expr}{t t':TE}(h:PE X e t)(w:∀σ H Q,t' σ H Q→t σ H Q):PE X e t':=fun pins s σ H Q I q=>h pins s σ H Q I (w σ H Q q)
theorem PA.weak{X:Cx}{e:List Expr}{t t':TA}(h:PA X e t)(w:∀σ H Q,t' σ H Q→t σ H Q):PA X e t':=fun pos pins s σ H Q I q=>h pos pins s σ H Q I (w σ H Q q)
theorem PT.weak{X:Cx}{e:Expr}{t t':TT}(h:PT X e t)(w:∀σ H Q,t' σ H Q→t σ H Q):PT X e t':=fun pins s σ H Q I q=>h pins s σ H Q I (w σ H Q q)
theorem PW.weak{X:Cx}{e:Expr}{t t':TT}(h:PW X e t)(w:∀σ H Q,t' σ H Q→t σ H Q):PW X e t':=fun whole pins s σ H Q I q=>h whole pins s σ H Q I (w σ H Q q)
theorem PS.weak{X:Cx}{e:Stmt}{t t':TS}(h:PS X e t)(w:∀D σ H,t' D σ H→t D σ H):PS X e t':=fun pins s σ H D I q=>h pins s σ H D I (w D σ H q)
theorem PSs.weak{X:Cx}{e:List Stmt}{t t':TS}(h:PSs X e t)(w:∀D σ H,t' D σ H→t D σ H):PSs X e t':=fun pins s σ H D I q=>h pins s σ H D I (w D σ H q)
def tX(Z:Zx)(ρ:List (Option T))(e:Expr):TE:=fun σ H Q=>∃O Φ,WE Z ρ O e Φ∧tW Z ρ O Φ σ H Q
theorem BM{Z:Zx}{ρ:List (Option T)}{e:Expr}:PE Z.X e (tX Z ρ e):=fun pins s σ H Q I ⟨_,_,w,q⟩=>w pins s σ H Q I q
def ck(Z:Zx)(ρ:List (Option T))(e:List Expr):TA:=fun σ H Q=>∃O Φ,WA Z ρ O e Φ∧cK Z ρ O Φ σ H Q
theorem IA{Z:Zx}{ρ:List (Option T)}{e:List Expr}:PA Z.X e (ck Z ρ e):=fun pos pins s σ H Q I ⟨_,_,w,q⟩=>w pos pins s σ H Q I q
def cp(Z:Zx)(ρ:List (Option T))(e:Expr):TT:=fun σ H Q=>∃O Φ,WW Z ρ O e Φ∧YD Z ρ O Φ σ H Q
theorem ZD{Z:Zx}{ρ:List (Option T)}{e:Expr}:PW Z.X e (cp Z ρ e):=fun whole pins s σ H Q I ⟨_,_,w,q⟩=>w whole pins s σ H Q I q
section
variable{Z:Zx}{ρ:List (Option T)}{O:AG}{e a b:Expr}{es:List Expr}{Φ Φ':BK}{pos:Pos}{t ta tb:T}{ts:List T}
theorem Acc.mono{K:PySem.W.Frag}{H:Hp}{Q:VK}(h:Acc K O H Φ' Q)(w:∀t O',Φ t O'→Φ' t O'):Acc K O H Φ Q:=fun v H' t O' p=>h v H' t O' (w t O' p)
theorem Acc.step{K:PySem.W.Frag}{H H1:Hp}{O1:AG}{Q:VK}(h:Acc K O H Φ Q)(f:Frm K O H O1 H1):Acc K O1 H1 Φ Q:=fun v H' t O' p f' r=>h v H' t O' p (f.trans f') r
theorem AccT.step{K:PySem.W.Frag}{H H1:Hp}{O1:AG}{Φ:KH}{Q:Bool→Hp→Prop}(h:AccT K O H Φ Q)(f:Frm K O H O1 H1):AccT K O1 H1 Φ Q:=fun v H' O' p f'=>h v H' O' p (f.trans f')
theorem Ds(h:WE Z ρ O e Φ)(w:∀t O',Φ t O'→Φ' t O'):WE Z ρ O e Φ':=PE.weak h fun _ _ _ q=> ⟨q.1,q.2.mono w⟩
theorem ET.we(h:ET Z ρ O e t)(p:Φ t O):WE Z ρ O e Φ:=h Φ p
theorem Wb{i:Nat}{x:Str}(hN:Z.X.N[i]?=some x)(hv:YA Z.X.env.scope x)(e:ρ[i]?=some (some t))(p:Φ t O)(hd:(x==("__debug__" :Str))=false:=by decide)(hcd:(x==("__classdict__" :Str))=false:=by decide):WE Z ρ O (.Name x pos) Φ:=
 PE.weak (PY hN hv hd hcd) fun σ H Q q=>by
  obtain⟨v,h1,h2⟩:=q.1.rl.2 i t e
  exact⟨v,h1,q.2 v H t O p q.1.refl h2⟩
theorem ev(i:Nat){x:Str}(e:ρ[i]?=some (some t):=by rfl)(hN:Z.X.N[i]?=some x:=by rfl)(hv:YA Z.X.env.scope x:=by first|exact Or.inl rfl|exact Or.inr (Or.inl rfl)|exact Or.inr (Or.inr rfl))(hd:(x==("__debug__" :Str))=false:=by decide)
  (hcd:(x==("__classdict__" :Str))=false:=by decide):ET Z ρ O (.Name x pos) t:=fun _ p=>Wb hN hv e p hd hcd
theorem MK{v:V}(h:PE Z.X e (tC v))(r:∀O H,Rep Z.K O H v t):ET Z ρ O e t:=fun _ p=>PE.weak h fun _ H _ q=>q.2 v H _ O p q.1.refl (r O H)
theorem AB{i:Int}{j:Nat}:ET Z ρ O (.Constant (.int i) j pos) (.int i):=MK Lg fun _ _=> .int i
theorem NR{i:Bool}{j:Nat}:ET Z ρ O (.Constant (.bool i) j pos) (.bl i):=MK PZ fun _ _=> .bl i
theorem BN{j:Nat}:ET Z ρ O (.Constant .none j pos) .non:=MK Vd fun _ _=> .non
theorem Fb{x:Str}{j:Nat}:ET Z ρ O (.Constant (.str x) j pos) (.str x):=MK Ca fun _ _=> .str x
theorem Ek{x:Str}{i:Int}(hm:∃t:Tok,Z.X.mg x=some (.int i t))(hg:Gl Z.X x:=by rfl)(hd:(x==("__debug__" :Str))=false:=by decide):ET Z ρ O (.Name x pos) (.int i):=by
 cases hm with
 |intro t hm=>exact MK (Bd (v:=.int i) hg hm ⟨t,rfl⟩ hd) fun _ _=> .int i
theorem ZE{x:Str}{n:String}(hm:Z.X.mg x=none)(hv:bootBuiltins x=some (.type n))(hg:Gl Z.X x:=by rfl)(hn:x≠"__name__":=by decide)(hd:(x==("__debug__" :Str))=false:=by decide):ET Z ρ O (.Name x pos) (.raw (.ty n)):=
 MK (Mv (v:=.ty n) hg hm hv rfl hn hd) fun _ _=> .raw _
theorem GK{x:Str}{a:Addr}(hm:Z.X.mg x=some (.ref a))(hg:Gl Z.X x:=by rfl)(hd:(x==("__debug__" :Str))=false:=by decide):ET Z ρ O (.Name x pos) (.raw (.ref a)):=
 MK (Bd (v:=.ref a) hg hm rfl hd) fun _ _=> .raw _
def RT(K:PySem.W.Frag)(r:R2)(ta tb:T)(O:AG)(Φ:BK):Prop:=∀H v w Q,OwnOk K O H→Rep K O H v ta→Rep K O H w tb→Acc K O H Φ Q→r v w H Q
def RP(K:PySem.W.Frag)(r:R2)(ta tb:T)(O:AG)(t:T):Prop:=∀Φ:BK,Φ t O→RT K r ta tb O Φ
theorem JZ{r:R2}{σ:St}{H:Hp}{Q:VK}(q:tW Z ρ O Φ σ H Q)(h:WE Z ρ O a fun ta O1=>WE Z ρ O1 b fun tb O2=>RT Z.K r ta tb O2 Φ):YU r (tX Z ρ a) (tX Z ρ b) σ H Q:=
 ⟨O,_,h,q.1,fun v H1 ta O1 p f1 r1=> ⟨O1,_,p,q.1.step f1,fun w H2 tb O2 p2 f2 r2=>p2 H2 v w Q f2.ok (r1.kp f2.kp f1.ok) r2 (q.2.step (f1.trans f2))⟩⟩
theorem Cr{op:Operator}{r:R2}(ho:DC Z.X (binaryOp op) r)(h:WE Z ρ O a fun ta O1=>WE Z ρ O1 b fun tb O2=>RT Z.K r ta tb O2 Φ):WE Z ρ O (.BinOp a op b pos) Φ:=
 PE.weak (Uk ho BM BM) fun _ _ _ q=>JZ q h
theorem Wc{op:CmpOp}{r:R2}(ho:DC Z.X (compareOp op) r)(hm:behindInMarks op b=false)(h:WE Z ρ O a fun ta O1=>WE Z ρ O1 b fun tb O2=>RT Z.K r ta tb O2 Φ):WE Z ρ O (.Compare a [op] [b] pos) Φ:=
 PE.weak (Sj ho BM BM hm) fun _ _ _ q=>JZ q h
theorem Fs{op:Operator}{r:R2}(ho:DC Z.X (binaryOp op) r)(hp:RP Z.K r ta tb O t)(ha:ET Z ρ O a ta)(hb:ET Z ρ O b tb):ET Z ρ O (.BinOp a op b pos) t:=fun Φ p=>Cr ho (ha _ (hb _ (hp Φ p)))
theorem Dj{op:CmpOp}{r:R2}(ho:DC Z.X (compareOp op) r)(hm:behindInMarks op b=false)(hp:RP Z.K r ta tb O t)(ha:ET Z ρ O a ta)(hb:ET Z ρ O b tb):ET Z ρ O (.Compare a [op] [b] pos) t:=fun Φ p=>Wc ho hm (ha _ (hb _ (hp Φ p)))
theorem Ut{r:R2}(ho:Yj Z.X r)(hs:Dr b)(h:WE Z ρ O a fun ta O1=>WE Z ρ O1 b fun tb O2=>RT Z.K r ta tb O2 Φ):WE Z ρ O (.Subscript a b pos) Φ:=
 PE.weak (Pt ho BM BM hs) fun _ _ _ q=>JZ q h
theorem QW{r:R2}(ho:Yj Z.X r)(hs:Dr b)(hp:RP Z.K r ta tb O t)(ha:ET Z ρ O a ta)(hb:ET Z ρ O b tb):ET Z ρ O (.Subscript a b pos) t:=fun Φ p=>Ut ho hs (ha _ (hb _ (hp Φ p)))
theorem Al{Φ:MJ}(p:Φ [] O):WA Z ρ O [] Φ:=PA.weak BF fun _ H _ q=>q.2 [] H [] O p q.1.refl .nil
theorem Be{Φ:MJ}(h:WE Z ρ O e fun t O1=>WA Z ρ O1 es fun ts O2=>Φ (t::ts) O2)(hs:starEach (e::es) Z.X.env=(false,eval e Z.X.env)::starEach es Z.X.env:=by rfl):WA Z ρ O (e::es) Φ:=
 PA.weak (AL BM IA hs) fun σ H Q q=> ⟨O,_,h,q.1,fun v H1 t O1 p f1 r1=> ⟨O1,_,p,q.1.step f1,fun vs H2 ts O2 p2 f2 r2=>q.2 _ H2 _ O2 p2 (f1.trans f2) (.cons (r1.kp f2.kp f1.ok) r2)⟩⟩
theorem AC:EA Z ρ O [] []:=fun _ p=>Al p
theorem AJ(h:ET Z ρ O e t)(hr:EA Z ρ O es ts)(hs:starEach (e::es) Z.X.env=(false,eval e Z.X.env)::starEach es Z.X.env:=by rfl):EA Z ρ O (e::es) (t::ts):=fun Φ p=>Be (h _ (hr _ p)) hs
theorem CF{x1}(h:WA Z ρ O es fun ts O1=>ts.length≤sizeLine∧Φ (.tup ts) O1):WE Z ρ O (.Tuple es x1 pos) Φ:=
 PE.weak (Vw h) fun σ H Q q=> ⟨q.1,fun vs H1 ts O1 p f r=> ⟨by rw[r.length];exact p.1,fun a ha=>q.2 _ _ _ O1 p.2 (f.trans (.new f.ok ha)) (.tup AO (r.kp (BV f.ok ha) f.ok))⟩⟩
theorem BW{x1}(h:EA Z ρ O es ts)(hl:ts.length≤sizeLine:=by first| (show 1≤sizeLine;decide)| (show 2≤sizeLine;decide)| (show 3≤sizeLine;decide)| (show 0≤sizeLine;decide)):ET Z ρ O (.Tuple es x1 pos) (.tup ts):=fun _ p=>CF (h _ ⟨hl,p⟩)
theorem ML(h:WA Z ρ O es fun ts O1=>ts.length≤sizeLine∧Φ (.lst ts) O1):WE Z ρ O (.List es pos) Φ:=
 PE.weak (Ga h) fun σ H Q q=> ⟨q.1,fun vs H1 ts O1 p f r=> ⟨by rw[r.length];exact p.1,fun a ha=>q.2 _ _ _ O1 p.2 (f.trans (.new f.ok ha)) (.lst AO (f.ok.none_of ha) (r.kp (BV f.ok ha) f.ok))⟩⟩
theorem BG(h:EA Z ρ O es ts)(hl:ts.length≤sizeLine):ET Z ρ O (.List es pos) (.lst ts):=fun _ p=>ML (h _ ⟨hl,p⟩)
theorem El(h:WA Z ρ O es fun ts O1=>ts.length≤sizeLine∧∀a,O1 a=none→Φ (.raw (.ref a)) (Ab O1 a ts)):WE Z ρ O (.List es pos) Φ:=
 PE.weak (Ga h) fun σ H Q q=> ⟨q.1,fun vs H1 ts O1 p f r=> ⟨by rw[r.length];exact p.1,fun a ha=>q.2 _ _ _ _ (p.2 a (f.ok.none_of ha)) (f.trans (.newO f.ok ha r)) (.raw _)⟩⟩
end
section
variable{K:PySem.W.Frag}{O:AG}{H:Hp}{v:V}
theorem Rep.int_inv{i:Int}(r:Rep K O H v (.int i)):v=.int i:=by cases r;rfl
theorem Rep.bl_inv{i:Bool}(r:Rep K O H v (.bl i)):v=.bl i:=by cases r;rfl
theorem Rep.non_inv(r:Rep K O H v .non):v=.non:=by cases r;rfl
theorem Rep.str_inv{i:Str}(r:Rep K O H v (.str i)):v=.str i:=by cases r;rfl
theorem Rep.raw_inv{i:V}(r:Rep K O H v (.raw i)):v=i:=by cases r;rfl
theorem Rep.tup_inv{ts:List T}(r:Rep K O H v (.tup ts)):∃a xs,v=.ref a∧H a=some (.tup xs)∧Reps K O H xs ts:=by
 cases r with
 |tup h r=>exact⟨_,_,rfl,h,r⟩
theorem Rep.lst_inv{ts:List T}(r:Rep K O H v (.lst ts)):∃a xs,v=.ref a∧H a=some (.lst xs)∧O a=none∧Reps K O H xs ts:=by
 cases r with
 |lst h o r=>exact⟨_,_,rfl,h,o,r⟩
theorem Reps.cons_inv{vs:List V}{t:T}{ts:List T}(r:Reps K O H vs (t::ts)):∃v vs',vs=v::vs'∧Rep K O H v t∧Reps K O H vs' ts:=by
 cases r with
 |cons h r=>exact⟨_,_,rfl,h,r⟩
theorem Reps.nil_inv{vs:List V}(r:Reps K O H vs []):vs=[]:=by cases r;rfl
theorem Reps.one_inv{vs:List V}{t:T}(r:Reps K O H vs [t]):∃v,vs=[v]∧Rep K O H v t:=by
 obtain⟨v,vs',rfl,h,r⟩:=r.cons_inv
 cases r.nil_inv
 exact⟨v,rfl,h⟩
theorem Reps.two_inv{vs:List V}{t u:T}(r:Reps K O H vs [t,u]):∃v w,vs=[v,w]∧Rep K O H v t∧Rep K O H w u:=by
 obtain⟨v,vs',rfl,h,r⟩:=r.cons_inv
 obtain⟨w,rfl,h2⟩:=r.one_inv
 exact⟨v,w,rfl,h,h2⟩
theorem Reps.ints:∀{vs:List V} {ns:List Int},Reps K O H vs (ns.map T.int)→vs=ns.map V.int
 |_,[],r=>r.nil_inv
 |_,n::ns,r=>by
  obtain⟨v,vs',rfl,h,r⟩:=Reps.cons_inv r
  rw[h.int_inv,Reps.ints r]
  rfl
end
section
variable{Z:Zx}{ρ:List (Option T)}{O:AG}{e a b c:Expr}{es:List Expr}{Φ Φ':BK}{pos:Pos}{t ta tb:T}{ts:List T}{K:PySem.W.Frag}{i j:Int}
theorem EF{g:Int→Int→Int}:RP K (SY fun i j=> .int (g i j)) (.int i) (.int j) O (.int (g i j)):=fun Φ p H v w Q ok r1 r2 q=> ⟨i,j,r1.int_inv,r2.int_inv,q _ H _ O p (.refl ok) (.int _)⟩
theorem HE{g:Int→Int→Bool}:RP K (SY fun i j=> .bl (g i j)) (.int i) (.int j) O (.bl (g i j)):=fun Φ p H v w Q ok r1 r2 q=> ⟨i,j,r1.int_inv,r2.int_inv,q _ H _ O p (.refl ok) (.bl _)⟩
theorem QX{C:Int→Int→Prop}{g:Int→Int→Int}(hc:C i j):RP K (rI C fun i j=> .int (g i j)) (.int i) (.int j) O (.int (g i j)):=fun Φ p H v w Q ok r1 r2 q=> ⟨i,j,r1.int_inv,r2.int_inv,hc,q _ H _ O p (.refl ok) (.int _)⟩
theorem BX(ha:ET Z ρ O a (.int i))(hb:ET Z ρ O b (.int j)):ET Z ρ O (.BinOp a .Add b pos) (.int (i+j)):=Fs DD EF ha hb
theorem CH(ha:ET Z ρ O a (.int i))(hb:ET Z ρ O b (.int j)):ET Z ρ O (.BinOp a .Sub b pos) (.int (i-j)):=Fs Vr EF ha hb
theorem EN(ha:ET Z ρ O a (.int i))(hb:ET Z ρ O b (.int j))(h:CMul i j):ET Z ρ O (.BinOp a .Mult b pos) (.int (i*j)):=Fs Vs (QX h) ha hb
theorem Em(ha:ET Z ρ O a (.int i))(hb:ET Z ρ O b (.int j))(h:YX i j):ET Z ρ O (.BinOp a .FloorDiv b pos) (.int (i/j)):=Fs Si (QX h) ha hb
theorem Dk(ha:ET Z ρ O a (.int i))(hb:ET Z ρ O b (.int j))(h:0<j):ET Z ρ O (.BinOp a .Mod b pos) (.int (i%j)):=Fs Pi (QX h) ha hb
theorem MM(ha:ET Z ρ O a (.int i))(hb:ET Z ρ O b (.int j))(h:YY i j):ET Z ρ O (.BinOp a .Pow b pos) (.int (i^j.toNat)):=Fs Vt (QX h) ha hb
theorem QY(ha:ET Z ρ O a (.int i))(hb:ET Z ρ O b (.int j)):ET Z ρ O (.Compare a [.Lt] [b] pos) (.bl (decide (i<j))):=Dj Pj (Ae _) HE ha hb
theorem Uu(ha:ET Z ρ O a (.int i))(hb:ET Z ρ O b (.int j)):ET Z ρ O (.Compare a [.GtE] [b] pos) (.bl (decide (j≤i))):=Dj Yc (Ae _) HE ha hb
theorem Ja:RP K bG (.int i) (.int j) O (.bl (decide (i=j))):=fun Φ p H v w Q ok r1 r2 q=>by
 cases r1.int_inv;cases r2.int_inv
 refine⟨rfl,?_⟩
 have:decide (V.int i=V.int j)=decide (i=j):=by simp
 rw[this]
 exact q _ H _ O p (.refl ok) (.bl _)
theorem Wd:RP K aW (.int i) (.int j) O (.bl (!decide (i=j))):=fun Φ p H v w Q ok r1 r2 q=>by
 cases r1.int_inv;cases r2.int_inv
 refine⟨rfl,?_⟩
 have:decide (V.int i=V.int j)=decide (i=j):=by simp
 rw[this]
 exact q _ H _ O p (.refl ok) (.bl _)
theorem We{x y:Bool}:RP K bG (.bl x) (.bl y) O (.bl (x==y)):=fun Φ p H v w Q ok r1 r2 q=>by
 cases r1.bl_inv;cases r2.bl_inv
 refine⟨rfl,?_⟩
 have:decide (V.bl x=V.bl y)=(x==y):=JI
 rw[this]
 exact q _ H _ O p (.refl ok) (.bl _)
theorem Wf{x y:Bool}:RP K aW (.bl x) (.bl y) O (.bl (!(x==y))):=fun Φ p H v w Q ok r1 r2 q=>by
 cases r1.bl_inv;cases r2.bl_inv
 refine⟨rfl,?_⟩
 have:decide (V.bl x=V.bl y)=(x==y):=JI
 rw[this]
 exact q _ H _ O p (.refl ok) (.bl _)
theorem Wg(ha:ET Z ρ O a (.int i))(hb:ET Z ρ O b (.int j)):ET Z ρ O (.Compare a [.Eq] [b] pos) (.bl (decide (i=j))):=Dj KM (Ae _) Ja ha hb
theorem Wh{x y:Bool}(ha:ET Z ρ O a (.bl x))(hb:ET Z ρ O b (.bl y)):ET Z ρ O (.Compare a [.Eq] [b] pos) (.bl (x==y)):=Dj KM (Ae _) We ha hb
theorem ZF{op:UnaryOp}{g:Int→Int}(ho:aU Z.X (unaryOp op) (rU fun i=> .int (g i)))(h:ET Z ρ O a (.int i)):ET Z ρ O (.UnaryOp op a pos) (.int (g i)):=fun Φ p=>
 PE.weak (YV ho BM) fun σ H Q q=> ⟨O,_,h (fun t O'=>t=.int i∧O'=O) ⟨rfl,rfl⟩,q.1,fun v H1 t O1 ⟨e1,e2⟩ f r=>by
  subst e1;subst e2
  exact⟨i,r.int_inv,q.2 _ H1 _ _ p f (.int _)⟩⟩
theorem QZ(h:ET Z ρ O a (.int i)):ET Z ρ O (.UnaryOp .USub a pos) (.int (-i)):=ZF Vu h
theorem Qa{op op':CmpOp}{r r':R2}{tc:T}{x y:Bool}(ho:DC Z.X (compareOp op) r)(ho':DC Z.X (compareOp op') r')(hp:RP Z.K r ta tb O (.bl x))(hp':x=true→RP Z.K r' tb tc O (.bl y))
  (ha:ET Z ρ O a ta) (hb:ET Z ρ O b tb) (hc:x=true→ET Z ρ O c tc) (hm:lastMarks [op,op'] [b,c]=false:=by with_unfolding_all rfl):ET Z ρ O (.Compare a [op,op'] [b,c] pos) (.bl (x&&y)):=fun Φ p=>
 by
 refine PE.weak (Pm ho ho' (BM (ρ:=ρ)) (BM (ρ:=ρ)) (BM (ρ:=ρ)) hm) fun σ H Q q=>?_
 refine⟨O,_,ha (fun t O'=>t=ta∧O'=O) ⟨rfl,rfl⟩,q.1,?_⟩
 rintro v H1 _ _ ⟨rfl,rfl⟩ f1 r1
 refine⟨_,_,hb (fun t O'=>t=tb∧O'=_) ⟨rfl,rfl⟩,q.1.step f1,?_⟩
 rintro w H2 _ _ ⟨rfl,rfl⟩ f2 r2
 refine hp (fun t O'=>t=.bl x∧O'=_) ⟨rfl,rfl⟩ H2 v w _ f2.ok (r1.kp f2.kp f1.ok) r2 ?_
 rintro z H3 _ _ ⟨rfl,rfl⟩ f3 r3
 refine⟨x,r3.bl_inv,?_⟩
 cases x with
 |false=>exact Hx (q.2 _ H3 _ _ p (f1.trans (f2.trans f3)) (.bl _))
 |true=>
  refine GB ⟨_,_,hc rfl (fun t O'=>t=tc∧O'=_) ⟨rfl,rfl⟩,q.1.step (f1.trans (f2.trans f3)),?_⟩
  rintro w' H4 _ _ ⟨rfl,rfl⟩ f4 r4
  exact hp' rfl _ p H4 w w' _ f4.ok (r2.kp (f3.trans f4).kp f2.ok) r4 (q.2.step (f1.trans (f2.trans (f3.trans f4))))
def TruT(O:AG):T→Bool→Prop
 | .non,k=>k=false
 | .bl b,k=>k=b
 | .int i,k=>k=(i !=0)
 | .str y,k=>y.length≤sizeLine∧k=((y.length:Int) !=0)
 | .tup ts,k=>k=!ts.isEmpty
 | .lst ts,k=>k=!ts.isEmpty
 | .frz ts,k=>k=!ts.isEmpty
 | .dct,_=>False
 | .raw (.ref a),k=>∃ts,O a=some ts∧k=!ts.isEmpty
 | .raw _,_=>False
theorem Reps.isEmpty{vs:List V}{ts:List T}{H:Hp}(r:Reps K O H vs ts):vs.isEmpty=ts.isEmpty:=by cases r<;>rfl
theorem TruT.v{H:Hp}{v:V}{k:Bool}(h:TruT O t k)(r:Rep K O H v t)(ok:OwnOk K O H):Sk K v H k:=by
 cases r with
 |non=>exact h
 |bl=>exact h
 |int=>exact h
 |str=>exact h
 |tup h1 r=>
  have h:k=!_:=h
  exact .inr (.inl ⟨_,.inl (.inl h1),by rw[h,r.isEmpty]⟩)
 |lst h1 o r=>
  have h:k=!_:=h
  exact .inl ⟨_,.inl (.inl h1),by rw[h,r.isEmpty]⟩
 |frz h1 r=>
  have h:k=!_:=h
  exact .inl ⟨_,.inl (.inr ⟨_,h1⟩),by rw[h,r.isEmpty]⟩
 |dct=>exact h.elim
 |raw v=>
  cases v with
  |ref a=>
   obtain⟨ts,e,h⟩:=h
   obtain⟨xs,h1,r⟩:=ok a ts e
   exact .inl ⟨xs,.inl (.inl h1),by rw[h,r.isEmpty]⟩
  |_=>exact h.elim
theorem HF{Φ:KH}(h:WE Z ρ O e fun t O'=>∃k,TruT O' t k∧Φ k O')(he:∀whole,isTrue e Z.X.env whole=(do let v←whole;standAt e.pos;holding [v] (truthy v)):=by intro _;rfl):WT Z ρ O e Φ:=
 PT.weak (KN BM he) fun σ H Q q=> ⟨O,_,h,q.1,fun v H1 t O1 ⟨k,tr,p⟩ f r=> ⟨k,tr.v r f.ok,q.2 k H1 O1 p f⟩⟩
theorem Ks{k:Bool}(h:ET Z ρ O e t)(tr:TruT O t k)(he:∀whole,isTrue e Z.X.env whole=(do let v←whole;standAt e.pos;holding [v] (truthy v)):=by intro _;rfl):EB Z ρ O e k:=fun Φ p=>HF (h _ ⟨k,tr,p⟩) he
theorem HG{k:Bool}(h:ET Z ρ O e (.bl k))(he:∀whole,isTrue e Z.X.env whole=(do let v←whole;standAt e.pos;holding [v] (truthy v)):=by intro _;rfl):EB Z ρ O e k:=Ks h rfl he
theorem MN{Φ:KH}{op:CmpOp}{r:R2}(ho:DC Z.X (compareOp op) r)(hm:behindInMarks op b=false)(h:WE Z ρ O a fun ta O1=>WE Z ρ O1 b fun tb O2=>RT Z.K r ta tb O2 fun t O3=>∃k,t=.bl k∧Φ k O3):WT Z ρ O (.Compare a [op] [b] pos) Φ:=
 PT.weak (JJ ho BM BM hm) fun σ H Q q=>JZ (Φ:=fun t O3=>∃k,t=.bl k∧Φ k O3) ⟨q.1,fun v H' t O' ⟨k,e,p⟩ f r=>by
  subst e
  exact⟨k,r.bl_inv,q.2 k H' O' p f⟩⟩ h
theorem As{op:CmpOp}{r:R2}{k:Bool}(ho:DC Z.X (compareOp op) r)(hm:behindInMarks op b=false)(hp:RP Z.K r ta tb O (.bl k))(ha:ET Z ρ O a ta)(hb:ET Z ρ O b tb):EB Z ρ O (.Compare a [op] [b] pos) k:=fun Φ p=>
 MN ho hm (ha _ (hb _ (hp _ ⟨k,rfl,p⟩)))
theorem Uv(ha:ET Z ρ O a (.int i))(hb:ET Z ρ O b (.int j)):EB Z ρ O (.Compare a [.Lt] [b] pos) (decide (i<j)):=As Pj (Ae _) HE ha hb
theorem ZG(ha:ET Z ρ O a (.int i))(hb:ET Z ρ O b (.int j)):EB Z ρ O (.Compare a [.LtE] [b] pos) (decide (i≤j)):=As Pk (Ae _) HE ha hb
theorem NS(ha:ET Z ρ O a (.int i))(hb:ET Z ρ O b (.int j)):EB Z ρ O (.Compare a [.Gt] [b] pos) (decide (j<i)):=As Yb (Ae _) HE ha hb
theorem Ce(ha:ET Z ρ O a (.int i))(hb:ET Z ρ O b (.int j)):EB Z ρ O (.Compare a [.Eq] [b] pos) (decide (i=j)):=As KM (Ae _) Ja ha hb
theorem Qb(ha:ET Z ρ O a (.int i))(hb:ET Z ρ O b (.int j)):EB Z ρ O (.Compare a [.NotEq] [b] pos) (!decide (i=j)):=As Mz (Ae _) Wd ha hb
theorem Qc{x y:Bool}(ha:ET Z ρ O a (.bl x))(hb:ET Z ρ O b (.bl y)):EB Z ρ O (.Compare a [.NotEq] [b] pos) (!(x==y)):=As Mz (Ae _) Wf ha hb
theorem TQ{k:Int}(ha:ET Z ρ O a (.int i))(hb:ET Z ρ O b (.int j))(hc:ET Z ρ O c (.int k))(hm:lastMarks [CmpOp.LtE,.LtE] [b,c]=false:=by with_unfolding_all rfl):ET Z ρ O (.Compare a [.LtE,.LtE] [b,c] pos) (.bl (decide (i≤j)&&decide (j≤k))):=Qa Pk Pk HE (fun _=>HE) ha hb (fun _=>hc) hm
theorem MO{Φ:KH}(h:WT Z ρ O a fun k O'=>Φ (!k) O'):WT Z ρ O (.UnaryOp .Not a pos) Φ:=PT.weak (Pb h) fun σ H Q q=> ⟨q.1,fun k H1 O1 p f=>q.2 _ H1 O1 p f⟩
theorem MP{k:Bool}(h:EB Z ρ O a k):EB Z ρ O (.UnaryOp .Not a pos) (!k):=fun Φ p=>MO (h _ p)
def EW(Z:Zx)(ρ:List (Option T))(O:AG)(e:Expr)(b:Bool):Prop:=∀Φ:KH,Φ b O→WW Z ρ O e Φ
theorem EW.eb{k:Bool}(h:EW Z ρ O e k):EB Z ρ O e k:=fun Φ p=> (h Φ p).pt
theorem TR{Φ:KH}(h:WT Z ρ O a Φ):WW Z ρ O (.BoolOp .And [a] pos) Φ:=Sd h
theorem Qd{Φ:KH}(h:WT Z ρ O a Φ):WW Z ρ O (.BoolOp .Or [a] pos) Φ:=Pa h
theorem Wi{Φ:KH}(h:WT Z ρ O a fun k O1=>if k=true then WW Z ρ O1 (.BoolOp .And (b::es) pos) Φ else Φ false O1):WW Z ρ O (.BoolOp .And (a::b::es) pos) Φ:=
 PW.weak (Ve h ZD) fun σ H Q q=> ⟨q.1,fun k H1 O1 p f=>by
  cases k with
  |true=>rw[if_pos rfl] at p ⊢;exact⟨O1,_,p,q.1.step f,q.2.step f⟩
  |false=>rw[if_neg Bool.false_ne_true] at p ⊢;exact q.2 _ H1 O1 p f⟩
theorem Uw{Φ:KH}(h:WT Z ρ O a fun k O1=>if k=true then Φ true O1 else WW Z ρ O1 (.BoolOp .Or (b::es) pos) Φ):WW Z ρ O (.BoolOp .Or (a::b::es) pos) Φ:=
 PW.weak (Ui h ZD) fun σ H Q q=> ⟨q.1,fun k H1 O1 p f=>by
  cases k with
  |true=>rw[if_pos rfl] at p ⊢;exact q.2 _ H1 O1 p f
  |false=>rw[if_neg Bool.false_ne_true] at p ⊢;exact⟨O1,_,p,q.1.step f,q.2.step f⟩⟩
theorem DL{k:Bool}(h:EB Z ρ O a k):EW Z ρ O (.BoolOp .And [a] pos) k:=fun Φ p=>TR (h _ p)
theorem MQ{k:Bool}(h:EB Z ρ O a k):EW Z ρ O (.BoolOp .Or [a] pos) k:=fun Φ p=>Qd (h _ p)
theorem EO{x y:Bool}(ha:EB Z ρ O a x)(hb:x=true→EW Z ρ O (.BoolOp .And (b::es) pos) y):EW Z ρ O (.BoolOp .And (a::b::es) pos) (x&&y):=fun Φ p=>Wi (ha _ (by
 cases x with
 |true=>rw[if_pos rfl];exact hb rfl _ p
 |false=>rw[if_neg Bool.false_ne_true];exact p))
theorem Ft{x y:Bool}(ha:EB Z ρ O a x)(hb:x=false→EW Z ρ O (.BoolOp .Or (b::es) pos) y):EW Z ρ O (.BoolOp .Or (a::b::es) pos) (x||y):=fun Φ p=>Uw (ha _ (by
 cases x with
 |true=>rw[if_pos rfl];exact p
 |false=>rw[if_neg Bool.false_ne_true];exact hb rfl _ p))
theorem ER{op}(h:ET Z ρ O a t):ET Z ρ O (.BoolOp op [a] pos) t:=fun Φ p=>Vf (h Φ p)
theorem Cf{x y:Bool}(ha:ET Z ρ O a (.bl x))(hb:x=true→ET Z ρ O (.BoolOp .And (b::es) pos) (.bl y)):ET Z ρ O (.BoolOp .And (a::b::es) pos) (.bl (x&&y)):=fun Φ p=>
 by
 refine PE.weak (Vg (BM (ρ:=ρ)) (BM (ρ:=ρ))) fun σ H Q q=>?_
 refine⟨O,_,ha (fun t O'=>t=.bl x∧O'=O) ⟨rfl,rfl⟩,q.1,?_⟩
 rintro v H1 _ _ ⟨rfl,rfl⟩ f r
 refine⟨x,r.bl_inv,?_⟩
 cases x with
 |true=>exact GB ⟨_,_,hb rfl _ p,q.1.step f,q.2.step f⟩
 |false=>exact Hx (q.2 _ H1 _ _ p f (.bl _))
theorem Ux{x y:Bool}(ha:ET Z ρ O a (.bl x))(hb:x=false→ET Z ρ O (.BoolOp .Or (b::es) pos) (.bl y)):ET Z ρ O (.BoolOp .Or (a::b::es) pos) (.bl (x||y)):=fun Φ p=>
 by
 refine PE.weak (YI (BM (ρ:=ρ)) (BM (ρ:=ρ))) fun σ H Q q=>?_
 refine⟨O,_,ha (fun t O'=>t=.bl x∧O'=O) ⟨rfl,rfl⟩,q.1,?_⟩
 rintro v H1 _ _ ⟨rfl,rfl⟩ f r
 refine⟨x,r.bl_inv,?_⟩
 cases x with
 |true=>exact GB (q.2 _ H1 _ _ p f (.bl _))
 |false=>exact Hx ⟨_,_,hb rfl _ p,q.1.step f,q.2.step f⟩
theorem Wj{x:Bool}(ha:ET Z ρ O a (.bl x)):ET Z ρ O (.UnaryOp .Not a pos) (.bl (!x)):=fun Φ p=>
 PE.weak (Vh BM) fun σ H Q q=> ⟨O,_,ha (fun t O'=>t=.bl x∧O'=O) ⟨rfl,rfl⟩,q.1,fun v H1 t O1 ⟨e1,e2⟩ f r=>by
  subst e1;subst e2
  exact⟨x,r.bl_inv,q.2 _ H1 _ _ p f (.bl _)⟩⟩
theorem ZH(h:WT Z ρ O c fun k O1=>if k=true then WE Z ρ O1 a Φ else WE Z ρ O1 b Φ):WE Z ρ O (.IfExp c a b pos) Φ:=
 PE.weak (Pc h BM BM) fun σ H Q q=> ⟨q.1,fun k H1 O1 p f=>by
  cases k with
  |true=>rw[if_pos rfl] at p ⊢;exact⟨O1,_,p,q.1.step f,q.2.step f⟩
  |false=>rw[if_neg Bool.false_ne_true] at p ⊢;exact⟨O1,_,p,q.1.step f,q.2.step f⟩⟩
theorem Dl{x:Bool}(hc:EB Z ρ O c x)(ha:x=true→ET Z ρ O a ta)(hb:x=false→ET Z ρ O b tb):ET Z ρ O (.IfExp c a b pos) (if x=true then ta else tb):=fun Φ p=>ZH (hc _ (by
 cases x with
 |true=>rw[if_pos rfl] at p ⊢;exact ha rfl _ p
 |false=>rw[if_neg Bool.false_ne_true] at p ⊢;exact hb rfl _ p))
theorem Reps.atI{vs:List V}{H:Hp}(r:Reps K O H vs ts)(e:L2.atI ts i=some t):∃v,L2.atI vs i=some v∧Rep K O H v t:=by
 unfold L2.atI at e ⊢
 rw[r.length]
 cases hx:OZ ts.length i with
 |none=>rw[hx] at e;cases e
 |some j=>rw[hx] at e;exact r.get e
theorem Wl(e:atI ts i=some t):RP K (Yk K) (.tup ts) (.int i) O t:=fun Φ p H v w Q ok r1 r2 q=>by
 obtain⟨a,xs,rfl,h1,r1⟩:=r1.tup_inv
 obtain⟨x,ex,rx⟩:=r1.atI e
 exact⟨a,xs,i,x,rfl,r2.int_inv,.inl (.inl h1),ex,q _ H _ O p (.refl ok) rx⟩
theorem Qe(e:atI ts i=some t):RP K (Vx K) (.lst ts) (.int i) O t:=fun Φ p H v w Q ok r1 r2 q=>by
 obtain⟨a,xs,rfl,h1,o1,r1⟩:=r1.lst_inv
 obtain⟨x,ex,rx⟩:=r1.atI e
 exact⟨a,xs,i,x,rfl,r2.int_inv,.inl (.inl h1),ex,q _ H _ O p (.refl ok) rx⟩
theorem Wm{a:Addr}(ha:O a=some ts)(e:atI ts i=some t):RP K (Vx K) (.raw (.ref a)) (.int i) O t:=fun Φ p H v w Q ok r1 r2 q=>by
 cases r1.raw_inv
 obtain⟨xs,h1,r1⟩:=ok a ts ha
 obtain⟨x,ex,rx⟩:=r1.atI e
 exact⟨a,xs,i,x,rfl,r2.int_inv,.inl (.inl h1),ex,q _ H _ O p (.refl ok) rx⟩
theorem Ao(ha:ET Z ρ O a (.tup ts))(hb:ET Z ρ O b (.int i))(e:atI ts i=some t:=by rfl)(hs:Dr b:=by exact fun _ _=>rfl):ET Z ρ O (.Subscript a b pos) t:=QW Vy hs (Wl e) ha hb
theorem Bb(ha:ET Z ρ O a (.lst ts))(hb:ET Z ρ O b (.int i))(e:atI ts i=some t:=by rfl)(hs:Dr b:=by exact fun _ _=>rfl):ET Z ρ O (.Subscript a b pos) t:=QW Ee hs (Qe e) ha hb
theorem BY{p:Addr}(hp:O p=some ts)(ha:ET Z ρ O a (.raw (.ref p)))(hb:ET Z ρ O b (.int i))(e:atI ts i=some t:=by rfl)(hs:Dr b:=by exact fun _ _=>rfl):ET Z ρ O (.Subscript a b pos) t:=QW Ee hs (Wm hp e) ha hb
end
abbrev Cu:=List T→AG→BK→(Value→AG→Prop)→Prop
def DZ(K:PySem.W.Frag)(s:Cu):Sp:=fun vs H Q E=>∃ts O Φ Ξ,Reps K O H vs ts∧OwnOk K O H∧s ts O Φ Ξ∧Acc K O H Φ Q∧∀cls O' H',Ξ cls O'→Frm K O H O' H'→E cls none H'
structure FnT(P:Program)(w:World)(K:PySem.W.Frag)(mg:Str→Option Value)(base:Heap)(x:Str)(k:Nat)(ps:List Str)(s:Cu):Prop where
 ex:∃f fd,FnOk P w K mg base (CXe P w) k f fd ps (DZ K s)∧mg x=some (.ref f)∧PySem.W.keepIn K (.ref f)=true∧Binds K fd ps []
def MR(φ:List T→T→Prop):Cu:=fun ts O Φ _=>∃t,φ ts t∧Φ t O
section
variable{Z:Zx}{ρ:List (Option T)}{O:AG}{e a b c:Expr}{es:List Expr}{Φ Φ':BK}{pos p:Pos}{t ta tb:T}{ts:List T}{K:PySem.W.Frag}{i j:Int}{x:Str}
theorem Af{k:Nat}{ps:List Str}{s:Cu}(G:FnT Z.X.prog Z.X.w Z.X.K Z.X.mg Z.X.base x k ps s)(hr:Room k Z.X.A)(xf:XFly Z.X Z.W)(h:WA Z ρ O (e::es) fun ts O1=>s ts O1 Φ Z.Xi)(hg:Gl Z.X x:=by rfl)
  (hdb:(x==("__debug__" :Str))=false:=by decide) (he:starEach (e::es) Z.X.env=(false,eval e Z.X.env)::starEach es Z.X.env:=by rfl) (hpl:(backTo pos (starEach es Z.X.env)).any (·.1)=false:=by rfl):WE Z ρ O (.Call (.Name x p) (e::es) [] pos) Φ:=by
 obtain⟨f,fd,F,hm,hk,hb⟩:=G.ex
 refine PE.weak (Ka xf F hr hg hm hk hb (IA (ρ:=ρ)) hdb he hpl) fun σ H Q q=>?_
 exact⟨O,_,h,q.1,fun vs H1 ts O1 p f r=> ⟨ts,O1,Φ,Z.Xi,r,f.ok,p,q.2.step f,fun cls O' H' x f'=> ⟨rfl,O',x,(q.1.fr.trans f).trans f'⟩⟩⟩
theorem Dt{k:Nat}{ps:List Str}{s:Cu}(G:FnT Z.X.prog Z.X.w Z.X.K Z.X.mg Z.X.base x k ps s)(hr:Room k Z.X.A)(xf:XFly Z.X Z.W)(h:EA Z ρ O (e::es) ts)(hs:∀Φ:BK,Φ t O→s ts O Φ Z.Xi)(hg:Gl Z.X x:=by rfl)
  (hdb:(x==("__debug__" :Str))=false:=by decide) (he:starEach (e::es) Z.X.env=(false,eval e Z.X.env)::starEach es Z.X.env:=by rfl) (hpl:(backTo pos (starEach es Z.X.env)).any (·.1)=false:=by rfl):ET Z ρ O (.Call (.Name x p) (e::es) [] pos) t:=
 fun Φ p=>Af G hr xf (h _ (hs Φ p)) hg hdb he hpl
theorem BP{k:Nat}{ps:List Str}{φ:List T→T→Prop}(G:FnT Z.X.prog Z.X.w Z.X.K Z.X.mg Z.X.base x k ps (MR φ))(hr:Room k Z.X.A)(xf:XFly Z.X Z.W)(h:EA Z ρ O (e::es) ts)(hs:φ ts t)(hg:Gl Z.X x:=by rfl)
  (hdb:(x==("__debug__" :Str))=false:=by decide) (he:starEach (e::es) Z.X.env=(false,eval e Z.X.env)::starEach es Z.X.env:=by rfl) (hpl:(backTo pos (starEach es Z.X.env)).any (·.1)=false:=by rfl):ET Z ρ O (.Call (.Name x p) (e::es) [] pos) t:=
 Dt G hr xf h (fun Φ p=> ⟨t,hs,p⟩) hg hdb he hpl
def CT(K:PySem.W.Frag)(r:List V→Hp→VK→Prop)(ts:List T)(O:AG)(Φ:BK):Prop:=∀H vs Q,OwnOk K O H→Reps K O H vs ts→Acc K O H Φ Q→r vs H Q
def CP(K:PySem.W.Frag)(r:List V→Hp→VK→Prop)(ts:List T)(O:AG)(t:T):Prop:=∀Φ:BK,Φ t O→CT K r ts O Φ
theorem Kt{id:String}{r:List V→Hp→VK→Prop}(hc:Az Z.X (.builtin id) r)(hm:Z.X.mg x=none)(hv:bootBuiltins x=some (.builtin id))(h:WA Z ρ O (e::es) fun ts O1=>CT Z.K r ts O1 Φ)(hg:Gl Z.X x:=by rfl)(hn:x≠"__name__":=by decide)(hdb:(x==("__debug__" :Str))=false:=by decide)
  (he:starEach (e::es) Z.X.env=(false,eval e Z.X.env)::starEach es Z.X.env:=by rfl) (hpl:(backTo pos (starEach es Z.X.env)).any (·.1)=false:=by rfl):WE Z ρ O (.Call (.Name x p) (e::es) [] pos) Φ:=
 PE.weak (BC hc hg hm hv (IA (ρ:=ρ)) hn hdb he hpl) fun σ H Q q=> ⟨O,_,h,q.1,fun vs H1 ts O1 p f r=>p H1 vs Q f.ok r (q.2.step f)⟩
theorem Du{id:String}{r:List V→Hp→VK→Prop}(hc:Az Z.X (.type id) r)(hm:Z.X.mg x=none)(hv:bootBuiltins x=some (.type id))(h:WA Z ρ O (e::es) fun ts O1=>CT Z.K r ts O1 Φ)(hg:Gl Z.X x:=by rfl)(hn:x≠"__name__":=by decide)(hdb:(x==("__debug__" :Str))=false:=by decide)
  (he:starEach (e::es) Z.X.env=(false,eval e Z.X.env)::starEach es Z.X.env:=by rfl) (hpl:(backTo pos (starEach es Z.X.env)).any (·.1)=false:=by rfl):WE Z ρ O (.Call (.Name x p) (e::es) [] pos) Φ:=
 PE.weak (Dq hc hg hm hv (IA (ρ:=ρ)) hn hdb he hpl) fun σ H Q q=> ⟨O,_,h,q.1,fun vs H1 ts O1 p f r=>p H1 vs Q f.ok r (q.2.step f)⟩
theorem Am{id:String}{r:List V→Hp→VK→Prop}(hc:Az Z.X (.builtin id) r)(hm:Z.X.mg x=none)(hv:bootBuiltins x=some (.builtin id))(h:EA Z ρ O (e::es) ts)(hp:CP Z.K r ts O t)(hg:Gl Z.X x:=by rfl)(hn:x≠"__name__":=by decide)(hdb:(x==("__debug__" :Str))=false:=by decide)
  (he:starEach (e::es) Z.X.env=(false,eval e Z.X.env)::starEach es Z.X.env:=by rfl) (hpl:(backTo pos (starEach es Z.X.env)).any (·.1)=false:=by rfl):ET Z ρ O (.Call (.Name x p) (e::es) [] pos) t:=fun Φ q=>Kt hc hm hv (h _ (hp Φ q)) hg hn hdb he hpl
theorem Ii{id:String}{r:List V→Hp→VK→Prop}(hc:Az Z.X (.type id) r)(hm:Z.X.mg x=none)(hv:bootBuiltins x=some (.type id))(h:EA Z ρ O (e::es) ts)(hp:CP Z.K r ts O t)(hg:Gl Z.X x:=by rfl)(hn:x≠"__name__":=by decide)(hdb:(x==("__debug__" :Str))=false:=by decide)
  (he:starEach (e::es) Z.X.env=(false,eval e Z.X.env)::starEach es Z.X.env:=by rfl) (hpl:(backTo pos (starEach es Z.X.env)).any (·.1)=false:=by rfl):ET Z ρ O (.Call (.Name x p) (e::es) [] pos) t:=fun Φ q=>Du hc hm hv (h _ (hp Φ q)) hg hn hdb he hpl
def MT(K:PySem.W.Frag)(ty:String)(r:V→List V→Hp→VK→Prop)(t:T)(ts:List T)(O:AG)(Φ:BK):Prop:=∀H v vs Q,OwnOk K O H→Rep K O H v t→Reps K O H vs ts→Acc K O H Φ Q→r v vs H Q
def cL(K:PySem.W.Frag)(ty:String)(O:AG)(t:T):Prop:=∀H v,OwnOk K O H→Rep K O H v t→bL K ty v H
theorem Uy{o:Expr}{name:Str}{apos cpos:Pos}{ty id:String}{r:V→List V→Hp→VK→Prop}(pa:PlainAttrs ty)(slot:Slot ty name id)(hty:typeOf (.builtin id)=pure (.type "method_descriptor"))(hm:cJ Z.X id r)
  (h:WE Z ρ O o fun t O1=>cL Z.K ty O1 t∧WA Z ρ O1 (e::es) fun ts O2=>MT Z.K ty r t ts O2 Φ)
  (hbase:attributeBase o name Z.X.env (eval o Z.X.env)=eval o Z.X.env:=by rfl)
  (hfew:((backTo cpos (starEach (e::es) Z.X.env)).all (fun x=>!x.1)&&(backToKw cpos (keywordEach [] Z.X.env)).all (fun x=>x.1.isSome)
   &&decide ((e::es).length+([]:List Keyword).length+(if([]:List Keyword).isEmpty then 0 else 1)<30))=true:=by rfl)
  (hline:(apos.endLine==cpos.line)=true:=by rfl) (hs:starEach (e::es) Z.X.env=(false,eval e Z.X.env)::starEach es Z.X.env:=by rfl) (hplain:(backTo cpos (starEach es Z.X.env)).any (·.1)=false:=by rfl):WE Z ρ O (.Call (.Attribute o name apos) (e::es) [] cpos) Φ:=
 PE.weak (Pv pa slot hty hm (BM (ρ:=ρ)) (IA (ρ:=ρ)) hbase hfew hline hs hplain) fun σ H Q q=> ⟨O,_,h,q.1,fun v H1 t O1 ⟨ty,p⟩ f1 r1=> ⟨ty H1 v f1.ok r1,O1,_,p,q.1.step f1,fun vs H2 ts O2 p2 f2 r2=>
  p2 H2 v vs Q f2.ok (r1.kp f2.kp f1.ok) r2 (q.2.step (f1.trans f2))⟩⟩
theorem NT{a:Addr}(ha:O a=some ts):cL K "list" O (.raw (.ref a)):=fun H v ok r=>by
 cases r.raw_inv
 obtain⟨xs,h,_⟩:=ok a ts ha
 exact .inl ⟨rfl,xs,.inl (.inl h)⟩
theorem MS{a:Addr}{u:T}(ha:O a=some ts)(hl:ts.length<sizeLine)(p:Φ .non (Ab O a (ts++[u]))):MT K "list" NF (.raw (.ref a)) [u] O Φ:=fun H v vs Q ok r1 r2 q=>by
 cases r1.raw_inv
 obtain⟨w,rfl,r3⟩:=r2.one_inv
 obtain⟨xs,h,r⟩:=ok a ts ha
 exact⟨a,xs,w,rfl,rfl,h,by rw[r.length];exact hl,q _ _ _ _ p (.put ok ha (r.append (.one r3))) .non⟩
theorem Bw{o:Expr}{apos cpos:Pos}(h:WE Z ρ O o fun t O1=>∃a,t=.raw (.ref a)∧(∃ts,O1 a=some ts)∧WE Z ρ O1 e fun u O2=>∃ts,O2 a=some ts∧ts.length<sizeLine∧Φ .non (Ab O2 a (ts++[u])))
  (hbase:attributeBase o "append" Z.X.env (eval o Z.X.env)=eval o Z.X.env:=by rfl)
  (hfew:((backTo cpos (starEach [e] Z.X.env)).all (fun x=>!x.1)&&(backToKw cpos (keywordEach [] Z.X.env)).all (fun x=>x.1.isSome)
   &&decide ([e].length+([]:List Keyword).length+(if([]:List Keyword).isEmpty then 0 else 1)<30))=true:=by rfl)
  (hline:(apos.endLine==cpos.line)=true:=by rfl) (hs:starEach [e] Z.X.env=(false,eval e Z.X.env)::starEach [] Z.X.env:=by rfl) (hplain:(backTo cpos (starEach [] Z.X.env)).any (·.1)=false:=by rfl):WE Z ρ O (.Call (.Attribute o "append" apos) [e] [] cpos) Φ:=by
 refine Uy PySem.F.plainAttrs_list PySem.F.slot_list_append PySem.F.type_list_append IQ (Ds h ?_) hbase hfew hline hs hplain
 rintro t O1 ⟨a,rfl,⟨ts,hts⟩,w⟩
 refine⟨NT hts,Be (Ds w ?_) hs⟩
 rintro u O2 ⟨us,h1,h2,p⟩
 exact Al (MS h1 h2 p)
end
abbrev FP:=List (Option T)→AG→Prop
structure Es where
 nx:FP
 rt:BK
 bk:FP:=fun _ _=>False
 ct:FP:=fun _ _=>False
def AccN(Z:Zx)(O:AG)(H:Hp)(N:FP)(D:St→Hp→Prop):Prop:=∀ρ' O' σ' H',N ρ' O'→Asr Z ρ' O' σ' H'→Kp O H O' H'→D σ' H'
structure AccS(Z:Zx)(O:AG)(H:Hp)(Ψ:Es)(D:Ends):Prop where
 nx:AccN Z O H Ψ.nx D.nx
 rt:∀v H' t O',Ψ.rt t O'→Frm Z.K Z.Oe Z.He O' H'→Rep Z.K O' H' v t→D.rt v H'
 bk:AccN Z O H Ψ.bk D.bk
 ct:AccN Z O H Ψ.ct D.ct
def tS(Z:Zx)(ρ:List (Option T))(O:AG)(Ψ:Es):TS:=fun D σ H=>Asr Z ρ O σ H∧AccS Z O H Ψ D
def WS(Z:Zx)(ρ:List (Option T))(O:AG)(s:Stmt)(Ψ:Es):Prop:=PS Z.X s (tS Z ρ O Ψ)
def EG(Z:Zx)(ρ:List (Option T))(O:AG)(s:List Stmt)(Ψ:Es):Prop:=PSs Z.X s (tS Z ρ O Ψ)
def cq(Z:Zx)(ss:List Stmt):TS:=fun D σ H=>∃ρ O Ψ,EG Z ρ O ss Ψ∧tS Z ρ O Ψ D σ H
theorem Ku{Z:Zx}{ss:List Stmt}:PSs Z.X ss (cq Z ss):=fun pins s σ H D I ⟨_,_,_,w,q⟩=>w pins s σ H D I q
section
variable{Z:Zx}{ρ:List (Option T)}{O O1:AG}{e a b c:Expr}{es:List Expr}{Ψ:Es}{pos p:Pos}{t ta tb:T}{ts:List T}{i j:Nat}{x:Str}{s:Stmt}{ss:List Stmt}{H H1:Hp}{D:Ends}
theorem AccN.step{N:FP}{D:St→Hp→Prop}(h:AccN Z O H N D)(k:Kp O H O1 H1):AccN Z O1 H1 N D:=fun ρ' O' σ' H' n a k'=>h ρ' O' σ' H' n a (k.trans k')
theorem AccS.step(h:AccS Z O H Ψ D)(k:Kp O H O1 H1):AccS Z O1 H1 Ψ D:=⟨h.nx.step k,h.rt,h.bk.step k,h.ct.step k⟩
theorem BH(h:Ψ.nx ρ O):EG Z ρ O [] Ψ:=PSs.weak JG fun D σ H q=>q.2.nx ρ O σ H h q.1 .refl
theorem AD(h:WS Z ρ O s {Ψ with nx:=fun ρ' O'=>EG Z ρ' O' ss Ψ}):EG Z ρ O (s::ss) Ψ:=
 PSs.weak (Dc h Ku) fun D σ H q=> ⟨q.1,fun ρ' O' σ' H' w a k=> ⟨ρ',O',Ψ,w,a,q.2.step k⟩,q.2.rt,q.2.bk,q.2.ct⟩
theorem AE(h:WS Z ρ O s Ψ):EG Z ρ O [s] Ψ:=PSs.weak (Ed h) fun _ _ _ q=>q
theorem NU{Ψ':Es}(h:WS Z ρ O s Ψ)(n:∀ρ' O',Ψ.nx ρ' O'→Ψ'.nx ρ' O')(r:∀t O',Ψ.rt t O'→Ψ'.rt t O')(bk:∀ρ' O',Ψ.bk ρ' O'→Ψ'.bk ρ' O')(ct:∀ρ' O',Ψ.ct ρ' O'→Ψ'.ct ρ' O'):WS Z ρ O s Ψ':=
 PS.weak h fun D σ H q=> ⟨q.1,fun ρ' O' σ' H' w=>q.2.nx ρ' O' σ' H' (n ρ' O' w),fun v H' t O' w=>q.2.rt v H' t O' (r t O' w),fun ρ' O' σ' H' w=>q.2.bk ρ' O' σ' H' (bk ρ' O' w),fun ρ' O' σ' H' w=>q.2.ct ρ' O' σ' H' (ct ρ' O' w)⟩
theorem CI{p:Addr}{n:Nat}(hp:O p=some ts)(he:Z.Oe p=none)(hn:ρ[n]?=some (some (.raw (.ref p))))(h:EG Z (ρ.set n (some (.lst ts))) (CQ O p) ss Ψ):EG Z ρ O ss Ψ:=PSs.weak h fun D σ H q=>by
 refine⟨⟨?_,⟨q.1.fr.kp.trans CS,fun b us e=>?_,q.1.ok.drop⟩⟩,q.2.step CS⟩
 ·have r1:=q.1.rl.kp (CS (a:=p)) q.1.ok
  obtain⟨v,e1,e2⟩:=q.1.rl.2 n _ hn
  cases e2.raw_inv
  have r2:=r1.set (i:=n) (q.1.ok.rep hp)
  have:σ.set n (some (.ref p))=σ:=by
   apply List.ext_getElem?
   intro m
   by_cases hm:m=n
   ·subst hm
    have hl:m<σ.length:=(List.getElem?_eq_some_iff.mp e1).1
    rw[List.getElem?_set_self hl,e1]
   ·rw[List.getElem?_set_ne (Ne.symm hm)]
  rw[this] at r2
  exact r2
 ·obtain⟨us',e'⟩:=q.1.fr.own b us e
  have:b≠p:=fun z=>by rw[z,he] at e;cases e
  exact⟨us',by rw[Di this];exact e'⟩
theorem AR(h:WE Z ρ O e Ψ.rt):WS Z ρ O (.Return (some e) pos) Ψ:=PS.weak (FT h) fun D σ H q=> ⟨q.1,fun v H' t O' p f r=>q.2.rt v H' t O' p (q.1.fr.trans f) r⟩
theorem BL(h:WE Z ρ O e fun _ O'=>Ψ.nx ρ O')(hs:swapsWith e none pos.line Z.X.env=pure false:=by rfl):WS Z ρ O (.Expr e pos) Ψ:=
 PS.weak (Se h hs) fun D σ H q=> ⟨q.1,fun v H' t O' p f r=>q.2.nx ρ O' σ H' p (q.1.step f) f.kp⟩
theorem AM(i:Nat)(h:WE Z ρ O e fun t O'=>Ψ.nx (ρ.set i (some t)) O')(hN:Z.X.N.Nodup){pos':Pos}(hi:Z.X.N[i]?=some x:=by rfl)(hx:PU Z.X.env.scope x:=by first|exact Or.inl rfl|exact Or.inr rfl)(hs:swapsWith e (some (.Name x pos')) pos.line Z.X.env=pure false:=by rfl)
  (hf:Z.X.fn x=true∨Z.X.env.scope.names.lookup x=some .local:=by first|exact .inl rfl|exact .inr rfl):WS Z ρ O (.Assign [.Name x pos'] e pos) Ψ:=
 PS.weak (Lh hN hi hx h hs hf) fun D σ H q=> ⟨q.1,fun v H' t O' p f r=>q.2.nx _ O' _ H' p ⟨(q.1.step f).rl.set r,(q.1.step f).fr⟩ f.kp⟩
theorem MU{op:Operator}{ti:YM}(i:Nat){pos':Pos}(ho:aT Z.X op ti)(hρ:ρ[i]?=some (some ta))(h:WE Z ρ O e fun tb O1=>RT Z.K ti ta tb O1 fun t O2=>Ψ.nx (ρ.set i (some t)) O2)(hN:Z.X.N.Nodup)(hi:Z.X.N[i]?=some x:=by rfl)(hx:PU Z.X.env.scope x:=by first|exact Or.inl rfl|exact Or.inr rfl)
  (hf:Z.X.fn x=true∨Z.X.env.scope.names.lookup x=some .local:=by first|exact .inl rfl|exact .inr rfl):WS Z ρ O (.AugAssign (.Name x pos') op e pos) Ψ:=
 PS.weak (Vm hN hi hx h ho hf) fun D σ H q=>by
  obtain⟨v,e1,r1⟩:=q.1.rl.2 i _ hρ
  exact⟨v,e1,q.1,fun w H1 tb O1 p f r=>p H1 v w _ f.ok (r1.kp f.kp q.1.ok) r fun z H2 t O2 p2 f2 r2=>q.2.nx _ O2 _ H2 p2 ⟨(q.1.step (f.trans f2)).rl.set r2,(q.1.step (f.trans f2)).fr⟩ (f.trans f2).kp⟩
theorem Uz{ea eb:List Stmt}(h:WT Z ρ O c fun k O1=>if k=true then EG Z ρ O1 ea Ψ else EG Z ρ O1 eb Ψ):WS Z ρ O (.If c ea eb pos) Ψ:=
 PS.weak (Pd h Ku Ku) fun D σ H q=> ⟨q.1,fun k H1 O1 p f=>by
  cases k with
  |true=>rw[if_pos rfl] at p ⊢;exact⟨ρ,O1,Ψ,p,q.1.step f,q.2.step f.kp⟩
  |false=>rw[if_neg Bool.false_ne_true] at p ⊢;exact⟨ρ,O1,Ψ,p,q.1.step f,q.2.step f.kp⟩⟩
theorem BB{ea eb:List Stmt}{k:Bool}(hc:EB Z ρ O c k)(h1:k=true→EG Z ρ O ea Ψ)(h2:k=false→EG Z ρ O eb Ψ):WS Z ρ O (.If c ea eb pos) Ψ:=Uz (hc _ (by
 cases k with
 |true=>rw[if_pos rfl];exact h1 rfl
 |false=>rw[if_neg Bool.false_ne_true];exact h2 rfl))
def tG(Z:Zx)(n:Nat)(ρ:List (Option T))(O:AG)(t:T)(ρ':List (Option T)):TG:=fun v σ H Q=>Asr Z ρ O σ H∧Rep Z.K O H v t∧∀σ',Asr Z ρ' O σ' H→(σ'.length=σ.length∧∀j,n≤j→σ'[j]?=σ[j]?)→Q σ' H
def WG(Z:Zx)(n:Nat)(ρ:List (Option T))(O:AG)(tg:Expr)(t:T)(ρ':List (Option T)):Prop:=PG Z.X tg (tG Z n ρ O t ρ')
theorem PG.weak{X:Cx}{e:Expr}{t t':TG}(h:PG X e t)(w:∀v σ H Q,t' v σ H Q→t v σ H Q):PG X e t':=fun pins s σ H v u Q I r q=>h pins s σ H v u Q I r (w v σ H Q q)
def cu(Z:Zx)(n:Nat)(tg:Expr):TG:=fun v σ H Q=>∃ρ O t ρ',WG Z n ρ O tg t ρ'∧tG Z n ρ O t ρ' v σ H Q
theorem ZI{n:Nat}{tg:Expr}:PG Z.X tg (cu Z n tg):=fun pins s σ H v u Q I r ⟨_,_,_,_,w,q⟩=>w pins s σ H v u Q I r q
theorem AN(i:Nat){n:Nat}(hN:Z.X.N.Nodup)(hn:i<n)(hi:Z.X.N[i]?=some x:=by rfl)(hx:PU Z.X.env.scope x:=by first|exact Or.inl rfl|exact Or.inr rfl)
  (hf:Z.X.fn x=true∨Z.X.env.scope.names.lookup x=some .local:=by first|exact .inl rfl|exact .inr rfl):WG Z n ρ O (.Name x pos) t (ρ.set i (some t)):=
 PG.weak (JH hN hi hx hf) fun v σ H Q q=>q.2.2 _ ⟨q.1.rl.set q.2.1,q.1.fr⟩ ⟨by simp,fun j hj=>by rw[List.getElem?_set_ne (by omega)]⟩
theorem BZ(i j:Nat){n:Nat}{y:Str}{p1 p2:Pos}{k:Nat}(hc:Z.X.calm=true)(hN:Z.X.N.Nodup)(hni:i<n)(hnj:j<n)(hi:Z.X.N[i]?=some x:=by rfl)(hj:Z.X.N[j]?=some y:=by rfl)(hx:PU Z.X.env.scope x:=by first|exact Or.inl rfl|exact Or.inr rfl)(hy:PU Z.X.env.scope y:=by first|exact Or.inl rfl|exact Or.inr rfl)
  (hf:Z.X.fn x=true∨Z.X.env.scope.names.lookup x=some .local:=by first|exact .inl rfl|exact .inr rfl) (hf2:Z.X.fn y=true∨Z.X.env.scope.names.lookup y=some .local:=by first|exact .inl rfl|exact .inr rfl)
  (hs:(assignEach [.Name x p1,.Name y p2] Z.X.env).map (·.2)=assign (.Name x p1) Z.X.env::(assignEach [.Name y p2] Z.X.env).map (·.2):=by rfl) (hs2:(assignEach [.Name y p2] Z.X.env).map (·.2)=assign (.Name y p2) Z.X.env::(assignEach [] Z.X.env).map (·.2):=by rfl)
  (hl:(assignEach [.Name x p1,.Name y p2] Z.X.env).length=2:=by rfl) (hst:(assignEach [.Name x p1,.Name y p2] Z.X.env).findIdx? (·.1)=none:=by rfl):
  WG Z n ρ O (.Tuple [.Name x p1,.Name y p2] k pos) (.tup [ta,tb]) ((ρ.set i (some ta)).set j (some tb)):=
 PG.weak (Vk hc (KJ (JH hN hi hx hf) (KJ (JH hN hj hy hf2) Sf hs2) hs) hl hst) fun v σ H Q q=>by
  obtain⟨q1,q2,q3⟩:=q
  obtain⟨a,xs,rfl,h1,r⟩:=q2.tup_inv
  obtain⟨v,w,rfl,r1,r2⟩:=r.two_inv
  exact⟨a,_,rfl,.inl (.inl h1),rfl,v,_,rfl,w,_,rfl,rfl,q3 _ ⟨(q1.rl.set r1).set r2,q1.fr⟩ ⟨by simp,fun m hm=>by rw[List.getElem?_set_ne (by omega),List.getElem?_set_ne (by omega)]⟩⟩
theorem Qf{n:Nat}{tg:Expr}(h:WE Z ρ O e fun t O'=>∃ρ',WG Z n ρ O' tg t ρ'∧Ψ.nx ρ' O')(hs:swapsWithSole [tg] e pos.line Z.X.env=pure false:=by rfl)(hw:swappedStores [tg] e Z.X.env=pure none:=by rfl)
  (h1:(assignEach [tg] Z.X.env).map (·.2)=[assign tg Z.X.env]:=by rfl):WS Z ρ O (.Assign [tg] e pos) Ψ:=
 PS.weak (Pe h (ZI (n:=n)) hs hw h1) fun D σ H q=> ⟨q.1,fun v H' t O' ⟨ρ',wg,p⟩ f r=> ⟨ρ,O',t,ρ',wg,q.1.step f,r,fun σ' a _=>q.2.nx _ O' _ H' p a f.kp⟩⟩
theorem ES{o ix:Expr}{px:Pos}(h:WE Z ρ O e fun t O1=>WE Z ρ O1 o fun u O2=>∃a,u=.raw (.ref a)∧WE Z ρ O2 ix fun w O3=>∃ts k m,w=.int k∧O3 a=some ts∧OZ ts.length k=some m∧Ψ.nx ρ (Ab O3 a (ts.set m t)))
  (ha:∀v,assign (.Subscript o ix px) Z.X.env v=(do
   let ov←holding [v] (eval o Z.X.env)
   let iv←holding [v,ov] (eval ix Z.X.env)
   standAt px
   holding [v,ov,iv] (setItem ov iv v)
   release [v,ov,iv] []):=by intro _;rfl)
  (hs:swapsWithSole [.Subscript o ix px] e pos.line Z.X.env=pure false:=by rfl) (hw:swappedStores [.Subscript o ix px] e Z.X.env=pure none:=by rfl)
  (h1:(assignEach [.Subscript o ix px] Z.X.env).map (·.2)=[assign (.Subscript o ix px) Z.X.env]:=by rfl):WS Z ρ O (.Assign [.Subscript o ix px] e pos) Ψ:=by
 refine PS.weak (Pe h (Vl (BM (ρ:=ρ)) (BM (ρ:=ρ)) Pu ha) hs hw h1) fun D σ H q=> ⟨q.1,fun v H1 t O1 p1 f1 r1=>?_⟩
 refine⟨O1,_,p1,q.1.step f1,?_⟩
 rintro vo H2 _ O2 ⟨a,rfl,p2⟩ f2 r2
 refine⟨O2,_,p2,q.1.step (f1.trans f2),?_⟩
 rintro vi H3 _ O3 ⟨ts,k,m,rfl,ho,hm,p3⟩ f3 r3
 cases r2.raw_inv
 obtain⟨xs,hx,rx⟩:=f3.ok a ts ho
 have r1':=(r1.kp f2.kp f1.ok).kp f3.kp f2.ok
 have f:=f1.trans (f2.trans (f3.trans (Frm.put f3.ok ho (rx.set r1' m))))
 exact⟨a,xs,k,m,rfl,r3.int_inv,hx,by rw[rx.length];exact hm,q.2.nx ρ _ σ _ p3 (q.1.step f) f.kp⟩
def Ot(K:PySem.W.Frag)(J:It)(O:AG)(H:Hp)(ts:List T):Prop:=∀O' H',Kp O H O' H'→OwnOk K O' H'→
 (∀i,i<ts.length→J.go i H')∧(∀i x H'',J.yld i H' x H''→∀t,ts[i]?=some t→Frm K O' H' O' H''∧Rep K O' H'' x t)∧∀i,ts.length≤i→J.stop i H'
def WI(Z:Zx)(ρ:List (Option T))(O:AG)(tg iter:Expr)(Φ:MJ):Prop:=PI Z.X tg iter fun σ H R=>Asr Z ρ O σ H∧∀J H' ts O',Φ ts O'→Frm Z.K O H O' H'→Ot Z.K J O' H' ts→R J H'
theorem PI.weak{X:Cx}{tg e:Expr}{t t':TI}(h:PI X tg e t)(w:∀σ H R,t' σ H R→t σ H R):PI X tg e t':=fun pins s σ H R I q=>h pins s σ H R I (w σ H R q)
theorem Ou{K:PySem.W.Frag}{a:Addr}{xs:List V}(ok:OwnOk K O H)(h:H a=some (.lst xs))(n:O a=none)(r:Reps K O H xs ts):Ot K (az K a) O H ts:=fun O' H' k ok'=>by
 have h':=(k.lst h n).1
 have r':=r.kp k ok
 refine⟨fun i hi=>?_,fun i x H'' y t e=>?_,fun i hi=> ⟨xs,.inl (.inl h'),by rw[r.length];exact hi⟩⟩
 ·obtain⟨v,e,_⟩:=r'.get (i:=i) (t:=ts[i]) (by simp[hi])
  exact⟨xs,v,.inl (.inl h'),e⟩
 ·obtain⟨rfl,y⟩:=y
  obtain⟨v,e',q⟩:=r'.get e
  have:=y xs (.inl (.inl h'))
  rw[e'] at this;cases this
  exact⟨.refl ok',q⟩
theorem Qg{K:PySem.W.Frag}{a:Addr}{xs:List V}(ok:OwnOk K O H)(h:H a=some (.tup xs))(r:Reps K O H xs ts):Ot K (bA K a) O H ts:=fun O' H' k ok'=>by
 have h':Hs K H' a xs:=.inl (.inl (k.oth ok h fun _ z=>by cases z))
 have r':=r.kp k ok
 refine⟨fun i hi=>?_,fun i x H'' y t e=>?_,fun i hi=> ⟨xs,h',by rw[r.length];exact hi⟩⟩
 ·obtain⟨v,e,_⟩:=r'.get (i:=i) (t:=ts[i]) (by simp[hi])
  exact⟨xs,v,h',e⟩
 ·obtain⟨rfl,y⟩:=y
  obtain⟨v,e',q⟩:=r'.get e
  have:=y xs h'
  rw[e'] at this;cases this
  exact⟨.refl ok',q⟩
def Jb(lo:Int)(n:Nat):List T:=(List.range n).map fun(i:Nat)=>T.int (lo+i)
theorem AY{lo:Int}{n:Nat}:(Jb lo n).length=n:=by simp[Jb]
theorem Aw{lo:Int}{n i:Nat}(h:(Jb lo n)[i]?=some t):i<n∧t=.int (lo+i):=by
 unfold Jb at h
 rw[List.getElem?_map] at h
 by_cases hi:i<n
 ·rw[List.getElem?_range hi] at h
  cases h
  exact⟨hi,rfl⟩
 ·rw[List.getElem?_eq_none (by simpa using hi)] at h
  cases h
theorem Kv{K:PySem.W.Frag}{lo:Int}{n:Nat}:Ot K (YQ lo n) O H (Jb lo n):=fun O' H' k ok'=>by
 refine⟨fun i hi=>by rwa[AY] at hi,fun i x H'' y t e=>?_,fun i hi=>by rwa[AY] at hi⟩
 obtain⟨rfl,rfl⟩:=y
 obtain⟨_,rfl⟩:=Aw e
 exact⟨.refl ok',.int _⟩
theorem NV{tg:Expr}{Φ:MJ}(h:WE Z ρ O e fun t O'=>∃ts,t=.lst ts∧Φ ts O'):WI Z ρ O tg e Φ:=PI.weak (Sg h) fun σ H R q=> ⟨q.1,by
 rintro v H' _ O' ⟨ts,rfl,p⟩ f r
 obtain⟨a,xs,rfl,h1,n,r⟩:=r.lst_inv
 exact⟨a,rfl,⟨xs,.inl (.inl h1)⟩,q.2 _ H' ts O' p f (Ou f.ok h1 n r)⟩⟩
theorem Wn{tg:Expr}{Φ:MJ}(h:WE Z ρ O e fun t O'=>∃ts,t=.tup ts∧Φ ts O'):WI Z ρ O tg e Φ:=PI.weak (Vo h) fun σ H R q=> ⟨q.1,by
 rintro v H' _ O' ⟨ts,rfl,p⟩ f r
 obtain⟨a,xs,rfl,h1,r⟩:=r.tup_inv
 exact⟨a,rfl,⟨xs,.inl (.inl h1)⟩,q.2 _ H' ts O' p f (Qg f.ok h1 r)⟩⟩
theorem Ov{tg:Expr}{Φ:MJ}(hm:Z.X.mg "range" =none)(h:WA Z ρ O [a] fun ts O'=>∃j:Int,ts=[.int j]∧-(2^62)≤j∧j<2^62∧Φ (Jb 0 j.toNat) O')(hg:Gl Z.X "range":=by rfl)(hs:starEach [a] Z.X.env=[(false,eval a Z.X.env)]:=by rfl):WI Z ρ O tg (.Call (.Name "range" p) [a] [] pos) Φ:=
 PI.weak (OR hg hm h hs) fun σ H R q=> ⟨q.1,by
  rintro vs H' _ O' ⟨j,rfl,h1,h2,p⟩ f r
  obtain⟨v,rfl,r'⟩:=r.one_inv
  exact⟨j,by rw[r'.int_inv],h1,h2,q.2 _ H' _ O' p f Kv⟩⟩
theorem Ow{tg:Expr}{Φ:MJ}(hm:Z.X.mg "range" =none)(h:WA Z ρ O [a,b] fun ts O'=>∃i j:Int,ts=[.int i,.int j]∧(-(2^62)≤i∧i<2^62∧-(2^62)≤j∧j<2^62)∧Φ (Jb i (j-i).toNat) O')(hg:Gl Z.X "range":=by rfl)(hs:starEach [a,b] Z.X.env=[(false,eval a Z.X.env),(false,eval b Z.X.env)]:=by rfl)(hs2:starEach [b] Z.X.env=[(false,eval b Z.X.env)]:=by rfl):WI Z ρ O tg (.Call (.Name "range" p) [a,b] [] pos) Φ:=
 PI.weak (OS hg hm h hs hs2) fun σ H R q=> ⟨q.1,by
  rintro vs H' _ O' ⟨i,j,rfl,h1,p⟩ f r
  obtain⟨v,w,rfl,r1,r2⟩:=r.two_inv
  exact⟨i,j,by rw[r1.int_inv,r2.int_inv],h1,q.2 _ H' _ O' p f Kv⟩⟩
def EI(Z:Zx)(ρ:List (Option T))(O:AG)(tg iter:Expr)(ts:List T):Prop:=∀Φ:MJ,Φ ts O→WI Z ρ O tg iter Φ
theorem Ar{tg:Expr}(h:ET Z ρ O e (.lst ts)):EI Z ρ O tg e ts:=fun Φ p=>NV (h _ ⟨ts,rfl,p⟩)
theorem Fc{tg:Expr}(h:ET Z ρ O e (.tup ts)):EI Z ρ O tg e ts:=fun Φ p=>Wn (h _ ⟨ts,rfl,p⟩)
theorem Ag{tg:Expr}{k:Int}(hm:Z.X.mg "range" =none)(h:ET Z ρ O a (.int k))(h1: -(2^62)≤k∧k<2^62)(hg:Gl Z.X "range":=by rfl)(hs:starEach [a] Z.X.env=[(false,eval a Z.X.env)]:=by rfl):EI Z ρ O tg (.Call (.Name "range" p) [a] [] pos) (Jb 0 k.toNat):=fun Φ q=>Ov hm (AJ h AC hs _ ⟨k,rfl,h1.1,h1.2,q⟩) hg hs
theorem Cv{tg:Expr}{k l:Int}(hm:Z.X.mg "range" =none)(h:ET Z ρ O a (.int k))(h2:ET Z ρ O b (.int l))(h1: -(2^62)≤k∧k<2^62∧-(2^62)≤l∧l<2^62)(hg:Gl Z.X "range":=by rfl)(hs:starEach [a,b] Z.X.env=[(false,eval a Z.X.env),(false,eval b Z.X.env)]:=by rfl)(hs2:starEach [b] Z.X.env=[(false,eval b Z.X.env)]:=by rfl):EI Z ρ O tg (.Call (.Name "range" p) [a,b] [] pos) (Jb k (l-k).toNat):=
 fun Φ q=>Ow hm (AJ h (AJ h2 AC hs2) (by rw[hs,hs2]) _ ⟨k,l,rfl,h1,q⟩) hg hs hs2
theorem Au{tg iter:Expr}{body:List Stmt}(hp:PassesOwn (model Z.X.prog Z.X.w) Z.X.A Z.X.env Z.X.xe)(hc:Z.X.calm=true)
  (h:WI Z ρ O tg iter fun ts O1=>∃I:Nat→FP,I 0 ρ O1∧(∀i t ρ' O',ts[i]?=some t→I i ρ' O'→∃ρ2,WG Z Z.X.N.length ρ' O' tg t ρ2∧EG Z ρ2 O' body {nx:=I (i+1),rt:=Ψ.rt,bk:=Ψ.nx,ct:=I (i+1)})∧∀ρ' O',I ts.length ρ' O'→Ψ.nx ρ' O')
  (hs:∀x,foldedSetIterable iter Z.X.env x=pure x:=by intro _;rfl):WS Z ρ O (.For tg iter body [] pos) Ψ:=by
 refine PS.weak (Vp hp hc h (ZI (n:=Z.X.N.length)) Ku hs) fun D σ H q=> ⟨q.1,?_⟩
 rintro J H1 ts O1 ⟨I,i0,step,fin⟩ f1 it
 refine⟨fun i m σ' H'=>m=ts.length-i∧i≤ts.length∧∃ρ' O',I i ρ' O'∧Asr Z ρ' O' σ' H'∧Kp O1 H1 O' H',⟨ts.length,by simp,Nat.zero_le _,ρ,O1,i0,q.1.step f1,.refl⟩,?_⟩
 rintro i m σ2 H2 ⟨rfl,hi,ρ2,O2,i2,a2,k2⟩
 obtain⟨g1,g2,g3⟩:=it O2 H2 k2 a2.ok
 by_cases hlt:i<ts.length
 ·refine .inr ⟨g1 i hlt,fun σ' H'=>∃ρ' O',I (i+1) ρ' O'∧Asr Z ρ' O' σ' H'∧Kp O1 H1 O' H',fun σ' H' w=> ⟨_,by omega,rfl,by omega,w⟩,fun x H3 y=>?_⟩
  obtain⟨f3,r3⟩:=g2 i x H3 y ts[i] (by simp[hlt])
  obtain⟨ρ3,wg,wb⟩:=step i ts[i] ρ2 O2 (by simp[hlt]) i2
  refine⟨ρ2,O2,_,ρ3,wg,a2.step f3,r3,fun σ3 a3 _=> ⟨ρ3,O2,_,wb,a3,?_⟩⟩
  have kk:=(k2.trans f3.kp)
  exact⟨fun ρ' O' σ' H' w a k=> ⟨ρ',O',w,a,kk.trans k⟩,q.2.rt,fun ρ' O' σ' H' w a k=>q.2.nx ρ' O' σ' H' w a (f1.kp.trans (kk.trans k)),fun ρ' O' σ' H' w a k=> ⟨ρ',O',w,a,kk.trans k⟩⟩
 ·have:i=ts.length:=by omega
  subst this
  exact .inl ⟨g3 _ (Nat.le_refl _),q.2.nx ρ2 O2 σ2 H2 (fin ρ2 O2 i2) a2 (f1.kp.trans k2)⟩
end
def zc(X:Cx)(Oe:AG)(He:Hp):Zx:=⟨X,Oe,He,fun _ _=>False⟩
def IB(nc:List Str)(ρ:List (Option T))(cap:List (Str×Nat)):List (Option T):=List.replicate nc.length none++cap.map fun q=> (ρ[q.2]?).join
def aa(Z:Zx)(ρ:List (Option T))(O:AG)(ifs:List Expr)(Φ:KH):Prop:=WL Z.X ifs (YD Z ρ O Φ)
theorem BE{O:AG}{p:Addr}{ts:List T}(h:O p=none):CQ (Ab O p ts) p=O:=by
 funext b
 by_cases hb:b=p
 ·rw[hb,DJ,h]
 ·rw[Di hb,AS hb]
theorem BQ{O:AG}{p a:Addr}{ts us:List T}(h:a≠p):Ab (Ab O p ts) a us=Ab (Ab O a us) p ts:=by
 funext b
 unfold Ab
 by_cases h1:b=a
 ·subst h1;rw[if_pos rfl,if_neg h,if_pos rfl]
 ·rw[if_neg h1,if_neg h1]
section
variable{Z:Zx}{ρ:List (Option T)}{O:AG}{elt tg iter:Expr}{ifs:List Expr}{csc:Scope}{nc:List Str}{cap:List (Str×Nat)}{Φ:BK}{pos:Pos}
theorem Dv{Φ:KH}(h:Φ true O):aa Z ρ O [] Φ:=fun pins s σ H Q I q=>Sw pins s σ H Q I (q.2 true H O h q.1.refl)
theorem Jc{Φ:KH}{c:Expr}(h:WT Z ρ O c Φ):aa Z ρ O [c] Φ:=Sx h
theorem ZJ{K:PySem.W.Frag}{H:Hp}{σ:St}(r:Rl K O H σ ρ):Rl K O H (Hy nc σ cap) (IB nc ρ cap):=by
 refine⟨by simp[CO,IB],fun i t e=>?_⟩
 unfold IB at e
 have hi:nc.length≤i:=by
  by_cases hi:i<nc.length
  ·rw[List.getElem?_append_left (by simpa using hi),List.getElem?_replicate] at e
   split at e<;>cases e
  ·omega
 rw[List.getElem?_append_right (by simpa using hi),List.getElem?_map] at e
 simp only[List.length_replicate] at e
 cases hc:cap[i-nc.length]? with
 |none=>rw[hc] at e;cases e
 |some q=>
  rw[hc] at e
  have e:(ρ[q.2]?).join=some t:=Option.some.inj e
  have e':ρ[q.2]?=some (some t):=by
   cases h:ρ[q.2]? with
   |none=>rw[h] at e;cases e
   |some w=>rw[h] at e;exact congrArg some e
  obtain⟨v,h1,h2⟩:=r.2 q.2 t e'
  refine⟨v,?_,h2⟩
  show(List.replicate nc.length (none:Option V)++CO σ cap)[i]?=some (some v)
  rw[List.getElem?_append_right (by simpa using hi)]
  simp only[List.length_replicate]
  unfold CO
  rw[List.getElem?_map,hc]
  show some (σ[q.2]?).join=_
  rw[h1]
  rfl
theorem Jd{X X':Cx}{Oe:AG}{He:Hp}{Xi Xi':Value→AG→Prop}{σ:St}{H:Hp}(hK:X'.K=X.K)(a:Asr ⟨X,Oe,He,Xi⟩ ρ O σ H):Asr ⟨X',Oe,He,Xi'⟩ ρ O σ H:=by
 obtain⟨r,f⟩:=a
 refine⟨?_,?_⟩
 ·show Rl X'.K O H σ ρ
  rw[hK];exact r
 ·show Frm X'.K Oe He O H
  rw[hK];exact f
def gA(Z:Zx)(csc:Scope)(nc:List Str)(cap:List (Str×Nat))(tg:Expr):TG:=fun v σ H Q=>∃Oe He ρ O t ρ',(∀X',LcCx Z.X csc (Ak nc cap) X'→WG (zc X' Oe He) nc.length ρ O tg t ρ')∧tG (zc Z.X Oe He) nc.length ρ O t ρ' v σ H Q
def bW(Z:Zx)(csc:Scope)(nc:List Str)(cap:List (Str×Nat))(ifs:List Expr):TT:=fun σ H Q=>∃Oe He ρ O Φ,(∀X',LcCx Z.X csc (Ak nc cap) X'→aa (zc X' Oe He) ρ O ifs Φ)∧YD (zc Z.X Oe He) ρ O Φ σ H Q
def eA(Z:Zx)(csc:Scope)(nc:List Str)(cap:List (Str×Nat))(e:Expr):TE:=fun σ H Q=>∃Oe He ρ O Φ,(∀X',LcCx Z.X csc (Ak nc cap) X'→WE (zc X' Oe He) ρ O e Φ)∧tW (zc Z.X Oe He) ρ O Φ σ H Q
theorem Wo{X X':Cx}{N':List Str}(h:LcCx X csc N' X'):X'.K=X.K:=by
 obtain⟨_,_,_,_,rfl⟩:=h
 rfl
theorem Wp:∀X',LcCx Z.X csc (Ak nc cap) X'→PG X' tg (gA Z csc nc cap tg):=by
 rintro X' is pins s σ H v u Q I r ⟨Oe,He,ρ,O,t,ρ',w,a,rp,k⟩
 refine w X' is pins s σ H v u Q I r ⟨Jd (Wo is) a,?_,fun σ' a' h=>k σ' (Jd (Wo is).symm a') h⟩
 show Rep X'.K O H v t
 rw[Wo is];exact rp
theorem Qh:∀X',LcCx Z.X csc (Ak nc cap) X'→WL X' ifs (bW Z csc nc cap ifs):=by
 rintro X' is pins s σ H Q I ⟨Oe,He,ρ,O,Φ,w,a,k⟩
 refine w X' is pins s σ H Q I ⟨Jd (Wo is) a,?_⟩
 intro b H' O' p f
 refine k b H' O' p ?_
 have f:Frm X'.K O H O' H':=f
 rw[Wo is] at f;exact f
theorem Wq:∀X',LcCx Z.X csc (Ak nc cap) X'→PE X' elt (eA Z csc nc cap elt):=by
 rintro X' is pins s σ H Q I ⟨Oe,He,ρ,O,Φ,w,a,k⟩
 refine w X' is pins s σ H Q I ⟨Jd (Wo is) a,?_⟩
 intro v H' t O' p f r
 have f:Frm X'.K O H O' H':=f
 have r:Rep X'.K O' H' v t:=r
 rw[Wo is] at f r
 exact k v H' t O' p f r
def TU(Z:Zx)(ρ:List (Option T))(elt tg:Expr)(ifs:List Expr)(csc:Scope)(nc:List Str)(cap:List (Str×Nat))(F:List T→AG→Prop)(ts:List T)(O1:AG):Prop:=
 ∃I:Nat→List T→AG→Prop,I 0 [] O1∧(∀i t acc O' p,ts[i]?=some t→I i acc O'→O' p=none→∃ρ4,∀X' Oe He,LcCx Z.X csc (Ak nc cap) X'→WG (zc X' Oe He) nc.length (IB nc ρ cap) (Ab O' p acc) tg t ρ4∧
   aa (zc X' Oe He) ρ4 (Ab O' p acc) ifs fun b O2=>if b=true then∀X' Oe He,LcCx Z.X csc (Ak nc cap) X'→WE (zc X' Oe He) ρ4 O2 elt fun y O3=>∃O4,O3=Ab O4 p acc∧O4 p=none∧acc.length<sizeLine∧I (i+1) (acc++[y]) O4
    else∃O4,O2=Ab O4 p acc∧O4 p=none∧I (i+1) acc O4)∧∀acc O',I ts.length acc O'→F acc O'
theorem Qi{F:List T→AG→Prop}{σ:St}{H:Hp}{Q:VK}(a:Asr Z ρ O σ H)(h:WI Z ρ O tg iter (TU Z ρ elt tg ifs csc nc cap F))
  (fin:∀acc O' p H',F acc O'→O' p=none→Frm Z.K O H (Ab O' p acc) H'→(∀b us,O b=some us→b≠p)→Q (.ref p) H'):
  aY (fun σ H R=>Asr Z ρ O σ H∧∀J H' ts O',TU Z ρ elt tg ifs csc nc cap F ts O'→Frm Z.K O H O' H'→Ot Z.K J O' H' ts→R J H') nc cap (gA Z csc nc cap tg) (bW Z csc nc cap ifs) (eA Z csc nc cap elt) σ H Q:=by
 refine⟨a,?_⟩
 rintro J H1 ts O1 ⟨I,i0,step,done⟩ f1 it p hp
 have np:O1 p=none:=f1.ok.none_of hp
 have nb:∀b us,O1 b=some us→b≠p:=fun b us e z=>by rw[z,np] at e;cases e
 have fn:=Frm.newO (ts:=[]) (xs:=[]) f1.ok hp .nil
 refine⟨fun i m H2=>m=ts.length-i∧i≤ts.length∧∃acc O',I i acc O'∧O' p=none∧Frm Z.K O1 H1 (Ab O' p acc) H2,⟨ts.length,by simp,Nat.zero_le _,[],O1,i0,np,fn⟩,?_⟩
 rintro i m H2 ⟨rfl,hi,acc,O2,i2,n2,f2⟩
 obtain⟨g1,g2,g3⟩:=it _ H2 f2.kp f2.ok
 by_cases hlt:i<ts.length
 ·refine .inr ⟨g1 i hlt,fun H'=>∃acc O',I (i+1) acc O'∧O' p=none∧Frm Z.K O1 H1 (Ab O' p acc) H',fun H' w=> ⟨_,by omega,rfl,by omega,w⟩,fun x H3 y=>?_⟩
  obtain⟨f3,r3⟩:=g2 i x H3 y ts[i] (by simp[hlt])
  obtain⟨ρ4,st⟩:=step i ts[i] acc O2 p (by simp[hlt]) i2 n2
  have a3:Asr (zc Z.X (Ab O2 p acc) H3) (IB nc ρ cap) (Ab O2 p acc) (Hy nc σ cap) H3:=⟨ZJ ((a.rl.kp f1.kp a.ok).kp (f2.kp.trans f3.kp) f1.ok),.refl f3.ok⟩
  refine⟨Ab O2 p acc,H3,IB nc ρ cap,Ab O2 p acc,ts[i],ρ4,fun X' is=> (st X' _ _ is).1,a3,r3,fun σ4 a4 hag=> ⟨?_,?_⟩⟩
  ·refine⟨σ4.take nc.length,?_,?_⟩
   ·rw[List.length_take,hag.1]
    simp
   ·have e1:σ4.drop nc.length=CO σ cap:=by
     apply List.ext_getElem?
     intro m
     rw[List.getElem?_drop,hag.2 _ (by omega)]
     show(List.replicate nc.length (none:Option V)++CO σ cap)[nc.length+m]?=_
     rw[List.getElem?_append_right (by simp)]
     simp
    rw[←e1,List.take_append_drop]
  ·refine⟨Ab O2 p acc,H3,ρ4,Ab O2 p acc,_,fun X' is=> (st X' _ _ is).2,a4,?_⟩
   intro b H5 O5 q5 f5
   cases b with
   |false=>
    rw[if_neg Bool.false_ne_true] at q5 ⊢
    obtain⟨O4,rfl,n4,i4⟩:=q5
    exact⟨acc,O4,i4,n4,f2.trans (f3.trans f5)⟩
   |true=>
    rw[if_pos rfl] at q5 ⊢
    refine⟨Ab O2 p acc,H3,ρ4,O5,_,fun X' is=>q5 X' _ _ is,a4.step f5,?_⟩
    rintro y H6 t6 O6 ⟨O4,rfl,n4,hlen,i4⟩ f6 r6
    obtain⟨ys,hys,rys⟩:=f6.ok p acc AF
    refine⟨ys,hys,by rw[rys.length];exact hlen,acc++[t6],O4,i4,n4,?_⟩
    have fp:=Frm.put (a:=p) f6.ok AF (rys.append (.one r6))
    rw[BJ] at fp
    exact f2.trans (f3.trans (f5.trans (f6.trans fp)))
 ·have:i=ts.length:=by omega
  subst this
  refine .inl ⟨g3 _ (Nat.le_refl _),fin acc O2 p H2 (done acc O2 i2) n2 (f1.trans f2) fun b us e=>?_⟩
  obtain⟨us',e'⟩:=f1.own b us e
  exact nb b us' e'
theorem VA{σ:St}{H:Hp}{Q:VK}(h:WI Z ρ O tg iter (TU Z ρ elt tg ifs csc nc cap fun acc O'=>Φ (.lst acc) O'))(q:tW Z ρ O Φ σ H Q):
  aY (fun σ H R=>Asr Z ρ O σ H∧∀J H' ts O',TU Z ρ elt tg ifs csc nc cap (fun acc O'=>Φ (.lst acc) O') ts O'→Frm Z.K O H O' H'→Ot Z.K J O' H' ts→R J H') nc cap (gA Z csc nc cap tg) (bW Z csc nc cap ifs) (eA Z csc nc cap elt) σ H Q:=by
 refine Qi q.1 h fun acc O' p H' p1 n f nb=>q.2 _ H' _ O' p1 ?_ ?_
 ·have e:=BE (ts:=acc) n
  refine⟨fun b o e1 e2=>?_,fun b us e1=>?_,?_⟩
  ·have:=f.kp.trans (CS (a:=p)) b o e1 e2
   rw[e] at this;exact this
  ·obtain⟨us',e2⟩:=f.own b us e1
   rw[AS (nb b us e1)] at e2
   exact⟨us',e2⟩
  ·have:=f.ok.drop (a:=p)
   rw[e] at this;exact this
 ·have:=f.ok.rep (a:=p) AF
  rw[BE n] at this
  exact this
theorem Ij(hc:Z.X.calm=true)(ok:LcOk Z.X csc nc cap)(h:WI Z ρ O tg iter (TU Z ρ elt tg ifs csc nc cap fun acc O'=>Φ (.lst acc) O'))
  (hs:∀x,foldedSetIterable iter Z.X.env x=pure x:=by intro _;rfl):WE Z ρ O (.ListComp elt [⟨tg,iter,ifs,0⟩] csc pos) Φ:=
 PE.weak (Yt hc ok h Wp Qh Wq hs) fun σ H Q q=>VA h q
theorem HH{i:Nat}{x:Str}{px spos:Pos}{Ψ:Es}(hsw:swapsWith (.ListComp elt [⟨tg,iter,ifs,0⟩] csc pos) (some (.Name x px)) spos.line Z.X.env=pure true)(hN:Z.X.N.Nodup)(hc:Z.X.calm=true)(ok:LcOk Z.X csc nc cap)
  (h:WI Z ρ O tg iter (TU Z ρ elt tg ifs csc nc cap fun acc O'=>Ψ.nx (ρ.set i (some (.lst acc))) O')) (hx:Z.X.N[i]?=some x:=by rfl) (hk:Z.X.env.scope.names.lookup x=some .local:=by rfl)
  (hs:∀x,foldedSetIterable iter Z.X.env x=pure x:=by intro _;rfl):WS Z ρ O (.Assign [.Name x px] (.ListComp elt [⟨tg,iter,ifs,0⟩] csc pos) spos) Ψ:=
 PS.weak (KW hN hx hk hsw hc ok h Wp Qh Wq hs) fun D σ H q=>VA (Φ:=fun t O'=>Ψ.nx (ρ.set i (some t)) O') h ⟨q.1,fun v H' t O' p f r=>q.2.nx _ O' _ H' p ⟨(q.1.step f).rl.set r,(q.1.step f).fr⟩ f.kp⟩
end
def bX:T→String
 | .non=> "NoneType" | .bl _=> "bool" | .int _=> "int" | .str _=> "str" | .tup _=> "tuple" | .lst _=> "list" | .frz _=> "list" | .dct=> "dict" | .raw _=> "object"
def BR:T→Bool
 | .raw _=>true
 |_=>false
def ZK:T→Bool
 | .int _=>true
 | .bl _=>true
 |_=>false
def Qj:T→Bool
 | .bl _=>true
 |_=>false
def Qk(K:PySem.W.Frag)(c:String)(g:T→Bool):Prop:=∀t,BR t=false→PySem.W.kitOne K (.type (bX t)) (.type c)=some (g t)
section
variable{K:PySem.W.Frag}{O:AG}{H:Hp}{v:V}{t:T}
theorem Rep.ty(r:Rep K O H v t)(hp:BR t=false):TyOf K H v (.type (bX t)):=by
 cases r with
 |non=>exact .non
 |bl b=>exact .bl b
 |int i=>exact .int i
 |str i=>exact .str i
 |tup h=>exact .tup h
 |lst h=>exact .lst h
 |frz h=>exact .frz h
 |dct h=>exact .dK h
 |raw v=>cases hp
theorem cw(K:PySem.W.Frag):PySem.W.kitOne K (.type "NoneType") (.type "int")=some false:=by kernel_rfl
theorem cx(K:PySem.W.Frag):PySem.W.kitOne K (.type "bool") (.type "int")=some true:=by kernel_rfl
theorem cy(K:PySem.W.Frag):PySem.W.kitOne K (.type "int") (.type "int")=some true:=by rfl
theorem cz(K:PySem.W.Frag):PySem.W.kitOne K (.type "str") (.type "int")=some false:=by kernel_rfl
theorem dA(K:PySem.W.Frag):PySem.W.kitOne K (.type "tuple") (.type "int")=some false:=by kernel_rfl
theorem cM(K:PySem.W.Frag):PySem.W.kitOne K (.type "list") (.type "int")=some false:=by kernel_rfl
theorem dB(K:PySem.W.Frag):PySem.W.kitOne K (.type "dict") (.type "int")=some false:=by kernel_rfl
theorem TV:Qk K "int" ZK:=fun t h=>by
 cases t with
 |non=>exact cw K
 |bl b=>exact cx K
 |int i=>exact cy K
 |str i=>exact cz K
 |tup i=>exact dA K
 |lst i=>exact cM K
 |frz i=>exact cM K
 |dct=>exact dB K
 |raw v=>cases h
theorem dC(K:PySem.W.Frag):PySem.W.kitOne K (.type "NoneType") (.type "bool")=some false:=by kernel_rfl
theorem dD(K:PySem.W.Frag):PySem.W.kitOne K (.type "bool") (.type "bool")=some true:=by rfl
theorem dE(K:PySem.W.Frag):PySem.W.kitOne K (.type "int") (.type "bool")=some false:=by kernel_rfl
theorem dF(K:PySem.W.Frag):PySem.W.kitOne K (.type "str") (.type "bool")=some false:=by kernel_rfl
theorem dG(K:PySem.W.Frag):PySem.W.kitOne K (.type "tuple") (.type "bool")=some false:=by kernel_rfl
theorem cN(K:PySem.W.Frag):PySem.W.kitOne K (.type "list") (.type "bool")=some false:=by kernel_rfl
theorem dH(K:PySem.W.Frag):PySem.W.kitOne K (.type "dict") (.type "bool")=some false:=by kernel_rfl
theorem HI:Qk K "bool" Qj:=fun t h=>by
 cases t with
 |non=>exact dC K
 |bl b=>exact dD K
 |int i=>exact dE K
 |str i=>exact dF K
 |tup i=>exact dG K
 |lst i=>exact cN K
 |frz i=>exact cN K
 |dct=>exact dH K
 |raw v=>cases h
theorem Ws{c:String}{g:T→Bool}(hk:Qk K c g)(hp:BR t=false):CP K (Yu K) [t,.raw (.ty c)] O (.bl (g t)):=fun Φ p H vs Q ok r q=>by
 obtain⟨v,w,rfl,r1,r2⟩:=r.two_inv
 cases r2.raw_inv
 exact⟨v,.ty c,.type (bX t),.type c,g t,rfl,rfl,.inl (r1.ty hp),hk t hp,q _ H _ O p (.refl ok) (.bl _)⟩
theorem ZL:bootBuiltins "int" =some (.type "int"):=by decide+kernel
theorem Ql:bootBuiltins "bool" =some (.type "bool"):=by decide+kernel
theorem Qm:bootBuiltins "tuple" =some (.type "tuple"):=by decide+kernel
theorem Qn:bootBuiltins "list" =some (.type "list"):=by decide+kernel
theorem bZ:bootBuiltins "set" =some (.type "set"):=by decide+kernel
theorem Wt:bootBuiltins "range" =some (.type "range"):=by decide+kernel
theorem IC:bootBuiltins "isinstance" =some (.builtin "isinstance"):=by decide+kernel
theorem Wu:bootBuiltins "max" =some (.builtin "max"):=by decide+kernel
theorem TX:bootBuiltins "min" =some (.builtin "min"):=by decide+kernel
theorem Wv:bootBuiltins "len" =some (.builtin "len"):=by decide+kernel
theorem NW:bootBuiltins "sorted" =some (.builtin "sorted"):=by decide+kernel
end
section
variable{Z:Zx}{ρ:List (Option T)}{O:AG}{e a b c:Expr}{es:List Expr}{Φ:BK}{pos p:Pos}{t ta tb:T}{ts us:List T}{i j:Int}{x:Str}{lo hi:Expr}
theorem Qo{cn:String}{g:T→Bool}(mI:Z.X.mg "isinstance" =none)(mC:Z.X.mg x=none)(bC:bootBuiltins x=some (.type cn))(hk:Qk Z.K cn g)(h:ET Z ρ O e t)(hp:BR t=false){p1:Pos}(hgi:Gl Z.X "isinstance":=by rfl)(hgc:Gl Z.X x:=by rfl)
  (hn:x≠"__name__":=by decide) (hd:(x==("__debug__" :Str))=false:=by decide)
  (he:starEach [e,.Name x p1] Z.X.env=(false,eval e Z.X.env)::starEach [.Name x p1] Z.X.env:=by rfl):ET Z ρ O (.Call (.Name "isinstance" p) [e,.Name x p1] [] pos) (.bl (g t)):=
 Am BO mI IC (AJ h (AJ (ZE mC bC hgc hn hd) AC) he) (Ws hk hp) hgi (by decide) (by decide) he
theorem MV{cn:String}{g:T→Bool}(mI:Z.X.mg "isinstance" =none)(mC:Z.X.mg x=none)(bC:bootBuiltins x=some (.type cn))(hk:Qk Z.K cn g)(h:ET Z ρ O e t)(hp:BR t=false){p1:Pos}(hgi:Gl Z.X "isinstance":=by rfl)(hgc:Gl Z.X x:=by rfl)
  (hn:x≠"__name__":=by decide) (hd:(x==("__debug__" :Str))=false:=by decide)
  (he:starEach [e,.Name x p1] Z.X.env=(false,eval e Z.X.env)::starEach [.Name x p1] Z.X.env:=by rfl):EB Z ρ O (.Call (.Name "isinstance" p) [e,.Name x p1] [] pos) (g t):=
 HG (Qo mI mC bC hk h hp hgi hgc hn hd he)
theorem NX(m:Z.X.mg "len" =none)(h:ET Z ρ O e (.lst ts))(hg:Gl Z.X "len":=by rfl)(he:starEach [e] Z.X.env=(false,eval e Z.X.env)::starEach [] Z.X.env:=by rfl):ET Z ρ O (.Call (.Name "len" p) [e] [] pos) (.int ts.length):=
 Am DE m Wv (AJ h AC he) (fun Φ q H vs Q ok r k=>by
  obtain⟨v,rfl,r1⟩:=r.one_inv
  obtain⟨a,xs,rfl,h1,_,r1⟩:=r1.lst_inv
  refine⟨a,xs,rfl,.inl (.inl (.inl h1)),?_⟩
  rw[r1.length]
  exact k _ H _ O q (.refl ok) (.int _)) hg (by decide) (by decide) he
theorem NY{l:Addr}(m:Z.X.mg "len" =none)(h:ET Z ρ O e (.raw (.ref l)))(ho:O l=some ts)(hg:Gl Z.X "len":=by rfl)(he:starEach [e] Z.X.env=(false,eval e Z.X.env)::starEach [] Z.X.env:=by rfl):ET Z ρ O (.Call (.Name "len" p) [e] [] pos) (.int ts.length):=
 Am DE m Wv (AJ h AC he) (fun Φ q H vs Q ok r k=>by
  obtain⟨v,rfl,r1⟩:=r.one_inv
  cases r1.raw_inv
  obtain⟨xs,h1,r1⟩:=ok l ts ho
  refine⟨l,xs,rfl,.inl (.inl (.inl h1)),?_⟩
  rw[r1.length]
  exact k _ H _ O q (.refl ok) (.int _)) hg (by decide) (by decide) he
theorem TY(m:Z.X.mg "min" =none)(hc:Z.X.calm=true)(h:ET Z ρ O a (.int i))(h2:ET Z ρ O b (.int j))(hg:Gl Z.X "min":=by rfl)(he:starEach [a,b] Z.X.env=(false,eval a Z.X.env)::starEach [b] Z.X.env:=by rfl)(he2:starEach [b] Z.X.env=(false,eval b Z.X.env)::starEach [] Z.X.env:=by rfl)(hpl:(backTo pos (starEach [b] Z.X.env)).any (·.1)=false:=by rfl):ET Z ρ O (.Call (.Name "min" p) [a,b] [] pos) (.int (min i j)):=
 Am (OV hc) m TX (AJ h (AJ h2 AC he2) he) (fun Φ q H vs Q ok r k=>by
  obtain⟨v,w,rfl,r1,r2⟩:=r.two_inv
  cases r1.int_inv;cases r2.int_inv
  refine⟨i,j,rfl,?_⟩
  have:(if j<i then j else i)=min i j:=by split<;>omega
  rw[this]
  exact k _ H _ O q (.refl ok) (.int _)) hg (by decide) (by decide) he hpl
theorem GL(m:Z.X.mg "max" =none)(hc:Z.X.calm=true)(h:ET Z ρ O a (.int i))(h2:ET Z ρ O b (.int j))(hg:Gl Z.X "max":=by rfl)(he:starEach [a,b] Z.X.env=(false,eval a Z.X.env)::starEach [b] Z.X.env:=by rfl)(he2:starEach [b] Z.X.env=(false,eval b Z.X.env)::starEach [] Z.X.env:=by rfl)(hpl:(backTo pos (starEach [b] Z.X.env)).any (·.1)=false:=by rfl):ET Z ρ O (.Call (.Name "max" p) [a,b] [] pos) (.int (max i j)):=
 Am (OU hc) m Wu (AJ h (AJ h2 AC he2) he) (fun Φ q H vs Q ok r k=>by
  obtain⟨v,w,rfl,r1,r2⟩:=r.two_inv
  cases r1.int_inv;cases r2.int_inv
  refine⟨i,j,rfl,?_⟩
  have:(if j>i then j else i)=max i j:=by split<;>omega
  rw[this]
  exact k _ H _ O q (.refl ok) (.int _)) hg (by decide) (by decide) he hpl
theorem TZ(m:Z.X.mg "min" =none)(hc:Z.X.calm=true)(h:ET Z ρ O e (.tup [.int i,.int j]))(hg:Gl Z.X "min":=by rfl)(he:starEach [e] Z.X.env=(false,eval e Z.X.env)::starEach [] Z.X.env:=by rfl):ET Z ρ O (.Call (.Name "min" p) [e] [] pos) (.int (min i j)):=
 Am (Ig hc) m TX (AJ h AC he) (fun Φ q H vs Q ok r k=>by
  obtain⟨v,rfl,r1⟩:=r.one_inv
  obtain⟨a,xs,rfl,h1,r1⟩:=r1.tup_inv
  cases Reps.ints (ns:=[i,j]) r1
  refine⟨a,[i,j],rfl,.inr (.inl (.inl h1)),Nat.succ_pos _,fun n ⟨h1,h2⟩=>?_⟩
  have e1:=h2 i (by simp)
  have e2:=h2 j (by simp)
  have:n=min i j:=by
   rcases List.mem_cons.mp h1 with rfl|h1
   ·omega
   ·have:=List.mem_singleton.mp h1
    omega
  rw[this]
  exact k _ H _ O q (.refl ok) (.int _)) hg (by decide) (by decide) he
theorem Ta(m:Z.X.mg "max" =none)(hc:Z.X.calm=true)(h:ET Z ρ O e (.tup [.int i,.int j]))(hg:Gl Z.X "max":=by rfl)(he:starEach [e] Z.X.env=(false,eval e Z.X.env)::starEach [] Z.X.env:=by rfl):ET Z ρ O (.Call (.Name "max" p) [e] [] pos) (.int (max i j)):=
 Am (Ih hc) m Wu (AJ h AC he) (fun Φ q H vs Q ok r k=>by
  obtain⟨v,rfl,r1⟩:=r.one_inv
  obtain⟨a,xs,rfl,h1,r1⟩:=r1.tup_inv
  cases Reps.ints (ns:=[i,j]) r1
  refine⟨a,[i,j],rfl,.inr (.inl (.inl h1)),Nat.succ_pos _,fun n ⟨h1,h2⟩=>?_⟩
  have e1:=h2 i (by simp)
  have e2:=h2 j (by simp)
  have:n=max i j:=by
   rcases List.mem_cons.mp h1 with rfl|h1
   ·omega
   ·have:=List.mem_singleton.mp h1
    omega
  rw[this]
  exact k _ H _ O q (.refl ok) (.int _)) hg (by decide) (by decide) he
theorem Tc{k:Bool}(m:Z.X.mg "int" =none)(h:ET Z ρ O e (.bl k))(hg:Gl Z.X "int":=by rfl)(he:starEach [e] Z.X.env=(false,eval e Z.X.env)::starEach [] Z.X.env:=by rfl):ET Z ρ O (.Call (.Name "int" p) [e] [] pos) (.int (if k then 1 else 0)):=
 Ii OW m ZL (AJ h AC he) (fun Φ q H vs Q ok r k=>by
  obtain⟨v,rfl,r1⟩:=r.one_inv
  cases r1.bl_inv
  exact .inr ⟨_,rfl,k _ H _ O q (.refl ok) (.int _)⟩) hg (by decide) (by decide) he
theorem Cw(m:Z.X.mg "tuple" =none)(h:WE Z ρ O e fun t O'=>∃ts,t=.lst ts∧Φ (.tup ts) O')(hg:Gl Z.X "tuple":=by rfl)(he:starEach [e] Z.X.env=(false,eval e Z.X.env)::starEach [] Z.X.env:=by rfl):WE Z ρ O (.Call (.Name "tuple" p) [e] [] pos) Φ:=
 Du Fq m Qm (Be (Ds h (by
  rintro t O' ⟨ts,rfl,q⟩
  refine Al fun H vs Q ok r k=>?_
  obtain⟨v,rfl,r1⟩:=r.one_inv
  obtain⟨a,xs,rfl,h1,_,r1⟩:=r1.lst_inv
  exact⟨a,xs,rfl,.inl (.inl h1),fun p hp=>k _ _ _ O' q (.new ok hp) (.tup AO (r1.kp (BV ok hp) ok))⟩)) he) hg (by decide) (by decide) he
theorem HJ(m:Z.X.mg "tuple" =none)(h:ET Z ρ O e (.lst ts))(hg:Gl Z.X "tuple":=by rfl)(he:starEach [e] Z.X.env=(false,eval e Z.X.env)::starEach [] Z.X.env:=by rfl):ET Z ρ O (.Call (.Name "tuple" p) [e] [] pos) (.tup ts):=fun Φ q=>Cw m (h _ ⟨ts,rfl,q⟩) hg he
theorem Ox(m:Z.X.mg "list" =none)(h:ET Z ρ O e (.tup ts))(q:∀a,O a=none→Φ (.raw (.ref a)) (Ab O a ts))(hg:Gl Z.X "list":=by rfl)(he:starEach [e] Z.X.env=(false,eval e Z.X.env)::starEach [] Z.X.env:=by rfl):WE Z ρ O (.Call (.Name "list" p) [e] [] pos) Φ:=
 Du HD m Qn (AJ h AC he _ (fun H vs Q ok r k=>by
  obtain⟨v,rfl,r1⟩:=r.one_inv
  obtain⟨a,xs,rfl,h1,r1⟩:=r1.tup_inv
  exact⟨a,xs,rfl,.inr (.inl (.inl h1)),fun p hp=>k _ _ _ _ (q p (ok.none_of hp)) (.newO ok hp r1) (.raw _)⟩)) hg (by decide) (by decide) he
theorem Reps.rngs{K:PySem.W.Frag}{H:Hp}:∀(ns:List Nat),Reps K O H (ns.map fun(i:Nat)=>V.int i) (ns.map fun(i:Nat)=>T.int i)
 | []=> .nil
 |n::ns=> .cons (.int _) (Reps.rngs ns)
theorem Qp{p1 p2 pos1:Pos}(m:Z.X.mg "list" =none)(m2:Z.X.mg "range" =none)(hc:Z.X.calm=true)(h:ET Z ρ O e (.int i))(h0:0≤i)(h1:i≤1000)(q:∀a,O a=none→Φ (.raw (.ref a)) (Ab O a ((List.range i.toNat).map fun(i:Nat)=>T.int i)))
  (hg:Gl Z.X "list":=by rfl) (hg2:Gl Z.X "range":=by rfl) (he:starEach [e] Z.X.env=(false,eval e Z.X.env)::starEach [] Z.X.env:=by rfl) (he2:starEach [Expr.Call (.Name "range" p2) [e] [] pos1] Z.X.env=(false,eval (.Call (.Name "range" p2) [e] [] pos1) Z.X.env)::starEach [] Z.X.env:=by rfl):WE Z ρ O (.Call (.Name "list" p) [.Call (.Name "range" p2) [e] [] pos1] [] pos) Φ:=by
 refine PE.weak (Dq (MI hc) hg m Qn (AL (Dq Kq hg2 m2 Wt (IA (ρ:=ρ)) (by decide) (by decide) he) BF he2) (by decide) (by decide) he2) fun σ H Q k=>?_
 refine⟨O,_,AJ h AC he (fun ts O'=>ts=[.int i]∧O'=O) ⟨rfl,rfl⟩,k.1,?_⟩
 rintro vs H1 _ _ ⟨rfl,rfl⟩ f r
 obtain⟨v,rfl,r1⟩:=r.one_inv
 cases r1.int_inv
 refine⟨i,rfl,fun p hp=> ⟨p,i,rfl,AO,h0,h1,fun l hl=>?_⟩⟩
 have f1:=Frm.new (o:=.rng 0 i) f.ok hp
 exact k.2 _ _ _ _ (q l (f1.ok.none_of hl)) (f.trans (f1.trans (.newO f1.ok hl (Reps.rngs _)))) (.raw _)
end
def Oy(ts:List T)(lo hi:Option Int):List T:=(ts.drop (HT.Fz ts.length 0 lo)).take (HT.Fz ts.length ts.length hi-HT.Fz ts.length 0 lo)
section
variable{K:PySem.W.Frag}{O:AG}{H:Hp}
theorem Reps.cut{vs:List V}{ts:List T}{lo hi:Option Int}(r:Reps K O H vs ts):Reps K O H (KP vs lo hi) (Oy ts lo hi):=by
 unfold KP Oy
 rw[r.length]
 exact(r.drop _).take _
end
section
variable{Z:Zx}{ρ:List (Option T)}{O:AG}{e a b c:Expr}{es:List Expr}{Φ:BK}{pos p p2:Pos}{t ta tb:T}{ts us:List T}{i j:Int}{x:Str}{lo hi:Expr}
theorem Td(ha:ET Z ρ O a (.tup ts))(hb:ET Z ρ O b (.tup us))(hl:ts.length+us.length≤sizeLine):ET Z ρ O (.BinOp a .Add b pos) (.tup (ts++us)):=Fs TN (fun Φ p H v w Q ok r1 r2 q=>by
 obtain⟨a,xs,rfl,h1,g1⟩:=r1.tup_inv
 obtain⟨b,ys,rfl,h2,g2⟩:=r2.tup_inv
 clear r1 r2
 refine⟨a,b,xs,ys,rfl,rfl,.inl (.inl h1),.inl (.inl h2),by rw[g1.length,g2.length];exact hl,fun l H' hq=>?_⟩
 rcases hq with⟨rfl,rfl,rfl⟩| ⟨rfl,rfl,rfl⟩| ⟨hq,rfl⟩
 ·have:us=[]:=List.length_eq_zero_iff.mp g2.length.symm
  subst this
  rw[List.append_nil] at p
  exact q _ _ _ O p (.refl ok) (.tup h1 g1)
 ·have:ts=[]:=List.length_eq_zero_iff.mp g1.length.symm
  subst this
  exact q _ _ _ O p (.refl ok) (.tup h2 g2)
 ·exact q _ _ _ O p (.new ok hq) (.tup AO ((g1.append g2).kp (BV ok hq) ok))) ha hb
theorem NZ(hl:ts.length+us.length≤sizeLine){K:PySem.W.Frag}:RP K Ym (.lst ts) (.lst us) O (.lst (ts++us)):=fun Φ p H v w Q ok r1 r2 q=>by
 obtain⟨a,xs,rfl,h1,_,r1⟩:=r1.lst_inv
 obtain⟨b,ys,rfl,h2,_,r2⟩:=r2.lst_inv
 exact⟨a,b,xs,ys,rfl,rfl,h1,h2,by rw[r1.length,r2.length];exact hl,fun l hq=>q _ _ _ O p (.new ok hq) (.lst AO (ok.none_of hq) ((r1.append r2).kp (BV ok hq) ok))⟩
theorem En(ha:ET Z ρ O a (.lst ts))(hb:ET Z ρ O b (.lst us))(hl:ts.length+us.length≤sizeLine):ET Z ρ O (.BinOp a .Add b pos) (.lst (ts++us)):=Fs Lo (NZ hl) ha hb
theorem Qq{l:Addr}(hu:Z.X.A.units<cLine)(ho:O l=some ts)(ha:ET Z ρ O a (.raw (.ref l))){p1:Pos}:EB Z ρ O (.Compare a [.NotEq] [.List [] p1] pos) (!ts.isEmpty):=As (QU hu) (Ae _) (fun Φ p H v w Q ok r1 r2 q=>by
 cases r1.raw_inv
 obtain⟨b,ys,rfl,h2,_,r2⟩:=r2.lst_inv
 cases r2.nil_inv
 obtain⟨xs,h1,r1⟩:=ok l ts ho
 refine⟨l,b,xs,rfl,rfl,.inl (.inl h1),.inl (.inl h2),?_⟩
 rw[r1.isEmpty]
 exact q _ H _ O p (.refl ok) (.bl _)) ha (BG AC (Nat.zero_le _))
theorem ZM{n:Nat}(h0:0≤i)(h1:i<n):seqIndex? i n=some i.toNat:=by
 unfold seqIndex?
 have:¬i<0:=by omega
 simp only[if_neg this]
 rw[if_pos]
 simp
 omega
theorem Kw{o:Expr}{apos cpos:Pos}(h:WE Z ρ O o fun t O1=>∃l,t=.raw (.ref l)∧(∃ts,O1 l=some ts)∧WE Z ρ O1 e fun u O2=>∃ts i y,u=.int i∧O2 l=some ts∧0≤i∧i<2^63∧i<ts.length∧ts[i.toNat]?=some y∧Φ y (Ab O2 l (ts.eraseIdx i.toNat)))
  (hbase:attributeBase o "pop" Z.X.env (eval o Z.X.env)=eval o Z.X.env:=by rfl)
  (hfew:((backTo cpos (starEach [e] Z.X.env)).all (fun x=>!x.1)&&(backToKw cpos (keywordEach [] Z.X.env)).all (fun x=>x.1.isSome)
   &&decide ([e].length+([]:List Keyword).length+(if([]:List Keyword).isEmpty then 0 else 1)<30))=true:=by rfl)
  (hline:(apos.endLine==cpos.line)=true:=by rfl) (hs:starEach [e] Z.X.env=(false,eval e Z.X.env)::starEach [] Z.X.env:=by rfl) (hplain:(backTo cpos (starEach [] Z.X.env)).any (·.1)=false:=by rfl):WE Z ρ O (.Call (.Attribute o "pop" apos) [e] [] cpos) Φ:=by
 refine Uy PySem.F.plainAttrs_list PySem.F.slot_list_pop PySem.F.type_list_pop Pw (Ds h ?_) hbase hfew hline hs hplain
 rintro t O1 ⟨l,rfl,⟨ts,hts⟩,w⟩
 refine⟨NT hts,Be (Ds w ?_) hs⟩
 rintro u O2 ⟨us,i,y,rfl,h1,i0,i1,i2,hy,p⟩
 refine Al fun H v vs Q ok r1 r2 q=>?_
 cases r1.raw_inv
 obtain⟨w,rfl,r3⟩:=r2.one_inv
 cases r3.int_inv
 obtain⟨xs,hx,r⟩:=ok l us h1
 obtain⟨v,hv,rv⟩:=r.get hy
 exact⟨l,xs,i,i.toNat,v,rfl,rfl,hx,by omega,i1,by rw[r.length];exact ZM i0 i2,hv,q _ _ _ _ p (.put ok h1 (r.eraseIdx _)) (rv.kp (JY h1) ok)⟩
end
def AI(p:Int×Int):T:=.tup [.int p.1,.int p.2]
def Kx(p q:Int×Int):Prop:=p.1<q.1∨(p.1=q.1∧p.2<q.2)
section
variable{K:PySem.W.Frag}{O:AG}{H:Hp}
theorem HL:∀{ps:List (Int×Int)} {xs:List V},Reps K O H xs (ps.map AI)→∃qs:List (List Int×Addr),xs=qs.map (fun p=>V.ref p.2)∧qs.map (·.1)=ps.map (fun p=> [p.1,p.2])∧∀k x,(k,x)∈qs→H x=some (.tup (k.map V.int))
 | [],xs,r=> ⟨[],r.nil_inv,rfl,fun _ _ h=>by cases h⟩
 |p::ps,xs,r=>by
  obtain⟨v,vs',rfl,h,r'⟩:=Reps.cons_inv r
  obtain⟨a,ys,rfl,ha,r2⟩:=h.tup_inv
  cases Reps.ints (ns:=[p.1,p.2]) r2
  obtain⟨qs,rfl,e,hk⟩:=HL r'
  refine⟨([p.1,p.2],a)::qs,rfl,by rw[List.map_cons,List.map_cons,e],fun k x h=>?_⟩
  rcases List.mem_cons.mp h with h|h
  ·cases h;exact ha
  ·exact hk k x h
theorem HM:∀{qs:List (List Int×Addr)} {ps:List (Int×Int)},qs.map (·.1)=ps.map (fun p=> [p.1,p.2])→(∀k x,(k,x)∈qs→H x=some (.tup (k.map V.int)))→Reps K O H (qs.map fun p=>V.ref p.2) (ps.map AI)
 | [],[],_,_=> .nil
 | [],p::ps,e,_=>by cases e
 |q::qs,[],e,_=>by cases e
 | (k,x)::qs,p::ps,e,h=>by
  rw[List.map_cons,List.map_cons] at e
  injection e with e1 e2
  have e1:k=[p.1,p.2]:=e1
  have hx:=h k x (List.mem_cons_self ..)
  rw[e1] at hx
  exact .cons (.tup hx (.cons (.int _) (.cons (.int _) .nil))) (HM e2 fun k x hk=>h k x (List.mem_cons_of_mem _ hk))
end
theorem Je:∀{ys:List (List Int×Addr)},(∀k x,(k,x)∈ys→∃i j:Int,k=[i,j])→∃ps:List (Int×Int),ys.map (·.1)=ps.map (fun p=> [p.1,p.2])
 | [],_=> ⟨[],rfl⟩
 | (k,x)::ys,h=>by
  obtain⟨i,j,e⟩:=h k x (List.mem_cons_self ..)
  obtain⟨ps,e2⟩:=Je fun k x hk=>h k x (List.mem_cons_of_mem _ hk)
  exact⟨(i,j)::ps,by rw[List.map_cons,List.map_cons,e,e2]⟩
section
variable{Z:Zx}{ρ:List (Option T)}{O:AG}{e:Expr}{Φ:BK}{pos p p1 pos1:Pos}
theorem Eo{ps:List (Int×Int)}(m:Z.X.mg "sorted" =none)(m2:Z.X.mg "set" =none)(hc:Z.X.calm=true)(hu:Z.X.A.units+8<cLine)(h:ET Z ρ O e (.lst (ps.map AI)))(hl:ps.length≤300)(hs:∀rs:List (Int×Int),rs.Nodup→(∀q∈rs,q∈ps)→rs.length≤63)(hb:∀q∈ps,0≤q.2∧q.2<65536)
  (k:∀qs:List (Int×Int),qs.Pairwise Kx→(∀q,q∈qs↔q∈ps)→qs.length≤ps.length→Φ (.lst (qs.map AI)) O) (hg:Gl Z.X "sorted":=by rfl) (hg2:Gl Z.X "set":=by rfl) (he:starEach [e] Z.X.env=(false,eval e Z.X.env)::starEach [] Z.X.env:=by rfl)
  (he2:starEach [Expr.Call (.Name "set" p1) [e] [] pos1] Z.X.env=(false,eval (.Call (.Name "set" p1) [e] [] pos1) Z.X.env)::starEach [] Z.X.env:=by rfl):WE Z ρ O (.Call (.Name "sorted" p) [.Call (.Name "set" p1) [e] [] pos1] [] pos) Φ:=by
 refine PE.weak (BC (JV hc) hg m NW (AL (Dq (Os hc hu) hg2 m2 bZ (IA (ρ:=ρ)) (by decide) (by decide) he) BF he2) (by decide) (by decide) he2) fun σ H Q q=>?_
 refine⟨O,_,AJ h AC he (fun ts O'=>ts=[.lst (ps.map AI)]∧O'=O) ⟨rfl,rfl⟩,q.1,?_⟩
 rintro vs H1 _ _ ⟨rfl,rfl⟩ f r
 obtain⟨v,rfl,r1⟩:=r.one_inv
 obtain⟨a,xs,rfl,h1,_,r1⟩:=r1.lst_inv
 obtain⟨qs,rfl,eq,hk⟩:=HL r1
 have lq:qs.length=ps.length:=by
  have:=congrArg List.length eq
  simpa using this
 refine⟨a,qs,rfl,.inl (.inl h1),fun k x hx=> .inl (.inl (hk k x hx)),by omega,fun l xs hl1 so nd=>?_⟩
 obtain⟨s1,s2,s3⟩:=so
 have f1:=Frm.new (o:=SetO Z.X.prog Z.X.w l xs) f.ok hl1
 have hk2:∀k x,(k,x)∈xs→upd H1 l (SetO Z.X.prog Z.X.w l xs) x=some (.tup (k.map V.int)):=fun k x hx=>by
  have:=hk k x (s1 _ hx)
  rw[AQ (AV this hl1)];exact this
 have mem1:∀k x,(k,x)∈qs→∃q∈ps,k=[q.1,q.2]:=fun k x hx=>by
  have:k∈qs.map (·.1):=List.mem_map.mpr ⟨(k,x),hx,rfl⟩
  rw[eq] at this
  obtain⟨q,h1,h2⟩:=List.mem_map.mp this
  exact⟨q,h1,h2.symm⟩
 have two:∀k x,(k,x)∈xs→∃i j,k=[i,j]∧0≤j∧j<65536:=fun k x hx=>by
  obtain⟨q,h1,h2⟩:=mem1 k x (s1 _ hx)
  exact⟨q.1,q.2,h2,hb q h1⟩
 have hx63:xs.length≤63:=by
  obtain⟨r0,e0⟩:=Je (ys:=xs) fun k x hx=>by
   obtain⟨i,j,e,_⟩:=two k x hx
   exact⟨i,j,e⟩
  have l0:=congrArg List.length e0
  rw[List.length_map,List.length_map] at l0
  rw[l0]
  refine hs r0 ?_ fun z hz=>?_
  ·have n0:(xs.map (·.1)).Pairwise (·≠·):=nd
   rw[e0,List.pairwise_map] at n0
   exact n0.imp fun h e=>h (by rw[e])
  ·have:[z.1,z.2]∈xs.map (·.1):=by rw[e0];exact List.mem_map.mpr ⟨z,hz,rfl⟩
   obtain⟨⟨k,x⟩,h1,h2⟩:=List.mem_map.mp this
   have h2:k=_:=h2
   subst h2
   obtain⟨q',m1,m2⟩:=mem1 _ x (s1 _ h1)
   injection m2 with a1 a2
   injection a2 with a2 _
   rw[show z=q' from Prod.ext a1 a2]
   exact m1
 refine⟨l,xs,rfl,AO,fun k x hx=> .inl (.inl (hk2 k x hx)),hx63,two,fun d ys hd pm pw=>?_⟩
 obtain⟨rs,er⟩:=Je (ys:=ys) fun k x hx=>by
  obtain⟨i,j,e,_⟩:=two k x (pm.mem_iff.mp hx)
  exact⟨i,j,e⟩
 have f2:=Frm.new (o:=.lst (ys.map fun p=>V.ref p.2)) f1.ok hd
 have hk3:∀k x,(k,x)∈ys→upd (upd H1 l (SetO Z.X.prog Z.X.w l xs)) d (.lst (ys.map fun p=>V.ref p.2)) x=some (.tup (k.map V.int)):=fun k x hx=>by
  have:=hk2 k x (pm.mem_iff.mp hx)
  rw[AQ (AV this hd)];exact this
 have memr:∀z,z∈rs↔∃x,([z.1,z.2],x)∈ys:=fun z=>by
  constructor
  ·intro hz
   have:[z.1,z.2]∈ys.map (·.1):=by rw[er];exact List.mem_map.mpr ⟨z,hz,rfl⟩
   obtain⟨⟨k,x⟩,h1,h2⟩:=List.mem_map.mp this
   have h2:k=_:=h2
   subst h2
   exact⟨x,h1⟩
  ·rintro⟨x,hx⟩
   have:[z.1,z.2]∈ys.map (·.1):=List.mem_map.mpr ⟨_,hx,rfl⟩
   rw[er] at this
   obtain⟨w,h1,h2⟩:=List.mem_map.mp this
   injection h2 with e1 e2
   injection e2 with e2 _
   have:w=z:=Prod.ext e1 e2
   rw[←this];exact h1
 have ndy:(ys.map (·.1)).Nodup:=(pm.map _).nodup_iff.mpr nd
 refine q.2 _ _ _ _ (k rs ?_ (fun z=>?_) ?_) (f.trans (f1.trans f2)) (.lst AO (f1.ok.none_of hd) (HM er hk3))
 ·--strictly rising
  have pw':rs.Pairwise fun x y=>65536*x.1+x.2≤65536*y.1+y.2:=by
   have h3:(ys.map (·.1)).Pairwise fun x y=>65536*x.getD 0 0+x.getD 1 0≤65536*y.getD 0 0+y.getD 1 0:=List.pairwise_map.mpr pw
   rw[er] at h3
   exact(List.pairwise_map (f:=fun(p:Int×Int)=> [p.1,p.2]) (R:=fun x y=>65536*x.getD 0 0+x.getD 1 0≤65536*y.getD 0 0+y.getD 1 0)).mp h3
  have nd':rs.Pairwise fun x y=>x≠y:=by
   have h3:(ys.map (·.1)).Pairwise (·≠·):=ndy
   rw[er] at h3
   exact(List.pairwise_map.mp h3).imp fun hxy z=>hxy (by rw[z])
  refine(pw'.and nd').imp_of_mem fun{x y} hx hy ⟨h1,h2⟩=>?_
  have bnd:∀z,z∈rs→0≤z.2∧z.2<65536:=fun z hz=>by
   obtain⟨v,hv⟩:=(memr z).mp hz
   obtain⟨i,j,e,hj⟩:=two _ v (pm.mem_iff.mp hv)
   injection e with e1 e2
   injection e2 with e2 _
   omega
  have b1:=bnd x hx
  have b2:=bnd y hy
  unfold Kx
  have:¬(x.1=y.1∧x.2=y.2):=fun z=>h2 (Prod.ext z.1 z.2)
  omega
 ·rw[memr]
  constructor
  ·rintro⟨x,hx⟩
   obtain⟨w,h1,h2⟩:=mem1 _ x (s1 _ (pm.mem_iff.mp hx))
   injection h2 with e1 e2
   injection e2 with e2 _
   have:z=w:=Prod.ext e1 e2
   rw[this];exact h1
  ·intro hz
   have:[z.1,z.2]∈qs.map (·.1):=by rw[eq];exact List.mem_map.mpr ⟨z,hz,rfl⟩
   obtain⟨⟨k,x⟩,h1,h2⟩:=List.mem_map.mp this
   have h2:k=_:=h2
   subst h2
   obtain⟨x',hx'⟩:=s2 _ _ h1
   exact⟨x',pm.mem_iff.mpr hx'⟩
 ·have e1:rs.length=ys.length:=by
   have:=congrArg List.length er
   simpa using this.symm
  have e2:=pm.length_eq
  omega
end
theorem XFly.mono{X:Cx}{W W':St→XK}(x:XFly X W)(h:∀σ cls H',W' σ cls none H'→W σ cls none H'):XFly X W':=⟨fun pins σ H s e s' I c=>x.fly pins σ H s e s' I (by
 obtain⟨y,cls,H',e1,f,q⟩:=c
 exact⟨y,cls,H',e1,f,h σ cls H' q⟩)⟩
theorem DM{X:Cx}{Oe:AG}{He:Hp}:XFly X (zc X Oe He).W:=⟨fun pins σ H s e s' I c=>by
 obtain⟨y,cls,H',e1,f,_,O',z,_⟩:=c
 exact z.elim⟩
abbrev zB(P:Program)(w:World)(K:PySem.W.Frag)(mg:Str→Option Value)(base:Heap)(N:List Str)(qual:Str)(sc:Scope)(f:Addr)(cdv:Value)(A:Around)(outer:List Env)(s:Shared)(H:Hp)(E:XK)(O:AG)(Ξ:Value→AG→Prop):Zx:=
 ⟨Bz (CXe P w) P w K mg base N qual sc f cdv A outer s H E,O,H,Ξ⟩
def Dm(N:List Str)(ts:List T):List (Option T):=ts.map some++List.replicate (N.length-ts.length) none
theorem HN{K:PySem.W.Frag}{O:AG}{H:Hp}{N:List Str}{vs:List V}{ts:List T}(r:Reps K O H vs ts):Rl K O H (start N vs) (Dm N ts):=by
 refine⟨by simp[start,Dm,r.length],fun i t e=>?_⟩
 unfold Dm at e
 by_cases hi:i<ts.length
 ·rw[List.getElem?_append_left (by simpa using hi),List.getElem?_map] at e
  cases ht:ts[i]? with
  |none=>rw[ht] at e;cases e
  |some u=>
   rw[ht] at e
   cases e
   obtain⟨v,h1,h2⟩:=r.get ht
   refine⟨v,?_,h2⟩
   unfold start
   rw[List.getElem?_append_left (by simpa[r.length] using hi),List.getElem?_map,h1]
   rfl
 ·rw[List.getElem?_append_right (by simpa using hi),List.getElem?_replicate] at e
  split at e<;>cases e
theorem Ad{P:Program}{w:World}{K:PySem.W.Frag}{mg:Str→Option Value}{base:Heap}{x qual:Str}{st:Stmt}{f:Addr}{fd:FuncData}{N ps:List Str}{k:Nat}{sp:Cu}(F:Fun K x qual st f fd)(S:FnScope N ps (AA st))(len:∀ts O Φ Ξ,sp ts O Φ Ξ→ts.length=ps.length)
  (h:∀(cdv:Value) (A:Around) (outer:List Env) (s:Shared) (H:Hp) (E:XK) (O:AG) (Ξ:Value→AG→Prop),Room k (A.deeper (envOfC qual (AA st) s.heap.objs.size f cdv))→XFly (zB P w K mg base N qual (AA st) f cdv A outer s H E O Ξ).X (zB P w K mg base N qual (AA st) f cdv A outer s H E O Ξ).W→
   ∀ts Φ,sp ts O Φ Ξ→EG (zB P w K mg base N qual (AA st) f cdv A outer s H E O Ξ) (Dm N ts) O (Ai st) {nx:=fun _ O'=>Φ .non O',rt:=Φ}):FnOk P w K mg base (CXe P w) (k+1) f fd ps (DZ K sp):=by
 refine F.okX S (fun vs H Q E h=>?_) (fun cdv A outer s H vs Q E hr h1=>?_)
 ·obtain⟨ts,O,Φ,Ξ,r,_,q,_⟩:=h
  rw[r.length];exact len ts O Φ Ξ q
 ·obtain⟨ts,O,Φ,Ξ,r,ok,q,acc,ex⟩:=h1
  refine⟨_,h cdv A outer s H E O Ξ hr (XFly.mono AX.f ?_) ts Φ q,⟨HN r,.refl ok⟩,?_⟩
  ·rintro σ cls H' ⟨_,O',x,f⟩
   exact ex cls O' H' x f
  ·exact⟨fun ρ' O' σ' H' p a _=>acc _ _ _ O' p a.fr .non,fun v H' t O' p f r=>acc v H' t O' p f r,fun _ _ _ _ z=>z.elim,fun _ _ _ _ z=>z.elim⟩
def VB(S:Scope)(N:List Str)(csc:Scope)(cap:List (Str×Nat)):Bool:=
 decide (csc.kind=.function)&&csc.names.all (fun y=>decide (y.2=.cell→csc.names.lookup y.1=some .cell))&&csc.names.all (fun y=>decide (y.2=.local→csc.names.lookup y.1=some .local))&&csc.names.all (fun y=>decide (y.2=.free→S.names.lookup y.1=some .cell∨S.names.lookup y.1=some .free))&&cap.all (fun p=>decide (N[p.2]?=some p.1∧csc.names.lookup p.1=some .free))
theorem Br{X:Cx}{csc:Scope}{nc:List Str}{cap:List (Str×Nat)}(S:Scope)(N:List Str)(chk:VB S N csc cap=true)(h1:X.env.scope=S:=by rfl)(h2:X.N=N:=by rfl):LcOk X csc nc cap:=by
 unfold VB at chk
 simp only[Bool.and_eq_true,List.all_eq_true,decide_eq_true_eq] at chk
 obtain⟨⟨⟨⟨c1,c2⟩,c3⟩,c4⟩,c5⟩:=chk
 exact⟨c1,c2,c3,by rw[h1];exact c4,by rw[h2];exact c5⟩
section
variable{Z:Zx}{ρ:List (Option T)}{O:AG}{elt tg iter:Expr}{ifs:List Expr}{csc:Scope}{nc:List Str}{cap:List (Str×Nat)}{Φ:BK}{pos:Pos}{α:Type}
theorem Ep{F:List T→AG→Prop}(xs:List α)(f g:α→T)(hl:xs.length≤sizeLine)(h:∀x,x∈xs→∃ρ4,∀X' Oe He,LcCx Z.X csc (Ak nc cap) X'→∀O',(WG (zc X' Oe He) nc.length (IB nc ρ cap) O' tg (f x) ρ4∧ET (zc X' Oe He) ρ4 O' elt (g x)))(fin:F (xs.map g) O):TU Z ρ elt tg [] csc nc cap F (xs.map f) O:=by
 refine⟨fun i acc O'=>O'=O∧acc=(xs.take i).map g,⟨rfl,by simp⟩,?_,?_⟩
 ·rintro i t acc O' p e ⟨rfl,rfl⟩ np
  rw[List.getElem?_map] at e
  cases ex:xs[i]? with
  |none=>rw[ex] at e;cases e
  |some x=>
   rw[ex] at e
   cases e
   obtain⟨ρ4,w⟩:=h x (List.mem_of_getElem? ex)
   have hi:=(List.getElem?_eq_some_iff.mp ex).1
   refine⟨ρ4,fun X' Oe He is=> ⟨(w X' Oe He is _).1,Dv (GB fun X' Oe He is=> (w X' Oe He is _).2 _ ⟨_,rfl,np,?_,rfl,?_⟩)⟩⟩
   ·simp;omega
   ·rw[List.take_add_one,ex];simp
 ·rintro acc O' ⟨rfl,rfl⟩
  rw[List.length_map,List.take_length]
  exact fin
theorem Ky{F:List T→AG→Prop}{c:Expr}(xs:List α)(f g:α→T)(q:α→Bool)(hl:xs.length≤sizeLine)(h:∀x,x∈xs→∃ρ4,∀X' Oe He,LcCx Z.X csc (Ak nc cap) X'→∀O',(WG (zc X' Oe He) nc.length (IB nc ρ cap) O' tg (f x) ρ4∧EB (zc X' Oe He) ρ4 O' c (q x)∧(q x=true→ET (zc X' Oe He) ρ4 O' elt (g x))))(fin:F ((xs.filter q).map g) O):TU Z ρ elt tg [c] csc nc cap F (xs.map f) O:=by
 refine⟨fun i acc O'=>O'=O∧acc=((xs.take i).filter q).map g,⟨rfl,by simp⟩,?_,?_⟩
 ·rintro i t acc O' p e ⟨rfl,rfl⟩ np
  rw[List.getElem?_map] at e
  cases ex:xs[i]? with
  |none=>rw[ex] at e;cases e
  |some x=>
   rw[ex] at e
   cases e
   obtain⟨ρ4,w⟩:=h x (List.mem_of_getElem? ex)
   have hi:=(List.getElem?_eq_some_iff.mp ex).1
   refine⟨ρ4,fun X' Oe He is=> ⟨(w X' Oe He is _).1,Jc ((w X' Oe He is _).2.1 _ ?_)⟩⟩
   cases hq:q x with
   |true=>
    refine GB fun X' Oe He is=> (w X' Oe He is _).2.2 hq _ ⟨_,rfl,np,?_,rfl,?_⟩
    ·have:=List.length_filter_le q (xs.take i)
     simp at this ⊢;omega
    ·rw[List.take_add_one,ex];simp[hq]
   |false=>
    refine Hx ⟨_,rfl,np,rfl,?_⟩
    rw[List.take_add_one,ex];simp[hq]
 ·rintro acc O' ⟨rfl,rfl⟩
  rw[List.length_map,List.take_length]
  exact fin
theorem Dn(nc:List Str)(cap:List (Str×Nat))(xs:List α)(f g:α→T)(hc:Z.X.calm=true)(ok:LcOk Z.X csc nc cap)(hi:EI Z ρ O tg iter (xs.map f))(hl:xs.length≤sizeLine)(h:∀x,x∈xs→∃ρ4,∀X' Oe He,LcCx Z.X csc (Ak nc cap) X'→∀O',(WG (zc X' Oe He) nc.length (IB nc ρ cap) O' tg (f x) ρ4∧ET (zc X' Oe He) ρ4 O' elt (g x)))
  (hs:∀x,foldedSetIterable iter Z.X.env x=pure x:=by intro _;rfl):ET Z ρ O (.ListComp elt [⟨tg,iter,[],0⟩] csc pos) (.lst (xs.map g)):=fun Φ p=>Ij hc ok (hi _ (Ep xs f g hl h p)) hs
theorem Fd(nc:List Str)(cap:List (Str×Nat)){c:Expr}(xs:List α)(f g:α→T)(q:α→Bool)(hc:Z.X.calm=true)(ok:LcOk Z.X csc nc cap)(hi:EI Z ρ O tg iter (xs.map f))(hl:xs.length≤sizeLine)(h:∀x,x∈xs→∃ρ4,∀X' Oe He,LcCx Z.X csc (Ak nc cap) X'→∀O',(WG (zc X' Oe He) nc.length (IB nc ρ cap) O' tg (f x) ρ4∧EB (zc X' Oe He) ρ4 O' c (q x)∧(q x=true→ET (zc X' Oe He) ρ4 O' elt (g x))))
  (hs:∀x,foldedSetIterable iter Z.X.env x=pure x:=by intro _;rfl):ET Z ρ O (.ListComp elt [⟨tg,iter,[c],0⟩] csc pos) (.lst ((xs.filter q).map g)):=fun Φ p=>Ij hc ok (hi _ (Ky xs f g q hl h p)) hs
end
section
variable{Z:Zx}{ρ:List (Option T)}{O:AG}{e:Expr}{es:List Expr}{Φ:BK}{Ψ:Es}{pos p:Pos}{ts:List T}{x:Str}
theorem EA.wa{Φ:MJ}(h:EA Z ρ O es ts)(p:Φ ts O):WA Z ρ O es Φ:=h Φ p
theorem EI.wi{tg iter:Expr}{Φ:MJ}(h:EI Z ρ O tg iter ts)(p:Φ ts O):WI Z ρ O tg iter Φ:=h Φ p
theorem Na{l:Addr}(hl:Z.Oe l=none)(h:WE Z ρ O e fun t O'=>Ψ.rt t (CQ O' l)):WS Z ρ O (.Return (some e) pos) Ψ:=PS.weak (FT h) fun D σ H q=> ⟨q.1,fun v H' t O' p f r=>by
 have f':=q.1.fr.trans f
 refine q.2.rt v H' t _ p ⟨f'.kp.trans CS,fun b us e=>?_,f'.ok.drop⟩ (r.kp CS f'.ok)
 obtain⟨us',e'⟩:=f'.own b us e
 have:b≠l:=fun z=>by rw[z,hl] at e;cases e
 exact⟨us',by rw[Di this];exact e'⟩⟩
theorem Oz{l:Addr}(m:Z.X.mg "tuple" =none)(ho:O l=some ts)(h:ET Z ρ O e (.raw (.ref l)))(hg:Gl Z.X "tuple":=by rfl)(he:starEach [e] Z.X.env=(false,eval e Z.X.env)::starEach [] Z.X.env:=by rfl):ET Z ρ O (.Call (.Name "tuple" p) [e] [] pos) (.tup ts):=
 Ii Fq m Qm (AJ h AC he) (fun Φ q H vs Q ok r k=>by
  obtain⟨v,rfl,r1⟩:=r.one_inv
  cases r1.raw_inv
  obtain⟨xs,h1,r1⟩:=ok l ts ho
  exact⟨l,xs,rfl,.inl (.inl h1),fun p hp=>k _ _ _ O q (.new ok hp) (.tup AO (r1.kp (BV ok hp) ok))⟩) hg (by decide) (by decide) he
theorem Qr{k:Nat}{f:Addr}{fd:FuncData}{ps:List Str}{sp:Sp}(F:FnOk Z.X.prog Z.X.w Z.X.K Z.X.mg Z.X.base (CXe Z.X.prog Z.X.w) k f fd ps sp)(hm:Z.X.mg x=some (.ref f))(hk:PySem.W.keepIn Z.X.K (.ref f)=true)(hb:Binds Z.X.K fd ps [])(hr:Room k Z.X.A)(xf:XFly Z.X Z.W)(h:EA Z ρ O (e::es) ts)
  (w:∀σ H vs Q,Asr Z ρ O σ H→Reps Z.K O H vs ts→Acc Z.K O H Φ Q→sp vs H Q (Z.W σ)) (hg:Gl Z.X x:=by rfl)
  (hdb:(x==("__debug__" :Str))=false:=by decide) (he:starEach (e::es) Z.X.env=(false,eval e Z.X.env)::starEach es Z.X.env:=by rfl) (hpl:(backTo pos (starEach es Z.X.env)).any (·.1)=false:=by rfl):WE Z ρ O (.Call (.Name x p) (e::es) [] pos) Φ:=by
 refine PE.weak (Ka xf F hr hg hm hk hb (IA (ρ:=ρ)) hdb he hpl) fun σ H Q q=>?_
 refine⟨O,_,h (fun us O'=>us=ts∧O'=O) ⟨rfl,rfl⟩,q.1,?_⟩
 rintro vs H1 _ _ ⟨rfl,rfl⟩ f r
 exact w σ H1 vs Q (q.1.step f) r (q.2.step f)
end
def Bf:Expr→Bool
 | .Starred .. =>false
 |_=>true
theorem Dw{e:Expr}{es:List Expr}{env:Env}(h:Bf e=true):starEach (e::es) env=(false,eval e env)::starEach es env:=by
 cases e<;>first|rfl|cases h
section
variable{Z:Zx}{ρ:List (Option T)}{O:AG}{e:Expr}{es:List Expr}{t:T}{ts:List T}
theorem AH(h:ET Z ρ O e t)(hr:EA Z ρ O es ts)(hn:Bf e=true:=by rfl):EA Z ρ O (e::es) (t::ts):=AJ h hr (Dw hn)
theorem Bt{Φ:MJ}(h:WE Z ρ O e fun t O1=>WA Z ρ O1 es fun ts O2=>Φ (t::ts) O2)(hn:Bf e=true:=by rfl):WA Z ρ O (e::es) Φ:=Be h (Dw hn)
theorem Bg{a b:Expr}{i j:Int}{k:Nat}{pos:Pos}(ha:ET Z ρ O a (.int i))(hb:ET Z ρ O b (.int j))(h1:Bf a=true:=by rfl)(h2:Bf b=true:=by rfl):ET Z ρ O (.Tuple [a,b] k pos) (AI (i,j)):=BW (AH ha (AH hb AC h2) h1) (by show 2≤sizeLine;decide)
theorem ba{p:Int×Int}{ps:List (Int×Int)}(h:ET Z ρ O e (AI p))(hr:EA Z ρ O es (ps.map AI))(hn:Bf e=true:=by rfl):EA Z ρ O (e::es) ((p::ps).map AI):=AH h hr hn
end
theorem Ik{O:AG}{p l:Addr}{xs ys:List T}(h:O l=none)(hp:p≠l):CQ (Ab (Ab O p xs) l ys) l=Ab O p xs:=by
 refine BE ?_
 rw[AS (Ne.symm hp)];exact h
theorem HP{O:AG}{p:Addr}{xs:List T}(h:O p=some xs):Ab O p xs=O:=by
 funext b
 by_cases hb:b=p
 ·rw[hb,AF,h]
 ·rw[AS hb]
theorem MW{O:AG}{p l:Addr}{xs:List T}(h:O p=some xs)(hl:O l=none):p≠l:=fun z=>by rw[z,hl] at h;cases h
def Ww:Expr→Bool
 | .ListComp .. =>false
 | .SetComp .. =>false
 | .DictComp .. =>false
 |_=>true
theorem Qs{e:Expr}{t:Option Expr}{l:Nat}{env:Env}(h:Ww e=true):swapsWith e t l env=pure false:=by
 cases e<;>first|rfl|cases h
section
variable{Z:Zx}{ρ:List (Option T)}{O:AG}{e:Expr}{es:List Expr}{t:T}{ts:List T}{Φ:BK}{Ψ:Es}{pos p2:Pos}{x:Str}
theorem Te(i:Nat)(h:EA Z ρ O es ts)(hl:ts.length≤sizeLine)(k:Ψ.nx (ρ.set i (some (.lst ts))) O)(hN:Z.X.N.Nodup){pos':Pos}(hi:Z.X.N[i]?=some x:=by rfl)(hx:PU Z.X.env.scope x:=by first|exact Or.inl rfl|exact Or.inr rfl)
  (hf:Z.X.fn x=true∨Z.X.env.scope.names.lookup x=some .local:=by first|exact .inl rfl|exact .inr rfl):WS Z ρ O (.Assign [.Name x pos'] (.List es p2) pos) Ψ:=
 AM i (ET.we (BG h hl) k) hN hi hx (Qs rfl) hf
inductive CPs:List Expr→List (Int×Int)→Prop
 |nil:CPs [] []
 |cons {a b:Int} {k1 k2 k3:Nat} {q1 q2 q3:Pos} {es:List Expr} {ps:List (Int×Int)}:CPs es ps→CPs (.Tuple [.Constant (.int a) k1 q1,.Constant (.int b) k2 q2] k3 q3::es) ((a,b)::ps)
theorem CPs.ea{ps:List (Int×Int)}(h:CPs es ps):EA Z ρ O es (ps.map AI):=by
 induction h with
 |nil=>exact AC
 |cons _ ih=>exact ba (Bg AB AB) ih
structure HEA(Z:Zx)(ρ:List (Option T))(O:AG)(es:List Expr)(ts:List T):Prop where
 out:EA Z ρ O es ts
structure HET(Z:Zx)(ρ:List (Option T))(O:AG)(e:Expr)(t:T):Prop where
 out:ET Z ρ O e t
theorem HEA.nil:HEA Z ρ O [] []:=⟨AC⟩
theorem HEA.cons(h:HET Z ρ O e t)(hr:HEA Z ρ O es ts)(hn:Bf e=true:=by rfl):HEA Z ρ O (e::es) (t::ts):=⟨AH h.out hr.out hn⟩
theorem CPs.hea{ps:List (Int×Int)}(h:CPs es ps):HEA Z ρ O es (ps.map AI):=⟨h.ea⟩
theorem Tf(i:Nat)(h:HEA Z ρ O es ts)(hl:ts.length≤sizeLine)(k:Ψ.nx (ρ.set i (some (.lst ts))) O)(hN:Z.X.N.Nodup){pos':Pos}(hi:Z.X.N[i]?=some x)(hx:PU Z.X.env.scope x)
  (hf:Z.X.fn x=true∨Z.X.env.scope.names.lookup x=some .local):WS Z ρ O (.Assign [.Name x pos'] (.List es p2) pos) Ψ:=Te i h.out hl k hN hi hx hf
structure HS(Z:Zx)(ρ:List (Option T))(O:AG)(ss:List Stmt)(Ψ:Es):Prop where
 out:EG Z ρ O ss Ψ
theorem Ah{s:Stmt}{ss:List Stmt}(h:WS Z ρ O s {Ψ with nx:=fun ρ' O'=>HS Z ρ' O' ss Ψ}):HS Z ρ O (s::ss) Ψ:=
 ⟨AD (NU h (fun _ _ z=>z.out) (fun _ _ z=>z) (fun _ _ z=>z) (fun _ _ z=>z))⟩
theorem EU{s:Stmt}(h:WS Z ρ O s Ψ):HS Z ρ O [s] Ψ:=⟨AE h⟩
theorem HQ{k:Bool}{c:Expr}{ea ss:List Stmt}(hc:EB Z ρ O c k)(h1:k=true→HS Z ρ O ea {Ψ with nx:=fun ρ' O'=>HS Z ρ' O' ss Ψ})(h2:k=false→HS Z ρ O ss Ψ):HS Z ρ O (.If c ea [] pos::ss) Ψ:=
 Ah (BB hc (fun h=> (h1 h).out) (fun h=>BH (h2 h)))
theorem Nb{P:Program}{w:World}{K:PySem.W.Frag}{mg:Str→Option Value}{base:Heap}{x qual:Str}{st:Stmt}{f:Addr}{fd:FuncData}{N ps:List Str}{k:Nat}{sp:Cu}(F:Fun K x qual st f fd)(S:FnScope N ps (AA st))(len:∀ts O Φ Ξ,sp ts O Φ Ξ→ts.length=ps.length)
  (h:∀(cdv:Value) (A:Around) (outer:List Env) (s:Shared) (H:Hp) (E:XK) (O:AG) (Ξ:Value→AG→Prop),Room k (A.deeper (envOfC qual (AA st) s.heap.objs.size f cdv))→XFly (zB P w K mg base N qual (AA st) f cdv A outer s H E O Ξ).X (zB P w K mg base N qual (AA st) f cdv A outer s H E O Ξ).W→
   ∀ts Φ,sp ts O Φ Ξ→HS (zB P w K mg base N qual (AA st) f cdv A outer s H E O Ξ) (Dm N ts) O (Ai st) {nx:=fun _ O'=>Φ .non O',rt:=Φ}):FnOk P w K mg base (CXe P w) (k+1) f fd ps (DZ K sp):=
 Ad F S len fun cdv A outer s H E O Ξ hr xf ts Φ q=> (h cdv A outer s H E O Ξ hr xf ts Φ q).out
end
section
variable{X:Cx}{a b c d:Expr}{ta tb tc td:TE}{pos:Pos}
end
section
variable{Z:Zx}{ρ:List (Option T)}{O:AG}{a b c d:Expr}{pos:Pos}{i j k l:Int}
end
end L2.TL
namespace L2
open PySem PySem.Spec PySem.Calls PyProof.Rows
section
variable{prog:Program}{w:World}{A:Around}{E:Value→Shared→Prop}{s:Shared}
end
section
variable{X:Cx}
end
end L2
namespace L2.TL
open PySem PySem.Spec PySem.Calls PyProof.Rows
mutual
def dT:T→PyData
 | .non=> .none
 | .bl b=> .bool b
 | .int i=> .int i
 | .str x=> .str x
 | .tup ts=> .tuple (dTs ts)
 | .lst ts=> .list (dTs ts)
 | .frz _=> .none
 | .dct=> .none
 | .raw _=> .none
def dTs:List T→List PyData
 | []=> []
 |t::ts=>dT t::dTs ts
end
mutual
def Ht:T→Bool
 | .non=>true
 | .bl _=>true
 | .int i=>decide (i.natAbs<10^12)
 | .str _=>false
 | .tup ts=>shBs ts
 | .lst ts=>shBs ts
 | .frz _=>false
 | .dct=>false
 | .raw _=>false
def shBs:List T→Bool
 | []=>true
 |t::ts=>Ht t&&shBs ts
end
mutual
theorem Nc:∀(t:T),Ht t=true→(dT t).showable=true∧(dT t).hasDict=false∧(dT t).leavesShort 13=true
 | .non,_=> ⟨rfl,rfl,rfl⟩
 | .bl _,_=> ⟨rfl,rfl,rfl⟩
 | .int i,h=>by
  have hb:i.natAbs<10^12:=by unfold Ht at h;simpa using h
  refine⟨?_,rfl,?_⟩
  ·show decide (i.natAbs.log2<1920)=true
   refine decide_eq_true ?_
   by_cases h0:i.natAbs=0
   ·rw[h0];decide
   ·exact(Nat.log2_lt h0).mpr (Nat.lt_of_lt_of_le hb (by decide+kernel))
  ·show decide _=true
   exact decide_eq_true (PyData.shown_int_le hb)
 | .str _,h=>by unfold Ht at h;cases h
 | .tup ts,h=>by
  have h':shBs ts=true:=by unfold Ht at h;exact h
  exact shs_show ts h'
 | .lst ts,h=>by
  have h':shBs ts=true:=by unfold Ht at h;exact h
  exact shs_show ts h'
 | .frz _,h=>by unfold Ht at h;cases h
 | .dct,h=>by unfold Ht at h;cases h
 | .raw _,h=>by unfold Ht at h;cases h
theorem shs_show:∀(ts:List T),shBs ts=true→PyData.showableAll (dTs ts)=true∧PyData.hasDictAll (dTs ts)=false∧PyData.leavesShortAll 13 (dTs ts)=true
 | [],_=> ⟨rfl,rfl,rfl⟩
 |t::ts,h=>by
  unfold shBs at h
  rw[Bool.and_eq_true] at h
  obtain⟨a1,a2,a3⟩:=Nc t h.1
  obtain⟨b1,b2,b3⟩:=shs_show ts h.2
  refine⟨?_,?_,?_⟩
  ·show(PyData.showable (dT t)&&PyData.showableAll (dTs ts))=true
   rw[a1,b1];rfl
  ·show(PyData.hasDict (dT t)||PyData.hasDictAll (dTs ts))=false
   rw[a2,b2];rfl
  ·show(PyData.leavesShort 13 (dT t)&&PyData.leavesShortAll 13 (dTs ts))=true
   rw[a3,b3];rfl
end
section
variable{K:PySem.W.Frag}{O:AG}{H:Hp}{P:Program}{w:World}{h:Heap}
mutual
theorem Rep.reads (hok:HOk P w H h):∀{v:V} {t:T} {u:Value},Rep K O H v t→Ht t=true→RelV v u→∃as,Reads h u (dT t) as
 |_,_,_,.non,_,r=>by cases r;exact⟨_,.none⟩
 |_,_,_,.bl b,_,r=>by cases r;exact⟨_,.bool b⟩
 |_,_,_,.int i,_,r=>by obtain⟨t,rfl⟩:=r;exact⟨_,.int i t⟩
 |_,_,_,.str x,g,_=>by unfold Ht at g;cases g
 |_,_,_,.tup (ts:=ts) e q,g,r=>by
  cases r
  obtain⟨_,its,rv,⟨o,e1,e2,n,e3⟩⟩:=(show ObjOk P w H h _ (.tup _) from hok _ _ e)
  obtain⟨as,ra⟩:=Reps.reads hok q (by unfold Ht at g;exact g) rv
  exact⟨_,.tuple (vs:=its.toArray) e1 e2 e3 (by simpa using ra)⟩
 |_,_,_,.lst (ts:=ts) e _ q,g,r=>by
  cases r
  obtain⟨_,its,n,rv,e1⟩:=(show ObjOk P w H h _ (.lst _) from hok _ _ e)
  obtain⟨as,ra⟩:=Reps.reads hok q (by unfold Ht at g;exact g) rv
  exact⟨_,.list (vs:=its.toArray) e1 rfl rfl (by simpa using ra)⟩
 |_,_,_,.frz _ _,g,_=>by unfold Ht at g;cases g
 |_,_,_,.dct _,g,_=>by unfold Ht at g;cases g
 |_,_,_,.raw v,g,_=>by unfold Ht at g;cases g
theorem Reps.reads (hok:HOk P w H h):∀{vs:List V} {ts:List T} {us:List Value},Reps K O H vs ts→shBs ts=true→Vals vs us→∃as,ReadsAll h us (dTs ts) as
 |_,_,_,.nil,_,r=>by cases r;exact⟨_,.nil⟩
 |_,_,_,.cons a b,g,.cons r1 r2=>by
  unfold shBs at g
  rw[Bool.and_eq_true] at g
  obtain⟨as,x⟩:=Rep.reads hok a g.1 r1
  obtain⟨bs,y⟩:=Reps.reads hok b g.2 r2
  exact⟨_,.cons x y⟩
end
end
section
variable{X:Cx}
end
theorem MX{i:Int}(h:i.natAbs<10^12):(dT (.int i)).weight≤42:=by
 have hl:i.natAbs.log2<40:=by
  by_cases h0:i.natAbs=0
  ·rw[h0];decide
  ·exact(Nat.log2_lt h0).mpr (Nat.lt_of_lt_of_le h (by decide+kernel))
 simp only[dT,PyData.weight]
 split<;>omega
theorem XOk.mono{X:Cx}{W W':St→XK}(x:XOk X W)(h:∀σ cls H',W' σ cls none H'→W σ cls none H'):XOk X W':=
 ⟨fun pins σ H s h' y C I m q=>x.made pins σ H s h' y C I m (h σ _ H q),(XFly.mono x.f h).fly,x.own,fun pins σ H s y C t dx fs I a b c d q=>x.madeF pins σ H s y C t dx fs I a b c d (h σ _ H q)⟩
theorem Nd{P:Program}{w:World}{K:PySem.W.Frag}{mg:Str→Option Value}{base:Heap}{x qual:Str}{st:Stmt}{f:Addr}{fd:FuncData}{N ps:List Str}{k:Nat}{sp:Cu}(F:Fun K x qual st f fd)(S:FnScope N ps (AA st))(len:∀ts O Φ Ξ,sp ts O Φ Ξ→ts.length=ps.length)
  (h:∀(cdv:Value) (A:Around) (outer:List Env) (s:Shared) (H:Hp) (E:XK) (O:AG) (Ξ:Value→AG→Prop),Room k (A.deeper (envOfC qual (AA st) s.heap.objs.size f cdv))→XOk (zB P w K mg base N qual (AA st) f cdv A outer s H E O Ξ).X (zB P w K mg base N qual (AA st) f cdv A outer s H E O Ξ).W→
   ∀ts Φ,sp ts O Φ Ξ→EG (zB P w K mg base N qual (AA st) f cdv A outer s H E O Ξ) (Dm N ts) O (Ai st) {nx:=fun _ O'=>Φ .non O',rt:=Φ}):FnOk P w K mg base (CXe P w) (k+1) f fd ps (DZ K sp):=by
 refine F.okX S (fun vs H Q E h=>?_) (fun cdv A outer s H vs Q E hr h1=>?_)
 ·obtain⟨ts,O,Φ,Ξ,r,_,q,_⟩:=h
  rw[r.length];exact len ts O Φ Ξ q
 ·obtain⟨ts,O,Φ,Ξ,r,ok,q,acc,ex⟩:=h1
  refine⟨_,h cdv A outer s H E O Ξ hr (XOk.mono AX ?_) ts Φ q,⟨HN r,.refl ok⟩,?_⟩
  ·rintro σ cls H' ⟨_,O',x,f⟩
   exact ex cls O' H' x f
  ·exact⟨fun ρ' O' σ' H' p a _=>acc _ _ _ O' p a.fr .non,fun v H' t O' p f r=>acc v H' t O' p f r,fun _ _ _ _ z=>z.elim,fun _ _ _ _ z=>z.elim⟩
theorem Frm.same{K:PySem.W.Frag}{O O':AG}{H H' H'':Hp}(f:Frm K O H O' H')(s:Same H' H''):Frm K O H O' H'' where
 kp:=fun b o h n=> ⟨s b o (f.kp b o h n).1,(f.kp b o h n).2⟩
 own:=f.own
 ok:=fun a ts e=>by
  obtain⟨xs,h,r⟩:=f.ok a ts e
  exact⟨xs,s _ _ h,r.mono (fun b o h _=>s b o h) fun b xs h n=> ⟨s b _ h,n⟩⟩
theorem Fe{K:PySem.W.Frag}{O:AG}{H:Hp}:∀(ns:List Int),Reps K O H (ns.map V.int) (ns.map T.int)
 | []=> .nil
 |n::ns=> .cons (.int n) (Fe ns)
section
variable{Z:Zx}{ρ:List (Option T)}{O:AG}{e a b:Expr}{es:List Expr}{Ψ:Es}{Φ:BK}{pos p:Pos}{t:T}{ts:List T}
theorem Ff{x:Str}{C:Addr}{np cpos:Pos}(xo:XOk Z.X Z.W)(hc:Z.X.calm=true)(hm:Z.X.mg x=some (.ref C))(q:PySem.W.excIn Z.X.K C Kb "ValueError.__new__" =true)(h:Z.Xi (.ref C) O)(hg:Gl Z.X x:=by rfl)
  (hd:(x==("__debug__" :Str))=false:=by decide):WS Z ρ O (.Raise (some (.Call (.Name x np) [] [] cpos)) none pos) Ψ:=
 PS.weak (Od xo hc hg hm q hd) fun D σ H k=> ⟨rfl,O,h,k.1.fr⟩
def Bu(C:Addr)(y:Str):Sp:=fun vs H Q _=>∃x,vs=[.ref x]∧Rd H x (GC C x)∧∀H',Same H H'→Q (.str y) H'
theorem _root_.L2.Rd.upd{H:Hp}{x p:Addr}{u o:HO}(h:Rd H x u)(hp:H p=none):Rd (upd H p o) x u:=by
 rcases h with h| ⟨o',h⟩
 ·exact .inl (by rw[AQ (AV h hp)];exact h)
 ·exact .inr ⟨o',by rw[AQ (AV h hp)];exact h⟩
theorem _root_.L2.Rd.same{H H':Hp}{x:Addr}{u:HO}(h:Rd H x u)(s:Same H H'):Rd H' x u:=by
 rcases h with h| ⟨o',h⟩
 ·exact .inl (s _ _ h)
 ·exact .inr ⟨o',s _ _ h⟩
end
section
variable{Z:Zx}{ρ:List (Option T)}{O:AG}{e:Expr}{es:List Expr}{t:T}{ts us:List T}{Φ:BK}{Ψ:Es}{pos p2 p3 p4:Pos}{x:Str}
end
section
variable{Z:Zx}{ρ:List (Option T)}{O:AG}{es:List Expr}{ts:List T}{Ψ:Es}{pos p:Pos}{tg iter:Expr}{body:List Stmt}
theorem Nf(hp:PassesOwn (model Z.X.prog Z.X.w) Z.X.A Z.X.env Z.X.xe)(hc:Z.X.calm=true)(h:HEA Z ρ O es ts)(hl:ts.length≤sizeLine)(I:Nat→FP)(i0:I 0 ρ O)
  (st:∀i t ρ' O',ts[i]?=some t→I i ρ' O'→∃ρ2,WG Z Z.X.N.length ρ' O' tg t ρ2∧HS Z ρ2 O' body {nx:=I (i+1),rt:=Ψ.rt,bk:=Ψ.nx,ct:=I (i+1)}) (fin:∀ρ' O',I ts.length ρ' O'→Ψ.nx ρ' O'):WS Z ρ O (.For tg (.List es p) body [] pos) Ψ:=
 Au hp hc (EI.wi (Ar (BG h.out hl)) ⟨I,i0,fun i t ρ' O' e x=>by
  obtain⟨ρ2,a,b⟩:=st i t ρ' O' e x
  exact⟨ρ2,a,b.out⟩,fin⟩) (by intro _;rfl)
structure HWE(Z:Zx)(ρ:List (Option T))(O:AG)(e:Expr)(Φ:BK):Prop where
 out:WE Z ρ O e Φ
theorem Tg(hp:PassesOwn (model Z.X.prog Z.X.w) Z.X.A Z.X.env Z.X.xe)(hc:Z.X.calm=true)(h:HWE Z ρ O iter fun t O'=>∃ts,t=.lst ts∧∃I:Nat→FP,I 0 ρ O'∧
  (∀i t ρ' O',ts[i]?=some t→I i ρ' O'→∃ρ2,WG Z Z.X.N.length ρ' O' tg t ρ2∧HS Z ρ2 O' body {nx:=I (i+1),rt:=Ψ.rt,bk:=Ψ.nx,ct:=I (i+1)})∧∀ρ' O',I ts.length ρ' O'→Ψ.nx ρ' O')
  (hs:∀x,foldedSetIterable iter Z.X.env x=pure x):WS Z ρ O (.For tg iter body [] pos) Ψ:=
 Au hp hc (NV (Ds h.out (by
  rintro t O' ⟨ts,e,I,i0,st,fin⟩
  refine⟨ts,e,I,i0,fun i t ρ' O' e x=>?_,fin⟩
  obtain⟨ρ2,a,b⟩:=st i t ρ' O' e x
  exact⟨ρ2,a,b.out⟩))) hs
theorem ZN{P:Program}{w:World}{K:PySem.W.Frag}{mg:Str→Option Value}{base:Heap}{x qual:Str}{st:Stmt}{f:Addr}{fd:FuncData}{N ps:List Str}{k:Nat}{sp:Sp}(F:Fun K x qual st f fd)(S:FnScope N ps (AA st))(len:∀vs H Q E,sp vs H Q E→vs.length=ps.length)
  (h:∀(cdv:Value) (A:Around) (outer:List Env) (s:Shared) (H:Hp) (vs:List V) (Q:VK) (E:XK),Room k (A.deeper (envOfC qual (AA st) s.heap.objs.size f cdv))→sp vs H Q E→
   ∃ts O Φ Ξ,Reps K O H vs ts∧OwnOk K O H∧(XFly (zB P w K mg base N qual (AA st) f cdv A outer s H E O Ξ).X (zB P w K mg base N qual (AA st) f cdv A outer s H E O Ξ).W→HS (zB P w K mg base N qual (AA st) f cdv A outer s H E O Ξ) (Dm N ts) O (Ai st) {nx:=fun _ O'=>Φ .non O',rt:=Φ})∧Acc K O H Φ Q∧∀cls O' H',Ξ cls O'→Frm K O H O' H'→E cls none H'):FnOk P w K mg base (CXe P w) (k+1) f fd ps sp:=by
 refine F.okX S len (fun cdv A outer s H vs Q E hr h1=>?_)
 obtain⟨ts,O,Φ,Ξ,r,ok,q,acc,ex⟩:=h cdv A outer s H vs Q E hr h1
 refine⟨_,(q (XFly.mono AX.f ?_)).out,⟨HN r,.refl ok⟩,?_⟩
 ·rintro σ cls H' ⟨_,O',x,f⟩
  exact ex cls O' H' x f
 ·exact⟨fun ρ' O' σ' H' p a _=>acc _ _ _ O' p a.fr .non,fun v H' t O' p f r=>acc v H' t O' p f r,fun _ _ _ _ z=>z.elim,fun _ _ _ _ z=>z.elim⟩
end
def VC:AG:=fun _=>none
theorem Qt{K:PySem.W.Frag}{H:Hp}:OwnOk K VC H:=fun a ts e=>by cases e
theorem VD{K:PySem.W.Frag}{H H':Hp}{O':AG}{a:Addr}{xs:List V}(k:Kp VC H O' H')(h:SqL K H a xs):SqL K H' a xs:=by
 rcases h with h|h
 ·refine .inl ?_
  rcases h with h| ⟨o,h⟩
  ·exact .inl (k a _ h rfl).1
  ·exact .inr ⟨o,(k a _ h rfl).1⟩
 ·exact .inr h
section
variable{Z:Zx}{ρ:List (Option T)}{O:AG}{e lo hi:Expr}{p p2 pos:Pos}{Φ:BK}
theorem Wx{a:Addr}{ns:List Int}{i j:Int}(ho:Z.Oe=VC)(hS:SqL Z.K Z.He a (ns.map V.int))(h:ET Z ρ O e (.raw (.ref a)))(h1:ET Z ρ O lo (.int i))(h2:ET Z ρ O hi (.int j))
  (k:∀ms:List Int,ms.length≤ns.length→Φ (.lst (ms.map T.int)) O):WE Z ρ O (.Subscript e (.Slice (some lo) (some hi) none p2) pos) Φ:=by
 refine PE.weak (Gc JL (BM (ρ:=ρ)) (GI (BM (ρ:=ρ))) (GI (BM (ρ:=ρ)))) fun σ H0 Q q=>?_
 refine⟨O,_,h (fun t O'=>t=.raw (.ref a)∧O'=O) ⟨rfl,rfl⟩,q.1,?_⟩
 rintro v H1 _ _ ⟨rfl,rfl⟩ f1 r1
 refine⟨_,_,h1 (fun t O'=>t=.int i∧O'=_) ⟨rfl,rfl⟩,q.1.step f1,?_⟩
 rintro v2 H2 _ _ ⟨rfl,rfl⟩ f2 r2
 refine⟨i,r2.int_inv,_,_,h2 (fun t O'=>t=.int j∧O'=_) ⟨rfl,rfl⟩,q.1.step (f1.trans f2),?_⟩
 rintro v3 H3 _ _ ⟨rfl,rfl⟩ f3 r3
 refine⟨j,r3.int_inv,a,ns.map V.int,r1.raw_inv,VD (ho▸(q.1.step (f1.trans (f2.trans f3))).fr.kp) hS,fun l hl=>?_⟩
 have ff:=f1.trans (f2.trans f3)
 have e:KP (ns.map V.int) (some i) (some j)=((ns.drop (HT.Fz (ns.map V.int).length 0 (some i))).take (HT.Fz (ns.map V.int).length (ns.map V.int).length (some j)-HT.Fz (ns.map V.int).length 0 (some i))).map V.int:=by
  unfold KP
  rw[←List.map_drop,←List.map_take]
 rw[e]
 refine q.2 _ _ _ _ (k _ ?_) (ff.trans (.new ff.ok hl)) (.lst AO (ff.ok.none_of hl) ((Fe _).kp (BV ff.ok hl) ff.ok))
 rw[List.length_take,List.length_drop]
 omega
theorem Wy{K:PySem.W.Frag}{x y:Str}:RP K aW (.str x) (.str y) O (.bl (!decide (x=y))):=fun Φ p H v w Q ok r1 r2 q=>by
 cases r1.str_inv
 cases r2.str_inv
 have e:decide (V.str x=V.str y)=decide (x=y):=by
  by_cases h:x=y
  ·subst h;simp
  ·have:V.str x≠V.str y:=fun z=>h (by injection z)
   simp[h]
 refine⟨rfl,?_⟩
 rw[e]
 exact q _ H _ O p (.refl ok) (.bl _)
theorem Il:bootBuiltins "repr" =some (.builtin "repr"):=by decide+kernel
end
mutual
def CJ:T→Bool
 | .non=>true
 | .bl _=>true
 | .int _=>true
 | .str x=>PyData.strOk x
 | .tup ts=>rdBs ts
 | .lst ts=>rdBs ts
 | .frz _=>false
 | .dct=>false
 | .raw _=>false
def rdBs:List T→Bool
 | []=>true
 |t::ts=>CJ t&&rdBs ts
end
mutual
theorem DN:∀(t:T),CJ t=true→(dT t).canLay0=true
 | .non,_=>rfl
 | .bl _,_=>rfl
 | .int _,_=>rfl
 | .str x,h=>by unfold CJ at h;exact h
 | .tup ts,h=>rds_lay ts (by unfold CJ at h;exact h)
 | .lst ts,h=>rds_lay ts (by unfold CJ at h;exact h)
 | .frz _,h=>by unfold CJ at h;cases h
 | .dct,h=>by unfold CJ at h;cases h
 | .raw _,h=>by unfold CJ at h;cases h
theorem rds_lay:∀(ts:List T),rdBs ts=true→PyData.canLayAll0 (dTs ts)=true
 | [],_=>rfl
 |t::ts,h=>by
  unfold rdBs at h
  rw[Bool.and_eq_true] at h
  show(PyData.canLay0 (dT t)&&PyData.canLayAll0 (dTs ts))=true
  rw[DN t h.1,rds_lay ts h.2];rfl
end
section
variable{K:PySem.W.Frag}{O:AG}{H:Hp}{P:Program}{w:World}{h:Heap}
mutual
theorem Rep.rd (hok:HOk P w H h):∀{v:V} {t:T} {u:Value},Rep K O H v t→CJ t=true→RelV v u→∃as,Reads h u (dT t) as
 |_,_,_,.non,_,r=>by cases r;exact⟨_,.none⟩
 |_,_,_,.bl b,_,r=>by cases r;exact⟨_,.bool b⟩
 |_,_,_,.int i,_,r=>by obtain⟨t,rfl⟩:=r;exact⟨_,.int i t⟩
 |_,_,_,.str x,_,r=>by obtain⟨t,rfl⟩:=r;exact⟨_,.str x t⟩
 |_,_,_,.tup (ts:=ts) e q,g,r=>by
  cases r
  obtain⟨_,its,rv,⟨o,e1,e2,n,e3⟩⟩:=(show ObjOk P w H h _ (.tup _) from hok _ _ e)
  obtain⟨as,ra⟩:=Reps.rd hok q (by unfold CJ at g;exact g) rv
  exact⟨_,.tuple (vs:=its.toArray) e1 e2 e3 (by simpa using ra)⟩
 |_,_,_,.lst (ts:=ts) e _ q,g,r=>by
  cases r
  obtain⟨_,its,n,rv,e1⟩:=(show ObjOk P w H h _ (.lst _) from hok _ _ e)
  obtain⟨as,ra⟩:=Reps.rd hok q (by unfold CJ at g;exact g) rv
  exact⟨_,.list (vs:=its.toArray) e1 rfl rfl (by simpa using ra)⟩
 |_,_,_,.frz _ _,g,_=>by unfold CJ at g;cases g
 |_,_,_,.dct _,g,_=>by unfold CJ at g;cases g
 |_,_,_,.raw v,g,_=>by unfold CJ at g;cases g
theorem Reps.rd (hok:HOk P w H h):∀{vs:List V} {ts:List T} {us:List Value},Reps K O H vs ts→rdBs ts=true→Vals vs us→∃as,ReadsAll h us (dTs ts) as
 |_,_,_,.nil,_,r=>by cases r;exact⟨_,.nil⟩
 |_,_,_,.cons a b,g,.cons r1 r2=>by
  unfold rdBs at g
  rw[Bool.and_eq_true] at g
  obtain⟨as,x⟩:=Rep.rd hok a g.1 r1
  obtain⟨bs,y⟩:=Reps.rd hok b g.2 r2
  exact⟨_,.cons x y⟩
end
end
section
variable{X:Cx}
def rD(K:PySem.W.Frag)(g:PyData→PyData→Bool):R2:=fun x y H Q=>∃O t u,Rep K O H x t∧Rep K O H y u∧CJ t=true∧CJ u=true∧(dT t).depth≤100∧Q (.bl (g (dT t) (dT u))) H
theorem Jf(hu:X.A.units+101<cLine):DC X (compareOp .Eq) (rD X.K fun a b=>PyData.eqv a b):=by
 intro pins s σ H x y v u Q I rx ry h
 obtain⟨O,t,t',r1,r2,g1,g2,hd,q⟩:=h
 obtain⟨as,ra⟩:=Rep.rd I.hok r1 g1 rx
 obtain⟨bs,rb⟩:=Rep.rd I.hok r2 g2 ry
 exact SeqAt.compareEq_reads ra rb (DN t g1) (DN t' g2) (by omega) ⟨.bl _,H,I,rfl,q⟩
theorem HR(hu:X.A.units+101<cLine):DC X (compareOp .NotEq) (rD X.K fun a b=>!PyData.eqv a b):=by
 intro pins s σ H x y v u Q I rx ry h
 obtain⟨O,t,t',r1,r2,g1,g2,hd,q⟩:=h
 obtain⟨as,ra⟩:=Rep.rd I.hok r1 g1 rx
 obtain⟨bs,rb⟩:=Rep.rd I.hok r2 g2 ry
 exact SeqAt.compareNe_reads ra rb (DN t g1) (DN t' g2) (by omega) ⟨.bl _,H,I,rfl,q⟩
def ae(K:PySem.W.Frag)(g:Bool→Bool):R2:=fun x y H Q=>∃O t us,Rep K O H x t∧(Rep K O H y (.tup us)∨Rep K O H y (.lst us))∧CJ t=true∧rdBs us=true∧(dT t).depth≤100∧Q (.bl (g ((dTs us).any fun y=>PyData.eqv y (dT t)))) H
theorem Qu(hu:X.A.units+102<cLine):DC X (compareOp .In) (ae X.K id):=by
 intro pins s σ H x y v u Q I rx ry h
 obtain⟨O,t,us,r1,r2,g1,g2,hd,q⟩:=h
 obtain⟨as,ra⟩:=Rep.rd I.hok r1 g1 rx
 rcases r2 with r2|r2
 ·obtain⟨bs,rb⟩:=Rep.rd I.hok r2 (by unfold CJ;exact g2) ry
  exact SeqAt.in_tuple_reads rb ra (rds_lay us g2) (DN t g1) (by omega) ⟨.bl _,H,I,rfl,q⟩
 ·obtain⟨bs,rb⟩:=Rep.rd I.hok r2 (by unfold CJ;exact g2) ry
  exact SeqAt.in_list_reads rb ra (rds_lay us g2) (DN t g1) (by omega) ⟨.bl _,H,I,rfl,q⟩
theorem Wz(hu:X.A.units+102<cLine):DC X (compareOp .NotIn) (ae X.K (!·)):=by
 intro pins s σ H x y v u Q I rx ry h
 obtain⟨O,t,us,r1,r2,g1,g2,hd,q⟩:=h
 obtain⟨as,ra⟩:=Rep.rd I.hok r1 g1 rx
 rcases r2 with r2|r2
 ·obtain⟨bs,rb⟩:=Rep.rd I.hok r2 (by unfold CJ;exact g2) ry
  exact SeqAt.notIn_tuple_reads rb ra (rds_lay us g2) (DN t g1) (by omega) ⟨.bl _,H,I,rfl,q⟩
 ·obtain⟨bs,rb⟩:=Rep.rd I.hok r2 (by unfold CJ;exact g2) ry
  exact SeqAt.notIn_list_reads rb ra (rds_lay us g2) (DN t g1) (by omega) ⟨.bl _,H,I,rfl,q⟩
end
section
variable{K:PySem.W.Frag}{O:AG}{t u:T}{us:List T}
theorem Jg{g:PyData→PyData→Bool}(h1:CJ t=true)(h2:CJ u=true)(hd:(dT t).depth≤100):RP K (rD K g) t u O (.bl (g (dT t) (dT u))):=fun Φ p H v w Q ok r1 r2 q=>
 ⟨O,t,u,r1,r2,h1,h2,hd,q _ H _ O p (.refl ok) (.bl _)⟩
theorem MY{g:Bool→Bool}(h1:CJ t=true)(h2:rdBs us=true)(hd:(dT t).depth≤100):RP K (ae K g) t (.tup us) O (.bl (g ((dTs us).any fun y=>PyData.eqv y (dT t)))):=fun Φ p H v w Q ok r1 r2 q=>
 ⟨O,t,us,r1,.inl r2,h1,h2,hd,q _ H _ O p (.refl ok) (.bl _)⟩
theorem XA{g:Bool→Bool}(h1:CJ t=true)(h2:rdBs us=true)(hd:(dT t).depth≤100):RP K (ae K g) t (.lst us) O (.bl (g ((dTs us).any fun y=>PyData.eqv y (dT t)))):=fun Φ p H v w Q ok r1 r2 q=>
 ⟨O,t,us,r1,.inr r2,h1,h2,hd,q _ H _ O p (.refl ok) (.bl _)⟩
end
abbrev BI(n:Int)(ps:List (Int×Int)):T:=.tup [.int n,.tup (ps.map AI)]
end L2.TL
namespace L2
open PySem PySem.Spec PySem.Calls PyProof.Rows
section
variable{X:Cx}
variable{e:Expr}{te:TE}{p2 p3 p4 pos:Pos}
end
end L2
namespace L2.TL
open PySem PySem.Spec PySem.Calls PyProof.Rows
section
variable{Z:Zx}{ρ:List (Option T)}{O:AG}{e a b:Expr}{es:List Expr}{Ψ:Es}{Φ:BK}{pos p p1 pos1 p2 p3 p4:Pos}{t ta tb:T}{ts us:List T}{x:Str}
theorem WW.wt{Φ:KH}(h:WW Z ρ O e Φ):WT Z ρ O e Φ:=h.pt
def Er:T→Bool
 | .non=>true
 |_=>false
theorem DO{j:Nat}(hr:BR t=false)(ha:ET Z ρ O a t):EB Z ρ O (.Compare a [.Is] [.Constant .none j p1] pos) (Er t):=As Pl (Ae _) (fun Φ p H v w Q ok r1 r2 q=>by
 refine⟨r2.non_inv,?_⟩
 have e:decide (v=V.non)=Er t:=by
  cases r1<;>first|rfl|cases hr
 rw[e]
 exact q _ H _ O p (.refl ok) (.bl _)) ha BN
def bb(C:Addr)(t:T):Sp:=fun vs H Q _=>∃x,vs=[.ref x]∧Rd H x (GC C x)∧∀v H',Same H H'→(∀(K:PySem.W.Frag) (O:AG),Rep K O H' v t)→Q v H'
end
section
variable{Z:Zx}{ρ:List (Option T)}{O O1 O2:AG}{c:Expr}{body ss:List Stmt}{Ψ:Es}{pos:Pos}
def bc(Z:Zx)(e:Expr):TT:=fun σ H Q=>∃ρ O Φ,WT Z ρ O e Φ∧YD Z ρ O Φ σ H Q
theorem ZO{e:Expr}:PT Z.X e (bc Z e):=fun pins s σ H Q I ⟨_,_,_,w,q⟩=>w pins s σ H Q I q
theorem Qv(hp:PassesOwn (model Z.X.prog Z.X.w) Z.X.A Z.X.env Z.X.xe)(I:Nat→FP)(i0:∃m,I m ρ O)
  (step:∀m ρ' O',I m ρ' O'→WT Z ρ' O' c fun b O1=>if b=true then EG Z ρ' O1 body {nx:=fun ρ2 O2=>∃m',m'<m∧I m' ρ2 O2,rt:=Ψ.rt,bk:=Ψ.nx,ct:=fun ρ2 O2=>∃m',m'<m∧I m' ρ2 O2} else Ψ.nx ρ' O1):WS Z ρ O (.While c body [] pos) Ψ:=by
 refine PS.weak (Pg hp ZO Ku) fun D σ H q=>?_
 obtain⟨m0,i0⟩:=i0
 refine⟨fun m σ' H'=>∃ρ' O',I m ρ' O'∧Asr Z ρ' O' σ' H'∧Kp O H O' H',⟨m0,ρ,O,i0,q.1,.refl⟩,?_⟩
 rintro m σ1 H1 ⟨ρ1,O1,i1,a1,k1⟩
 refine⟨ρ1,O1,_,step m ρ1 O1 i1,a1,fun b H2 O2 p f=>?_⟩
 have kk:=k1.trans f.kp
 cases b with
 |true=>
  rw[if_pos rfl] at p
  show if true=true then _ else _
  rw[if_pos rfl]
  refine⟨fun σ2 H3=>∃ρ2 O3,(∃m',m'<m∧I m' ρ2 O3)∧Asr Z ρ2 O3 σ2 H3∧Kp O H O3 H3,?_,ρ1,O2,_,p,a1.step f,?_⟩
  ·rintro σ2 H3 ⟨ρ2,O3,⟨m',hm,i2⟩,a2,k2⟩
   exact⟨m',hm,ρ2,O3,i2,a2,k2⟩
  ·exact⟨fun ρ' O' σ' H' w a k=> ⟨ρ',O',w,a,kk.trans k⟩,q.2.rt,fun ρ' O' σ' H' w a k=>q.2.nx ρ' O' σ' H' w a (kk.trans k),fun ρ' O' σ' H' w a k=> ⟨ρ',O',w,a,kk.trans k⟩⟩
 |false=>
  rw[if_neg Bool.false_ne_true] at p
  show if false=true then _ else _
  rw[if_neg Bool.false_ne_true]
  exact q.2.nx ρ1 O2 σ1 H2 p (a1.step f) kk
theorem Th(hk:∀H,OwnOk Z.K O1 H→Kp O1 H O2 H∧OwnOk Z.K O2 H)(hf:∀b us vs,Z.Oe b=some us→O1 b=some vs→∃us',O2 b=some us')(h:EG Z ρ O2 ss Ψ):EG Z ρ O1 ss Ψ:=PSs.weak h fun D σ H q=>by
 obtain⟨k,ok⟩:=hk H q.1.ok
 exact⟨⟨q.1.rl.kp k q.1.ok,⟨q.1.fr.kp.trans k,fun b us e=>by
  obtain⟨vs,e'⟩:=q.1.fr.own b us e
  exact hf b us vs e e',ok⟩⟩,q.2.step k⟩
end
section
variable{O:AG}{rs:List (Addr×List T)}{r:Addr×List T}{p q l:Addr}{us vs:List T}
def Fu(O:AG)(rs:List (Addr×List T)):AG:=rs.foldl (fun O r=>Ab O r.1 r.2) O
theorem Bh:Fu O (r::rs)=Fu (Ab O r.1 r.2) rs:=rfl
theorem Kz:Fu O (rs++[r])=Ab (Fu O rs) r.1 r.2:=by unfold Fu;rw[List.foldl_append];rfl
theorem CU(h:∀r∈rs,r.1≠p):Fu O rs p=O p:=by
 induction rs generalizing O with
 |nil=>rfl
 |cons r rs ih=>
  rw[Bh,ih fun s hs=>h s (List.mem_cons_of_mem _ hs),AS (fun z=>h r (List.mem_cons_self ..) z.symm)]
theorem Qw(h:∀r∈rs,r.1≠p):Ab (Fu O rs) p vs=Fu (Ab O p vs) rs:=by
 induction rs generalizing O with
 |nil=>rfl
 |cons r rs ih=>
  rw[Bh,ih fun s hs=>h s (List.mem_cons_of_mem _ hs),Bh,BQ (h r (List.mem_cons_self ..))]
theorem Cg(hn:(rs.map Prod.fst).Nodup)(h:r∈rs):Fu O rs r.1=some r.2:=by
 induction rs generalizing O with
 |nil=>cases h
 |cons s rs ih=>
  rw[List.map_cons,List.nodup_cons] at hn
  rw[Bh]
  rcases List.mem_cons.mp h with rfl|h
  ·rw[CU fun s hs z=>hn.1 (List.mem_map.mpr ⟨s,hs,z⟩),AF]
  ·exact ih hn.2 h
theorem Ti{i:Nat}(hn:(rs.map Prod.fst).Nodup)(h:rs[i]?=some (p,us)):Ab (Fu O rs) p vs=Fu O (rs.set i (p,vs)):=by
 induction rs generalizing O i with
 |nil=>simp at h
 |cons s rs ih=>
  rw[List.map_cons,List.nodup_cons] at hn
  cases i with
  |zero=>
   simp at h
   subst h
   rw[List.set_cons_zero,Bh,Bh,Qw fun s hs z=>hn.1 (List.mem_map.mpr ⟨s,hs,z⟩),BJ]
  |succ i=>
   rw[List.set_cons_succ,Bh,Bh]
   exact ih hn.2 (by simpa using h)
theorem Tj{i:Nat}(h:rs[i]?=some (p,us)):(rs.set i (p,vs)).map Prod.fst=rs.map Prod.fst:=by
 rw[List.map_set]
 apply List.ext_getElem?
 intro m
 by_cases hm:i=m
 ·subst hm
  have hl:=(List.getElem?_eq_some_iff.mp h).1
  rw[List.getElem?_set_self (by simpa using hl),List.getElem?_map,h];rfl
 ·rw[List.getElem?_set_ne hm]
def Bm(r:Addr×List T):T:=.raw (.ref r.1)
theorem LA{K:PySem.W.Frag}{H:Hp}{O:AG}:∀{rs:List (Addr×List T)} {xs:List V},Reps K O H xs (rs.map Bm)→xs=rs.map fun r=>V.ref r.1
 | [],_,h=>h.nil_inv
 |r::rs,_,h=>by
  obtain⟨v,vs',rfl,h1,h2⟩:=h.cons_inv
  cases h1.raw_inv
  rw[LA h2];rfl
theorem LB{K:PySem.W.Frag}{H:Hp}{O:AG}:∀{rs:List (Addr×List T)},(∀r∈rs,Rep K O H (.ref r.1) (.lst r.2))→Reps K O H (rs.map fun r=>V.ref r.1) (rs.map fun r=>T.lst r.2)
 | [],_=> .nil
 |r::rs,h=> .cons (h r (List.mem_cons_self ..)) (LB fun s hs=>h s (List.mem_cons_of_mem _ hs))
theorem LD{Z:Zx}{ρ:List (Option T)}{ss:List Stmt}{Ψ:Es}(hn:(rs.map Prod.fst).Nodup)(hl:∀r∈rs,r.1≠l)(ho:∀r∈rs,O r.1=none)(he:∀r∈rs,Z.Oe r.1=none)
  (h:EG Z ρ (Ab O l (rs.map fun r=>T.lst r.2)) ss Ψ):EG Z ρ (Ab (Fu O rs) l (rs.map Bm)) ss Ψ:=by
 refine Th (fun H ok=>?_) (fun b us vs e1 e2=>?_) h
 ·have k:Kp (Ab (Fu O rs) l (rs.map Bm)) H (Ab O l (rs.map fun r=>T.lst r.2)) H:=fun b o hb n=> ⟨hb,by
   by_cases h1:b=l
   ·rw[h1,AF] at n;cases n
   ·rw[AS h1] at n ⊢
    by_cases h2:∃r∈rs,r.1=b
    ·obtain⟨r,hr,rfl⟩:=h2
     exact ho r hr
    ·rw[CU fun r hr z=>h2 ⟨r,hr,z⟩] at n
     exact n⟩
  refine⟨k,fun a ts e=>?_⟩
  by_cases h1:a=l
  ·subst h1
   rw[AF] at e
   cases e
   obtain⟨xs,hx,rx⟩:=ok a _ AF
   have:=LA rx
   subst this
   refine⟨_,hx,LB fun r hr=>?_⟩
   obtain⟨ys,hy,ry⟩:=ok r.1 r.2 (by rw[AS (hl r hr)];exact Cg hn hr)
   exact .lst hy (by rw[AS (hl r hr)];exact ho r hr) (ry.kp k ok)
  ·rw[AS h1] at e
   have hz:∀r∈rs,r.1≠a:=fun r hr z=>by rw[←z,ho r hr] at e;cases e
   obtain⟨xs,hx,rx⟩:=ok a ts (by rw[AS h1,CU hz];exact e)
   exact⟨xs,hx,rx.kp k ok⟩
 ·by_cases h1:b=l
  ·rw[h1];exact⟨_,AF⟩
  ·rw[AS h1] at e2 ⊢
   by_cases h2:∃r∈rs,r.1=b
   ·obtain⟨r,hr,rfl⟩:=h2
    rw[he r hr] at e1;cases e1
   ·rw[CU fun r hr z=>h2 ⟨r,hr,z⟩] at e2
    exact⟨_,e2⟩
end
theorem Fg{Z:Zx}{ρ:List (Option T)}{O:AG}{elt tg iter:Expr}{ifs:List Expr}{csc:Scope}{nc:List Str}{cap:List (Str×Nat)}{pos:Pos}{i:Nat}{x:Str}{px spos:Pos}{Ψ:Es}(hsw:swapsWith (.ListComp elt [⟨tg,iter,ifs,0⟩] csc pos) (some (.Name x px)) spos.line Z.X.env=pure true)(hN:Z.X.N.Nodup)(hc:Z.X.calm=true)(ok:LcOk Z.X csc nc cap)
  (h:WI Z ρ O tg iter (TU Z ρ elt tg ifs csc nc cap fun acc O'=>∀a,O' a=none→Ψ.nx (ρ.set i (some (.raw (.ref a)))) (Ab O' a acc))) (hx:Z.X.N[i]?=some x:=by rfl) (hk:Z.X.env.scope.names.lookup x=some .local:=by rfl)
  (hs:∀x,foldedSetIterable iter Z.X.env x=pure x:=by intro _;rfl):WS Z ρ O (.Assign [.Name x px] (.ListComp elt [⟨tg,iter,ifs,0⟩] csc pos) spos) Ψ:=
 PS.weak (KW hN hx hk hsw hc ok h Wp Qh Wq hs) fun D σ H q=>Qi q.1 h fun acc O' p H' p1 n f nb=>q.2.nx _ _ _ H' (p1 p n) ⟨(q.1.step f).rl.set (.raw _),(q.1.step f).fr⟩ f.kp
end L2.TL
namespace Gr
open L2.TL
variable{ps:List (Int×Int)}{n:Int}{S:List Int}{v u:Int}{d e s k:Nat}{fs gs:List (Option Nat)}{bey ds:List Int}
def Adj(ps:List (Int×Int))(u v:Int):Prop:=(u,v)∈ps∨(v,u)∈ps
theorem Adj.symm(h:Adj ps u v):Adj ps v u:=Or.symm h
inductive W(ps:List (Int×Int))(S:List Int):Nat→Int→Prop
 |at{v:Int}:v∈S→W ps S 0 v
 |go {k:Nat} {u v:Int}:W ps S k u→Adj ps u v→W ps S (k+1) v
def IsD(ps:List (Int×Int))(S:List Int)(v:Int)(d:Nat):Prop:=W ps S d v∧∀j,j<d→¬W ps S j v
theorem IsD.uniq(a:IsD ps S v d)(b:IsD ps S v e):d=e:=by
 rcases Nat.lt_trichotomy d e with h|h|h
 ·exact absurd a.1 (b.2 d h)
 ·exact h
 ·exact absurd b.1 (a.2 e h)
theorem W.least(h:W ps S k v):∃d,d≤k∧IsD ps S v d:=by
 induction k using Nat.strongRecOn with
 |_ k ih=>
  by_cases hx:∃j,j<k∧W ps S j v
  ·obtain⟨j,hj,w⟩:=hx
   obtain⟨d,hd,i⟩:=ih j hj w
   exact⟨d,by omega,i⟩
  ·exact⟨k,Nat.le_refl _,h,fun j hj w=>hx ⟨j,hj,w⟩⟩
theorem IsD.prev(h:IsD ps S v (s+1)):∃u,IsD ps S u s∧Adj ps u v:=by
 obtain⟨w,m⟩:=h
 cases w with
 |go w a=>exact⟨_,⟨w,fun j hj w'=>m (j+1) (by omega) (.go w' a)⟩,a⟩
def FQ(n:Int)(ps:List (Int×Int)):Prop:=∀p∈ps,0≤p.1∧p.1<p.2∧p.2<n
theorem Adj.inb(hw:FQ n ps)(h:Adj ps u v):0≤v∧v<n∧u≠v:=by
 rcases h with h|h
 ·have:=hw _ h
  simp only at this
  omega
 ·have:=hw _ h
  simp only at this
  omega
theorem W.inb(hw:FQ n ps)(hS:∀z∈S,0≤z∧z<n)(h:W ps S k v):0≤v∧v<n:=by
 cases h with
 |«at» h=>exact hS _ h
 |go _ a=>exact⟨(a.inb hw).1,(a.inb hw).2.1⟩
theorem IsD.lt(hw:FQ n ps)(hS:∀z∈S,0≤z∧z<n)(h:IsD ps S v s):(s:Int)<n:=by
 have key:∃L:List Nat,L.length=s+1∧L.Nodup∧∀u∈L,∃i,i≤s∧IsD ps S (u:Int) i:=by
  induction s generalizing v with
  |zero=>
   have:=h.1.inb hw hS
   refine⟨[v.toNat],rfl,by simp,fun u hu=> ⟨0,Nat.le_refl _,?_⟩⟩
   rw[List.mem_singleton.mp hu,Int.toNat_of_nonneg this.1]
   exact h
  |succ s ih=>
   obtain⟨u,hu,_⟩:=h.prev
   obtain⟨L,l1,l2,l3⟩:=ih hu
   have hb:=h.1.inb hw hS
   refine⟨v.toNat::L,by simp[l1],List.nodup_cons.mpr ⟨fun hm=>?_,l2⟩,fun z hz=>?_⟩
   ·obtain⟨i,hi,q⟩:=l3 _ hm
    rw[Int.toNat_of_nonneg hb.1] at q
    have:=q.uniq h
    omega
   ·rcases List.mem_cons.mp hz with rfl|hz
    ·exact⟨s+1,Nat.le_refl _,by rw[Int.toNat_of_nonneg hb.1];exact h⟩
    ·obtain⟨i,hi,q⟩:=l3 z hz
     exact⟨i,by omega,q⟩
 obtain⟨L,l1,l2,l3⟩:=key
 have:=StT.Bv n.toNat L l2 (fun x hx=>by
  obtain⟨i,_,q⟩:=l3 x hx
  have:=q.1.inb hw hS
  omega)
 omega
structure Fr(n:Int)(ps:List (Int×Int))(S:List Int)(s:Nat)(fs:List (Option Nat)):Prop where
 len:(fs.length:Int)=n
 eq:∀v:Int,0≤v→v<n→∀d,fs[v.toNat]?=some (some d)↔(d≤s∧IsD ps S v d)
structure All(n:Int)(ps:List (Int×Int))(S:List Int)(fs:List (Option Nat)):Prop where
 len:(fs.length:Int)=n
 eq:∀v:Int,0≤v→v<n→∀d,fs[v.toNat]?=some (some d)↔IsD ps S v d
theorem Fr.all_n(hw:FQ n ps)(hS:∀z∈S,0≤z∧z<n)(h:Fr n ps S s fs)(e:n≤(s:Int)+1):All n ps S fs:=⟨h.len,fun v v0 v1 d=>by
 rw[h.eq v v0 v1 d]
 refine⟨fun z=>z.2,fun z=> ⟨?_,z⟩⟩
 have:=z.lt hw hS
 omega⟩
theorem Jh(hl:(fs.length:Int)=n)(h:∀v:Int,0≤v→v<n→∀d,fs[v.toNat]?=some (some d)↔(d=0∧v∈S)):Fr n ps S 0 fs:=⟨hl,fun v v0 v1 d=>by
 rw[h v v0 v1 d]
 constructor
 ·rintro⟨rfl,hv⟩
  exact⟨Nat.le_refl _,.at hv,fun j hj=>by omega⟩
 ·rintro⟨hd,w,_⟩
  have:d=0:=by omega
  subst this
  cases w with
  |«at» h=>exact⟨rfl,h⟩⟩
structure Mid(n:Int)(ps:List (Int×Int))(S:List Int)(s:Nat)(fs:List (Option Nat))(bey ds:List Int):Prop where
 len:(fs.length:Int)=n
 eq:∀v:Int,0≤v→v<n→∀d,fs[v.toNat]?=some (some d)↔((d≤s∧IsD ps S v d)∨(d=s+1∧v∈bey))
 sub:∀v∈bey,IsD ps S v (s+1)
 dn:∀v∈ds,0≤v∧v<n∧∃d,fs[v.toNat]?=some (some d)
theorem Fr.mid(h:Fr n ps S s fs):Mid n ps S s fs [] []:=⟨h.len,fun v v0 v1 d=>by
 rw[h.eq v v0 v1 d]
 simp,(fun _ h=>by cases h),(fun _ h=>by cases h)⟩
theorem Mid.miss(m:Mid n ps S s fs bey ds)(v0:0≤v)(v1:v<n)(h:fs[v.toNat]?=some (some d)):Mid n ps S s fs bey (ds++[v]):=⟨m.len,m.eq,m.sub,fun z hz=>by
 rcases List.mem_append.mp hz with hz|hz
 ·exact m.dn z hz
 ·rw[List.mem_singleton.mp hz];exact⟨v0,v1,d,h⟩⟩
theorem Mid.hit(m:Mid n ps S s fs bey ds)(v0:0≤v)(v1:v<n)(hn:fs[v.toNat]?=some none)(hu:IsD ps S u s)(a:Adj ps u v):Mid n ps S s (fs.set v.toNat (some (s+1))) (bey++[v]) (ds++[v]):=by
 have hl:=m.len
 have hlt:v.toNat<fs.length:=by omega
 have iv:IsD ps S v (s+1):=by
  refine⟨.go hu.1 a,fun j hj w=>?_⟩
  obtain⟨d,hd,i⟩:=w.least
  have:=(m.eq v v0 v1 d).mpr (.inl ⟨by omega,i⟩)
  rw[hn] at this
  cases this
 have key:∀w:Int,0≤w→w<n→w≠v→(fs.set v.toNat (some (s+1)))[w.toNat]?=fs[w.toNat]?:=fun w w0 w1 h=>List.getElem?_set_ne (by omega)
 refine⟨by rw[List.length_set];exact hl,fun w w0 w1 d=>?_,fun w hw=>?_,fun w hw=>?_⟩
 ·by_cases h:w=v
  ·subst h
   rw[List.getElem?_set_self hlt]
   constructor
   ·intro z
    have:d=s+1:=by cases z;rfl
    exact .inr ⟨this,by simp⟩
   ·rintro(z|z)
    ·have:=z.2.uniq iv
     omega
    ·rw[z.1]
  ·rw[key w w0 w1 h,m.eq w w0 w1 d]
   have:w∈bey++[v]↔w∈bey:=by simp[h]
   rw[this]
 ·rcases List.mem_append.mp hw with hw|hw
  ·exact m.sub w hw
  ·rw[List.mem_singleton.mp hw];exact iv
 ·rcases List.mem_append.mp hw with hw|hw
  ·obtain⟨w0,w1,d,hd⟩:=m.dn w hw
   refine⟨w0,w1,?_⟩
   by_cases h:w=v
   ·subst h;exact⟨_,List.getElem?_set_self hlt⟩
   ·exact⟨d,by rw[key w w0 w1 h];exact hd⟩
  ·rw[List.mem_singleton.mp hw];exact⟨v0,v1,_,List.getElem?_set_self hlt⟩
theorem Mid.done(m:Mid n ps S s fs bey ds)(h:∀u v,IsD ps S u s→Adj ps u v→v∈ds):Fr n ps S (s+1) fs∧∀v,v∈bey↔IsD ps S v (s+1):=by
 have key:∀v,IsD ps S v (s+1)→v∈bey:=fun v i=>by
  obtain⟨u,hu,a⟩:=i.prev
  obtain⟨v0,v1,d,hd⟩:=m.dn v (h u v hu a)
  rcases(m.eq v v0 v1 d).mp hd with z|z
  ·have:=z.2.uniq i
   omega
  ·exact z.2
 refine⟨⟨m.len,fun v v0 v1 d=>?_⟩,fun v=> ⟨m.sub v,key v⟩⟩
 rw[m.eq v v0 v1 d]
 constructor
 ·rintro(z|z)
  ·exact⟨by omega,z.2⟩
  ·rw[z.1];exact⟨Nat.le_refl _,m.sub v z.2⟩
 ·rintro⟨h1,h2⟩
  by_cases hd:d≤s
  ·exact .inl ⟨hd,h2⟩
  ·have:d=s+1:=by omega
   subst this
   exact .inr ⟨rfl,key v h2⟩
theorem EV{L:List Int}(h:L.Nodup)(hb:∀z∈L,0≤z∧z<n):L.length≤n.toNat:=by
 have key:∀L:List Int,L.Nodup→(∀z∈L,0≤z∧z<n)→(L.map Int.toNat).Nodup:=by
  intro L
  induction L with
  |nil=>intro _ _;simp
  |cons a L ih=>
   intro h hb
   rw[List.nodup_cons] at h
   rw[List.map_cons,List.nodup_cons]
   refine⟨fun hm=>?_,ih h.2 fun z hz=>hb z (List.mem_cons_of_mem _ hz)⟩
   obtain⟨z,hz,e⟩:=List.mem_map.mp hm
   have h1:=hb z (List.mem_cons_of_mem _ hz)
   have h2:=hb a (List.mem_cons_self ..)
   have:z=a:=by omega
   subst this
   exact h.1 hz
 have:=StT.Bv n.toNat (L.map Int.toNat) (key L h hb) (fun x hx=>by
  obtain⟨z,hz,rfl⟩:=List.mem_map.mp hx
  have:=hb z hz
  omega)
 rw[List.length_map] at this
 exact this
end Gr
namespace L2.TL
open PySem PySem.Spec PyProof.Rows
section
variable{X:Cx}
theorem LF{v:V}{u:Value}(h:RelV v u):∀n,Vals (List.replicate n v) (List.replicate n u)
 |0=> .nil
 |n+1=> .cons h (LF h n)
theorem LG{u:Value}:∀(n:Nat) (acc:Array Value),List.foldl (fun x1 x2=>x1++x2) acc (List.replicate n [u].toArray)=acc++(List.replicate n u).toArray
 |0,acc=>by simp
 |n+1,acc=>by
  rw[List.replicate_succ,List.foldl_cons,LG n]
  rw[List.replicate_succ]
  apply Array.ext'
  simp
def ZP(K:PySem.W.Frag):R2:=fun x y H Q=>∃(a:Addr) (i:Int) (v:V),x=.ref a∧y=.int i∧SqL K H a [v]∧(0≤i∧i≤1000)∧∀p,H p=none→Q (.ref p) (upd H p (.lst (List.replicate i.toNat v)))
theorem Ng:DC X (binaryOp .Mult) (ZP X.K):=by
 intro pins s σ H x y v u Q I rx ry h
 obtain⟨a,i,e,rfl,rfl,ha,hi,q⟩:=h
 cases rx
 obtain⟨tk,rfl⟩:=ry
 obtain⟨its,rv,p,_⟩:=I.list ha
 obtain⟨⟨cls,d,data,sl⟩,k,ho,hc,hdd,hd⟩:=id p
 simp only at hc hd
 subst hc hd
 obtain⟨u1,rfl,ru⟩:=Vals.one rv
 have hf:=I.hok.fresh (Nat.le_refl s.heap.objs.size)
 refine wpAny_binaryOp_repeat_ref (T:="list") (U:="int") (by decide) ⟨_,ho,rfl⟩ (fun s'=>typeIs_int s' i tk) noFill_list_mul F.fills_int_mul F.slot_int_rmul repeat_list F.slot_int_index.lookup
  (call_meets F.slot_int_rmul (typeIs_int s i tk) F.entry_int_rmul (F.args_int_rmul_2 _ _) (lm_int_rmul_list_any i tk a [u1].toArray k d sl)
   ⟨ho,rfl,⟨_,ho,rfl⟩,call_meets F.slot_list_mul ⟨_,ho,rfl⟩ F.entry_list_mul (F.args_list_mul_2 _ _)
    (lm_list_mul_any a [u1].toArray k d sl i tk (by simp[Builtin.List.listFitsIndex];omega) (by simp;omega) (by simp[Builtin.List.listTooLong,sizeLine];omega)) ⟨ho,?_⟩⟩)
 have ef:List.foldl (fun x1 x2=>x1++x2) #[] (List.replicate (if[u1].toArray.isEmpty=true then 0 else i.toNat) [u1].toArray)=(List.replicate i.toNat u1).toArray:=by
  show List.foldl (fun x1 x2=>x1++x2) #[] (List.replicate i.toNat [u1].toArray)=_
  rw[LG]
  simp
 rw[ef]
 exact⟨.ref _,_,I.laid (t':=s.toks) (o:=.lst (List.replicate i.toNat e)) (fun b ob q=>Heap.get?_push_of_some _ q) (Nat.le_refl _) ⟨by rw[List.length_replicate,sizeLine_eq];omega,List.replicate i.toNat u1,0,LF ru _,Heap.get?_push_size _ rfl⟩,rfl,q _ hf⟩
end
section
variable{Z:Zx}{ρ:List (Option T)}{O:AG}{a b:Expr}{t:T}{Φ:BK}{pos:Pos}{i:Int}
theorem Rep.repl{K:PySem.W.Frag}{O:AG}{H:Hp}{v:V}{t:T}(h:Rep K O H v t):∀n,Reps K O H (List.replicate n v) (List.replicate n t)
 |0=> .nil
 |n+1=> .cons h (Rep.repl h n)
theorem Tn(ha:ET Z ρ O a (.lst [t]))(hb:ET Z ρ O b (.int i))(hi:0≤i∧i≤1000)(k:∀p,O p=none→Φ (.raw (.ref p)) (Ab O p (List.replicate i.toNat t))):WE Z ρ O (.BinOp a .Mult b pos) Φ:=
 Cr Ng (ET.we ha (ET.we hb fun H v w Q ok r1 r2 q=>by
  obtain⟨a,xs,rfl,h1,_,r1⟩:=r1.lst_inv
  obtain⟨v,rfl,g⟩:=r1.one_inv
  exact⟨a,i,v,rfl,r2.int_inv,.inl (.inl h1),hi,fun l hl=>q _ _ _ _ (k l (ok.none_of hl)) (.newO ok hl (Rep.repl g _)) (.raw _)⟩))
end
section
variable{Z:Zx}{ρ:List (Option T)}{O:AG}{body:List Stmt}{Ψ:Es}{pos:Pos}
end
end L2.TL
namespace L2
open PySem PySem.Spec PyProof.Rows
section
variable{X:Cx}
end
end L2
namespace L2.TL
open PySem PySem.Spec PyProof.Rows
section
variable{Z:Zx}{ρ:List (Option T)}{O:AG}{a:Expr}{ts:List T}{p pos:Pos}
end
section
variable{Z:Zx}{ρ:List (Option T)}{O:AG}{elt tg iter:Expr}{csc:Scope}{nc:List Str}{cap:List (Str×Nat)}{pos:Pos}
end
open PySem.Calls
def To:T→Bool
 | .tup _=>true
 | .lst _=>true
 |_=>false
section
variable{X:Cx}
def XB(K:PySem.W.Frag):List V→Hp→VK→Prop:=fun xs H Q=>∃v O t,xs=[v]∧Rep K O H v t∧To t=true∧Ht t=true∧(dT t).weight≤2^20∧(dT t).depth≤100∧Q (.str (dT t).shown) H
theorem MZ(hg:X.A.guards=some [])(hu:X.A.units+101<cLine):Az X (.builtin "repr") (XB X.K):=by
 intro pins s σ H xs us Q I r h
 obtain⟨v,O,t,rfl,rep,sq,sh,hw,hd,q⟩:=h
 obtain⟨u,rfl,ru⟩:=Vals.one r
 obtain⟨as,rd⟩:=Rep.reads I.hok rep sh ru
 obtain⟨s1,s2,s3⟩:=Nc t sh
 have hv:∃a,v=.ref a:=by
  cases t with
  |tup ts=>obtain⟨a,_,rfl,_⟩:=rep.tup_inv;exact⟨a,rfl⟩
  |lst ts=>obtain⟨a,_,rfl,_⟩:=rep.lst_inv;exact⟨a,rfl⟩
  |_=>cases sq
 obtain⟨a,rfl⟩:=hv
 cases ru
 exact repr_of_reads' rd s1 (PyData.noDict_hsm s2) hg (by omega) (fun _ _ e=>e) (fun h' u tk hk=> ⟨.str _,H,I.kept hk,⟨u,rfl⟩,q⟩) (PyData.shown_fits (by decide) (by decide) s3 hw)
theorem HU:Az X (.builtin "repr") (fun xs H Q=>xs=[.non]∧Q (.str "None") H):=by
 intro pins s σ H xs us Q I r h
 obtain⟨rfl,q⟩:=h
 obtain⟨u,rfl,ru⟩:=Vals.one r
 cases ru
 exact PySem.P.repr_of_none ⟨.str _,H,I.tok _,⟨_,rfl⟩,q⟩
end
section
variable{Z:Zx}{ρ:List (Option T)}{O:AG}{e a b hi:Expr}{p p2 pos:Pos}{t:T}{ts:List T}{i:Int}{Φ:BK}
theorem Tp(hg:Z.X.A.guards=some [])(hu:Z.X.A.units+101<cLine)(m:Z.X.mg "repr" =none)(h:ET Z ρ O e t)(sq:To t=true)(sh:Ht t=true)(hw:(dT t).weight≤2^20)(hd:(dT t).depth≤100)
  (hgl:Gl Z.X "repr":=by rfl) (he:starEach [e] Z.X.env=(false,eval e Z.X.env)::starEach [] Z.X.env:=by rfl):ET Z ρ O (.Call (.Name "repr" p) [e] [] pos) (.str (dT t).shown):=
 Am (MZ hg hu) m Il (AJ h AC he) (fun Φ q H vs Q ok r k=>by
  obtain⟨v,rfl,r1⟩:=r.one_inv
  exact⟨v,O,t,rfl,r1,sq,sh,hw,hd,k _ H _ O q (.refl ok) (.str _)⟩) hgl (by decide) (by decide) he
theorem LH(m:Z.X.mg "repr" =none)(h:ET Z ρ O e (.int i))(hl:i.natAbs.log2<1920)(hgl:Gl Z.X "repr":=by rfl)(he:starEach [e] Z.X.env=(false,eval e Z.X.env)::starEach [] Z.X.env:=by rfl):ET Z ρ O (.Call (.Name "repr" p) [e] [] pos) (.str (toString i)):=
 Am Hz m Il (AJ h AC he) (fun Φ q H vs Q ok r k=>by
  obtain⟨v,rfl,r1⟩:=r.one_inv
  cases r1.int_inv
  exact⟨i,rfl,hl,k _ H _ O q (.refl ok) (.str _)⟩) hgl (by decide) (by decide) he
theorem LI(m:Z.X.mg "repr" =none)(h:ET Z ρ O e .non)(hgl:Gl Z.X "repr":=by rfl)(he:starEach [e] Z.X.env=(false,eval e Z.X.env)::starEach [] Z.X.env:=by rfl):ET Z ρ O (.Call (.Name "repr" p) [e] [] pos) (.str "None"):=
 Am HU m Il (AJ h AC he) (fun Φ q H vs Q ok r k=>by
  obtain⟨v,rfl,r1⟩:=r.one_inv
  cases r1.non_inv
  exact⟨rfl,k _ H _ O q (.refl ok) (.str _)⟩) hgl (by decide) (by decide) he
theorem Ji(ha:ET Z ρ O a (.lst [t]))(hb:ET Z ρ O b (.int i))(hi:0≤i∧i≤1000):ET Z ρ O (.BinOp a .Mult b pos) (.lst (List.replicate i.toNat t)):=fun Φ k=>
 Cr Ng (ET.we ha (ET.we hb fun H v w Q ok r1 r2 q=>by
  obtain⟨a,xs,rfl,h1,_,r1⟩:=r1.lst_inv
  obtain⟨v,rfl,g⟩:=r1.one_inv
  exact⟨a,i,v,rfl,r2.int_inv,.inl (.inl h1),hi,fun l hl=>q _ _ _ _ k (.new ok hl) (.lst AO (ok.none_of hl) ((Rep.repl g _).kp (BV ok hl) ok))⟩))
theorem XC(h:ET Z ρ O e (.lst ts))(h2:ET Z ρ O hi (.int i)):ET Z ρ O (.Subscript e (.Slice none (some hi) none p2) pos) (.lst (Oy ts none (some i))):=fun Φ k=>by
 refine PE.weak (Gc JL (BM (ρ:=ρ)) NB (GI (BM (ρ:=ρ)))) fun σ H0 Q q=>?_
 refine⟨O,_,h (fun t O'=>t=.lst ts∧O'=O) ⟨rfl,rfl⟩,q.1,?_⟩
 rintro v H1 _ _ ⟨rfl,rfl⟩ f1 r1
 refine⟨_,_,h2 (fun t O'=>t=.int i∧O'=_) ⟨rfl,rfl⟩,q.1.step f1,?_⟩
 rintro v2 H2 _ _ ⟨rfl,rfl⟩ f2 r2
 obtain⟨a,xs,rfl,h1,_,r1⟩:=(r1.kp f2.kp f1.ok).lst_inv
 have ff:=f1.trans f2
 exact⟨i,r2.int_inv,a,xs,rfl,.inl (.inl h1),fun l hl=>q.2 _ _ _ _ k (ff.trans (.new ff.ok hl)) (.lst AO (ff.ok.none_of hl) ((r1.cut).kp (BV ff.ok hl) ff.ok))⟩
end
end L2.TL
namespace L2
open PySem PySem.Spec PySem.Calls PyProof.Rows
section
variable{prog:Program}{w:World}{A:Around}{E:Value→Shared→Prop}{s:Shared}
end
section
variable{X:Cx}
end
end L2
namespace L2.TL
open PySem PySem.Spec PyProof.Rows
section
variable{Z:Zx}{ρ:List (Option T)}{O:AG}{e o:Expr}{Φ:BK}{p pos apos cpos:Pos}{ns:List Int}{i:Int}{j:Nat}
end
end L2.TL
namespace SrtG
open PySem PySem.Calls PySem.W PyProof.Rows
variable{prog:Program}{w:World}{A:Around}{E:Value→Shared→Prop}{s:Shared}
end SrtG
namespace L2
open PySem PySem.Spec PySem.Calls PyProof.Rows SrtG
theorem Bq{α β:Type}{f:α→β}{o b:List β}(h:o.Perm b):∀{l:List α},b=l.map f→∃m:List α,m.Perm l∧o=m.map f:=by
 induction h with
 |nil=>
  intro l e
  cases l with
  |nil=>exact⟨[],.refl _,rfl⟩
  |cons x l=>cases e
 |cons x p ih=>
  intro l e
  cases l with
  |nil=>cases e
  |cons y l=>
   injection e with e1 e2
   obtain⟨m,h1,h2⟩:=ih e2
   exact⟨y::m,h1.cons y,by rw[List.map_cons,←h2,e1]⟩
 |swap x y t=>
  intro l e
  cases l with
  |nil=>cases e
  |cons u l=>
   cases l with
   |nil=>injection e with e1 e2;cases e2
   |cons v l=>
    injection e with e1 e2
    injection e2 with e3 e4
    exact⟨v::u::l,.swap ..,by rw[List.map_cons,List.map_cons,e1,e3,e4]⟩
 |trans p q ih1 ih2=>
  intro l e
  obtain⟨m,h1,h2⟩:=ih2 e
  obtain⟨m',h3,h4⟩:=ih1 h2
  exact⟨m',h3.trans h1,h4⟩
section
variable{prog:Program}{w:World}{A:Around}{E:Value→Shared→Prop}{s:Shared}{U:Heap→Value→Prop}{rk:Heap→Value→Int}{T:Value}
theorem Ma{l:Addr}{o:Obj}{vs:List Value}{n:Nat}{Q:Value→Shared→Prop}(ho:s.heap.get? l=some o)(hc:o.cls=.type "list")(hd:o.data=.seq vs.toArray n)(R:Rk prog w U rk T)(ok:∀v∈vs,U s.heap v)(hn:vs.length≤9000000)(hs:vs.length<64∨vs.Pairwise fun x y=>rk s.heap x≤rk s.heap y)
  (h:∀(h':Heap) (a:Addr) (out:List Value) (c:Nat),s.heap.get? a=none→h'.get? a=some (seqObj "list" out.toArray c)→(∀b o,s.heap.get? b=some o→h'.get? b=some o)→out.Perm vs→out.Pairwise (fun x y=>rk s.heap x≤rk s.heap y)→Q (.ref a) {s with heap:=h'}):
  wpAny (model prog w) A (call (.builtin "sorted") [.ref l]) Q E s:=by
 refine Calls.call_function_entry kind_sorted plain_sorted entry_sorted (args_sorted1 _) ?_
 unfold Builtin.«sorted»
 refine wpAny_bind (m:=checkCount "sorted" 1 1 _) (wpAny_pure ?_)
 refine wpAny_bind (wpAny_collect_seq l (.inl rfl) ho hc hd (fun h1 hk1=>?_) (by rw[List.size_toArray,sizeLine_eq];omega))
 show wpAny _ _ (newList vs>>=_) _ _ _
 refine wpAny_bind (wpAny_newList ?_ (by rw[sizeLine_eq];omega))
 have hoL:(h1.push (seqObj "list" vs.toArray 0)).get? h1.objs.size=some (seqObj "list" vs.toArray 0):=Heap.get?_push_size _ rfl
 have keep:∀b o,s.heap.get? b=some o→(h1.push (seqObj "list" vs.toArray 0)).get? b=some o:=fun b o e=>Heap.get?_push_of_some _ (hk1 b o e)
 have ok1:∀v∈vs,U (h1.push (seqObj "list" vs.toArray 0)) v:=fun v hv=> (R.kept (ok v hv) fun b o _ e=>keep b o e).1
 have fin:∀(out:List Value) (c:Nat) (h':Heap),out.Perm vs→out.Pairwise (fun x y=>rk (h1.push (seqObj "list" vs.toArray 0)) x≤rk (h1.push (seqObj "list" vs.toArray 0)) y)→h'.get? h1.objs.size=some (seqObj "list" (List.toArray out) c)→(∀b o,b≠h1.objs.size→(h1.push (seqObj "list" vs.toArray 0)).get? b=some o→h'.get? b=some o)→Q (.ref h1.objs.size) {s with heap:=h'}:=fun out c h' pm pw hg hk=>by
  refine h _ h1.objs.size out c ?_ hg (fun b o e=>?_) pm ?_
  ·cases e:s.heap.get? h1.objs.size with
   |none=>rfl
   |some o'=>exact absurd (Heap.lt_size (hk1 _ _ e)) (Nat.lt_irrefl _)
  ·exact hk b o (Nat.ne_of_lt (Heap.lt_size (hk1 b o e))) (keep b o e)
  ·refine List.Pairwise.imp_of_mem (fun{x y} hx hy q=>?_) pw
   rw[(R.kept (ok _ (pm.mem_iff.mp hx)) fun b o _ e=>keep b o e).2,(R.kept (ok _ (pm.mem_iff.mp hy)) fun b o _ e=>keep b o e).2] at q
   exact q
 show wpAny _ _ _ _ _ {s with heap:=h1.push (seqObj "list" vs.toArray 0)}
 refine wpAny_bind (wpAny_holding (wpAny_call_entry slot_list_sort ⟨_,hoL,rfl⟩ entry_list_sort ?body (args_list_sort _)))
 by_cases hlen:vs.length<2
 ·refine StT.Ko (s:={s with heap:=h1.push (seqObj "list" vs.toArray 0)}) hoL hlen fun c h2 hg hk=> ⟨_,rfl,wpAny_pure ⟨_,rfl,fin vs c h2 (.refl _) ?_ hg hk⟩⟩
  match vs,hlen with
  | [],_=>exact .nil
  | [x],_=>exact List.pairwise_singleton _ _
 ·exact Kn (s:={s with heap:=h1.push (seqObj "list" vs.toArray 0)}) hoL R ok1 (by omega) hn (hs.imp id fun q=>q.imp_of_mem fun{x y} hx hy q=>by rw[(R.kept (ok x hx) fun b o _ e=>keep b o e).2,(R.kept (ok y hy) fun b o _ e=>keep b o e).2];exact q) fun out c h' pm pw hg hk=> ⟨_,rfl,wpAny_pure ⟨_,rfl,fin out c h' pm pw hg hk⟩⟩
end
section
variable{X:Cx}{pins:List (Addr×Obj)}{σ:St}{H:Hp}{s:Shared}
end
end L2
namespace L2.TL
open PySem PySem.Spec PyProof.Rows SrtG
section
variable{K:PySem.W.Frag}{O:AG}{H:Hp}
end
section
variable{Z:Zx}{ρ:List (Option T)}{O:AG}{e:Expr}{Φ:BK}{p pos:Pos}{ks:List Kd}
end
end L2.TL
namespace L2
open PySem PySem.Spec PySem.Calls PyProof.Rows
section
variable{X:Cx}
end
end L2
namespace L2.TL
open PySem PySem.Spec PySem.Calls PyProof.Rows
section
variable{K:PySem.W.Frag}{O:AG}{H H':Hp}
end
section
variable{Z:Zx}{ρ:List (Option T)}{O:AG}{e a b:Expr}{Φ:BK}{p pos:Pos}{d:Addr}{qs:List (Str×T)}{x:Str}{t:T}
end
section
variable{Z:Zx}{ρ:List (Option T)}{O:AG}{a b tg:Expr}{i j:Int}{pos:Pos}{n:Str}{ad:Addr}{xs:List V}
end
section
variable{Z:Zx}{ρ:List (Option T)}{O:AG}{x y z:Str}{p1 p2 p3 pos:Pos}{k:Nat}{ad:Addr}{w:Str}{l m':Int}
end
end L2.TL
namespace GrR
open L2.TL
variable{R:Int→Int→Prop}{n:Int}{S:List Int}{v u:Int}{d e s k:Nat}{fs gs:List (Option Nat)}{bey ds:List Int}
inductive W(R:Int→Int→Prop)(S:List Int):Nat→Int→Prop
 |at{v:Int}:v∈S→W R S 0 v
 |go {k:Nat} {u v:Int}:W R S k u→R u v→W R S (k+1) v
def IsD(R:Int→Int→Prop)(S:List Int)(v:Int)(d:Nat):Prop:=W R S d v∧∀j,j<d→¬W R S j v
theorem IsD.uniq(a:IsD R S v d)(b:IsD R S v e):d=e:=by
 rcases Nat.lt_trichotomy d e with h|h|h
 ·exact absurd a.1 (b.2 d h)
 ·exact h
 ·exact absurd b.1 (a.2 e h)
theorem W.least(h:W R S k v):∃d,d≤k∧IsD R S v d:=by
 induction k using Nat.strongRecOn with
 |_ k ih=>
  by_cases hx:∃j,j<k∧W R S j v
  ·obtain⟨j,hj,w⟩:=hx
   obtain⟨d,hd,i⟩:=ih j hj w
   exact⟨d,by omega,i⟩
  ·exact⟨k,Nat.le_refl _,h,fun j hj w=>hx ⟨j,hj,w⟩⟩
theorem IsD.prev(h:IsD R S v (s+1)):∃u,IsD R S u s∧R u v:=by
 obtain⟨w,m⟩:=h
 cases w with
 |go w a=>exact⟨_,⟨w,fun j hj w'=>m (j+1) (by omega) (.go w' a)⟩,a⟩
theorem IsD.down(h:IsD R S v (s+k)):∃u,IsD R S u s:=by
 induction k generalizing v with
 |zero=>exact⟨v,h⟩
 |succ k ih=>
  obtain⟨u,hu,_⟩:=IsD.prev (s:=s+k) h
  exact ih hu
def ZQ(n:Int)(R:Int→Int→Prop):Prop:=∀u v,R u v→0≤v∧v<n
theorem W.inb(hw:ZQ n R)(hS:∀z∈S,0≤z∧z<n)(h:W R S k v):0≤v∧v<n:=by
 cases h with
 |«at» h=>exact hS _ h
 |go _ a=>exact hw _ _ a
theorem IsD.lt(hw:ZQ n R)(hS:∀z∈S,0≤z∧z<n)(h:IsD R S v s):(s:Int)<n:=by
 have key:∃L:List Nat,L.length=s+1∧L.Nodup∧∀u∈L,∃i,i≤s∧IsD R S (u:Int) i:=by
  induction s generalizing v with
  |zero=>
   have:=h.1.inb hw hS
   refine⟨[v.toNat],rfl,by simp,fun u hu=> ⟨0,Nat.le_refl _,?_⟩⟩
   rw[List.mem_singleton.mp hu,Int.toNat_of_nonneg this.1]
   exact h
  |succ s ih=>
   obtain⟨u,hu,_⟩:=h.prev
   obtain⟨L,l1,l2,l3⟩:=ih hu
   have hb:=h.1.inb hw hS
   refine⟨v.toNat::L,by simp[l1],List.nodup_cons.mpr ⟨fun hm=>?_,l2⟩,fun z hz=>?_⟩
   ·obtain⟨i,hi,q⟩:=l3 _ hm
    rw[Int.toNat_of_nonneg hb.1] at q
    have:=q.uniq h
    omega
   ·rcases List.mem_cons.mp hz with rfl|hz
    ·exact⟨s+1,Nat.le_refl _,by rw[Int.toNat_of_nonneg hb.1];exact h⟩
    ·obtain⟨i,hi,q⟩:=l3 z hz
     exact⟨i,by omega,q⟩
 obtain⟨L,l1,l2,l3⟩:=key
 have:=StT.Bv n.toNat L l2 (fun x hx=>by
  obtain⟨i,_,q⟩:=l3 x hx
  have:=q.1.inb hw hS
  omega)
 omega
structure Fr(n:Int)(R:Int→Int→Prop)(S:List Int)(s:Nat)(fs:List (Option Nat)):Prop where
 len:(fs.length:Int)=n
 eq:∀v:Int,0≤v→v<n→∀d,fs[v.toNat]?=some (some d)↔(d≤s∧IsD R S v d)
structure All(n:Int)(R:Int→Int→Prop)(S:List Int)(fs:List (Option Nat)):Prop where
 len:(fs.length:Int)=n
 eq:∀v:Int,0≤v→v<n→∀d,fs[v.toNat]?=some (some d)↔IsD R S v d
theorem Fr.all_end(h:Fr n R S s fs)(e:∀v,¬IsD R S v s):All n R S fs:=⟨h.len,fun v v0 v1 d=>by
 rw[h.eq v v0 v1 d]
 refine⟨fun z=>z.2,fun z=> ⟨?_,z⟩⟩
 by_cases hd:d≤s
 ·exact hd
 ·obtain⟨k,rfl⟩:∃k,d=s+k:=⟨d-s,by omega⟩
  obtain⟨u,hu⟩:=z.down
  exact absurd hu (e u)⟩
theorem Jh(hl:(fs.length:Int)=n)(h:∀v:Int,0≤v→v<n→∀d,fs[v.toNat]?=some (some d)↔(d=0∧v∈S)):Fr n R S 0 fs:=⟨hl,fun v v0 v1 d=>by
 rw[h v v0 v1 d]
 constructor
 ·rintro⟨rfl,hv⟩
  exact⟨Nat.le_refl _,.at hv,fun j hj=>by omega⟩
 ·rintro⟨hd,w,_⟩
  have:d=0:=by omega
  subst this
  cases w with
  |«at» h=>exact⟨rfl,h⟩⟩
structure Mid(n:Int)(R:Int→Int→Prop)(S:List Int)(s:Nat)(fs:List (Option Nat))(bey ds:List Int):Prop where
 len:(fs.length:Int)=n
 eq:∀v:Int,0≤v→v<n→∀d,fs[v.toNat]?=some (some d)↔((d≤s∧IsD R S v d)∨(d=s+1∧v∈bey))
 sub:∀v∈bey,IsD R S v (s+1)
 dn:∀v∈ds,0≤v∧v<n∧∃d,fs[v.toNat]?=some (some d)
theorem Fr.mid(h:Fr n R S s fs):Mid n R S s fs [] []:=⟨h.len,fun v v0 v1 d=>by
 rw[h.eq v v0 v1 d]
 simp,(fun _ h=>by cases h),(fun _ h=>by cases h)⟩
theorem Mid.miss(m:Mid n R S s fs bey ds)(v0:0≤v)(v1:v<n)(h:fs[v.toNat]?=some (some d)):Mid n R S s fs bey (ds++[v]):=⟨m.len,m.eq,m.sub,fun z hz=>by
 rcases List.mem_append.mp hz with hz|hz
 ·exact m.dn z hz
 ·rw[List.mem_singleton.mp hz];exact⟨v0,v1,d,h⟩⟩
theorem Mid.hit(m:Mid n R S s fs bey ds)(v0:0≤v)(v1:v<n)(hn:fs[v.toNat]?=some none)(hu:IsD R S u s)(a:R u v):Mid n R S s (fs.set v.toNat (some (s+1))) (bey++[v]) (ds++[v]):=by
 have hl:=m.len
 have hlt:v.toNat<fs.length:=by omega
 have iv:IsD R S v (s+1):=by
  refine⟨.go hu.1 a,fun j hj w=>?_⟩
  obtain⟨d,hd,i⟩:=w.least
  have:=(m.eq v v0 v1 d).mpr (.inl ⟨by omega,i⟩)
  rw[hn] at this
  cases this
 have key:∀w:Int,0≤w→w<n→w≠v→(fs.set v.toNat (some (s+1)))[w.toNat]?=fs[w.toNat]?:=fun w w0 w1 h=>List.getElem?_set_ne (by omega)
 refine⟨by rw[List.length_set];exact hl,fun w w0 w1 d=>?_,fun w hw=>?_,fun w hw=>?_⟩
 ·by_cases h:w=v
  ·subst h
   rw[List.getElem?_set_self hlt]
   constructor
   ·intro z
    have:d=s+1:=by cases z;rfl
    exact .inr ⟨this,by simp⟩
   ·rintro(z|z)
    ·have:=z.2.uniq iv
     omega
    ·rw[z.1]
  ·rw[key w w0 w1 h,m.eq w w0 w1 d]
   have:w∈bey++[v]↔w∈bey:=by simp[h]
   rw[this]
 ·rcases List.mem_append.mp hw with hw|hw
  ·exact m.sub w hw
  ·rw[List.mem_singleton.mp hw];exact iv
 ·rcases List.mem_append.mp hw with hw|hw
  ·obtain⟨w0,w1,d,hd⟩:=m.dn w hw
   refine⟨w0,w1,?_⟩
   by_cases h:w=v
   ·subst h;exact⟨_,List.getElem?_set_self hlt⟩
   ·exact⟨d,by rw[key w w0 w1 h];exact hd⟩
  ·rw[List.mem_singleton.mp hw];exact⟨v0,v1,_,List.getElem?_set_self hlt⟩
theorem Mid.done(m:Mid n R S s fs bey ds)(h:∀u v,IsD R S u s→R u v→v∈ds):Fr n R S (s+1) fs∧∀v,v∈bey↔IsD R S v (s+1):=by
 have key:∀v,IsD R S v (s+1)→v∈bey:=fun v i=>by
  obtain⟨u,hu,a⟩:=i.prev
  obtain⟨v0,v1,d,hd⟩:=m.dn v (h u v hu a)
  rcases(m.eq v v0 v1 d).mp hd with z|z
  ·have:=z.2.uniq i
   omega
  ·exact z.2
 refine⟨⟨m.len,fun v v0 v1 d=>?_⟩,fun v=> ⟨m.sub v,key v⟩⟩
 rw[m.eq v v0 v1 d]
 constructor
 ·rintro(z|z)
  ·exact⟨by omega,z.2⟩
  ·rw[z.1];exact⟨Nat.le_refl _,m.sub v z.2⟩
 ·rintro⟨h1,h2⟩
  by_cases hd:d≤s
  ·exact .inl ⟨hd,h2⟩
  ·have:d=s+1:=by omega
   subst this
   exact .inr ⟨rfl,key v h2⟩
theorem Mid.fresh(m:Mid n R S s fs bey ds)(v0:0≤v)(v1:v<n)(hn:fs[v.toNat]?=some none):v∉bey:=fun h=>by
 have:=(m.eq v v0 v1 (s+1)).mpr (.inr ⟨rfl,h⟩)
 rw[hn] at this
 cases this
variable{R D L:Int→Int→Prop}{n:Int}{S:List Int}{u v a b:Int}{d k:Nat}{fs:List (Option Nat)}
open Classical in
def ID (R:Int→Int→Prop) (S:List Int) (v:Int):Option Nat:=if h:∃d,IsD R S v d then some (choose h) else none
theorem Bj(h:IsD R S v d):ID R S v=some d:=by
 unfold ID
 have hx:∃d,IsD R S v d:=⟨d,h⟩
 rw[dif_pos hx]
 exact congrArg some ((Classical.choose_spec hx).uniq h)
theorem Et:ID R S v=some d↔IsD R S v d:=by
 refine⟨fun e=>?_,Bj⟩
 unfold ID at e
 split at e
 ·rename_i h
  cases e
  exact Classical.choose_spec h
 ·cases e
theorem Im{S':List Int}{v':Int}{R':Int→Int→Prop}(h:∀d,IsD R S v d↔IsD R' S' v' d):ID R S v=ID R' S' v':=by
 cases e:ID R S v with
 |some d=>exact(Bj ((h d).mp (Et.mp e))).symm
 |none=>
  cases e':ID R' S' v' with
  |none=>rfl
  |some d=>rw[Bj ((h d).mpr (Et.mp e'))] at e;cases e
theorem All.get(al:All n R S fs)(v0:0≤v)(v1:v<n):fs[v.toNat]?=some (ID R S v):=by
 have hl:=al.len
 have hlt:v.toNat<fs.length:=by omega
 cases e:ID R S v with
 |some d=>exact(al.eq v v0 v1 d).mpr (Et.mp e)
 |none=>
  rw[List.getElem?_eq_getElem hlt]
  cases z:fs[v.toNat] with
  |none=>rfl
  |some d=>
   have:=(al.eq v v0 v1 d).mp (by rw[List.getElem?_eq_getElem hlt,z])
   rw[Bj this] at e
   cases e
theorem W.mono(h:∀u v,L u v→D u v)(w:W L S k v):W D S k v:=by
 induction w with
 |«at» h=>exact .at h
 |go _ a ih=>exact .go ih (h _ _ a)
theorem W.cut(h:∀u v,D u v→L u v∨u=b)(w:W D S k v):W L S k v∨∃j,j<k∧W L S j b:=by
 induction w with
 |«at» h=>exact .inl (.at h)
 | @go k u v w a ih=>
  rcases ih with w'| ⟨j,hj,w'⟩
  ·rcases h _ _ a with l|rfl
   ·exact .inl (.go w' l)
   ·exact .inr ⟨k,by omega,w'⟩
  ·exact .inr ⟨j,by omega,w'⟩
theorem Tq(h1:∀u v,L u v→D u v)(h2:∀u v,D u v→L u v∨u=b):IsD D S b d↔IsD L S b d:=by
 constructor
 ·rintro⟨w,m⟩
  refine⟨?_,fun j hj w'=>m j hj (w'.mono h1)⟩
  rcases w.cut h2 with w'| ⟨j,hj,w'⟩
  ·exact w'
  ·exact absurd (w'.mono h1) (m j hj)
 ·rintro⟨w,m⟩
  refine⟨w.mono h1,fun j hj w'=>?_⟩
  rcases w'.cut h2 with w'| ⟨i,hi,w'⟩
  ·exact m j hj w'
  ·exact m i (by omega) w'
theorem W.consR{p q:Int}(a:R p q)(h:W R [q] k v):W R [p] (k+1) v:=by
 induction h with
 |«at» h=>rw[List.mem_singleton.mp h];exact .go (.at (by simp)) a
 |go _ b ih=>exact .go ih b
theorem W.rev(sy:∀u v,R u v→R v u)(h:W R [a] k v):W R [v] k a:=by
 induction h with
 |«at» h=>rw[List.mem_singleton.mp h];exact .at (by simp)
 |go _ b ih=>exact .consR (sy _ _ b) ih
theorem Nh(sy:∀u v,R u v→R v u):IsD R [a] b d↔IsD R [b] a d:=
 ⟨fun h=> ⟨h.1.rev sy,fun j hj w=>h.2 j hj (w.rev sy)⟩,fun h=> ⟨h.1.rev sy,fun j hj w=>h.2 j hj (w.rev sy)⟩⟩
theorem Tr{ps:List (Int×Int)}:Gr.W ps S k v↔W (Gr.Adj ps) S k v:=by
 constructor
 ·intro h
  induction h with
  |«at» h=>exact .at h
  |go _ a ih=>exact .go ih a
 ·intro h
  induction h with
  |«at» h=>exact .at h
  |go _ a ih=>exact .go ih a
theorem XD{ps:List (Int×Int)}:Gr.IsD ps S v d↔IsD (Gr.Adj ps) S v d:=
 ⟨fun h=> ⟨Tr.mp h.1,fun j hj w=>h.2 j hj (Tr.mpr w)⟩,fun h=> ⟨Tr.mpr h.1,fun j hj w=>h.2 j hj (Tr.mp w)⟩⟩
theorem XF{ps:List (Int×Int)}(h:Gr.All n ps S fs):All n (Gr.Adj ps) S fs:=⟨h.len,fun v v0 v1 d=> (h.eq v v0 v1 d).trans XD⟩
variable{R:Int→Int→Prop}{a b p q:Int}{L M:List Int}{k d s:Nat}
def Ch(R:Int→Int→Prop):List Int→Prop
 |a::b::L=>R a b∧Ch R (b::L)
 |_=>True
theorem Ch.tail(h:Ch R (a::L)):Ch R L:=by
 cases L with
 |nil=>trivial
 |cons b L=>exact h.2
theorem HV:Ch R (L++a::M)↔Ch R (L++[a])∧Ch R (a::M):=by
 induction L with
 |nil=>exact⟨fun h=> ⟨trivial,h⟩,fun h=>h.2⟩
 |cons x L ih=>
  cases L with
  |nil=>exact⟨fun h=> ⟨⟨h.1,trivial⟩,h.2⟩,fun h=> ⟨h.1.1,h.2⟩⟩
  |cons y L=>
   constructor
   ·intro h
    have:=ih.mp h.2
    exact⟨⟨h.1,this.1⟩,this.2⟩
   ·intro h
    exact⟨h.1.1,ih.mpr ⟨h.1.2,h.2⟩⟩
theorem GM:Ch R (L++[a]++[b])↔Ch R (L++[a])∧R a b:=by
 rw[List.append_assoc]
 exact HV.trans ⟨fun h=> ⟨h.1,h.2.1⟩,fun h=> ⟨h.1,h.2,trivial⟩⟩
theorem Qx(sy:∀u v,R u v→R v u):∀{L:List Int},Ch R L→Ch R L.reverse
 | [],_=>trivial
 | [a],_=>trivial
 |a::b::L,h=>by
  have:=Qx sy h.2
  rw[List.reverse_cons,List.reverse_cons] at*
  exact GM.mpr ⟨this,sy _ _ h.1⟩
structure Ring(R:Int→Int→Prop)(L:List Int):Prop where
 len:3≤L.length
 nd:L.Nodup
 ch:Ch R L
 cl:∀a z,L.head?=some a→L.getLast?=some z→R z a
theorem HW(sy:∀u v,R u v→R v u):∀{p q:List Int} {a z:Int},Ch R (a::p)→Ch R (a::q)→(a::p).Nodup→(a::q).Nodup→(a::p).getLast?=some z→(a::q).getLast?=some z→p≠q→∃L,Ring R L∧L.length≤p.length+q.length
 | [],[],a,z,_,_,_,_,_,_,ne=>absurd rfl ne
 | [],c::q,a,z,_,_,_,nq,lp,lq,_=>by
  have e:z=a:=by simpa using lp.symm
  subst e
  rw[List.getLast?_cons_cons] at lq
  exact absurd (List.mem_of_getLast? lq) (List.nodup_cons.mp nq).1
 |b::p,[],a,z,_,_,np,_,lp,lq,_=>by
  have e:z=a:=by simpa using lq.symm
  subst e
  rw[List.getLast?_cons_cons] at lp
  exact absurd (List.mem_of_getLast? lp) (List.nodup_cons.mp np).1
 |b::p,c::q,a,z,hp,hq,np,nq,lp,lq,ne=>by
  rw[List.getLast?_cons_cons] at lp lq
  by_cases e:b=c
  ·subst e
   obtain⟨L,r,l⟩:=HW sy hp.2 hq.2 (List.nodup_cons.mp np).2 (List.nodup_cons.mp nq).2 lp lq (fun z=>ne (by rw[z]))
   exact⟨L,r,by simp only[List.length_cons];omega⟩
  ·--the first of the second way that lies on the first
   have key:∀Q:List Int,(∃m∈Q,m∈b::p)→∃x m y,Q=x++m::y∧m∈b::p∧∀t∈x,t∉b::p:=by
    intro Q
    induction Q with
    |nil=>rintro⟨m,hm,_⟩;cases hm
    |cons t Q ih=>
     intro h
     by_cases ht:t∈b::p
     ·exact⟨[],t,Q,rfl,ht,fun _ h=>by cases h⟩
     ·obtain⟨m,hm,hm2⟩:=h
      rcases List.mem_cons.mp hm with rfl|hm
      ·exact absurd hm2 ht
      ·obtain⟨x,m,y,e,h1,h2⟩:=ih ⟨m,hm,hm2⟩
       refine⟨t::x,m,y,by rw[e];rfl,h1,fun u hu=>?_⟩
       rcases List.mem_cons.mp hu with rfl|hu
       ·exact ht
       ·exact h2 u hu
   obtain⟨x,m,y,eq,hm,hx⟩:=key (c::q) ⟨z,List.mem_of_getLast? lq,List.mem_of_getLast? lp⟩
   obtain⟨u,v,ep⟩:=List.append_of_mem hm
   have ha1:=(List.nodup_cons.mp np).1
   have ha2:=(List.nodup_cons.mp nq).1
   have n1:=(List.nodup_cons.mp np).2
   have n2:=(List.nodup_cons.mp nq).2
   rw[eq] at ha2 n2 hq
   have hum:∀t,t∈u++[m]→t∈b::p:=fun t ht=>by
    rw[ep];simp only[List.mem_append,List.mem_cons,List.not_mem_nil,or_false] at ht ⊢;rcases ht with h|h
    ·exact .inl h
    ·exact .inr (.inl h)
   have l1:(b::p).length=u.length+(v.length+1):=by rw[ep];simp
   have l2:(c::q).length=x.length+(y.length+1):=by rw[eq];simp
   simp only[List.length_cons] at l1 l2
   refine⟨a::(u++[m]++x.reverse),⟨?_,?_,?_,?_⟩,?_⟩
   ·simp only[List.length_cons,List.length_append,List.length_reverse,List.length_nil]
    cases u with
    |cons _ _=>simp only[List.length_cons];omega
    |nil=>
     cases x with
     |cons _ _=>simp only[List.length_cons];omega
     |nil=>
      have e1:b=m:=by simpa using(List.cons.inj ep).1
      have e2:c=m:=by simpa using(List.cons.inj eq).1
      exact absurd (e1.trans e2.symm) e
   ·rw[List.nodup_cons]
    refine⟨fun h=>?_,?_⟩
    ·rcases List.mem_append.mp h with h|h
     ·exact ha1 (hum _ h)
     ·exact ha2 (List.mem_append_left _ (List.mem_reverse.mp h))
    ·rw[List.nodup_append]
     rw[ep] at n1
     refine⟨?_,List.pairwise_reverse.mpr ((List.nodup_append.mp n2).1.imp Ne.symm),fun t ht w hw e=>hx w (List.mem_reverse.mp hw) (e▸hum t ht)⟩
     have:=List.nodup_append.mp (show(u++m::v).Nodup from n1)
     rw[List.nodup_append]
     exact⟨this.1,by simp,fun t ht w hw=>this.2.2 t ht w (by rw[List.mem_singleton.mp hw];simp)⟩
   ·have h1:Ch R ((a::u)++[m]):=(HV (M:=v)).mp (by rw[List.cons_append,←ep];exact hp)|>.1
    have h2:Ch R (m::x.reverse):=by
     have:Ch R (x++[m]):=((HV (L:=a::x) (M:=y)).mp hq).1.tail
     have:=Qx sy this
     rwa[List.reverse_append] at this
    have:=(HV (L:=a::u) (a:=m) (M:=x.reverse)).mpr ⟨h1,h2⟩
    rwa[show a::(u++[m]++x.reverse)=(a::u)++m::x.reverse by simp]
   ·intro a' z' h1 h2
    have:a'=a:=by simpa using h1.symm
    subst this
    cases x with
    |nil=>
     have e2:c=m:=by simpa using(List.cons.inj eq).1
     have:z'=m:=by
      rw[List.reverse_nil,List.append_nil,←List.cons_append,List.getLast?_append] at h2
      simpa using h2.symm
     rw[this]
     exact sy _ _ hq.1
    |cons t x=>
     have:z'=t:=by
      rw[List.reverse_cons,←List.append_assoc,←List.cons_append,List.getLast?_append] at h2
      simpa using h2.symm
     rw[this]
     exact sy _ _ hq.1
   ·simp only[List.length_cons,List.length_append,List.length_reverse,List.length_nil]
    omega
theorem Ni(h:IsD R [p] q d):∃L,L.length=d+1∧L.head?=some p∧L.getLast?=some q∧L.Nodup∧Ch R L∧∀x∈L,∃i,i≤d∧IsD R [p] x i:=by
 induction d generalizing q with
 |zero=>
  have:q=p:=by
   cases h.1 with
   |«at» h=>exact List.mem_singleton.mp h
  subst this
  exact⟨[q],rfl,rfl,rfl,by simp,trivial,fun x hx=>by rw[List.mem_singleton.mp hx];exact⟨0,Nat.le_refl _,h⟩⟩
 |succ d ih=>
  obtain⟨u,hu,r⟩:=h.prev
  obtain⟨L,l1,l2,l3,l4,l5,l6⟩:=ih hu
  obtain⟨M,rfl⟩:∃M,L=M++[u]:=List.getLast?_eq_some_iff.mp l3
  refine⟨M++[u]++[q],by simp only[List.length_append,List.length_cons,List.length_nil] at l1 ⊢;omega,?_,by simp,?_,GM.mpr ⟨l5,r⟩,fun x hx=>?_⟩
  ·rw[List.head?_append,l2];rfl
  ·rw[List.nodup_append]
   refine⟨l4,by simp,fun x hx y hy e=>?_⟩
   rw[List.mem_singleton.mp hy] at e
   subst e
   obtain⟨i,hi,hd⟩:=l6 x hx
   have:=hd.uniq h
   omega
  ·rcases List.mem_append.mp hx with hx|hx
   ·obtain⟨i,hi,hd⟩:=l6 x hx
    exact⟨i,by omega,hd⟩
   ·rw[List.mem_singleton.mp hx];exact⟨d+1,Nat.le_refl _,h⟩
theorem PB:∀{L:List Int} {p q:Int},Ch R (p::L)→(p::L).getLast?=some q→W R [p] L.length q
 | [],p,q,_,h=>by
  have:q=p:=by simpa using h.symm
  rw[this];exact .at (by simp)
 |b::L,p,q,hc,h=>by
  rw[List.getLast?_cons_cons] at h
  exact .consR hc.1 (PB hc.2 h)
theorem Eu{i:Nat}(h:Ch R L):Ch R (L.take i):=by
 by_cases hi:i<L.length
 ·have e:L=L.take i++L[i]::L.drop (i+1):=by rw[List.getElem_cons_drop,List.take_append_drop]
  rw[e] at h
  have h1:=(HV.mp h).1
  generalize L.take i=A at*
  clear e h
  induction A with
  |nil=>trivial
  |cons x A ih=>
   cases A with
   |nil=>trivial
   |cons y A=>exact⟨h1.1,ih h1.2⟩
 ·rw[List.take_of_length_le (by omega)];exact h
theorem GN{i:Nat}(h:Ch R L):Ch R (L.drop i):=by
 induction i generalizing L with
 |zero=>exact h
 |succ i ih=>
  cases L with
  |nil=>trivial
  |cons a L=>exact ih h.tail
theorem Qy(sy:∀u v,R u v→R v u)(h:Ring R (p::L))(least:∀M,Ring R M→(p::L).length≤M.length){i:Nat}(hi:i<L.length):IsD R [p] L[i] (min (i+1) (L.length-i)):=by
 have hl:(L.take (i+1)).getLast?=some L[i]:=by
  rw[List.getLast?_take,if_neg (by omega)]
  simp[List.getElem?_eq_getElem hi]
 have w1:W R [p] (i+1) L[i]:=by
  have hc:Ch R (p::L.take (i+1)):=Eu (i:=i+2) h.ch
  have:=PB hc (q:=L[i]) (by
   cases e:L.take (i+1) with
   |nil=>rw[e] at hl;cases hl
   |cons x A=>rw[List.getLast?_cons_cons,←e];exact hl)
  rwa[List.length_take,Nat.min_eq_left (by omega)] at this
 obtain⟨z,hz⟩:∃z,(p::L).getLast?=some z:=⟨_,List.getLast?_cons⟩
 have w2:W R [p] (L.length-i) L[i]:=by
  have e:L.drop i=L[i]::L.drop (i+1):=(List.getElem_cons_drop ..).symm
  have hc:Ch R (L[i]::L.drop (i+1)):=e▸GN (i:=i) h.ch.tail
  have hz2:(L[i]::L.drop (i+1)).getLast?=some z:=by
   rw[←e,List.getLast?_drop,if_neg (by omega)]
   cases L with
   |nil=>cases hi
   |cons x A=>rwa[List.getLast?_cons_cons] at hz
  have:=(PB hc hz2).rev sy
  have:=this.consR (sy _ _ (h.cl p z rfl hz))
  rwa[List.length_drop,show L.length- (i+1)+1=L.length-i by omega] at this
 have hw:W R [p] (min (i+1) (L.length-i)) L[i]:=by
  by_cases c:i+1≤L.length-i
  ·rw[Nat.min_eq_left c];exact w1
  ·rw[Nat.min_eq_right (by omega)];exact w2
 obtain⟨d,hd,hD⟩:=hw.least
 by_cases e:d=min (i+1) (L.length-i)
 ·rw[←e];exact hD
 ·exfalso
  obtain⟨M,m1,m2,m3,m4,m5,_⟩:=Ni hD
  cases M with
  |nil=>cases m2
  |cons x M=>
   have:x=p:=by simpa using m2
   subst this
   obtain⟨Q,r,l⟩:=HW (p:=M) (q:=L.take (i+1)) sy m5 (Eu (i:=i+2) h.ch) m4 (by
    exact List.Nodup.sublist (List.take_sublist (i+2) (x::L)) h.nd) m3 (by
    cases e:L.take (i+1) with
    |nil=>rw[e] at hl;cases hl
    |cons y A=>rw[List.getLast?_cons_cons,←e];exact hl) (fun z=>by
     have:=congrArg List.length z
     rw[List.length_take] at this
     simp only[List.length_cons] at m1
     omega)
   have:=least Q r
   simp only[List.length_cons,List.length_take] at this l m1
   omega
variable{R:Int→Int→Prop}{nb:Int→List Int}{c:Nat→Int→Bool}{a b p q v:Int}{L M r:List Int}{rs:List (List Int)}{k d s:Nat}{n:Int}
def lst(r:List Int):Int:=r.getLastD 0
def ZR(nb:Int→List Int)(c:Int→Bool)(r:List Int):List (List Int):=((nb (lst r)).filter fun v=>c v&&!decide (v∈r)).map fun v=>r++[v]
def LJ(nb:Int→List Int)(c:Int→Bool)(rs:List (List Int)):List (List Int):=rs.flatMap (ZR nb c)
def Ew(nb:Int→List Int)(c:Nat→Int→Bool)(p:Int):Nat→List (List Int)
 |0=> [[p]]
 |k+1=>LJ nb (c (k+1)) (Ew nb c p k)
structure Way(R:Int→Int→Prop)(c:Nat→Int→Bool)(p:Int)(k:Nat)(r:List Int):Prop where
 len:r.length=k+1
 hd:r.head?=some p
 nd:r.Nodup
 ch:Ch R r
 ok:∀i v,1≤i→r[i]?=some v→c i v=true
theorem Qz(h:r.getLast?=some a):lst r=a:=by
 unfold lst
 rw[List.getLastD_eq_getLast?,h];rfl
theorem Bn(h:r≠[]):r.getLast?=some (lst r):=by
 cases e:r.getLast? with
 |none=>exact absurd (List.getLast?_eq_none_iff.mp e) h
 |some a=>rw[Qz e]
theorem CV(hR:∀u v,v∈nb u↔R u v):r∈Ew nb c p k↔Way R c p k r:=by
 induction k generalizing r with
 |zero=>
  constructor
  ·intro h
   rw[List.mem_singleton.mp h]
   exact⟨rfl,rfl,by simp,trivial,fun i v hi h=>by
    cases i with
    |zero=>omega
    |succ i=>cases h⟩
  ·rintro⟨h1,h2,_⟩
   match r,h1,h2 with
   | [x],_,h2=>
    have:x=p:=by simpa using h2
    rw[this];exact List.mem_singleton.mpr rfl
 |succ k ih=>
  constructor
  ·intro h
   obtain⟨r',hr',h⟩:=List.mem_flatMap.mp h
   obtain⟨v,hv,rfl⟩:=List.mem_map.mp h
   obtain⟨hv1,hv2⟩:=List.mem_filter.mp hv
   rw[Bool.and_eq_true] at hv2
   have hv3:v∉r':=by simpa using hv2.2
   obtain⟨w1,w2,w3,w4,w5⟩:=ih.mp hr'
   have hne:r'≠[]:=fun z=>by rw[z] at w1;cases w1
   obtain⟨M,e⟩:=List.getLast?_eq_some_iff.mp (Bn hne)
   refine⟨by rw[List.length_append,w1];rfl,by rw[List.head?_append,w2];rfl,?_,?_,fun i u hi h=>?_⟩
   ·rw[List.nodup_append]
    exact⟨w3,by simp,fun x hx y hy e=>hv3 (by rw[←List.mem_singleton.mp hy,←e];exact hx)⟩
   ·rw[e]
    exact GM.mpr ⟨e▸w4,(hR _ _).mp hv1⟩
   ·by_cases hl:i<r'.length
    ·rw[List.getElem?_append_left hl] at h
     exact w5 i u hi h
    ·rw[List.getElem?_append_right (by omega)] at h
     have:i-r'.length=0:=by
      cases z:i-r'.length with
      |zero=>rfl
      |succ z'=>rw[z] at h;simp at h
     rw[this] at h
     have hu:v=u:=by simpa using h
     have hi2:i=k+1:=by omega
     rw[←hu,hi2];exact hv2.1
  ·rintro⟨w1,w2,w3,w4,w5⟩
   have hne:r≠[]:=fun z=>by rw[z] at w1;cases w1
   obtain⟨M,e⟩:=List.getLast?_eq_some_iff.mp (Bn hne)
   generalize lst r=v at e
   subst e
   have hlM:M.length=k+1:=by simpa using w1
   have hneM:M≠[]:=fun z=>by rw[z] at hlM;cases hlM
   obtain⟨N,eN⟩:=List.getLast?_eq_some_iff.mp (Bn hneM)
   rw[List.nodup_append] at w3
   have hadj:R (lst M) v:=by
    have:Ch R (N++[lst M]++[v]):=by rw[←eN];exact w4
    exact(GM.mp this).2
   refine List.mem_flatMap.mpr ⟨M,ih.mpr ⟨hlM,?_,w3.1,?_,fun i u hi h=>?_⟩,List.mem_map.mpr ⟨v,List.mem_filter.mpr ⟨(hR _ _).mpr hadj,?_⟩,rfl⟩⟩
   ·rw[List.head?_append] at w2
    cases M with
    |nil=>exact absurd rfl hneM
    |cons x M=>exact w2
   ·have:=Eu (i:=M.length) w4
    rwa[List.take_left] at this
   ·refine w5 i u hi ?_
    rw[List.getElem?_append_left (List.getElem?_eq_some_iff.mp h).1];exact h
   ·rw[Bool.and_eq_true]
    refine⟨w5 (k+1) v (by omega) ?_,by simpa using fun h=>w3.2.2 v h v (by simp) rfl⟩
    rw[List.getElem?_append_right (by omega),hlM];simp
def rk(r:List Int):Int:=r.foldl (fun a v=>a*32+v) 0
theorem Ex:rk (r++[v])=rk r*32+v:=by unfold rk;rw[List.foldl_append];rfl
theorem Mb{c:Int→Bool}(hs:∀u,(nb u).Pairwise (· < ·))(hb:∀u v,v∈nb u→0≤v∧v<32)(h:rs.Pairwise fun x y=>rk x<rk y):(LJ nb c rs).Pairwise fun x y=>rk x<rk y:=by
 unfold LJ
 rw[List.pairwise_flatMap]
 refine⟨fun r _=>?_,List.Pairwise.imp (fun{x y} hxy=>?_) h⟩
 ·unfold ZR
  rw[List.pairwise_map]
  refine List.Pairwise.imp (fun{u v} huv=>?_) ((hs (lst r)).filter _)
  rw[Ex,Ex];omega
 ·intro x' hx' y' hy'
  obtain⟨u,hu,rfl⟩:=List.mem_map.mp hx'
  obtain⟨v,hv,rfl⟩:=List.mem_map.mp hy'
  have:=hb _ _ (List.mem_filter.mp hu).1
  have:=hb _ _ (List.mem_filter.mp hv).1
  rw[Ex,Ex];omega
theorem EX(hs:∀u,(nb u).Pairwise (· < ·))(hb:∀u v,v∈nb u→0≤v∧v<32):(Ew nb c p k).Pairwise fun x y=>rk x<rk y:=by
 induction k with
 |zero=>exact List.pairwise_singleton ..
 |succ k ih=>exact Mb hs hb ih
theorem RA(hb:∀u v,v∈nb u→0≤v∧v<32)(h:r∈Ew nb c p k):p*32^k≤rk r∧rk r< (p+1)*32^k:=by
 induction k generalizing r with
 |zero=>
  rw[List.mem_singleton.mp h]
  show p*1≤0*32+p∧0*32+p< (p+1)*1
  omega
 |succ k ih=>
  obtain⟨r',hr',h⟩:=List.mem_flatMap.mp h
  obtain⟨v,hv,rfl⟩:=List.mem_map.mp h
  have h1:=ih hr'
  have h2:=hb _ _ (List.mem_filter.mp hv).1
  rw[Ex,Int.pow_succ,←Int.mul_assoc,←Int.mul_assoc]
  generalize p*32^k=A at*
  generalize (p+1)*32^k=B at*
  omega
theorem VE:∀{xs ys:List (List Int)},xs.Pairwise (fun x y=>rk x<rk y)→ys.Pairwise (fun x y=>rk x<rk y)→(∀v,v∈xs↔v∈ys)→xs=ys
 | [],[],_,_,_=>rfl
 | [],y::_,_,_,h=>by have:=(h y).mpr (by simp);cases this
 |x::_,[],_,_,h=>by have:=(h x).mp (by simp);cases this
 |x::xs,y::ys,hx,hy,h=>by
  rw[List.pairwise_cons] at hx hy
  have e:x=y:=by
   rcases List.mem_cons.mp ((h x).mp (by simp)) with e|h1
   ·exact e
   ·rcases List.mem_cons.mp ((h y).mpr (by simp)) with e|h2
    ·exact e.symm
    ·have:=hy.1 x h1
     have:=hx.1 y h2
     omega
  subst e
  rw[VE hx.2 hy.2 fun v=>?_]
  constructor
  ·intro hv
   rcases List.mem_cons.mp ((h v).mp (List.mem_cons_of_mem _ hv)) with e|h1
   ·have:=hx.1 v hv
    rw[e] at this
    omega
   ·exact h1
  ·intro hv
   rcases List.mem_cons.mp ((h v).mpr (List.mem_cons_of_mem _ hv)) with e|h1
   ·have:=hy.1 v hv
    rw[e] at this
    omega
   ·exact h1
theorem HX{F:Int→List (List Int)}(hF:∀p,(F p).Pairwise fun x y=>rk x<rk y)(hk:∀p r,r∈F p→p*32^k≤rk r∧rk r< (p+1)*32^k){m:Nat}:((List.range m).flatMap fun(i:Nat)=>F (i:Int)).Pairwise fun x y=>rk x<rk y:=by
 rw[List.pairwise_flatMap]
 refine⟨fun i _=>hF i,List.Pairwise.imp (fun{i j} hij=>?_) List.pairwise_lt_range⟩
 intro x hx y hy
 have h1:=(hk _ _ hx).2
 have h2:=(hk _ _ hy).1
 have:((i:Int)+1)*32^k≤(j:Int)*32^k:=Int.mul_le_mul_of_nonneg_right (by omega) (Int.pow_nonneg (by decide))
 omega
theorem LK{α β:Type}{f:α→List β}{m:Nat}:∀{xs:List α},(∀x∈xs,(f x).length≤m)→(xs.flatMap f).length≤xs.length*m
 | [],_=>by simp
 |x::xs,h=>by
  have h1:=h x (by simp)
  have h2:=LK (f:=f) (m:=m) (xs:=xs) fun y hy=>h y (List.mem_cons_of_mem _ hy)
  rw[List.flatMap_cons,List.length_append,List.length_cons,Nat.add_mul,Nat.one_mul]
  omega
variable{R R':Int→Int→Prop}{nb:Int→List Int}{a b p q v:Int}{L M r:List Int}{k d s:Nat}{n:Int}
def VF(R:Int→Int→Prop)(a b u v:Int):Prop:=R u v∧¬(u=a∧v=b)∧¬(u=b∧v=a)
theorem Jj:∀{L:List Int},Ch R L→(∀u∈L,∀v∈L,R u v→R' u v)→Ch R' L
 | [],_,_=>trivial
 | [_],_,_=>trivial
 |a::b::L,h,m=> ⟨m a (by simp) b (by simp) h.1,Jj h.2 fun u hu v hv=>m u (List.mem_cons_of_mem _ hu) v (List.mem_cons_of_mem _ hv)⟩
theorem XG(h:Ring R r):∃a b,R a b∧W (VF R a b) [b] (r.length-1) a:=by
 match r,h with
 | [],h=>exact absurd h.len (by decide)
 | [_],h=>exact absurd h.len (by show¬3≤1;decide)
 | [_,_],h=>exact absurd h.len (by show¬3≤2;decide)
 |x::y::t::L,h=>
  have hne:(t::L)≠[]:=by simp
  have hz:(x::y::t::L).getLast?=some (lst (t::L)):=by
   rw[List.getLast?_cons_cons,List.getLast?_cons_cons];exact Bn hne
  have hmz:lst (t::L)∈t::L:=List.mem_of_getLast? (Bn hne)
  generalize lst (t::L)=z at hz hmz
  have nd:=h.nd
  rw[List.nodup_cons,List.nodup_cons] at nd
  refine⟨z,x,h.cl x z rfl hz,?_⟩
  refine PB (L:=y::t::L) ⟨⟨h.ch.1,fun e=>?_,fun e=>?_⟩,Jj h.ch.2 fun u hu v hv r=> ⟨r,fun e=>?_,fun e=>?_⟩⟩ hz
  ·exact nd.1 (e.2▸List.mem_cons_self ..)
  ·exact nd.2.1 (e.2▸hmz)
  ·exact nd.1 (e.2▸hv)
  ·exact nd.1 (e.1▸hu)
theorem Ts(sy:∀u v,R u v→R v u)(ir:∀u,¬R u u)(h:R a b)(hd:IsD (VF R a b) [a] b d):∃r,Ring R r∧r.length=d+1:=by
 obtain⟨L,l1,l2,l3,l4,l5,_⟩:=Ni hd
 refine⟨L,⟨?_,l4,Jj l5 fun u _ v _ c=>c.1,fun x z h1 h2=>?_⟩,l1⟩
 ·match d,hd with
  |0,hd=>
   cases hd.1 with
   |«at» hm=>rw[List.mem_singleton.mp hm] at h;exact absurd h (ir _)
  |1,hd=>
   cases hd.1 with
   |go w c=>
    cases w with
    |«at» hm=>rw[List.mem_singleton.mp hm] at c;exact absurd ⟨rfl,rfl⟩ c.2.1
  |d+2,_=>omega
 ·rw[l2] at h1
  rw[l3] at h2
  cases h1
  cases h2
  exact sy _ _ h
theorem PC(sy:∀u v,R u v→R v u)(h:Ring R (p::L)){i:Nat}(hi:i<L.length):W R [p] (L.length-i) L[i]:=by
 obtain⟨z,hz⟩:∃z,(p::L).getLast?=some z:=⟨_,List.getLast?_cons⟩
 have e:L.drop i=L[i]::L.drop (i+1):=(List.getElem_cons_drop ..).symm
 have hc:Ch R (L[i]::L.drop (i+1)):=e▸GN (i:=i) h.ch.tail
 have hz2:(L[i]::L.drop (i+1)).getLast?=some z:=by
  rw[←e,List.getLast?_drop,if_neg (by omega)]
  cases L with
  |nil=>cases hi
  |cons x A=>rwa[List.getLast?_cons_cons] at hz
 have:=(PB hc hz2).rev sy
 have:=this.consR (sy _ _ (h.cl p z rfl hz))
 rwa[List.length_drop,show L.length- (i+1)+1=L.length-i by omega] at this
def CM(R:Int→Int→Prop)(s:Nat)(p:Int)(i:Nat)(v:Int):Bool:=match ID R [p] v with
 |some d=>decide (d≤s-i)
 |none=>false
def ZS(R:Int→Int→Prop)(s:Nat)(p:Int)(i:Nat)(v:Int):Bool:=decide (ID R [p] v=some (min i (s-i)))
def GE(R:Int→Int→Prop)(nb:Int→List Int)(s:Nat)(p:Int):List (List Int):=(Ew nb (CM R s p) p (s-1)).filter fun r=>decide (p∈nb (lst r))
def Tt(R:Int→Int→Prop)(nb:Int→List Int)(s:Nat)(p:Int):List (List Int):=Ew nb (ZS R s p) p (s-1)
def DP(R:Int→Int→Prop)(nb:Int→List Int)(s m:Nat):List (List Int):=(List.range m).flatMap fun(i:Nat)=>GE R nb s (i:Int)
def Tu(R:Int→Int→Prop)(nb:Int→List Int)(s m:Nat):List (List Int):=(List.range m).flatMap fun(i:Nat)=>Tt R nb s (i:Int)
theorem RB(sy:∀u v,R u v→R v u)(hR:∀u v,v∈nb u↔R u v)(hs:3≤s):r∈GE R nb s p↔Ring R r∧r.length=s∧r.head?=some p:=by
 unfold GE
 rw[List.mem_filter,CV hR]
 constructor
 ·rintro⟨⟨w1,w2,w3,w4,w5⟩,hc⟩
  have hl:r.length=s:=by omega
  refine⟨⟨by omega,w3,w4,fun x z h1 h2=>?_⟩,hl,w2⟩
  rw[w2] at h1
  cases h1
  rw[←Qz h2]
  exact(hR _ _).mp (of_decide_eq_true hc)
 ·rintro⟨h,hl,hp⟩
  cases r with
  |nil=>cases hp
  |cons x L=>
   have:x=p:=by simpa using hp
   subst this
   have hl':L.length+1=s:=hl
   refine⟨⟨by simp only[List.length_cons];omega,rfl,h.nd,h.ch,fun i v hi e=>?_⟩,decide_eq_true ((hR _ _).mpr (h.cl x _ rfl (Bn (by simp))))⟩
   cases i with
   |zero=>omega
   |succ i=>
    rw[List.getElem?_cons_succ] at e
    obtain⟨hi',rfl⟩:=List.getElem?_eq_some_iff.mp e
    obtain⟨d,hd,hD⟩:=(PC sy h hi').least
    unfold CM
    rw[Bj hD]
    exact decide_eq_true (by omega)
theorem RC(sy:∀u v,R u v→R v u)(hR:∀u v,v∈nb u↔R u v)(hs:3≤s)(least:∀M,Ring R M→s≤M.length):r∈Tt R nb s p↔Ring R r∧r.length=s∧r.head?=some p:=by
 unfold Tt
 rw[CV hR]
 constructor
 ·rintro⟨w1,w2,w3,w4,w5⟩
  have hl:r.length=s:=by omega
  refine⟨⟨by omega,w3,w4,fun x z h1 h2=>?_⟩,hl,w2⟩
  rw[w2] at h1
  cases h1
  have hz:r[s-1]?=some z:=by rw[List.getLast?_eq_getElem?,hl] at h2;exact h2
  have:=of_decide_eq_true (w5 (s-1) z (by omega) hz)
  rw[show min (s-1) (s- (s-1))=1 by omega] at this
  obtain⟨u,hu,a⟩:=(Et.mp this).prev
  cases hu.1 with
  |«at» hm=>rw[List.mem_singleton.mp hm] at a;exact sy _ _ a
 ·rintro⟨h,hl,hp⟩
  cases r with
  |nil=>cases hp
  |cons x L=>
   have:x=p:=by simpa using hp
   subst this
   have hl':L.length+1=s:=hl
   refine⟨by simp only[List.length_cons];omega,rfl,h.nd,h.ch,fun i v hi e=>?_⟩
   cases i with
   |zero=>omega
   |succ i=>
    rw[List.getElem?_cons_succ] at e
    obtain⟨hi',rfl⟩:=List.getElem?_eq_some_iff.mp e
    have:=Qy sy h (fun M hM=>by simp only[List.length_cons];have:=least M hM;omega) hi'
    unfold ZS
    rw[Bj this]
    exact decide_eq_true (by congr 2;omega)
theorem GO(hb:∀u v,R u v→0≤v∧v<n)(h:Ring R r):∀z∈r,0≤z∧z<n:=by
 have key:∀{L:List Int} {x:Int},0≤x∧x<n→Ch R (x::L)→∀z∈x::L,0≤z∧z<n:=by
  intro L
  induction L with
  |nil=>intro x hx _ z hz;rw[List.mem_singleton.mp hz];exact hx
  |cons y L ih=>
   intro x hx hc z hz
   rcases List.mem_cons.mp hz with rfl|hz
   ·exact hx
   ·exact ih (hb _ _ hc.1) hc.2 z hz
 cases r with
 |nil=>intro z hz;cases hz
 |cons x L=>exact key (hb _ _ (h.cl x _ rfl (Bn (by simp)))) h.ch
theorem LL{F:Int→List (List Int)}{P:List Int→Prop}(hb:∀r,P r→∃p,r.head?=some p∧0≤p∧p<n)(h:∀p r,r∈F p↔P r∧r.head?=some p):r∈((List.range n.toNat).flatMap fun(i:Nat)=>F (i:Int))↔P r:=by
 rw[List.mem_flatMap]
 constructor
 ·rintro⟨i,_,hi⟩
  exact((h _ _).mp hi).1
 ·intro hp
  obtain⟨p,h1,h2,h3⟩:=hb r hp
  refine⟨p.toNat,List.mem_range.mpr (by omega),(h _ _).mpr ⟨hp,?_⟩⟩
  rw[h1,Int.toNat_of_nonneg h2]
theorem Io(hb:∀u v,R u v→0≤v∧v<n)(h:Ring R r):∃p,r.head?=some p∧0≤p∧p<n:=by
 cases r with
 |nil=>exact absurd h.len (by decide)
 |cons x L=>exact⟨x,rfl,GO hb h x (by simp)⟩
theorem Cy(sy:∀u v,R u v→R v u)(hR:∀u v,v∈nb u↔R u v)(hb:∀u v,R u v→0≤v∧v<n)(hs:3≤s):r∈DP R nb s n.toNat↔Ring R r∧r.length=s:=
 LL (P:=fun r=>Ring R r∧r.length=s) (fun r h=>Io hb h.1) fun p r=> (RB sy hR hs).trans and_assoc.symm
theorem RD(sy:∀u v,R u v→R v u)(hR:∀u v,v∈nb u↔R u v)(hb:∀u v,R u v→0≤v∧v<n)(hs:3≤s)(least:∀M,Ring R M→s≤M.length):r∈Tu R nb s n.toNat↔Ring R r∧r.length=s:=
 LL (P:=fun r=>Ring R r∧r.length=s) (fun r h=>Io hb h.1) fun p r=> (RC sy hR hs least).trans and_assoc.symm
theorem Fv(hs:∀u,(nb u).Pairwise (· < ·))(hb:∀u v,v∈nb u→0≤v∧v<32){m:Nat}:(DP R nb s m).Pairwise fun x y=>rk x<rk y:=
 HX (F:=GE R nb s) (k:=s-1) (fun p=>List.Pairwise.filter _ (EX hs hb)) fun p r h=>RA hb (List.mem_filter.mp h).1
theorem LM(hs:∀u,(nb u).Pairwise (· < ·))(hb:∀u v,v∈nb u→0≤v∧v<32){m:Nat}:(Tu R nb s m).Pairwise fun x y=>rk x<rk y:=
 HX (F:=Tt R nb s) (k:=s-1) (fun p=>EX hs hb) fun p r h=>RA hb h
theorem Tv(sy:∀u v,R u v→R v u)(hR:∀u v,v∈nb u↔R u v)(hb:∀u v,R u v→0≤v∧v<n)(hn:n≤32)(hp:∀u,(nb u).Pairwise (· < ·))(hs:3≤s)(least:∀M,Ring R M→s≤M.length):DP R nb s n.toNat=Tu R nb s n.toNat:=by
 have hb':∀u v,v∈nb u→0≤v∧v<32:=fun u v h=>by have:=hb u v ((hR u v).mp h);omega
 exact VE (Fv hp hb') (LM hp hb') fun r=> (Cy sy hR hb hs).trans (RD sy hR hb hs least).symm
variable{R:Int→Int→Prop}{nb:Int→List Int}{c:Nat→Int→Bool}{p:Int}{r q:List Int}{k s:Nat}{n:Int}
theorem RE(sy:∀u v,R u v→R v u)(least:∀M,Ring R M→s≤M.length)(hr:Ch R r)(hq:Ch R q)(nr:r.Nodup)(nq:q.Nodup){i d:Nat}(hd:2*d<s)(lr:i+d<r.length)(lq:i+d<q.length)(e1:r[i]?=q[i]?)(e2:r[i+d]?=q[i+d]?):∀m,i≤m→m≤i+d→r[m]?=q[m]?:=by
 have hri:i<r.length:=by omega
 have hqi:i<q.length:=by omega
 have key:∀(x:List Int) (hx:i<x.length),i+d<x.length→(x.drop i).take (d+1)=x[i]::(x.drop (i+1)).take d∧((x.drop i).take (d+1)).getLast?=x[i+d]?:=fun x hx hl=>by
  constructor
  ·rw[←List.getElem_cons_drop hx,List.take_succ_cons]
  ·rw[List.getLast?_eq_getElem?,List.length_take,List.length_drop,List.getElem?_take,if_pos (by omega),List.getElem?_drop]
   congr 1
   omega
 obtain⟨a1,b1⟩:=key r hri lr
 obtain⟨a2,b2⟩:=key q hqi lq
 have hh:r[i]=q[i]:=by
  rw[List.getElem?_eq_getElem hri,List.getElem?_eq_getElem hqi] at e1
  exact Option.some.inj e1
 have same:(r.drop (i+1)).take d=(q.drop (i+1)).take d:=by
  by_cases e:(r.drop (i+1)).take d=(q.drop (i+1)).take d
  ·exact e
  ·exfalso
   obtain⟨z,hz⟩:∃z,r[i+d]?=some z:=⟨_,List.getElem?_eq_getElem lr⟩
   obtain⟨L,h1,h2⟩:=HW (a:=r[i]) (z:=z) sy (a1▸Eu (GN hr)) (by rw[hh];exact a2▸Eu (GN hq)) (a1▸(nr.sublist ((List.take_sublist ..).trans (List.drop_sublist ..)))) (by rw[hh];exact a2▸(nq.sublist ((List.take_sublist ..).trans (List.drop_sublist ..)))) (by rw[←a1,b1,hz]) (by rw[hh,←a2,b2,←e2,hz]) e
   have:=least L h1
   rw[List.length_take,List.length_take] at h2
   omega
 have all:(r.drop i).take (d+1)=(q.drop i).take (d+1):=by rw[a1,a2,same,hh]
 intro m h1 h2
 have:=congrArg (fun x:List Int=>x[m-i]?) all
 simp only[List.getElem?_take,List.getElem?_drop] at this
 rw[if_pos (by omega),if_pos (by omega),show i+(m-i)=m by omega] at this
 exact this
theorem RF(hR:∀u v,v∈nb u↔R u v)(hb:∀u v,R u v→0≤v∧v<n)(hp:0≤p∧p<n)(h:r∈Ew nb c p k):∀z∈r,0≤z∧z<n:=by
 obtain⟨w1,w2,_,w4,_⟩:=(CV hR).mp h
 have key:∀{L:List Int} {x:Int},0≤x∧x<n→Ch R (x::L)→∀z∈x::L,0≤z∧z<n:=by
  intro L
  induction L with
  |nil=>intro x hx _ z hz;rw[List.mem_singleton.mp hz];exact hx
  |cons y L ih=>
   intro x hx hc z hz
   rcases List.mem_cons.mp hz with rfl|hz
   ·exact hx
   ·exact ih (hb _ _ hc.1) hc.2 z hz
 cases r with
 |nil=>intro z hz;cases hz
 |cons x L=>
  have:x=p:=by simpa using w2
  subst this
  exact key hp w4
theorem RG{a b d a' b' d':Int}(h1:0≤a∧a<20)(h2:0≤b∧b<20)(h3:0≤d∧d<20)(h4:0≤a'∧a'<20)(h5:0≤b'∧b'<20)(h6:0≤d'∧d'<20)(e:a*400+b*20+d=a'*400+b'*20+d'):a=a'∧b=b'∧d=d':=by omega
theorem Tw(sy:∀u v,R u v→R v u)(hR:∀u v,v∈nb u↔R u v)(hs:∀u,(nb u).Pairwise (· < ·))(hb:∀u v,R u v→0≤v∧v<n)(hn:n≤20)(hp:0≤p∧p<n)(least:∀M,Ring R M→s≤M.length)(hk:k<s):(Ew nb c p k).length≤8000:=by
 obtain⟨a,b,h1,h2,h3,h4⟩:∃a b:Nat,2*a<s∧2*b<s∧a+b≤k∧k≤a+b+1:=⟨min k ((s-1)/2),min (k-min k ((s-1)/2)) ((s-1)/2),by omega,by omega,by omega,by omega⟩
 have bd:∀r∈Ew nb c p k,∀i,i≤k→0≤r.getD i 0∧r.getD i 0<20:=fun r hr i hi=>by
  have hl:=((CV hR).mp hr).len
  have:=RF hR hb hp hr (r.getD i 0) (by rw[List.getD_eq_getElem?_getD,List.getElem?_eq_getElem (show i<r.length by omega)];exact List.getElem_mem _)
  omega
 have inj:∀r∈Ew nb c p k,∀q∈Ew nb c p k,r.getD a 0*400+r.getD (a+b) 0*20+r.getD k 0=q.getD a 0*400+q.getD (a+b) 0*20+q.getD k 0→r=q:=fun r hr q hq e=>by
  obtain⟨r1,r2,r3,r4,_⟩:=(CV hR).mp hr
  obtain⟨q1,q2,q3,q4,_⟩:=(CV hR).mp hq
  obtain⟨e1,e2,e3⟩:=RG (bd r hr a (by omega)) (bd r hr (a+b) (by omega)) (bd r hr k (by omega)) (bd q hq a (by omega)) (bd q hq (a+b) (by omega)) (bd q hq k (by omega)) e
  have at_:∀i,i≤k→r.getD i 0=q.getD i 0→r[i]?=q[i]?:=fun i hi z=>by
   rw[List.getD_eq_getElem?_getD,List.getD_eq_getElem?_getD,List.getElem?_eq_getElem (show i<r.length by omega),List.getElem?_eq_getElem (show i<q.length by omega)] at z
   rw[List.getElem?_eq_getElem (show i<r.length by omega),List.getElem?_eq_getElem (show i<q.length by omega)]
   exact congrArg some z
  have e0:r[0]?=q[0]?:=by rw[←List.head?_eq_getElem?,←List.head?_eq_getElem?,r2,q2]
  have g1:=RE sy least r4 q4 r3 q3 (i:=0) (d:=a) h1 (by omega) (by omega) e0 (by rw[Nat.zero_add];exact at_ a (by omega) e1)
  have g2:=RE sy least r4 q4 r3 q3 (i:=a) (d:=b) h2 (by omega) (by omega) (at_ a (by omega) e1) (at_ (a+b) (by omega) e2)
  apply List.ext_getElem?
  intro i
  by_cases c1:i≤a
  ·exact g1 i (Nat.zero_le _) (by omega)
  ·by_cases c2:i≤a+b
   ·exact g2 i (by omega) c2
   ·by_cases c3:i≤k
    ·have:i=k:=by omega
     subst this
     exact at_ i (Nat.le_refl _) e3
    ·rw[List.getElem?_eq_none (by omega),List.getElem?_eq_none (by omega)]
 have hb':∀u v,v∈nb u→0≤v∧v<32:=fun u v h=>by have:=hb u v ((hR u v).mp h);omega
 have:=Gr.EV (n:=8000) (L:=(Ew nb c p k).map fun r=>r.getD a 0*400+r.getD (a+b) 0*20+r.getD k 0) ?_ ?_
 ·rw[List.length_map] at this
  exact this
 ·rw[List.nodup_iff_pairwise_ne,List.pairwise_map]
  refine List.Pairwise.imp ?_ (List.Pairwise.and_mem.mp (EX (c:=c) (p:=p) (k:=k) hs hb'))
  rintro x y ⟨hx,hy,h⟩ e
  have:=inj x hx y hy e
  subst this
  omega
 ·intro z hz
  obtain⟨r,hr,rfl⟩:=List.mem_map.mp hz
  have b1:=bd r hr a (by omega)
  have b2:=bd r hr (a+b) (by omega)
  have b3:=bd r hr k (by omega)
  omega
end GrR
namespace L2.TL
open PySem PySem.Spec PySem.Calls PyProof.Rows PySem.Builtin PySem.Builtin.Str
section
variable{X:Cx}
end
section
variable{Z:Zx}{ρ:List (Option T)}{O:AG}{a b o e:Expr}{t:T}{Φ:BK}{pos p apos cpos:Pos}{i j:Str}{xs:List Str}
end
section
variable{X:Cx}
end
section
variable{Z:Zx}{ρ:List (Option T)}{O:AG}{a b o e:Expr}{t:T}{Φ:BK}{pos p apos cpos:Pos}{i j:Str}{xs:List Str}
end
section
variable{Z:Zx}{ρ:List (Option T)}{O:AG}{e elt tg iter:Expr}{ifs:List Expr}{csc:Scope}{nc:List Str}{cap:List (Str×Nat)}{Φ:BK}{pos:Pos}
end
theorem Cz{i:Int}:∀{ns:List Int},((dTs (ns.map T.int)).any fun y=>PyData.eqv y (dT (.int i)))=decide (i∈ns)
 | []=>rfl
 |n::ns=>by
  show((n==i)|| (dTs (ns.map T.int)).any fun y=>PyData.eqv y (dT (.int i)))=_
  rw[Cz,Bool.eq_iff_iff]
  simp only[Bool.or_eq_true,decide_eq_true_eq,List.mem_cons,beq_iff_eq]
  constructor
  ·rintro(h|h)
   ·exact .inl h.symm
   ·exact .inr h
  ·rintro(h|h)
   ·exact .inl h.symm
   ·exact .inr h
end L2.TL
namespace L2
open PySem PySem.Spec PySem.Calls PyProof.Rows
section
variable{prog:Program}{w:World}{A:Around}{R:Result→Shared→Prop}{I:Addr}{fp wr:List Addr}{n:Nat}{P:Nat→Value→Prop}{St:Nat→Heap→Prop}
theorem Ey:(toString "min" ++toString ".loop" :String)= "min.loop":=by decide
theorem PD{kw:List (Str×Value)}(W:Walks prog w A.in1 I fp wr n P St)(bt:Nat→Nat→Bool)(hcmp:CmpOf prog w A.in1 .Lt P bt)(S:Addr)(hSf:S∉fp):
  ∀(k j:Nat) (s:Shared) (vb:Value) (c:Nat),n- (j+1)=k→j+1≤n→St (j+1) s.heap→P (argBest bt j) vb→
  s.heap.get? S=some {cls:=.type "list",dict:=none,data:=.seq #[vb,vb] c,slots:=#[]}→
  (∀v h' tk,P (argBest bt (n-1)) v→(∀b o,b∉wr→b≠S→s.heap.get? b=some o→h'.get? b=some o)→R (.ok (.ret v)) {s with heap:=h',toks:=tk})→
  codeAny (model prog w) A (.builtin "min.loop" ⟨[.ref I,.none,.ref S],kw⟩) R s:=by
 have hSw:S∉wr:=fun h=>hSf (W.sub _ h)
 intro k
 induction k with
 |zero=>
  intro j s vb c hk hj hst hPb hS hR
  have hin:j+1=n:=by omega
  refine codeAny_builtin F.entry_min_loop ?_
  rw[Around.under_plainId F.plain_min_loop _]
  show wpAny _ A.in1 (seqItems? (.ref S)>>=_) _ _ s
  refine wpAny_bind (wpAny_seqItems hS rfl ?_)
  show wpAny _ A.in1 (tryCatch (pyNext (.ref I)) _>>=_) _ _ s
  refine wpAny_bind (wpAny_tryCatch (W.done s _ _ (hin▸hst) fun h' tk hk'=>?_))
  have hS':=hk' S _ hSw hS
  show wpAny _ A.in1 (updateSeq S (fun _=> #[])>>=_) _ _ _
  refine wpAny_bind (wpAny_updateSeq hS' rfl (wpAny_bind (wpAny_letGo (wpAny_pure ?_))))
  exact hR vb _ tk (by rw[←hin];exact hPb) fun b o hbw hbS e=> (Heap.get?_update_other _ _ (Ne.symm hbS)).trans (hk' b o hbw e)
 |succ k ih=>
  intro j s vb c hk hj hst hPb hS hR
  have hlt:j+1<n:=by omega
  refine codeAny_builtin F.entry_min_loop ?_
  rw[Around.under_plainId F.plain_min_loop _]
  show wpAny _ A.in1 (seqItems? (.ref S)>>=_) _ _ s
  refine wpAny_bind (wpAny_seqItems hS rfl ?_)
  show wpAny _ A.in1 (tryCatch (pyNext (.ref I)) _>>=_) _ _ s
  refine wpAny_bind (wpAny_tryCatch (W.item (j+1) s _ _ hlt hst fun v h' tk hP hst' hk'=>?_))
  have hS':=hk' S _ hSw hS
  show wpAny _ A.in1 (tryCatch (holding [v,v] (richCompare .Lt v vb>>=_)) _>>=_) _ _ _
  refine wpAny_bind (wpAny_tryCatch (wpAny_holding (wpAny_bind (hcmp (j+1) (argBest bt j) v vb _ _ _ hP hPb ?_))))
  refine wpAny_bind (wpAny_holding (wpAny_truthy_bool (wpAny_bind (wpAny_letGo (wpAny_pure ?_)))))
  cases hb:bt (j+1) (argBest bt j) with
  |true=>
   simp only[if_true]
   refine wpAny_bind (wpAny_updateSeq hS' rfl (wpAny_bind (wpAny_letGo ?_)))
   rw[Ey]
   refine wpAny_pure ⟨plainId_quiet F.plain_min_loop _,ih (j+1) _ v _ (by omega) hlt (W.frame _ _ _ hst' fun b hbf o e=>?_) (by simp only[argBest,hb,if_true];exact hP) (Heap.get?_update_self _ hS' rfl) fun v' h'' tk'' hP' hk''=>?_⟩
   ·exact(Heap.get?_update_other _ _ (fun h:S=b=>hSf (by rw[h];exact hbf))).trans e
   ·exact hR v' h'' tk'' hP' fun b o hbw hbS e=>hk'' b o hbw hbS ((Heap.get?_update_other _ _ (Ne.symm hbS)).trans (hk' b o hbw e))
  |false=>
   simp only[Bool.false_eq_true,if_false]
   refine wpAny_bind (wpAny_letGo ?_)
   rw[Ey]
   refine wpAny_pure ⟨plainId_quiet F.plain_min_loop _,ih (j+1) _ vb c (by omega) hlt hst' (by simp only[argBest,hb,Bool.false_eq_true,if_false];exact hPb) hS' fun v' h'' tk'' hP' hk''=>?_⟩
   exact hR v' h'' tk'' hP' fun b o hbw hbS e=>hk'' b o hbw hbS (hk' b o hbw e)
theorem Mc{nm:Str}{d:Value}(W:Walks prog w A.in1 I fp wr n P St)(bt:Nat→Nat→Bool)(hcmp:CmpOf prog w A.in1 .Lt P bt)(S:Addr)(hSf:S∉fp){s:Shared}{c:Nat}(hst:St 0 s.heap)
  (hS:s.heap.get? S=some {cls:=.type "list",dict:=none,data:=.seq #[] c,slots:=#[]})
  (h0:n=0→∀h' tk,(∀b o,b∉wr→b≠S→s.heap.get? b=some o→h'.get? b=some o)→R (.ok (.ret d)) {s with heap:=h',toks:=tk})
  (hR:0<n→∀v h' tk,P (argBest bt (n-1)) v→(∀b o,b∉wr→b≠S→s.heap.get? b=some o→h'.get? b=some o)→R (.ok (.ret v)) {s with heap:=h',toks:=tk}):
  codeAny (model prog w) A (.builtin "min.loop" ⟨[.ref I,.none,.ref S],[(nm,d)]⟩) R s:=by
 have hSw:S∉wr:=fun h=>hSf (W.sub _ h)
 refine codeAny_builtin F.entry_min_loop ?_
 rw[Around.under_plainId F.plain_min_loop _]
 show wpAny _ A.in1 (seqItems? (.ref S)>>=_) _ _ s
 refine wpAny_bind (wpAny_seqItems hS rfl ?_)
 show wpAny _ A.in1 (tryCatch (pyNext (.ref I)) _>>=_) _ _ s
 by_cases hn:0<n
 ·refine wpAny_bind (wpAny_tryCatch (W.item 0 s _ _ hn hst fun v h' tk hP hst' hk'=>?_))
  have hS':=hk' S _ hSw hS
  show wpAny _ A.in1 (updateSeq S (fun _=> #[v,v])>>=_) _ _ _
  refine wpAny_bind (wpAny_updateSeq hS' rfl ?_)
  rw[Ey]
  refine wpAny_pure ⟨plainId_quiet F.plain_min_loop _,PD W bt hcmp S hSf _ 0 _ v _ rfl hn (W.frame _ _ _ hst' fun b hbf o e=>?_) hP (Heap.get?_update_self _ hS' rfl) fun v' h'' tk'' hP' hk''=>?_⟩
  ·exact(Heap.get?_update_other _ _ (fun h:S=b=>hSf (by rw[h];exact hbf))).trans e
  ·exact hR hn v' h'' tk'' hP' fun b o hbw hbS e=>hk'' b o hbw hbS ((Heap.get?_update_other _ _ (Ne.symm hbS)).trans (hk' b o hbw e))
 ·have e0:n=0:=by omega
  refine wpAny_bind (wpAny_tryCatch (W.done s _ _ (by rw[e0];exact hst) fun h' tk hk'=>?_))
  show wpAny _ A.in1 (rule _>>=fun _=>ret d) _ _ _
  exact wpAny_bind (wpAny_rule (wpAny_pure (h0 e0 h' tk fun b o hbw _ e=>hk' b o hbw e)))
end
section
variable{prog:Program}{w:World}{A:Around}{E:Value→Shared→Prop}{s:Shared}
theorem PF{x d:Value}{Q:Value→Shared→Prop}
  (h:wpAny (model prog w) A.in1 (pyIter x) (fun it s₂=>∃I fp wr n P St bt,it=.ref I∧Walks prog w A.in1 I fp wr n P St∧St 0 s₂.heap∧(∀b∈fp,b<s₂.heap.objs.size)∧CmpOf prog w A.in1 .Lt P bt∧
   (n=0→∀h' tk,(∀b o,b∉wr→s₂.heap.get? b=some o→h'.get? b=some o)→Q d {s₂ with heap:=h',toks:=tk})∧
   (0<n→∀v h' tk,P (argBest bt (n-1)) v→(∀b o,b∉wr→s₂.heap.get? b=some o→h'.get? b=some o)→Q v {s₂ with heap:=h',toks:=tk})) E s):
  wpAny (model prog w) A (call (.builtin "min") [x] [("default",d)]) Q E s:=by
 refine wpAny_call (codeAny_call_builtin F.plain_min F.entry_min ?_)
 refine wpAny_of_eq (show checkBuiltinCall "min" ⟨[x],[("default",d)]⟩=pure () by kernel_rfl) ?_
 show wpAny _ A.in1 (Builtin.Builtins.bindParams "min" ["key","default"] 0 ⟨[],[("default",d)]⟩>>=_) _ _ s
 refine wpAny_bind (wpAny_of_eq (show Builtin.Builtins.bindParams "min" ["key","default"] 0 ⟨[],[("default",d)]⟩=pure [none,some d] from rfl) ?_)
 refine wpAny_bind (wpAny_pure ?_)
 refine wpAny_bind (wpAny_mono h (fun it s₂ h₂=>?_) fun _ _ e=>e)
 obtain⟨I,fp,wr,n,P,St,bt,rfl,W,hst,hfp,hcmp,q0,q1⟩:=h₂
 refine wpAny_bind (wpAny_newObj_type ?_)
 have hSf:s₂.heap.objs.size∉fp:=fun hm=>Nat.lt_irrefl _ (hfp _ hm)
 rw[Ey]
 refine wpAny_pure ⟨plainId_quiet F.plain_min_loop _,Mc W bt hcmp s₂.heap.objs.size hSf (W.frame _ _ _ hst fun b _ o e=>Heap.get?_push_of_some _ e) (Heap.get?_push_size _ rfl) (fun e0 h' tk hk=>?_) fun hn v h' tk hP hk=>?_⟩
 ·exact q0 e0 h' tk fun b o hbw e=>hk b o hbw (Nat.ne_of_lt (Heap.lt_size e)) (Heap.get?_push_of_some _ e)
 ·exact q1 hn v h' tk hP fun b o hbw e=>hk b o hbw (Nat.ne_of_lt (Heap.lt_size e)) (Heap.get?_push_of_some _ e)
end
section
variable{M:Model}{A:Around}{E:Value→Shared→Prop}{s:Shared}
theorem Jk{pos:Pos}{id:String}{k:Str}{x y:Sem Value}{Q:Value→Shared→Prop}
  (h:wpAny M A x (fun v s₁=>wpAny M A y (fun d s₂=>wpAny M A (call (.builtin id) [v] [(k,d)]) Q E s₂) E s₁) E s):
  wpAny M A (callWith pos (.builtin id) [] [(false,x)] [(some k,y)]) Q E s:=by
 unfold callWith
 refine wpAny_bind (wpAny_holding (evalArgs_kw rfl (Calls.spliced_cons (wpAny_mono h (fun v s₁ h₁=>?_) fun _ _ e=>e))))
 refine Calls.spliced_nil (wpAny_evalAll_cons (wpAny_mono h₁ (fun d s₂ h₂=>wpAny_evalAll_nil ?_) fun _ _ e=>e))
 refine wpAny_bind (wpAny_standAt ?_)
 refine wpAny_bind (wpAny_pure ?_)
 exact wpAny_bind (wpAny_mono h₂ (fun r s₃ hr=>wpAny_bind (wpAny_holding (wpAny_point (wpAny_pure hr)))) fun _ _ e=>e)
end
section
variable{X:Cx}
def Fh(ns:List Int):Option Int→Prop
 |none=>ns=[]
 |some m=>HB ns m
def bf:Option Int→V
 |none=> .non
 |some m=> .int m
theorem Tz{e:Expr}{te:TE}{p pos kp np:Pos}{j:Nat}(hc:X.calm=true)(hg:Gl X "min")(hm:X.mg "min" =none)(he:PE X e te)(hn:TL.Bf e=true):
  PE X (.Call (.Name "min" p) [e] [⟨some "default",.Constant .none j np,kp⟩] pos) (fun σ H Q=>te σ H fun v H1=>∃(a:Addr) (ns:List Int),v=.ref a∧ZA X.K H1 a (ns.map V.int)∧∀m,Fh ns m→Q (bf m) H1):=by
 intro pins s σ H Q I h
 refine wpAny_Call_Name_kw (FS I hg hm TL.TX ?_ (by decide) (by decide))
 rw[TL.Dw hn]
 refine Jk (Ay (he pins s σ H _ I h) fun u s1 ⟨v,H1,I1,r1,q1⟩=>?_)
 obtain⟨a,ns,rfl,hq,q⟩:=q1
 cases r1
 refine wpAny_bind ?_
 show wpAny _ _ (eval (.Constant .none j np) X.env) _ _ _
 refine wpAny_pure (wpAny_bind (wpAny_standAt (wpAny_pure ?_)))
 obtain⟨its,rv,lt,wk⟩:=I1.walk hq
 have hl:its.length=ns.length:=by have:=rv.length;rw[List.length_map] at this;exact this.symm
 refine PF (wk X.A.in1 _ _ (I1.ok.hd hc) fun o St W st=> ⟨_,_,_,_,_,_,_,rfl,W,st,fun b hb=>?_,CmpOf.ints_lt (fun i=>ns.getD i 0) (fun i v hv=>Cq rv i v hv),fun e0 h' tk hk=>?_,fun hn v h' tk hP hk=>?_⟩)
 ·show b< (s1.heap.push o).objs.size
  rw[Heap.size_push]
  simp only[List.mem_cons,List.not_mem_nil,or_false] at hb
  rcases hb with rfl|rfl
  ·exact Nat.lt_succ_self _
  ·exact Nat.lt_succ_of_lt lt
 ·exact⟨.non,H1,I1.kept (t':=tk) (JW hk),rfl,q none (List.eq_nil_of_length_eq_zero (by omega))⟩
 ·obtain⟨t,rfl⟩:=Cq rv _ v hP
  obtain⟨b1,b2⟩:=argBest_lt (fun i=>ns.getD i 0) (its.length-1)
  exact⟨.int _,H1,I1.kept (t':=tk) (JW hk),⟨t,rfl⟩,q (some _) ⟨HC (by omega),fun n hn=>by
   obtain⟨j,hj,rfl⟩:=List.getElem_of_mem hn
   have:=b2 j (by omega)
   simpa[List.getD,hj] using this⟩⟩
end
end L2
namespace L2.TL
open PySem PySem.Spec PySem.Calls PyProof.Rows
section
variable{Z:Zx}{ρ:List (Option T)}{O:AG}{e:Expr}{p pos kp np:Pos}{ns:List Int}{j:Nat}
def EY:Option Int→T
 |none=> .non
 |some m=> .int m
theorem LN{a b:Option Int}(ha:Fh ns a)(hb:Fh ns b):a=b:=by
 cases a with
 |none=>
  cases b with
  |none=>rfl
  |some m=>rw[show ns=[] from ha] at hb;exact absurd hb.1 (by simp)
 |some m=>
  cases b with
  |none=>rw[show ns=[] from hb] at ha;exact absurd ha.1 (by simp)
  |some k=>rw[Int.le_antisymm (ha.2 k hb.1) (hb.2 m ha.1)]
theorem UA{m:Option Int}(hm:Fh ns m)(mm:Z.X.mg "min" =none)(hc:Z.X.calm=true)(h:ET Z ρ O e (.lst (ns.map T.int)))(hg:Gl Z.X "min":=by rfl)(hn:Bf e=true:=by rfl):
  ET Z ρ O (.Call (.Name "min" p) [e] [⟨some "default",.Constant .none j np,kp⟩] pos) (EY m):=fun Φ q=>
 PE.weak (Tz hc hg mm (h (fun t O'=>t=.lst (ns.map T.int)∧O'=O) ⟨rfl,rfl⟩) hn) fun σ H Q k=> ⟨k.1,by
  rintro v H' _ _ ⟨rfl,rfl⟩ f r
  obtain⟨a,xs,rfl,h1,o1,r1⟩:=r.lst_inv
  cases Reps.ints r1
  refine⟨a,ns,rfl,.inl (.inl (.inl h1)),fun m' hm'=>?_⟩
  cases LN hm' hm
  refine k.2 _ H' _ _ q f ?_
  cases m with
  |none=>exact .non
  |some m=>exact .int m⟩
end
end L2.TL
namespace L2
open PySem PySem.Spec PySem.Calls PyProof.Rows
section
variable{prog:Program}{w:World}{A:Around}{R:Result→Shared→Prop}{I:Addr}{fp wr:List Addr}{n:Nat}{P:Nat→Value→Prop}{St:Nat→Heap→Prop}
end
section
variable{prog:Program}{w:World}{A:Around}{E:Value→Shared→Prop}{s:Shared}
end
section
variable{X:Cx}
end
end L2
namespace L2.TL
open PySem PySem.Spec PySem.Calls PyProof.Rows
section
variable{Z:Zx}{ρ:List (Option T)}{O:AG}{e:Expr}{p pos kp np:Pos}{ns:List Int}{j:Nat}
end
end L2.TL
namespace L2
open PySem PySem.Spec PyProof.Rows
open Sem (wp)
section
variable{prog:Program}{w:World}{A:Around}{E:Value→Shared→Prop}{s:Shared}
end
section
variable{prog:Program}{w:World}{A:Around}{E:Value→Shared→Prop}{s:Shared}
end
section
variable{prog:Program}{w:World}{A:Around}{E:Value→Shared→Prop}{s:Shared}
end
section
variable{M:Model}{A:Around}{E:Value→Shared→Prop}{s:Shared}
end
section
variable{X:Cx}
end
section
variable{X:Cx}{tg:Expr}
end
end L2
namespace L2.TL
open PySem PySem.Spec PyProof.Rows
section
variable{Z:Zx}{ρ:List (Option T)}{O:AG}{a tg:Expr}{ts:List T}{p pos:Pos}
end
open PySem.Builtin PySem.Builtin.Str
section
variable{Z:Zx}{ρ:List (Option T)}{O:AG}{a b e:Expr}{p pos:Pos}{x y:Str}{i:Int}{K:PySem.W.Frag}
theorem Md(ha:ET Z ρ O a (.str x))(hb:ET Z ρ O b (.str y)):EB Z ρ O (.Compare a [.NotEq] [b] pos) (!(x==y)):=As Mz (Ae _) Wy ha hb
end
structure Fi(K:PySem.W.Frag)(x:Str)(st:Stmt)(f:Addr)(fd:FuncData):Prop where
 F:Fun K x x st f fd
 a:PySem.W.nsIn K mainGlobals x=some (some (.ref f))
def Fx(K:PySem.W.Frag)(x:Str)(st:Stmt):Prop:=∃f fd,Fi K x st f fd
def Zn(K:PySem.W.Frag)(x:Str):Prop:=PySem.W.nsIn K mainGlobals x=some none
def Cn(K:PySem.W.Frag)(x:Str)(C:Addr):Prop:=PySem.W.nsIn K mainGlobals x=some (some (.ref C))
structure Mg(P:Program)(w:World)(K:PySem.W.Frag)(mg:Str→Option Value)(base:Heap):Prop where
 mm:∀{x:Str} {v:Value},PySem.W.nsIn K mainGlobals x=some (some v)→mg x=some v
section
variable{P:Program}{w:World}{K:PySem.W.Frag}{mg:Str→Option Value}{base:Heap}{x:Str}{st:Stmt}{f:Addr}{fd:FuncData}{ps:List Str}{k:Nat}
theorem fi{oc:Value}{od:Option Addr}{kV doc pm:Value}{an:Option Addr}{cdv ct:Value}{osl:Array (Option Value)}(a:PySem.W.nsIn K mainGlobals x=some (some (.ref f)))(l:K.lookup f=some ⟨oc,od,.func (PySem.W.fnOf x x (Ef st) (Ai st) (AA st) .none kV doc pm an cdv ct),osl⟩)(q:PySem.W.codeIn K cdv x=true)(h:PySem.W.keepIn K (.ref f)=true):
  Fx K x st:=⟨f,_,⟨⟨⟨oc,od,kV,doc,pm,an,cdv,ct,osl,rfl,l,q⟩,h⟩,a⟩⟩
abbrev Bi(x:Str)(st:Stmt)(ps:List Str)(us:List Value):Prop:=∀(kV doc pm:Value) (an:Option Addr) (cdv ct:Value),bindArgs (PySem.W.fnOf x x (Ef st) (Ai st) (AA st) .none kV doc pm an cdv ct) ⟨us,[]⟩=pure (ps.zip us)
theorem Fi.b1(h:Fi K x st f fd)(hl:ps.length=1)(q:∀a,Bi x st ps [a]):Binds K fd ps []:=h.F.binds fun _ _ _ _ _ _ us e=>match us,e.trans hl with| [a],_=>q a ..
theorem Fi.b2(h:Fi K x st f fd)(hl:ps.length=2)(q:∀a b,Bi x st ps [a,b]):Binds K fd ps []:=h.F.binds fun _ _ _ _ _ _ us e=>match us,e.trans hl with| [a,b],_=>q a b ..
theorem Fi.b3(h:Fi K x st f fd)(hl:ps.length=3)(q:∀a b c,Bi x st ps [a,b,c]):Binds K fd ps []:=h.F.binds fun _ _ _ _ _ _ us e=>match us,e.trans hl with| [a,b,c],_=>q a b c ..
theorem Fi.b4(h:Fi K x st f fd)(hl:ps.length=4)(q:∀a b c d,Bi x st ps [a,b,c,d]):Binds K fd ps []:=h.F.binds fun _ _ _ _ _ _ us e=>match us,e.trans hl with| [a,b,c,d],_=>q a b c d ..
theorem Fi.t{s:Cu}(h:Fi K x st f fd)(M:Mg P w K mg base)(ok:FnOk P w K mg base (CXe P w) k f fd ps (DZ K s))(b:Binds K fd ps []):FnT P w K mg base x k ps s:=⟨f,fd,ok,M.mm h.a,h.F.kp,b⟩
structure Xk(K:PySem.W.Frag)(C CR c0 c1 c2 c3 c4 c5 c6 c7:Addr)(b0 b1 b2 b3 b4 b5 b6 b7:Bool):Prop where
 e0:PySem.W.kitOne K (.ref C) (.ref c0)=some b0
 e1:PySem.W.kitOne K (.ref C) (.ref c1)=some b1
 e2:PySem.W.kitOne K (.ref C) (.ref c2)=some b2
 e3:PySem.W.kitOne K (.ref C) (.ref c3)=some b3
 e4:PySem.W.kitOne K (.ref C) (.ref c4)=some b4
 e5:PySem.W.kitOne K (.ref C) (.ref c5)=some b5
 e6:PySem.W.kitOne K (.ref C) (.ref c6)=some b6
 e7:PySem.W.kitOne K (.ref C) (.ref c7)=some b7
 kR:PySem.W.kitOne K (.ref C) (.ref CR)=some true
 nR:(Value.ref C==Value.ref CR)=false
 ve:PySem.W.kitOne K (.ref C) (.type "ValueError")=some true
 g1:PySem.W.findIn K (.ref C) "__getattribute__" =some (some (.builtin "BaseException.__getattribute__"))
 g2:PySem.W.findIn K (.ref C) "__getattr__" =some none
 g3:PySem.W.mroIn K C (.type "BaseException")=some true
 g4:PySem.W.mroIn K C (.type "object")=some true
 g5:PySem.W.findIn K (.ref C) "__class__" =some (some (.builtin "object.__class__"))
structure Xg(K:PySem.W.Frag)(CR:Addr):Prop where
 bR:PySem.W.mroIn K CR (.type "BaseException")=some true
 g6:PySem.W.specialIn K (.builtin "object.__class__") "__get__" =some (some (.builtin "getset_descriptor.__get__"))
 g7:PySem.W.takesIn K (.builtin "object.__class__")=some true
theorem Xk.kit{C CR c0 c1 c2 c3 c4 c5 c6 c7:Addr}{b0 b1 b2 b3 b4 b5 b6 b7:Bool}(x:Xk K C CR c0 c1 c2 c3 c4 c5 c6 c7 b0 b1 b2 b3 b4 b5 b6 b7):PySem.W.kitCls K (.ref C) (.ref CR)=some true:=by
 have h:=x.kR
 unfold PySem.W.kitOne at h
 rw[x.nR,if_neg Bool.false_ne_true] at h
 exact h
end
end L2.TL
namespace L2
open PySem PySem.Spec PySem.Calls PyProof.Rows Builtin.ObjectAttr
section
variable{prog:Program}{w:World}{A:Around}{E:Value→Shared→Prop}{s:Shared}{K:PySem.W.Frag}{x dx C f:Addr}{name:Str}{v:Value}
end
section
variable{prog:Program}{w:World}{A:Around}{E:Value→Shared→Prop}{s:Shared}{K:PySem.W.Frag}{x dx C f:Addr}{name:Str}{v:Value}
end
section
variable{prog:Program}{w:World}{A:Around}{E:Value→Shared→Prop}{s:Shared}{K:PySem.W.Frag}{C f:Addr}
end
section
variable{X:Cx}{pins:List (Addr×Obj)}{σ:St}{H:Hp}{s:Shared}
end
section
variable{X:Cx}{o value:Expr}{n:Str}{pos pos':Pos}{ta tv:TE}
end
end L2
namespace L2.TL
open PySem PySem.Spec PySem.Calls PyProof.Rows
section
variable{Z:Zx}{ρ:List (Option T)}{O:AG}{e a b:Expr}{es:List Expr}{Ψ:Es}{Φ:BK}{pos p:Pos}{t:T}{ts:List T}{x:Str}
def _root_.L2.TL.Zx.Wr(Z:Zx)(ρ:List (Option T)):St→XK:=fun σ cls d H'=>d=none∧∃O',Z.Xi cls O'∧Frm Z.K Z.Oe Z.He O' H'∧Rl Z.K O' H' σ ρ
theorem Rl.unset{K:PySem.W.Frag}{O:AG}{H:Hp}{σ:St}{ρ:List (Option T)}{i:Nat}(r:Rl K O H σ ρ):Rl K O H (σ.set i none) (ρ.set i none):=⟨by simpa using r.1,fun j u e=>by
 by_cases hj:j=i
 ·subst hj
  have hl:j<ρ.length:=by
   have:=(List.getElem?_eq_some_iff.mp e).1
   simpa using this
  rw[List.getElem?_set_self hl] at e
  cases e
 ·rw[List.getElem?_set_ne (Ne.symm hj)] at e ⊢
  exact r.2 j u e⟩
def cO(i:Nat)(Ψ:Es):Es:={nx:=fun ρ' O'=>Ψ.nx (ρ'.set i none) O',rt:=Ψ.rt,bk:=fun ρ' O'=>Ψ.bk (ρ'.set i none) O',ct:=fun ρ' O'=>Ψ.ct (ρ'.set i none) O'}
abbrev zH(Z:Zx)(x:Addr)(O:AG)(H:Hp):Zx:=⟨Um Z.X x,O,H,fun _ _=>False⟩
theorem UB{i:Nat}{n bx:Str}{B:Addr}{np hpos:Pos}{body suite:List Stmt}{b₀:Stmt}(Cs:Value→AG→Prop)
  (hbody:∀pins E' H,Frm Z.K Z.Oe Z.He O H→XFly (CA Z.X pins E') (Zx.Wr ⟨CA Z.X pins E',O,H,Cs⟩ ρ)→EG ⟨CA Z.X pins E',O,H,Cs⟩ ρ O body Ψ)
  (kc:∀cls O',Cs cls O'→∃C,(cls=.ref C∨∃fs,cls=.str fs C)∧PySem.W.kitCls Z.X.K (.ref C) (.ref B)=some true)
  (hsuite:∀y cls O' C x o H',Cs cls O'→HK cls C x H' o→Frm Z.K Z.Oe Z.He O' H'→H' x=none→EG (zH Z y O' (upd H' x o)) (ρ.set i (some (.raw (.ref x)))) O' (b₀::suite) (cO i Ψ))
  (hst:Z.X.stack=Z.X.env::Z.X.outer) (hex:Z.X.ex=[]) (hfr:Z.X.env.frame=some Z.X.env.locals) (hN:Z.X.N.Nodup) (hi:Z.X.N[i]?=some n) (hk:Z.X.env.scope.names.lookup n=some .local) (hmB:Z.X.mg bx=some (.ref B)) (hbe:PySem.W.mroIn Z.X.K B (.type "BaseException")=some true)
  (hgB:Gl Z.X bx) (hd2:(bx==("__debug__" :Str))=false):
  WS Z ρ O (.Try body [.ExceptHandler (some (.Name bx np)) (some n) (b₀::suite) hpos] [] [] pos) Ψ:=by
 have hb1:∀(W:St→XK) (X':Cx),TryIs Z.X X'→XFly X' W→PSs X' body (fun D σ H=>tS Z ρ O Ψ D σ H∧∀(σ':St) cls O' H',Cs cls O'→Frm Z.K O H O' H'→Rl Z.K O' H' σ' ρ→W σ' cls none H'):=by
  rintro W X' ⟨pins0,E',rfl⟩ xf
  intro pins s σ H D I ⟨⟨a,acc⟩,hw⟩
  refine hbody pins0 E' H a.fr ⟨fun pins1 σ1 H1 s1 e s2 I1 c=>xf.fly pins1 σ1 H1 s1 e s2 I1 ?_⟩ pins s σ H D I ⟨⟨a.rl,.refl a.ok⟩,⟨fun ρ' O' σ' H' p a' k=>acc.nx ρ' O' σ' H' p ⟨a'.rl,a.fr.trans a'.fr⟩ k,fun v H' t O' p f r=>acc.rt v H' t O' p (a.fr.trans f) r,fun ρ' O' σ' H' p a' k=>acc.bk ρ' O' σ' H' p ⟨a'.rl,a.fr.trans a'.fr⟩ k,fun ρ' O' σ' H' p a' k=>acc.ct ρ' O' σ' H' p ⟨a'.rl,a.fr.trans a'.fr⟩ k⟩⟩
  obtain⟨x,cls,H',e1,fl,_,O',hc,f,rl⟩:=c
  exact⟨x,cls,H',e1,fl,hw σ1 cls O' H' hc f rl⟩
 have hh1:∀y,PSs (Um Z.X y) (b₀::suite) (fun D σ H=>∃z cls O' C o H',Cs cls O'∧HK cls C z H' o∧Frm Z.K Z.Oe Z.He O' H'∧H' z=none∧tS (zH Z z O' (upd H' z o)) (ρ.set i (some (.raw (.ref z)))) O' (cO i Ψ) D σ H):=by
  rintro y pins s σ H D I ⟨z,cls,O',C,o,H',c,hk',f,hz,q⟩
  exact hsuite y cls O' C z o H' c hk' f hz pins s σ _ D I ⟨⟨q.1.rl,q.1.fr⟩,⟨fun ρ' O' σ' H' p a k=>q.2.nx ρ' O' σ' H' p ⟨a.rl,a.fr⟩ k,q.2.rt,fun ρ' O' σ' H' p a k=>q.2.bk ρ' O' σ' H' p ⟨a.rl,a.fr⟩ k,fun ρ' O' σ' H' p a k=>q.2.ct ρ' O' σ' H' p ⟨a.rl,a.fr⟩ k⟩⟩
 refine PS.weak (QD (i:=i) hst hex hfr hN hi hk hgB hmB hbe hb1 hh1 hd2) fun D σ H q=>?_
 refine⟨q,?_⟩
 intro σ' cls O' H' hc f rl
 obtain⟨C,h1,h2⟩:=kc cls O' hc
 refine⟨C,h1,h2,fun z o hz hk'=> ⟨z,cls,O',C,o,H',hc,hk',q.1.fr.trans f,hz,⟨(rl.kp (BV f.ok hz) f.ok).set (.raw _),.refl (Frm.new f.ok hz).ok⟩,?_⟩⟩
 have g:Frm Z.K Z.Oe Z.He O' (upd H' z o):=(q.1.fr.trans f).trans (.new f.ok hz)
 have k0:TL.Kp O H O' (upd H' z o):=f.kp.trans (BV f.ok hz)
 exact⟨fun ρ2 O2 σ2 H2 p a2 k2=>q.2.nx _ O2 _ H2 p ⟨Rl.unset a2.rl,g.trans a2.fr⟩ (k0.trans k2),fun v H2 t O2 p f2 r=>q.2.rt v H2 t O2 p (g.trans f2) r,
  fun ρ2 O2 σ2 H2 p a2 k2=>q.2.bk _ O2 _ H2 p ⟨Rl.unset a2.rl,g.trans a2.fr⟩ (k0.trans k2),fun ρ2 O2 σ2 H2 p a2 k2=>q.2.ct _ O2 _ H2 p ⟨Rl.unset a2.rl,g.trans a2.fr⟩ (k0.trans k2)⟩
end
end L2.TL
namespace L2
open PySem PySem.Spec PySem.Calls PyProof.Rows
end L2
namespace L2.TL
open PySem PySem.Spec PySem.Calls PyProof.Rows
structure ExC(Z:Zx)(x C:Addr):Prop where
 rd:Rd Z.He x (GC C x)
 no:Z.Oe x=none
section
variable{Z:Zx}{ρ:List (Option T)}{O O':AG}{e a b:Expr}{es:List Expr}{Ψ:Es}{Φ:BK}{pos p:Pos}{t:T}{ts:List T}{x y C D:Addr}{H':Hp}{o:HO}{cls:Value}{fs:Str}
theorem HK.exc(h:HK cls C x H' o)(f:Frm Z.K Z.Oe Z.He O' H')(hz:H' x=none):ExC (zH Z y O' (upd H' x o)) x C:=by
 refine⟨?_,f.ok.none_of hz⟩
 rcases h with⟨_,rfl⟩| ⟨_,ox,_,_,_,rfl,_⟩
 ·exact .inl AO
 ·exact .inr ⟨ox,AO⟩
theorem HK.cls_ref(h:HK (.ref C) D x H' o):D=C:=by
 rcases h with⟨e,_⟩| ⟨_,_,_,_,e,_⟩
 ·cases e;rfl
 ·cases e
theorem PH{k:Nat}{f:Addr}{fd:FuncData}{ps:List Str}{sp:Sp}{g:Str}(F:FnH Z.X.prog Z.X.w Z.X.K Z.X.mg Z.X.base k f fd ps sp)(hm:Z.X.mg g=some (.ref f))(hk:PySem.W.keepIn Z.X.K (.ref f)=true)(hb:Binds Z.X.K fd ps [])(hr:RoomH k Z.X.A)(h:EA Z ρ O (e::es) ts)
  (w:∀σ H vs Q,Asr Z ρ O σ H→Reps Z.K O H vs ts→Acc Z.K O H Φ Q→sp vs H Q E0) (hg:Gl Z.X g:=by rfl) (hdb:(g==("__debug__" :Str))=false:=by decide) (he:starEach (e::es) Z.X.env=(false,eval e Z.X.env)::starEach es Z.X.env:=by rfl) (hpl:(backTo pos (starEach es Z.X.env)).any (·.1)=false:=by rfl):
  WE Z ρ O (.Call (.Name g p) (e::es) [] pos) Φ:=by
 refine PE.weak (QE F hr hg hm hk hb (IA (ρ:=ρ)) hdb he hpl) fun σ H Q q=>?_
 refine⟨O,_,h (fun ts' O'=>ts'=ts∧O'=O) ⟨rfl,rfl⟩,q.1,fun vs H1 ts1 O1 p1 f1 r=>?_⟩
 obtain⟨rfl,rfl⟩:=p1
 exact w σ H1 vs Q (q.1.step f1) r (q.2.step f1)
theorem HY{k:Nat}{f:Addr}{fd:FuncData}{ps:List Str}{g:Str}(F:FnH Z.X.prog Z.X.w Z.X.K Z.X.mg Z.X.base k f fd ps (bb C t))(hm:Z.X.mg g=some (.ref f))(hk:PySem.W.keepIn Z.X.K (.ref f)=true)(hb:Binds Z.X.K fd ps [])(hr:RoomH k Z.X.A)(hx:ExC Z x C)(h:ET Z ρ O e (.raw (.ref x)))
  (hg:Gl Z.X g:=by rfl) (hdb:(g==("__debug__" :Str))=false:=by decide) (he:starEach [e] Z.X.env=(false,eval e Z.X.env)::starEach [] Z.X.env:=by rfl) (hpl:(backTo pos (starEach [] Z.X.env)).any (·.1)=false:=by rfl):ET Z ρ O (.Call (.Name g p) [e] [] pos) t:=fun Φ p=>
 PH F hm hk hb hr (AJ h AC he) (fun σ H vs Q a r acc=>by
  obtain⟨v,rfl,r1⟩:=r.one_inv
  cases r1.raw_inv
  have rd:Rd H x (GC C x):=by
   rcases hx.rd with z| ⟨o',z⟩
   ·exact .inl (a.fr.kp _ _ z hx.no).1
   ·exact .inr ⟨o',(a.fr.kp _ _ z hx.no).1⟩
  exact⟨x,rfl,rd,fun v H2 sm rp=>acc v H2 t O p (Frm.same (.refl a.ok) sm) (rp _ _)⟩) hg hdb he hpl
end
section
variable{P:Program}{w:World}{K:PySem.W.Frag}{mg:Str→Option Value}{base:Heap}
end
section
variable{P:Program}{w:World}{K:PySem.W.Frag}{mg:Str→Option Value}{base:Heap}{C R f:Addr}{q x:Str}{st:Stmt}{fd:FuncData}
end
section
variable{K:PySem.W.Frag}{O O':AG}{H:Hp}
end
section
variable{Z:Zx}{ρ:List (Option T)}{O:AG}{e a b:Expr}{es:List Expr}{Ψ:Es}{Φ:BK}{pos p:Pos}{t:T}{ts ts' us:List T}{x:Str}{l:Addr}
end
end L2.TL
namespace L2
open PySem PySem.Spec PyProof.Rows
section
variable{X:Cx}{W:St→XK}
end
end L2
namespace L2.TL
open PySem PySem.Spec PyProof.Rows
section
variable{Z:Zx}{ρ:List (Option T)}{O:AG}{Φ:BK}{p pos:Pos}{x:Str}{t:T}
end
theorem LO:∀{ns:List Int},rdBs (ns.map T.int)=true
 | []=>rfl
 |n::ns=>by
  rw[List.map_cons,rdBs,LO]
  rfl
section
variable{Z:Zx}{ρ:List (Option T)}{O:AG}{Ψ:Es}{a b o e:Expr}{apos cpos pos:Pos}{bs:List Bool}{i:Int}{ns:List Int}
end
end L2.TL
namespace L2
open PySem PySem.Spec PyProof.Rows
section
variable{X:Cx}{pos:Pos}
end
end L2
namespace L2.TL
open PySem PySem.Spec PyProof.Rows
section
variable{Z:Zx}{ρ:List (Option T)}{O:AG}{x y z:Str}{p1 p2 p3 pos:Pos}{k:Nat}{ta tb tc:T}{fe e:Expr}{es:List Expr}{Φ:BK}
theorem Ip{f:Str}{kk:Nat}{ps:List Str}{s:Cu}(G:FnT Z.X.prog Z.X.w Z.X.K Z.X.mg Z.X.base f kk ps s)(hr:Room kk Z.X.A)(xf:XFly Z.X (Z.Wr ρ))(hf:∀a,Z.X.mg f=some (.ref a)→ET Z ρ O fe (.raw (.ref a)))(h:WA Z ρ O (e::es) fun ts O1=>s ts O1 Φ Z.Xi)
  (hev:eval (.Call fe (e::es) [] pos) Z.X.env=(do callWith pos (←eval fe Z.X.env) [] (backTo pos (starEach (e::es) Z.X.env)) (backToKw pos (keywordEach [] Z.X.env))):=by rfl)
  (he:starEach (e::es) Z.X.env=(false,eval e Z.X.env)::starEach es Z.X.env:=by rfl) (hpl:(backTo pos (starEach es Z.X.env)).any (·.1)=false:=by rfl):WE Z ρ O (.Call fe (e::es) [] pos) Φ:=by
 obtain⟨a,fd,F,hm,hk,hb⟩:=G.ex
 refine PE.weak (QH xf (hf a hm (fun t O'=>t=.raw (.ref a)∧O'=O) ⟨rfl,rfl⟩) (IA (ρ:=ρ)) hev he hpl) fun σ H Q q=> ⟨q.1,?_⟩
 rintro v H1 _ _ ⟨rfl,rfl⟩ f1 r1
 cases r1.raw_inv
 refine⟨⟨a,rfl,hk⟩,_,_,h,q.1.step f1,fun vs H2 ts O2 p f2 r=> ⟨kk,a,fd,ps,_,rfl,F,hr,hk,hb,ts,O2,Φ,Z.Xi,r,f2.ok,p,(q.2.step f1).step f2,fun cls O' H' x f'=> ⟨rfl,O',x,((q.1.fr.trans f1).trans f2).trans f',?_⟩⟩⟩
 exact((q.1.rl.kp f1.kp q.1.ok).kp f2.kp f1.ok).kp f'.kp f2.ok
end
end L2.TL
namespace K18
open PySem L2 L2.TL PySem.Spec PyProof.Rows
def top(i:Nat):Stmt:=PySem.Challenge.pw_noshortring_k18_webs_that_fit.main.body.getD i (.Pass ⟨0,0,0,0⟩)
abbrev Me:Stmt:=top 11
abbrev Jl:Stmt:=top 12
abbrev Jm:Stmt:=top 16
abbrev Iq:Stmt:=top 17
abbrev Nj:Stmt:=top 18
abbrev Ir:Stmt:=top 42
abbrev Mf:Stmt:=top 48
abbrev Jn:Stmt:=top 13
abbrev UC:Stmt:=top 19
abbrev Jo:Stmt:=top 20
abbrev RH:Stmt:=top 25
abbrev RI:Stmt:=top 26
abbrev bg:Stmt:=top 27
abbrev XH:Stmt:=top 28
abbrev Mh:Stmt:=top 29
abbrev XI:Stmt:=top 30
abbrev Nk:Stmt:=top 31
abbrev RJ:Stmt:=top 32
abbrev Nl:Stmt:=top 33
abbrev XJ:Stmt:=top 34
abbrev Mi:Stmt:=top 35
abbrev Ba:Stmt:=top 49
abbrev GP:Stmt:=top 50
abbrev Jp:Stmt:=top 51
abbrev Iu:Stmt:=top 52
abbrev Ci:Stmt:=top 53
abbrev LP:Stmt:=top 54
structure Txt(mg:Str→Option Value):Prop where
 nInt:mg "int" =none
 nBool:mg "bool" =none
 nTuple:mg "tuple" =none
 nList:mg "list" =none
 nSet:mg "set" =none
 nRange:mg "range" =none
 nIsi:mg "isinstance" =none
 nMax:mg "max" =none
 nMin:mg "min" =none
 nLen:mg "len" =none
 nAll:mg "all" =none
 nSorted:mg "sorted" =none
 nRepr:mg "repr" =none
 nVE:mg "ValueError" =none
 nAny:mg "any" =none
 nEnum:mg "enumerate" =none
 iLT:∃t:Tok,mg "LEAST_TIES" =some (.int 2 t)
 iMT:∃t:Tok,mg "MOST_TIES" =some (.int 15 t)
 iLR:∃t:Tok,mg "LEAST_RING" =some (.int 3 t)
 iMR:∃t:Tok,mg "MOST_RING" =some (.int 16 t)
def Hu(t:T)(a b:Int):Bool:=match t with
 | .int i=>decide (a≤i)&&decide (i≤b)
 |_=>false
def AU(n:Int)(p:Int×Int):Prop:=0≤p.1∧p.1<p.2∧p.2<n
theorem EW.cast{Z:Zx}{ρ:List (Option T)}{O:AG}{e:Expr}{k l:Bool}(h:EW Z ρ O e k)(z:k=l):EW Z ρ O e l:=z▸h
theorem EB.cast{Z:Zx}{ρ:List (Option T)}{O:AG}{e:Expr}{k l:Bool}(h:EB Z ρ O e k)(z:k=l):EB Z ρ O e l:=z▸h
theorem ET.cast{Z:Zx}{ρ:List (Option T)}{O:AG}{e:Expr}{k l:T}(h:ET Z ρ O e k)(z:k=l):ET Z ρ O e l:=z▸h
section
variable{P:Program}{w:World}{K:PySem.W.Frag}{mg:Str→Option Value}{base:Heap}
def Nm:Cu:=MR fun ts r=>∃t a b,ts=[t,.int a,.int b]∧BR t=false∧r=.bl (Hu t a b)
theorem UD:FnScope ["thing","least","most"] ["thing","least","most"] (AA Me):=⟨rfl,rfl,rfl,by decide+kernel,rfl,by decide+kernel,by decide+kernel⟩
theorem RL{f:Addr}{fd:FuncData}(F:Fun K "is_whole" "is_whole" Me f fd)(T:Txt mg):FnOk P w K mg base (CXe P w) 1 f fd ["thing","least","most"] (DZ K Nm):=by
 refine Ad F UD ?_ ?_
 ·rintro ts O Φ Ξ ⟨r,⟨t,a,b,rfl,_⟩,_⟩
  rfl
 ·rintro cdv A outer s H E O Ξ hr xf _ Φ ⟨_,⟨t,a,b,rfl,ht,rfl⟩,q⟩
  refine AD (BB (EW.eb (Ft (MP (MV T.nIsi T.nInt ZL TV (ev 0) ht)) fun _=>MQ (MV T.nIsi T.nBool Ql HI (ev 0) ht))) (fun h=>AE (AR (NR _ ?_))) (fun h=>BH ?_))
  ·have:Hu t a b=false:=by
    cases t<;>first|rfl|cases h
   rw[this] at q;exact q
  ·cases t with
   |int i=>exact AE (AR (TQ (ev 1) (ev 0) (ev 2) (by with_unfolding_all rfl) _ q))
   |bl i=>cases h
   |raw i=>cases ht
   |_=>cases h
end
abbrev RM:Stmt:=top 37
abbrev RN:Stmt:=top 38
abbrev XM:Stmt:=top 39
abbrev RO:Stmt:=top 40
def Fj(xs:List T):Prop:=∃a b c:Int,xs=[.int a,.int b,.int c]∧0≤a∧0≤c∧c<2147483648
section
variable{P:Program}{w:World}{K:PySem.W.Frag}{mg:Str→Option Value}{base:Heap}
def HZ(K:PySem.W.Frag):Sp:=fun vs H Q _=>∃(a:Addr) (ns:List Int),vs=[.ref a,.int 0]∧SqL K H a (ns.map V.int)∧∀i,Q (.int i) H
theorem XN:FnScope ["_law_script","_law_k"] ["_law_script","_law_k"] (AA RM):=⟨rfl,rfl,rfl,by decide+kernel,rfl,by decide+kernel,by decide+kernel⟩
theorem UE{f:Addr}{fd:FuncData}(F:Fun K "_law_cell_at" "_law_cell_at" RM f fd)(T:Txt mg):FnOk P w K mg base (CXe P w) 1 f fd ["_law_script","_law_k"] (HZ K):=by
 refine F.okX XN (fun vs H Q E h=>?_) (fun cdv A outer s H vs Q E hr h=>?_)
 ·obtain⟨a,ns,rfl,_⟩:=h
  rfl
 ·obtain⟨a,ns,rfl,hS,k⟩:=h
  refine⟨_,Dc (Pd (JJ Pj (pv 1) (BC DE (by rfl) T.nLen Wv (AL (pv 0) BF)) (Ae _)) (Ed (FT (Pt Ee (pv 0) (pv 1) (fun _ _=>rfl)))) JG) (Ed (FT Lg)),?_⟩
  refine⟨_,rfl,_,rfl,a,_,rfl,.inl hS,_,_,rfl,rfl,_,rfl,?_⟩
  refine WH (fun h1=>?_) (fun h1=>?_)
  ·have h1:(0:Int)< ((ns.map V.int).length:Int):=by simpa using h1
   cases ns with
   |nil=>simp at h1
   |cons n ns=>exact⟨_,rfl,_,rfl,a,_,0,.int n,rfl,rfl,hS,An (j:=0) rfl,k n⟩
  ·exact k 0
def RQ:Cu:=fun ts O Φ _=>∃n:Int,ts=[.int n]∧∀m:Int,0≤m→m<2147483629→Φ (.int m) O
theorem RS:FnScope ["_law_seed"] ["_law_seed"] (AA RN):=⟨rfl,rfl,rfl,by decide+kernel,rfl,by decide+kernel,by decide+kernel⟩
theorem UF{f:Addr}{fd:FuncData}(F:Fun K "_law_next" "_law_next" RN f fd):FnOk P w K mg base (CXe P w) 1 f fd ["_law_seed"] (DZ K RQ):=by
 refine Ad F RS ?_ ?_
 ·rintro ts O Φ Ξ ⟨n,rfl,_⟩
  rfl
 ·rintro cdv A outer s H E O Ξ hr xf _ Φ ⟨n,rfl,q⟩
  have b1:=Int.emod_nonneg (n+7919) (show(2147483647:Int)≠0 by decide)
  have b2:=Int.emod_lt_of_pos (n+7919) (show(0:Int)<2147483647 by decide)
  refine AD (AM 0 (ET.we (Dk (BX (ev 0) AB) AB (by decide)) ?_) RS.nd)
  exact AE (AR (ET.we (Dk (BX (BX (EN (ev 0) (ev 0) (.inl ⟨by omega,by omega⟩)) (EN AB (ev 0) (.inl ⟨by decide,by decide⟩))) AB) AB (by decide)) (q _ (Int.emod_nonneg _ (by decide)) (Int.emod_lt_of_pos _ (by decide)))))
def VG:Cu:=fun ts O Φ _=>∃c:Int,ts=[.int c]∧∀(p:Addr) (xs:List T),O p=none→Fj xs→Φ (.raw (.ref p)) (Ab O p xs)
theorem VH:FnScope ["_law_cell","_law_left"] ["_law_cell"] (AA XM):=⟨rfl,rfl,rfl,by decide+kernel,rfl,by decide+kernel,by decide+kernel⟩
theorem XO{f:Addr}{fd:FuncData}(F:Fun K "_law_pen_of" "_law_pen_of" XM f fd)(T:Txt mg):FnOk P w K mg base (CXe P w) 1 f fd ["_law_cell"] (DZ K VG):=by
 refine Ad F VH ?_ ?_
 ·rintro ts O Φ Ξ ⟨n,rfl,_⟩
  rfl
 ·rintro cdv A outer s H E O Ξ hr xf _ Φ ⟨n,rfl,q⟩
  refine AD (AM 1 (ET.we (GL T.nMax rfl (ev 0) (CH AB (ev 0))) ?_) VH.nd)
  refine AE (AR (El (EA.wa (AJ (ev 1) (AJ (Tc T.nInt (Uu (ev 1) (MM AB AB ⟨by decide,by decide,by decide⟩))) (AJ (Dk (ev 1) AB (by decide)) AC))) ⟨by show 3≤sizeLine;decide,fun a ha=>q a _ ha ?_⟩)))
  have b1:=Int.emod_nonneg (max n (0-n)) (show(1000003:Int)≠0 by decide)
  have b2:=Int.emod_lt_of_pos (max n (0-n)) (show(0:Int)<1000003 by decide)
  exact⟨_,_,_,rfl,by omega,b1,by omega⟩
def Ax:Cu:=fun ts O Φ _=>∃(p:Addr) (xs:List T) (m:Int),ts=[.raw (.ref p),.int m]∧O p=some xs∧Fj xs∧0<m∧m<1000∧∀(r:Int) (xs':List T),0≤r→r<m→Fj xs'→Φ (.int r) (Ab O p xs')
theorem RU:FnScope ["_law_pen","_law_many","_law_found"] ["_law_pen","_law_many"] (AA RO):=⟨rfl,rfl,rfl,by decide+kernel,rfl,by decide+kernel,by decide+kernel⟩
theorem UG{f:Addr}{fd:FuncData}(F:Fun K "_law_draw" "_law_draw" RO f fd)(G:FnT P w K mg base "_law_next" 1 ["_law_seed"] RQ):FnOk P w K mg base (CXe P w) 2 f fd ["_law_pen","_law_many"] (DZ K Ax):=by
 refine Ad F RU ?_ ?_
 ·rintro ts O Φ Ξ ⟨p,xs,m,rfl,_⟩
  rfl
 ·rintro cdv A outer s H E O Ξ hr xf _ Φ ⟨p,_,m,rfl,hp,⟨a,b,c,rfl,a0,c0,c1⟩,m0,m1,q⟩
  refine AD (BB (Ce (BY hp (ev 0) AB) AB) (fun h=>?_) (fun h=>BH ?_))
  ·refine AD (AM 2 (ET.we (Dk (BY hp (ev 0) AB) (ev 1) m0) ?_) RU.nd)
   refine AD (ES (ET.we (Em (BY hp (ev 0) AB) (ev 1) ⟨m0,by omega⟩) (ET.we (ev 0) ⟨p,rfl,ET.we AB ⟨_,0,0,rfl,hp,rfl,?_⟩⟩)))
   exact AE (AR (ET.we (ev 2) (q _ _ (Int.emod_nonneg _ (by omega)) (Int.emod_lt_of_pos _ m0) ⟨a/m,b,c,rfl,Int.ediv_nonneg a0 (by omega),c0,c1⟩)))
  ·refine AD (ES (Af G hr xf (Be (Cr DD (Af G hr xf (EA.wa (AJ (BY hp (ev 0) AB) AC) ⟨c,rfl,fun u u0 u1=>?_⟩))))))
   refine ET.we AB (EF _ (Al ⟨u+7,rfl,fun r r0 r1=>ET.we (ev 0) ⟨p,rfl,ET.we AB ⟨_,2,2,rfl,hp,rfl,?_⟩⟩⟩))
   exact AE (AR (ET.we (Dk (Em (BY AF (ev 0) AB) AB ⟨by decide,by decide⟩) (ev 1) m0) (q _ _ (Int.emod_nonneg _ (by omega)) (Int.emod_lt_of_pos _ m0) ⟨a,b,r,rfl,a0,r0,by omega⟩)))
end
abbrev Fk:Stmt:=top 43
abbrev Ez:Stmt:=top 44
abbrev GQ:Stmt:=top 45
def Lf(ns:List Int)(i:Int):Int:=ns.getD i.toNat 0
def nm(ns:List Int)(p:Int×Int):Int×Int:=(min (Lf ns p.1) (Lf ns p.2),max (Lf ns p.1) (Lf ns p.2))
theorem LQ{ns:List Int}{i:Int}(h0:0≤i)(h1:i<ns.length):atI (ns.map T.int) i=some (.int (Lf ns i)):=by
 obtain⟨j,rfl⟩:=Int.eq_ofNat_of_zero_le h0
 have hj:j<ns.length:=by omega
 have:=An (xs:=ns.map T.int) (j:=j) (v:=.int (ns.getD j 0)) (by
  rw[List.getElem?_map,List.getElem?_eq_getElem hj]
  simp[List.getD,hj])
 exact this
theorem Fl{α β:Type}(f:α→β):∀(l:List α) (i:Nat),(l.eraseIdx i).map f=(l.map f).eraseIdx i
 | [],_=>rfl
 |_::_,0=>rfl
 |a::l,i+1=>by
  show f a::(l.eraseIdx i).map f=f a::(l.map f).eraseIdx i
  rw[Fl f l i]
theorem Ha{α:Type}:∀(l:List α) (i:Nat) (h:i<l.length),(l[i]::l.eraseIdx i).Perm l
 |_::_,0,_=> .refl _
 |a::l,i+1,h=> (List.Perm.swap a (l[i]'(by simpa using h)) (l.eraseIdx i)).trans ((Ha l i (by simpa using h)).cons a)
section
variable{P:Program}{w:World}{K:PySem.W.Frag}{mg:Str→Option Value}{base:Heap}
theorem VI{n:Int}{ps:List (Int×Int)}(n1:n≤10)(hP:∀q∈ps,AU n q)(nd:ps.Nodup):ps.length≤63:=by
 have h:=Gr.EV (n:=45) (L:=ps.map fun p=>if 5≤p.2 then(p.2-5)*9+p.1 else(4-p.2)*9+9-p.2+p.1) ?_ ?_
 ·rw[List.length_map] at h
  have:(45:Int).toNat=45:=rfl
  omega
 ·rw[List.nodup_iff_pairwise_ne,List.pairwise_map]
  refine(List.Pairwise.and_mem.mp nd).imp ?_
  rintro a b ⟨ha,hb,h⟩ e
  have h1:=hP a ha
  have h2:=hP b hb
  unfold AU at h1 h2
  refine h (Prod.ext ?_ ?_)<;> (split at e<;>split at e<;>omega)
 ·intro z hz
  obtain⟨p,hp,rfl⟩:=List.mem_map.mp hz
  have h1:=hP p hp
  unfold AU at h1
  split<;>omega
def Jq:Cu:=fun ts O Φ _=>∃(n:Int) (ps:List (Int×Int)) (ns:List Int),ts=[.tup [.int n,.tup (ps.map AI)],.tup (ns.map T.int)]∧ps.length≤300∧(∀rs:List (Int×Int),rs.Nodup→(∀q∈rs,q∈ps.map (nm ns))→rs.length≤63)∧(∀p∈ps,0≤p.1∧p.1<ns.length∧0≤p.2∧p.2<ns.length)∧(∀z∈ns,0≤z∧z<65536)∧
 ∀qs:List (Int×Int),qs.Pairwise Kx→(∀q,q∈qs↔q∈ps.map (nm ns))→qs.length≤ps.length→Φ (.tup [.int n,.tup (qs.map AI)]) O
theorem Nn:FnScope ["_law_web","_law_names","_law_ties"] ["_law_web","_law_names"] (AA Fk):=⟨rfl,rfl,rfl,by decide+kernel,rfl,by decide+kernel,by decide+kernel⟩
theorem ZT:(Ak ["_law_one","_law_other"] [(("_law_names" :Str),1)]).Nodup:=by decide+kernel
theorem ZU:(Ak ["_law_tie"] []).Nodup:=by decide+kernel
theorem GR{ns:List Int}{i:Int}(h0:0≤i)(h1:i<ns.length):Lf ns i∈ns:=by
 unfold Lf
 have:i.toNat<ns.length:=by omega
 simp[List.getD,this]
theorem RV{f:Addr}{fd:FuncData}(F:Fun K "_law_named" "_law_named" Fk f fd)(Tx:Txt mg):FnOk P w K mg base (CXe P w) 2 f fd ["_law_web","_law_names"] (DZ K Jq):=by
 refine Ad F Nn ?_ ?_
 ·rintro ts O Φ Ξ ⟨n,ps,ns,rfl,_⟩
  rfl
 ·rintro cdv A outer s H E O Ξ hr xf _ Φ ⟨n,ps,ns,rfl,hl,hs,hp,hn,q⟩
  have hu:(A.deeper (envOfC "_law_named" (AA Fk) s.heap.objs.size f cdv)).units+8<cLine:=by have:=hr.un;omega
  have hz:ps.length≤sizeLine:=Nat.le_trans hl (by decide)
  refine AD (HH (i:=2) (nc:=["_law_one","_law_other"]) (cap:=[("_law_names",1)]) (by rfl) Nn.nd rfl (Br (AA Fk) ["_law_web","_law_names","_law_ties"] (by decide+kernel)) (Fc (Ao (ev 0) AB) _ (Ep ps AI (fun p=>AI (Lf ns p.1,Lf ns p.2)) hz (fun x hx=> ⟨[some (.int x.1),some (.int x.2),some (.tup (ns.map T.int))],fun X' Oe He is O'=>?_⟩) ?_)))
  ·obtain⟨cl,s',H',fp,rfl⟩:=is
   have:=hp x hx
   exact⟨BZ 0 1 rfl ZT (by decide) (by decide),BW (AJ (Ao (ev 2) (ev 0) (LQ this.1 this.2.1)) (AJ (Ao (ev 2) (ev 1) (LQ this.2.2.1 this.2.2.2)) AC))⟩
  ·refine AE (AR (CF (Be (ET.we (Ao (ev 0) AB) (Be (Cw Tx.nTuple (Eo (ps:=ps.map (nm ns)) Tx.nSorted Tx.nSet rfl hu ?_ (by simpa using hl) hs ?_ fun qs h1 h2 h3=> ⟨_,rfl,Al ⟨by show 2≤sizeLine;decide,q qs h1 h2 (by simpa using h3)⟩⟩)))))))
   ·rw[List.map_map]
    refine Dn ["_law_tie"] [] ps (fun p=>AI (Lf ns p.1,Lf ns p.2)) _ rfl (Br (AA Fk) ["_law_web","_law_names","_law_ties"] (by decide+kernel)) (Ar (ev 2)) hz fun x hx=> ⟨[some (AI (Lf ns x.1,Lf ns x.2))],fun X' Oe He is O'=>?_⟩
    obtain⟨cl,s',H',fp,rfl⟩:=is
    exact⟨AN 0 ZU (by decide),BW (AJ (TZ Tx.nMin rfl (ev 0)) (AJ (Ta Tx.nMax rfl (ev 0)) AC))⟩
   ·intro z hz
    obtain⟨p,h1,rfl⟩:=List.mem_map.mp hz
    have:=hp p h1
    have e1:=hn _ (GR this.1 this.2.1)
    have e2:=hn _ (GR this.2.2.1 this.2.2.2)
    show 0≤max _ _∧max _ _<65536
    omega
def Fm:Cu:=fun ts O Φ _=>∃(p:Addr) (xs:List T) (m:Int),ts=[.raw (.ref p),.int m]∧O p=some xs∧Fj xs∧0≤m∧m<100∧∀(ns:List Int) (xs':List T),ns.Perm ((List.range m.toNat).map fun(i:Nat)=> (i:Int))→Fj xs'→Φ (.tup (ns.map T.int)) (Ab O p xs')
theorem Iv:FnScope ["_law_pen","_law_many","_law_left"] ["_law_pen","_law_many"] (AA Ez):=⟨rfl,rfl,rfl,by decide+kernel,rfl,by decide+kernel,by decide+kernel⟩
theorem ZV:(Ak ["_law_place"] [(("_law_left" :Str),2),(("_law_pen" :Str),0)]).Nodup:=by decide+kernel
theorem LR{f:Addr}{fd:FuncData}(F:Fun K "_law_names_by" "_law_names_by" Ez f fd)(Tx:Txt mg)(G:FnT P w K mg base "_law_draw" 2 ["_law_pen","_law_many"] Ax):FnOk P w K mg base (CXe P w) 3 f fd ["_law_pen","_law_many"] (DZ K Fm):=by
 refine Ad F Iv ?_ ?_
 ·rintro ts O Φ Ξ ⟨p,xs,m,rfl,_⟩
  rfl
 ·rintro cdv A outer s H E O Ξ hr xf _ Φ ⟨p,xs,m,rfl,hp,px,m0,m1,q⟩
  refine AD (AM 2 (Qp (p1:=⟨0,0,0,0⟩) Tx.nList Tx.nRange rfl (ev 1) m0 (by omega) fun l hl=>?_) Iv.nd)
  have pl:p≠l:=MW hp hl
  refine AE (Na (l:=l) hl (Cw Tx.nTuple (Ij (nc:=["_law_place"]) (cap:=[("_law_left",2),("_law_pen",0)]) rfl (Br (AA Ez) ["_law_pen","_law_many","_law_left"] (by decide+kernel)) (EI.wi (Ag Tx.nRange (ev 1) ⟨by omega,by omega⟩) ?_))))
  refine⟨fun i acc O'=>i≤m.toNat∧∃(as rs:List Int) (xs':List T),acc=as.map T.int∧as.length=i∧(as++rs).Perm ((List.range m.toNat).map fun(i:Nat)=> (i:Int))∧Fj xs'∧O'=Ab (Ab O p xs') l (rs.map T.int),⟨Nat.zero_le _,[],(List.range m.toNat).map fun(i:Nat)=> (i:Int),xs,rfl,rfl,.refl _,px,?_⟩,?_,?_⟩
  ·rw[HP hp,List.map_map]
   rfl
  ·rintro i t acc O' c e ⟨_,as,rs,xs',rfl,hi,pm,px',rfl⟩ hc
   obtain⟨hi2,rfl⟩:=Aw e
   have hcl:c≠l:=fun z=>by rw[z,AF] at hc;cases hc
   have hcp:c≠p:=fun z=>by rw[z,AS pl,AF] at hc;cases hc
   refine⟨[some (.int (0+i)),some (.raw (.ref l)),some (.raw (.ref p))],fun X' Oe He is=>?_⟩
   have hlen:as.length+rs.length=m.toNat:=by
    have:=pm.length_eq
    simpa using this
   refine⟨?_,Dv (GB fun X' Oe He is=>?_)⟩
   ·obtain⟨cl,s',H',fp,rfl⟩:=is
    exact AN 0 ZV (by decide)
   ·obtain⟨cl,s',H',fp,rfl⟩:=is
    have ol:(Ab (Ab (Ab O p xs') l (rs.map T.int)) c (as.map T.int)) l=some (rs.map T.int):=by rw[AS (Ne.symm hcl),AF]
    have op:(Ab (Ab (Ab O p xs') l (rs.map T.int)) c (as.map T.int)) p=some xs':=by rw[AS (Ne.symm hcp),AS pl,AF]
    refine Kw (ET.we (ev 1) ⟨l,rfl,⟨_,ol⟩,Af G hr DM (EA.wa (AJ (ev 2) (AJ (NY Tx.nLen (ev 1) ol) AC)) ⟨p,xs',_,rfl,op,px',by simp;omega,by simp;omega,fun r xs2 r0 r1 px2=>?_⟩)⟩)
    have r1:r<rs.length:=by simpa using r1
    have hr':r.toNat<rs.length:=by omega
    refine⟨rs.map T.int,r,.int rs[r.toNat],rfl,?_,r0,by omega,by simpa using r1,by rw[List.getElem?_map,List.getElem?_eq_getElem hr'];rfl,?_⟩
    ·rw[AS (Ne.symm pl),ol]
    ·refine⟨Ab (Ab O p xs2) l ((rs.eraseIdx r.toNat).map T.int),?_,?_,?_,?_⟩
     ·have e1:(rs.map T.int).eraseIdx r.toNat=(rs.eraseIdx r.toNat).map T.int:=(Fl _ _ _).symm
      rw[e1]
      rw[BQ (p:=c) (a:=p) (Ne.symm hcp),BQ (p:=c) (a:=l) (Ne.symm hcl),BQ (p:=l) (a:=p) pl,BJ,BJ]
     ·rw[AS hcl,AS hcp]
      rw[AS hcl,AS hcp] at hc
      exact hc
     ·rw[List.length_map]
      have:(1000:Nat)<sizeLine:=by decide
      omega
     ·refine⟨hi2,as++[rs[r.toNat]],rs.eraseIdx r.toNat,xs2,by simp,by simp[hi],?_,px2,rfl⟩
      refine List.Perm.trans ?_ pm
      rw[List.append_assoc]
      exact(Ha rs _ hr').append_left as
  ·rintro acc O' ⟨_,as,rs,xs',rfl,hi,pm,px',rfl⟩
   rw[AY] at hi
   have hlen:as.length+rs.length=m.toNat:=by
    have:=pm.length_eq
    simpa using this
   have:rs=[]:=List.length_eq_zero_iff.mp (by omega)
   subst this
   rw[List.append_nil] at pm
   refine⟨_,rfl,?_⟩
   rw[Ik hl pl]
   exact q as xs' pm px'
end
section
variable{P:Program}{w:World}{K:PySem.W.Frag}{mg:Str→Option Value}{base:Heap}
def DA:Cu:=fun ts O Φ _=>∃(m:Int) (ss:List Int),ts=[.int m,.lst (ss.map T.int)]∧0<m∧m≤10∧ss.length≤16∧(∀s∈ss,1≤s∧s<m)∧
 ∀qs:List (Int×Int),qs.Pairwise Kx→(∀q∈qs,AU m q)→qs.length≤256→Φ (.tup [.int m,.tup (qs.map AI)]) O
theorem Do:FnScope ["_law_many","_law_steps","_law_ties","_law_step","_law_place","_law_other"] ["_law_many","_law_steps"] (AA GQ):=⟨rfl,rfl,rfl,by decide+kernel,rfl,by decide+kernel,by decide+kernel⟩
theorem Iw{m s j:Int}(hs:1≤s∧s<m)(hj:0≤j∧j<m):AU m (min j ((j+s)%m),max j ((j+s)%m)):=by
 unfold AU
 by_cases h:j+s<m
 ·rw[Int.emod_eq_of_lt (by omega) h]
  show 0≤min _ _∧min _ _<max _ _∧max _ _<_
  omega
 ·have e:j+s=(j+s-m)+m*1:=by omega
  rw[e,Int.add_mul_emod_self_left,Int.emod_eq_of_lt (by omega) (by omega)]
  show 0≤min _ _∧min _ _<max _ _∧max _ _<_
  omega
theorem Aa:(1000:Nat)<sizeLine:=by decide
theorem PJ{f:Addr}{fd:FuncData}(F:Fun K "_law_turned" "_law_turned" GQ f fd)(Tx:Txt mg):FnOk P w K mg base (CXe P w) 2 f fd ["_law_many","_law_steps"] (DZ K DA):=by
 refine Ad F Do ?_ ?_
 ·rintro ts O Φ Ξ ⟨m,ss,rfl,_⟩
  rfl
 ·rintro cdv A outer s H E O Ξ hr xf _ Φ ⟨m,ss,rfl,m0,m1,hn,hs,q⟩
  have hu:(A.deeper (envOfC "_law_turned" (AA GQ) s.heap.objs.size f cdv)).units+8<cLine:=by have:=hr.un;omega
  have sb:=Aa
  refine AD (AM 2 (El (Al ⟨Nat.zero_le _,fun l hl=>?_⟩)) Do.nd)
  refine AD (Au AX.own rfl (Ar (ev 1) _ ⟨fun i ρ' O'=>∃(qs:List (Int×Int)) (v3 v4 v5:Option T),ρ'=[some (.int m),some (.lst (ss.map T.int)),some (.raw (.ref l)),v3,v4,v5]∧O'=Ab O l (qs.map AI)∧(∀q∈qs,AU m q)∧qs.length≤16*i,⟨[],none,none,none,rfl,rfl,by simp,by simp⟩,?_,?_⟩))
  ·rintro i t _ _ e ⟨qs,v3,v4,v5,rfl,rfl,hq,hz⟩
   rw[List.getElem?_map] at e
   cases es:ss[i]? with
   |none=>rw[es] at e;cases e
   |some st=>
    rw[es] at e
    cases e
    have hst:=hs st (List.mem_of_getElem? es)
    have hi:=(List.getElem?_eq_some_iff.mp es).1
    refine⟨[some (.int m),some (.lst (ss.map T.int)),some (.raw (.ref l)),some (.int st),v4,v5],AN 3 Do.nd (by show 3<6;decide),AE (Au AX.own rfl (EI.wi (Ag Tx.nRange (ev 0) ⟨by omega,by omega⟩) ⟨fun j ρ' O'=>∃(qs:List (Int×Int)) (v4 v5:Option T),ρ'=[some (.int m),some (.lst (ss.map T.int)),some (.raw (.ref l)),some (.int st),v4,v5]∧O'=Ab O l (qs.map AI)∧(∀q∈qs,AU m q)∧qs.length≤16*i+j,⟨qs,v4,v5,rfl,rfl,hq,by omega⟩,?_,?_⟩))⟩
    ·rintro j t _ _ e ⟨qs,v4,v5,rfl,rfl,hq,hz⟩
     obtain⟨hj,rfl⟩:=Aw e
     refine⟨[some (.int m),some (.lst (ss.map T.int)),some (.raw (.ref l)),some (.int st),some (.int (0+j)),v5],AN 4 Do.nd (by show 4<6;decide),?_⟩
     refine AD (AM 5 (ET.we (Dk (BX (ev 4) (ev 3)) (ev 0) m0) ?_) Do.nd)
     refine AE (BL (Bw (ET.we (ev 2) ⟨l,rfl,⟨_,AF⟩,ET.we (BW (AJ (TY Tx.nMin rfl (ev 4) (ev 5)) (AJ (GL Tx.nMax rfl (ev 4) (ev 5)) AC))) ⟨_,AF,?_,?_⟩⟩)))
     ·rw[List.length_map];omega
     ·refine⟨qs++[(min (0+(j:Int)) ((0+(j:Int)+st)%m),max (0+(j:Int)) ((0+(j:Int)+st)%m))],_,_,rfl,?_,fun z hz=>?_,by simp;omega⟩
      ·rw[BJ,List.map_append];rfl
      ·rcases List.mem_append.mp hz with hz|hz
       ·exact hq z hz
       ·rw[List.mem_singleton.mp hz]
        exact Iw hst ⟨by omega,by omega⟩
    ·rintro _ _ ⟨qs,v4,v5,rfl,rfl,hq,hz⟩
     rw[AY] at hz
     exact⟨qs,_,_,_,rfl,rfl,hq,by omega⟩
  ·rintro _ _ ⟨qs,v3,v4,v5,rfl,rfl,hq,hz⟩
   rw[List.length_map] at hz
   refine CI (p:=l) (n:=2) (ts:=qs.map AI) AF hl rfl ?_
   rw[BE hl]
   refine AE (AR (CF (Be (ET.we (ev 0) (Be (Cw Tx.nTuple (Eo (ps:=qs) Tx.nSorted Tx.nSet rfl hu (ev 2) (by omega) (fun rs nd h=>VI m1 (fun q hq'=>hq q (h q hq')) nd) (fun z hz=>?_) fun rs h1 h2 h3=> ⟨_,rfl,Al ⟨by show 2≤sizeLine;decide,q rs h1 (fun z hz=>hq z ((h2 z).mp hz)) (by omega)⟩⟩)))))))
   have:=hq z hz
   unfold AU at this
   omega
end
abbrev Bo:Stmt:=top 46
def PO(O0:AG)(p:Addr)(O:AG):Prop:=∃xs,O=Ab O0 p xs∧Fj xs
theorem PO.at{O0 O:AG}{p:Addr}(h:PO O0 p O):∃xs,O p=some xs∧Fj xs:=by
 obtain⟨xs,rfl,px⟩:=h
 exact⟨xs,AF,px⟩
theorem PO.step{O0 O:AG}{p:Addr}{xs:List T}(h:PO O0 p O)(px:Fj xs):PO O0 p (Ab O p xs):=by
 obtain⟨ys,rfl,_⟩:=h
 exact⟨xs,BJ,px⟩
theorem PO.start{O:AG}{p:Addr}{xs:List T}(h:O p=some xs)(px:Fj xs):PO O p O:=⟨xs,(HP h).symm,px⟩
section
variable{P:Program}{w:World}{K:PySem.W.Frag}{mg:Str→Option Value}{base:Heap}
section
variable{Z:Zx}{ρ:List (Option T)}{O O0 O1:AG}{a b:Expr}{Φ:BK}{pos q:Pos}{p c:Addr}{m:Int}{acc:List T}
theorem DQ(G:FnT Z.X.prog Z.X.w Z.X.K Z.X.mg Z.X.base "_law_draw" 2 ["_law_pen","_law_many"] Ax)(hr:Room 2 Z.X.A)(xf:XFly Z.X Z.W)(po:PO O0 p O)(ha:ET Z ρ O a (.raw (.ref p)))(hb:ET Z ρ O b (.int m))(m0:0<m)(m1:m<1000)(k:∀r O',0≤r→r<m→PO O0 p O'→Φ (.int r) O')(hg:Gl Z.X "_law_draw":=by rfl)
  (he:starEach [a,b] Z.X.env=(false,eval a Z.X.env)::starEach [b] Z.X.env:=by rfl) (he2:starEach [b] Z.X.env=(false,eval b Z.X.env)::starEach [] Z.X.env:=by rfl) (hpl:(backTo pos (starEach [b] Z.X.env)).any (·.1)=false:=by rfl):WE Z ρ O (.Call (.Name "_law_draw" q) [a,b] [] pos) Φ:=by
 obtain⟨xs,hp,px⟩:=po.at
 exact Af G hr xf (EA.wa (AJ ha (AJ hb AC he2) he) ⟨p,xs,m,rfl,hp,px,m0,m1,fun r xs' r0 r1 px'=>k r _ r0 r1 (po.step px')⟩) hg (by decide) he hpl
theorem CK(G:FnT Z.X.prog Z.X.w Z.X.K Z.X.mg Z.X.base "_law_draw" 2 ["_law_pen","_law_many"] Ax)(hr:Room 2 Z.X.A)(xf:XFly Z.X Z.W)(po:PO O0 p O)(hc:O c=none)(ha:ET Z ρ (Ab O c acc) a (.raw (.ref p)))(hb:ET Z ρ (Ab O c acc) b (.int m))(m0:0<m)(m1:m<1000)(k:∀r O',0≤r→r<m→PO O0 p O'→O' c=none→Φ (.int r) (Ab O' c acc))(hg:Gl Z.X "_law_draw":=by rfl)
  (he:starEach [a,b] Z.X.env=(false,eval a Z.X.env)::starEach [b] Z.X.env:=by rfl) (he2:starEach [b] Z.X.env=(false,eval b Z.X.env)::starEach [] Z.X.env:=by rfl) (hpl:(backTo pos (starEach [b] Z.X.env)).any (·.1)=false:=by rfl):WE Z ρ (Ab O c acc) (.Call (.Name "_law_draw" q) [a,b] [] pos) Φ:=by
 obtain⟨xs,hp,px⟩:=po.at
 have hpc:p≠c:=MW hp hc
 refine Af G hr xf (EA.wa (AJ ha (AJ hb AC he2) he) ⟨p,xs,m,rfl,by rw[AS hpc];exact hp,px,m0,m1,fun r xs' r0 r1 px'=>?_⟩) hg (by decide) he hpl
 rw[BQ hpc]
 exact k r _ r0 r1 (po.step px') (by rw[AS (Ne.symm hpc)];exact hc)
end
def Np:Cu:=fun ts O Φ _=>∃(p:Addr) (xs:List T) (most:Int),ts=[.raw (.ref p),.int most]∧O p=some xs∧Fj xs∧1≤most∧most≤10∧∀(n:Int) (ps:List (Int×Int)) (O':AG),1≤n→n≤most→(∀q∈ps,AU n q)→ps.length≤256→PO O p O'→Φ (.tup [.int n,.tup (ps.map AI)]) O'
def DR:List Str:=["_law_pen","_law_most","_law_way","_law_many","_law_every","_law_other","_law_side","_law_ring"]
theorem CW:FnScope DR ["_law_pen","_law_most"] (AA Bo):=⟨rfl,rfl,rfl,by decide+kernel,rfl,by decide+kernel,by decide+kernel⟩
theorem ZW:(Ak ["_law_one"] [(("_law_other" :Str),5)]).Nodup:=by decide+kernel
theorem ZX:(Ak ["_law_pair"] [(("_law_pen" :Str),0),(("_law_way" :Str),2)]).Nodup:=by decide+kernel
theorem ZY:(Ak ["_law_step"] [(("_law_pen" :Str),0)]).Nodup:=by decide+kernel
theorem ZZ:(Ak ["_law_one","_law_other"] [(("_law_side" :Str),6)]).Nodup:=by decide+kernel
theorem VJ:(Ak ["_law_place"] []).Nodup:=by decide+kernel
theorem Za:(Ak ["_law_place"] [(("_law_pen" :Str),0)]).Nodup:=by decide+kernel
theorem Zb{r:Int}(r0:0≤r)(r1:r<3):∃m:Int,atI [T.int 2,T.int 3,T.int 6] r=some (.int m)∧0<m∧m<1000:=by
 have:r=0∨r=1∨r=2:=by omega
 rcases this with rfl|rfl|rfl
 ·exact⟨2,rfl,by decide,by decide⟩
 ·exact⟨3,rfl,by decide,by decide⟩
 ·exact⟨6,rfl,by decide,by decide⟩
def Fn(i:Nat):Stmt:=(Ai Bo).getD i (.Pass ⟨0,0,0,0⟩)
def Zc:Stmt→List Stmt
 | .If _ a _ _=>a
 |_=> []
abbrev zS(P:Program)(w:World)(K:PySem.W.Frag)(mg:Str→Option Value)(base:Heap)(f:Addr)(cdv:Value)(A:Around)(outer:List Env)(s:Shared)(H:Hp)(E:XK)(O:AG)(Ξ:Value→AG→Prop):Zx:=zB P w K mg base DR "_law_shape" (AA Bo) f cdv A outer s H E O Ξ
abbrev EZ(p:Addr)(most way n:Int)(es:List (Int×Int))(v5:Option T):List (Option T):=[some (.raw (.ref p)),some (.int most),some (.int way),some (.int n),some (.lst (es.map AI)),v5,none,none]
end
abbrev DS:Stmt:=top 47
section
variable{P:Program}{w:World}{K:PySem.W.Frag}{mg:Str→Option Value}{base:Heap}
def Iy(n:Int)(p:Int×Int):Prop:=0≤p.1∧p.1<n∧0≤p.2∧p.2<n∧p.1≠p.2
def Nq:Cu:=fun ts O Φ _=>∃(p:Addr) (xs:List T) (most:Int),ts=[.raw (.ref p),.int most]∧O p=some xs∧Fj xs∧1≤most∧most≤10∧∀(n:Int) (ps:List (Int×Int)) (O':AG),1≤n→n≤most→(∀q∈ps,AU n q)→ps.Pairwise Kx→ps.length≤257→PO O p O'→Φ (.tup [.int n,.tup (ps.map AI)]) O'
def Hb:List Str:=["_law_pen","_law_most","_law_many","_law_ties","_law_way","_law_one"]
theorem FA:FnScope Hb ["_law_pen","_law_most"] (AA DS):=⟨rfl,rfl,rfl,by decide+kernel,rfl,by decide+kernel,by decide+kernel⟩
theorem Mj{n:Int}{ns:List Int}(n0:0≤n)(pm:ns.Perm ((List.range n.toNat).map fun(i:Nat)=> (i:Int))):(ns.length:Int)=n∧(∀z∈ns,0≤z∧z<n)∧ns.Nodup:=by
 refine⟨?_,fun z hz=>?_,?_⟩
 ·have:=pm.length_eq
  simp at this
  omega
 ·obtain⟨i,hi,rfl⟩:=List.mem_map.mp (pm.mem_iff.mp hz)
  have:=List.mem_range.mp hi
  omega
 ·refine pm.nodup_iff.mpr ?_
  show List.Pairwise _ _
  rw[List.pairwise_map]
  exact(List.nodup_range).imp fun h z=>h (Int.ofNat.inj z)
theorem XQ{ns:List Int}(nd:ns.Nodup){i j:Int}(hi:0≤i∧i<ns.length)(hj:0≤j∧j<ns.length)(h:i≠j):Lf ns i≠Lf ns j:=by
 unfold Lf
 have h1:i.toNat<ns.length:=by omega
 have h2:j.toNat<ns.length:=by omega
 have e1:ns.getD i.toNat 0=ns[i.toNat]:=by simp[List.getD,h1]
 have e2:ns.getD j.toNat 0=ns[j.toNat]:=by simp[List.getD,h2]
 rw[e1,e2]
 intro z
 have pw:=List.pairwise_iff_getElem.mp nd
 rcases Nat.lt_or_gt_of_ne (show i.toNat≠j.toNat by omega) with hl|hl
 ·exact pw _ _ h1 h2 hl z
 ·exact pw _ _ h2 h1 hl z.symm
theorem Nt{n:Int}{ns:List Int}(hl:(ns.length:Int)=n)(hb:∀z∈ns,0≤z∧z<n)(nd:ns.Nodup){q:Int×Int}(h:Iy n q):AU n (nm ns q):=by
 obtain⟨h1,h2,h3,h4,h5⟩:=h
 have e1:=hb _ (GR (ns:=ns) h1 (by omega))
 have e2:=hb _ (GR (ns:=ns) h3 (by omega))
 have e3:=XQ nd (i:=q.1) (j:=q.2) ⟨h1,by omega⟩ ⟨h3,by omega⟩ h5
 unfold AU nm
 show 0≤min _ _∧min _ _<max _ _∧max _ _<n
 omega
theorem RW{f:Addr}{cdv:Value}{A:Around}{outer:List Env}{s:Shared}{H:Hp}{E:XK}{O0 O1:AG}{Ξ:Value→AG→Prop}{p l:Addr}{most n:Int}{v4 v5:Option T}{Φ:BK}{qs:List (Int×Int)}
  (hr:Room 3 (zB P w K mg base Hb "_law_web_by" (AA DS) f cdv A outer s H E O0 Ξ).X.A) (xf:XFly (zB P w K mg base Hb "_law_web_by" (AA DS) f cdv A outer s H E O0 Ξ).X (zB P w K mg base Hb "_law_web_by" (AA DS) f cdv A outer s H E O0 Ξ).W)
  (Tx:Txt mg) (Gn:FnT P w K mg base "_law_named" 2 ["_law_web","_law_names"] Jq) (Gb:FnT P w K mg base "_law_names_by" 3 ["_law_pen","_law_many"] Fm)
  (po:PO O0 p O1) (hl:O0 l=none) (hpl:p≠l) (n0:1≤n) (n1:n≤10) (hq:∀q∈qs,Iy n q) (hz:qs.length≤257)
  (q:∀(ps:List (Int×Int)) (O':AG),(∀q∈ps,AU n q)→ps.Pairwise Kx→ps.length≤257→PO O0 p O'→Φ (.tup [.int n,.tup (ps.map AI)]) O'):
  EG (zB P w K mg base Hb "_law_web_by" (AA DS) f cdv A outer s H E O0 Ξ) [some (.raw (.ref p)),some (.int most),some (.int n),some (.raw (.ref l)),v4,v5] (Ab O1 l (qs.map AI)) [(Ai DS).getD 5 (.Pass ⟨0,0,0,0⟩)] {nx:=fun _ O'=>Φ .non O',rt:=Φ}:=by
 obtain⟨xs,rfl,px⟩:=po
 have hp:Ab (Ab O0 p xs) l (qs.map AI) p=some xs:=by rw[AS hpl,AF]
 refine AE (Na (l:=l) hl (Af Gn (hr.mono (by decide)) xf (Bt (ET.we (BW (AH (ev 2) (AH (Oz Tx.nTuple AF (ev 3)) AC))) (Bt (Af Gb hr xf (EA.wa (AH (ev 0) (AH (ev 2) AC)) ⟨p,xs,n,rfl,hp,px,by omega,by omega,fun ns xs' pm px'=>Al ?_⟩)))))))
 obtain⟨h1,h2,h3⟩:=Mj (by omega) pm
 refine⟨n,qs,ns,rfl,by omega,fun rs nd h=>VI n1 (fun z hz=>by obtain⟨y,hy,rfl⟩:=List.mem_map.mp (h z hz);exact Nt h1 h2 h3 (hq y hy)) nd,fun z hz=>?_,fun z hz=>?_,fun rs r1 r2 r3=>?_⟩
 ·have:=hq z hz
  unfold Iy at this
  omega
 ·have:=h2 z hz
  omega
 ·have e:CQ (Ab (Ab (Ab O0 p xs) l (qs.map AI)) p xs') l=Ab O0 p xs':=by
   rw[BQ hpl,BJ,Ik hl hpl]
  show Φ _ (CQ (Ab (Ab (Ab O0 p xs) l (qs.map AI)) p xs') l)
  rw[e]
  refine q rs _ (fun z hz=>?_) r1 (by omega) ⟨xs',rfl,px'⟩
  obtain⟨y,hy,rfl⟩:=List.mem_map.mp ((r2 z).mp hz)
  exact Nt h1 h2 h3 (hq y hy)
theorem PK{f:Addr}{fd:FuncData}(F:Fun K "_law_web_by" "_law_web_by" DS f fd)(Tx:Txt mg)(G:FnT P w K mg base "_law_draw" 2 ["_law_pen","_law_many"] Ax)(Gs:FnT P w K mg base "_law_shape" 3 ["_law_pen","_law_most"] Np)(Gn:FnT P w K mg base "_law_named" 2 ["_law_web","_law_names"] Jq)(Gb:FnT P w K mg base "_law_names_by" 3 ["_law_pen","_law_many"] Fm):
  FnOk P w K mg base (CXe P w) 4 f fd ["_law_pen","_law_most"] (DZ K Nq):=by
 refine Ad F FA ?_ ?_
 ·rintro ts O Φ Ξ ⟨p,xs,m,rfl,_⟩
  rfl
 ·rintro cdv A outer s H E O0 Ξ hr xf _ Φ ⟨p,xs,most,rfl,hp,px,t0,t1,q⟩
  have hu:(A.deeper (envOfC "_law_web_by" (AA DS) s.heap.objs.size f cdv)).units<cLine:=by have:=hr.un;omega
  refine AD (Qf (n:=6) (Af Gs hr xf (EA.wa (AH (ev 0) (AH (ev 1) AC)) ⟨p,xs,most,rfl,hp,px,t0,t1,fun n ps O1 n0 n1 hps hz po1=> ⟨[some (.raw (.ref p)),some (.int most),some (.int n),some (.tup (ps.map AI)),none,none],BZ 2 3 rfl FA.nd (by decide) (by decide),?_⟩⟩)))
  have q':∀(ps:List (Int×Int)) (O':AG),(∀q∈ps,AU n q)→ps.Pairwise Kx→ps.length≤257→PO O0 p O'→Φ (.tup [.int n,.tup (ps.map AI)]) O':=fun ps O' a b c d=>q n ps O' n0 n1 a b c d
  refine AD (AM 3 (Ox Tx.nList (ev 3) fun l hl1=>?_) FA.nd)
  have hl:O0 l=none:=by
   obtain⟨ys,rfl,_⟩:=po1
   by_cases hb:l=p
   ·rw[hb,AF] at hl1;cases hl1
   ·rw[AS hb] at hl1;exact hl1
  have hpl:p≠l:=MW hp hl
  have hD:∀q∈ps,Iy n q:=fun z hz=>by
   have:=hps z hz
   unfold AU at this
   unfold Iy
   omega
  refine AD (AM 4 (CK G (hr.mono (by decide)) xf po1 hl1 (ev 0) AB (by decide) (by decide) fun way O2 w0 w1 po2 hc2=>?_) FA.nd)
  refine AD (NU (Ψ:={nx:=fun ρ' O'=>∃(qs:List (Int×Int)) (O3:AG),ρ'=[some (.raw (.ref p)),some (.int most),some (.int n),some (.raw (.ref l)),some (.int way),none]∧O'=Ab O3 l (qs.map AI)∧O3 l=none∧PO O0 p O3∧(∀q∈qs,Iy n q)∧qs.length≤256,rt:=Φ}) (BB (EW.eb (EO (Ce (ev 4) AB) fun _=>DL (Qq hu AF (ev 3)))) (fun h=>?_) (fun h=>BH ⟨ps,O2,rfl,rfl,hc2,po2,hD,hz⟩)) ?_ (fun _ _ z=>z) (fun _ _ z=>z) (fun _ _ z=>z))
  ·have h:(decide (way=0)&&!(ps.map AI).isEmpty)=true:=h
   have hne:0<ps.length:=by
    simp at h
    exact List.length_pos_iff.mpr h.2
   refine AE (BL (Kw (ET.we (ev 3) ⟨l,rfl,⟨_,AF⟩,CK G (hr.mono (by decide)) xf po2 hc2 (ev 0) (NY Tx.nLen (ev 3) AF) (by simp;omega) (by simp;omega) fun r O3 r0 r1 po3 hc3=>?_⟩)))
   have r1:r<ps.length:=by simpa using r1
   have hr':r.toNat<ps.length:=by omega
   refine⟨ps.map AI,r,AI ps[r.toNat],rfl,AF,r0,by omega,by simpa using r1,by rw[List.getElem?_map,List.getElem?_eq_getElem hr'];rfl,?_⟩
   refine⟨ps.eraseIdx r.toNat,O3,rfl,by rw[BJ,Fl],hc3,po3,fun z hz=>hD z (List.mem_of_mem_eraseIdx hz),?_⟩
   have:=List.length_eraseIdx_le ps r.toNat
   omega
  ·rintro _ _ ⟨qs,O3,rfl,rfl,hc3,po3,hq,hz3⟩
   refine AD (BB (EW.eb (EO (Ce (ev 4) AB) fun _=>DL (NS (ev 2) AB))) (fun h=>?_) (fun h=>BH (RW hr xf Tx Gn Gb po3 hl hpl n0 (by omega) hq (by omega) q')))
   have h:(decide (way=1)&&decide (1<n))=true:=h
   have n2:1<n:=by simp at h;exact h.2
   refine AD (AM 5 (CK G (hr.mono (by decide)) xf po3 hc3 (ev 0) (ev 2) (by omega) (by omega) fun one O4 o0 o1 po4 hc4=>?_) FA.nd)
   refine AE (BL (Bw (ET.we (ev 3) ⟨l,rfl,⟨_,AF⟩,?_⟩)))
   refine CF (Bt (ET.we (ev 5) (Bt ?_)))
   refine Cr Pi (Cr DD (ET.we (BX (ev 5) AB) ?_))
   refine CK G (hr.mono (by decide)) xf po4 hc4 (ev 0) (CH (ev 2) AB) (by omega) (by omega) fun r O5 r0 r1 po5 hc5=>?_
   refine EF _ (ET.we (ev 2) (QX (C:=fun _ j=>0<j) (show 0<n by omega) _ ?_))
   refine Al ⟨by show 2≤sizeLine;decide,_,AF,?_,?_⟩
   ·rw[List.length_map]
    have:=Aa
    omega
   ·rw[BJ]
    have e:(qs.map AI++[T.tup [.int one,.int ((one+1+r)%n)]])=(qs++[(one,(one+1+r)%n)]).map AI:=by rw[List.map_append];rfl
    rw[e]
    refine RW hr xf Tx Gn Gb po5 hl hpl n0 (by omega) (fun z hz=>?_) (by simp;omega) q'
    rcases List.mem_append.mp hz with hz|hz
    ·exact hq z hz
    ·rw[List.mem_singleton.mp hz]
     have:=Iw (m:=n) (s:=1+r) (j:=one) ⟨by omega,by omega⟩ ⟨o0,o1⟩
     unfold AU at this
     have e2:one+1+r=one+(1+r):=by omega
     rw[e2]
     have b0:=Int.emod_nonneg (one+(1+r)) (show n≠0 by omega)
     have b1:=Int.emod_lt_of_pos (one+(1+r)) (show 0<n by omega)
     show 0≤one∧one<n∧0≤(one+(1+r))%n∧(one+(1+r))%n<n∧one≠(one+(1+r))%n
     omega
end
open Gr
section
variable{P:Program}{w:World}{K:PySem.W.Frag}{mg:Str→Option Value}{base:Heap}{CP:Addr}
def Ac(qs:List (Int×Int))(i:Nat):List Int:=qs.filterMap fun p=>if p.1=(i:Int) then some p.2 else if p.2=(i:Int) then some p.1 else none
theorem LS{qs:List (Int×Int)}{p:Int×Int}{i:Nat}:Ac (qs++[p]) i=Ac qs i++(if p.1=(i:Int) then[p.2] else if p.2=(i:Int) then[p.1] else[]):=by
 unfold Ac
 rw[List.filterMap_append]
 congr 1
 by_cases h:p.1=(i:Int)
 ·simp[h]
 ·by_cases h2:p.2=(i:Int)
  ·simp[h,h2]
  ·simp[h,h2]
theorem DT{qs:List (Int×Int)}{i:Nat}:(Ac qs i).length≤qs.length:=List.length_filterMap_le ..
def Hc(n:Int)(ps:List (Int×Int)):T:=.lst ((List.range n.toNat).map fun i=> .lst ((Ac ps i).map T.int))
structure Nst(n:Int)(O:AG)(l:Addr)(qs:List (Int×Int))(rs:List (Addr×List T)):Prop where
 len:(rs.length:Int)=n
 nd:(rs.map Prod.fst).Nodup
 ne:∀r∈rs,r.1≠l
 fr:∀r∈rs,O r.1=none
 val:∀(i:Nat) r,rs[i]?=some r→r.2=(Ac qs i).map T.int
theorem Bl{rs:List (Addr×List T)}{i:Nat}{r:Addr×List T}{vs:List T}(h:rs[i]?=some r):(rs.set i (r.1,vs)).map Prod.fst=rs.map Prod.fst:=Tj (us:=r.2) h
theorem XR{O:AG}{rs:List (Addr×List T)}{l:Addr}{i:Nat}{r:Addr×List T}{us:List T}(e:rs[i]?=some r)(hn:(rs.map Prod.fst).Nodup)(hl:∀r∈rs,r.1≠l):
  Ab (Ab (Fu O rs) l (rs.map Bm)) r.1 us=Ab (Fu O (rs.set i (r.1,us))) l ((rs.set i (r.1,us)).map Bm):=by
 rw[BQ (hl r (List.mem_of_getElem? e)),Ti (us:=r.2) hn e]
 congr 1
 have:=Bl (vs:=us) e
 have e1:∀rs:List (Addr×List T),rs.map Bm=(rs.map Prod.fst).map fun a=>T.raw (.ref a):=fun rs=>by rw[List.map_map];rfl
 rw[e1,e1,this]
theorem Nst.set2{n:Int}{O:AG}{l:Addr}{qs:List (Int×Int)}{rs:List (Addr×List T)}(h:Nst n O l qs rs){a b:Nat}(hab:a≠b){ra rb:Addr×List T}(ea:rs[a]?=some ra)(eb:rs[b]?=some rb):
  Nst n O l (qs++[((a:Int),(b:Int))]) ((rs.set a (ra.1,ra.2++[T.int b])).set b (rb.1,rb.2++[T.int a])):=by
 have eb':(rs.set a (ra.1,ra.2++[T.int b]))[b]?=some rb:=by rw[List.getElem?_set_ne hab];exact eb
 have m1:=Bl (vs:=ra.2++[T.int b]) ea
 have m2:=Bl (vs:=rb.2++[T.int a]) eb'
 have hm:∀r∈((rs.set a (ra.1,ra.2++[T.int b])).set b (rb.1,rb.2++[T.int a])),∃r'∈rs,r'.1=r.1:=fun r hr=>by
  have:r.1∈(((rs.set a (ra.1,ra.2++[T.int b])).set b (rb.1,rb.2++[T.int a])).map Prod.fst):=List.mem_map_of_mem hr
  rw[m2,m1] at this
  obtain⟨r',h1,h2⟩:=List.mem_map.mp this
  exact⟨r',h1,h2⟩
 refine⟨by rw[List.length_set,List.length_set];exact h.len,by rw[m2,m1];exact h.nd,fun r hr=>?_,fun r hr=>?_,fun i r e=>?_⟩
 ·obtain⟨r',h1,h2⟩:=hm r hr
  rw[←h2];exact h.ne r' h1
 ·obtain⟨r',h1,h2⟩:=hm r hr
  rw[←h2];exact h.fr r' h1
 ·have la:=(List.getElem?_eq_some_iff.mp ea).1
  have lb:=(List.getElem?_eq_some_iff.mp eb).1
  rw[LS,List.map_append]
  by_cases h1:i=b
  ·subst h1
   rw[List.getElem?_set_self (by rw[List.length_set];exact lb)] at e
   cases e
   have:¬((a:Int)=(i:Int)):=by omega
   show rb.2++[T.int a]=_
   rw[h.val i rb eb]
   simp[this]
  ·rw[List.getElem?_set_ne (fun z=>h1 z.symm)] at e
   by_cases h2:i=a
   ·subst h2
    rw[List.getElem?_set_self la] at e
    cases e
    show ra.2++[T.int b]=_
    rw[h.val i ra ea]
    simp
   ·rw[List.getElem?_set_ne (fun z=>h2 z.symm)] at e
    have n1:¬((a:Int)=(i:Int)):=by omega
    have n2:¬((b:Int)=(i:Int)):=by omega
    rw[h.val i r e]
    simp[n1,n2]
theorem Nst.tree{n:Int}{O:AG}{l:Addr}{ps:List (Int×Int)}{rs:List (Addr×List T)}(h:Nst n O l ps rs):T.lst (rs.map fun r=>T.lst r.2)=Hc n ps:=by
 have hl:=h.len
 unfold Hc
 congr 1
 apply List.ext_getElem?
 intro i
 rw[List.getElem?_map,List.getElem?_map]
 by_cases hi:i<rs.length
 ·rw[List.getElem?_eq_getElem hi,List.getElem?_range (by omega)]
  show some (T.lst rs[i].2)=_
  rw[h.val i rs[i] (List.getElem?_eq_getElem hi)]
  rfl
 ·rw[List.getElem?_eq_none (by omega),List.getElem?_eq_none (by rw[List.length_range];omega)]
  rfl
def Jr:Cu:=MR fun ts r=>∃n ps,ts=[BI n ps]∧0≤n∧n≤200∧FQ n ps∧ps.length≤200∧r=Hc n ps
theorem Js:FnScope ["web","nears","a","b"] ["web"] (AA Jm):=⟨rfl,rfl,rfl,by decide+kernel,rfl,by decide+kernel,by decide+kernel⟩
theorem Zd:(Ak ["place"] []).Nodup:=by decide+kernel
theorem RX{f:Addr}{fd:FuncData}(F:Fun K "nears_of" "nears_of" Jm f fd)(Tx:Txt mg):FnOk P w K mg base (CXe P w) 1 f fd ["web"] (DZ K Jr):=by
 refine Ad F Js ?_ ?_
 ·rintro ts O Φ Ξ ⟨r,⟨n,ps,rfl,_⟩,_⟩
  rfl
 ·rintro cdv A outer s H E O Ξ hr xf _ Φ ⟨_,⟨n,ps,rfl,n0,n1,hw,hl,rfl⟩,q⟩
  have sb:=Aa
  refine AD (Fg (i:=1) (nc:=["place"]) (cap:=[]) (by rfl) Js.nd rfl (Br (AA Jm) ["web","nears","a","b"] (by decide+kernel)) (EI.wi (Ag Tx.nRange (Ao (ev 0) AB) ⟨by omega,by omega⟩) ?_))
  refine⟨fun i acc O'=>i≤200∧∃as:List Addr,acc=(as.map fun a=> (a,([]:List T))).map Bm∧as.length=i∧as.Nodup∧(∀a∈as,O a=none)∧O'=Fu O (as.map fun a=> (a,[])),⟨by omega,[],rfl,rfl,by simp,(fun _ h=>by cases h),rfl⟩,?_,?_⟩
  ·rintro i t acc O' c e ⟨_,as,rfl,hal,hnd,hfr,rfl⟩ hc
   obtain⟨hi,rfl⟩:=Aw e
   refine⟨[some (.int (0+(i:Int)))],fun X' Oe He is=> ⟨?_,Dv (GB fun X' Oe He is=>?_)⟩⟩
   ·obtain⟨cl,s',H',fp,rfl⟩:=is
    exact AN 0 Zd (by decide)
   ·obtain⟨cl,s',H',fp,rfl⟩:=is
    refine El (Al ⟨Nat.zero_le _,fun p hp=>?_⟩)
    have hpc:p≠c:=fun z=>by rw[z,AF] at hp;cases hp
    rw[AS hpc] at hp
    have hpa:p∉as:=fun z=>by
     rw[Cg (rs:=as.map fun a=> (a,[])) (r:=(p,[])) (by rw[List.map_map];simpa[Function.comp_def] using hnd) (List.mem_map_of_mem z)] at hp
     cases hp
    have hpO:O p=none:=by
     rw[CU fun r hr=>by
      obtain⟨a,ha,rfl⟩:=List.mem_map.mp hr
      exact fun z=>hpa (z▸ha)] at hp
     exact hp
    refine⟨Ab (Fu O (as.map fun a=> (a,[]))) p [],BQ hpc,by rw[AS hpc.symm];exact hc,by rw[List.length_map,List.length_map];omega,by omega,as++[p],by rw[List.map_append,List.map_append];rfl,by simp;omega,?_,fun a ha=>?_,?_⟩
    ·rw[List.nodup_append]
     refine⟨hnd,by simp,fun a ha b hb z=>?_⟩
     rw[List.mem_singleton.mp hb] at z
     exact hpa (z▸ha)
    ·rcases List.mem_append.mp ha with ha|ha
     ·exact hfr a ha
     ·rw[List.mem_singleton.mp ha];exact hpO
    ·rw[List.map_append];exact(Kz (r:=(p,[]))).symm
  ·rintro acc O' ⟨_,as,rfl,hal,hnd,hfr,rfl⟩ l hlO
   rw[AY] at hal
   have hkeys:((as.map fun a=> (a,([]:List T))).map Prod.fst)=as:=by rw[List.map_map];simp[Function.comp_def]
   have nst0:Nst n O l [] (as.map fun a=> (a,([]:List T))):=by
    refine⟨by rw[List.length_map];omega,by rw[hkeys];exact hnd,fun r hr z=>?_,fun r hr=>?_,fun i r e=>?_⟩
    ·rw[←z,Cg (by rw[hkeys];exact hnd) hr] at hlO
     cases hlO
    ·obtain⟨a,ha,rfl⟩:=List.mem_map.mp hr
     exact hfr a ha
    ·have:=List.mem_of_getElem? e
     obtain⟨a,ha,rfl⟩:=List.mem_map.mp this
     rfl
   have hlO':O l=none:=by
    rw[CU nst0.ne] at hlO
    exact hlO
   refine AD (Au AX.own rfl (EI.wi (Fc (Ao (ev 0) AB)) ⟨fun j ρ' O'=>∃rs v2 v3,ρ'=[some (BI n ps),some (.raw (.ref l)),v2,v3]∧O'=Ab (Fu O rs) l (rs.map Bm)∧Nst n O l (ps.take j) rs,⟨_,none,none,rfl,rfl,by rw[List.take_zero];exact nst0⟩,?_,?_⟩))
   ·rintro j t _ _ e ⟨rs,v2,v3,rfl,rfl,nst⟩
    rw[List.getElem?_map] at e
    cases ec:ps[j]? with
    |none=>rw[ec] at e;cases e
    |some z=>
     rw[ec] at e
     cases e
     have hb:=hw z (List.mem_of_getElem? ec)
     have hlen:=nst.len
     have htl:(ps.take j).length≤200:=by rw[List.length_take];omega
     obtain⟨a,ea⟩:=Int.eq_ofNat_of_zero_le hb.1
     obtain⟨b,eb⟩:=Int.eq_ofNat_of_zero_le (show 0≤z.2 by omega)
     have ha:a<rs.length:=by omega
     have hb':b<rs.length:=by omega
     have hab:a≠b:=by omega
     have ga:=List.getElem?_eq_getElem ha
     have gb:(rs.set a (rs[a].1,rs[a].2++[T.int b]))[b]?=some rs[b]:=by rw[List.getElem?_set_ne hab];exact List.getElem?_eq_getElem hb'
     have m1:=Bl (vs:=rs[a].2++[T.int b]) ga
     have nd1:((rs.set a (rs[a].1,rs[a].2++[T.int b])).map Prod.fst).Nodup:=by rw[m1];exact nst.nd
     have ne1:∀r∈rs.set a (rs[a].1,rs[a].2++[T.int b]),r.1≠l:=fun r hr=>by
      have:r.1∈(rs.set a (rs[a].1,rs[a].2++[T.int b])).map Prod.fst:=List.mem_map_of_mem hr
      rw[m1] at this
      obtain⟨r',h1,h2⟩:=List.mem_map.mp this
      rw[←h2];exact nst.ne r' h1
     have la:rs[a].2.length≤200:=by rw[nst.val a rs[a] ga,List.length_map];exact Nat.le_trans DT htl
     have lb:rs[b].2.length≤200:=by rw[nst.val b rs[b] (List.getElem?_eq_getElem hb'),List.length_map];exact Nat.le_trans DT htl
     have ez:z=((a:Int),(b:Int)):=by rw[←ea,←eb]
     subst ez
     refine⟨[some (BI n ps),some (.raw (.ref l)),some (.int a),some (.int b)],BZ 2 3 rfl Js.nd (by show 2<4;decide) (by show 3<4;decide),?_⟩
     refine AD (BL (Bw (ET.we (BY (ts:=rs.map Bm) AF (ev 1) (ev 2) (An (by rw[List.getElem?_map,ga];rfl))) ⟨rs[a].1,rfl,⟨rs[a].2,?_⟩,ET.we (ev 3) ⟨rs[a].2,?_,by omega,?_⟩⟩)))
     ·rw[AS (nst.ne _ (List.getElem_mem ha))];exact Cg nst.nd (List.getElem_mem ha)
     ·rw[AS (nst.ne _ (List.getElem_mem ha))];exact Cg nst.nd (List.getElem_mem ha)
     ·rw[XR ga nst.nd nst.ne]
      refine AE (BL (Bw (ET.we (BY (ts:=(rs.set a (rs[a].1,rs[a].2++[T.int b])).map Bm) AF (ev 1) (ev 3) (An (by rw[List.getElem?_map,gb];rfl))) ⟨rs[b].1,rfl,⟨rs[b].2,?_⟩,ET.we (ev 2) ⟨rs[b].2,?_,by omega,?_⟩⟩)))
      ·rw[AS (ne1 _ (List.mem_of_getElem? gb))];exact Cg nd1 (List.mem_of_getElem? gb)
      ·rw[AS (ne1 _ (List.mem_of_getElem? gb))];exact Cg nd1 (List.mem_of_getElem? gb)
      ·rw[XR gb nd1 ne1]
       refine⟨_,_,_,rfl,rfl,?_⟩
       have:ps.take (j+1)=ps.take j++[((a:Int),(b:Int))]:=by
        rw[List.take_add_one,ec];rfl
       rw[this]
       exact nst.set2 hab ga (List.getElem?_eq_getElem hb')
   ·rintro _ _ ⟨rs,v2,v3,rfl,rfl,nst⟩
    rw[List.length_map,List.take_length] at nst
    refine LD nst.nd nst.ne nst.fr nst.fr ?_
    refine CI (p:=l) (n:=1) (ts:=rs.map fun r=>T.lst r.2) AF hlO' rfl ?_
    rw[BE hlO']
    refine AE (AR (ET.we (ev 1) ?_))
    show Φ (T.lst (rs.map fun r=>T.lst r.2)) O
    rw[nst.tree]
    exact q
end
section
variable{P:Program}{w:World}{K:PySem.W.Frag}{mg:Str→Option Value}{base:Heap}{CP:Addr}
theorem Bx{n:Int}{ps:List (Int×Int)}(hw:FQ n ps){i:Nat}{v:Int}:v∈Ac ps i↔Adj ps (i:Int) v:=by
 unfold Ac Adj
 rw[List.mem_filterMap]
 constructor
 ·rintro⟨p,hp,e⟩
  by_cases h:p.1=(i:Int)
  ·rw[if_pos h] at e
   cases e
   exact .inl (by rw[←h];exact hp)
  ·rw[if_neg h] at e
   by_cases h2:p.2=(i:Int)
   ·rw[if_pos h2] at e
    cases e
    exact .inr (by rw[←h2];exact hp)
   ·rw[if_neg h2] at e;cases e
 ·rintro(h|h)
  ·exact⟨_,h,by simp⟩
  ·have:=hw _ h
   simp only at this
   exact⟨_,h,by rw[if_neg (by omega)];simp⟩
theorem FB{m:Nat}{i:Nat}(h:i<m):OZ m (i:Int)=some i:=by
 unfold OZ
 rw[if_pos (by omega),if_pos (by omega)]
 rfl
structure WebN(n:Int)(ps:List (Int×Int)):Prop where
 n0:0≤n
 n1:n≤200
 hw:FQ n ps
 hl:ps.length≤200
def AW:Option Nat→T
 |none=> .non
 |some d=> .int d
theorem Hd{x:Option Nat}:BR (AW x)=false:=by cases x<;>rfl
theorem Hf{x:Option Nat}:Er (AW x)=x.isNone:=by cases x<;>rfl
def RY:List Str:=["nears","starts","fars","start","border","steps","beyond","place","near"]
theorem Cj:FnScope RY ["nears","starts"] (AA Iq):=⟨rfl,rfl,rfl,by decide+kernel,rfl,by decide+kernel,by decide+kernel⟩
theorem Ze:(Ak ["near"] []).Nodup:=by decide+kernel
def cP(i:Nat):Stmt:=(Ai Iq).getD i (.Pass ⟨0,0,0,0⟩)
def EH:Stmt→List Stmt
 | .While _ b _ _=>b
 | .For _ _ b _ _=>b
 |_=> []
def cQ(i:Nat):Stmt:=(EH (cP 4)).getD i (.Pass ⟨0,0,0,0⟩)
variable{f:Addr}{cdv:Value}{A:Around}{outer:List Env}{s:Shared}{H:Hp}{E:XK}{O:AG}{Ξ:Value→AG→Prop}{n:Int}{ps:List (Int×Int)}{S bs:List Int}{l lb:Addr}
abbrev zF(P:Program)(w:World)(K:PySem.W.Frag)(mg:Str→Option Value)(base:Heap)(f:Addr)(cdv:Value)(A:Around)(outer:List Env)(s:Shared)(H:Hp)(E:XK)(O:AG)(Ξ:Value→AG→Prop):Zx:=zB P w K mg base RY "fars_from" (AA Iq) f cdv A outer s H E O Ξ
abbrev GF(O:AG)(l lb:Addr)(fs:List (Option Nat))(bey:List Int):AG:=Ab (Ab O l (fs.map AW)) lb (bey.map T.int)
end
section
variable{P:Program}{w:World}{K:PySem.W.Frag}{mg:Str→Option Value}{base:Heap}{CP:Addr}{f:Addr}{cdv:Value}{A:Around}{outer:List Env}{s:Shared}{H:Hp}{E:XK}{O:AG}{Ξ:Value→AG→Prop}{n:Int}{ps:List (Int×Int)}{S bs:List Int}{l lb:Addr}
end
open GrR
abbrev EJ(rows:List (List Int)):T:=.lst (rows.map fun r=> .lst (r.map T.int))
def Rw(rows:List (List Int))(u v:Int):Prop:=0≤u∧v∈rows.getD u.toNat []
structure RowsN(n:Int)(rows:List (List Int)):Prop where
 len:(rows.length:Int)=n
 n1:n≤200
 hw:ZQ n (Rw rows)
theorem LU{rows:List (List Int)}{i:Nat}{v:Int}:v∈rows.getD i []↔Rw rows (i:Int) v:=by
 unfold Rw
 rw[Int.toNat_natCast]
 exact⟨fun h=> ⟨by omega,h⟩,fun h=>h.2⟩
theorem GS{rows:List (List Int)}{i:Nat}(h:i<rows.length):atI (rows.map fun r=>T.lst (r.map T.int)) (i:Int)=some (.lst ((rows.getD i []).map T.int)):=
 An (by rw[List.getElem?_map,List.getElem?_eq_getElem h];simp[List.getD,h])
theorem RZ{R:Int→Int→Prop}{S:List Int}{v:Int}:IsD R S v 0↔v∈S:=by
 constructor
 ·rintro⟨w,_⟩
  cases w with
  |«at» h=>exact h
 ·intro h
  exact⟨.at h,fun j hj=>by omega⟩
section
variable{P:Program}{w:World}{K:PySem.W.Frag}{mg:Str→Option Value}{base:Heap}{f:Addr}{cdv:Value}{A:Around}{outer:List Env}{s:Shared}{H:Hp}{E:XK}{O:AG}{Ξ:Value→AG→Prop}{n:Int}{rows:List (List Int)}{S bs:List Int}{l lb:Addr}
def Nu:Cu:=fun ts O Φ _=>∃n rows S,ts=[EJ rows,.lst (S.map T.int)]∧RowsN n rows∧(∀z∈S,0≤z∧z<n)∧∀fs,All n (Rw rows) S fs→Φ (.lst (fs.map AW)) O
abbrev GG(n:Int)(rows:List (List Int))(S:List Int)(l:Addr)(v3:Option T)(bs:List Int)(k:Nat)(v6 v7 v8:Option T):List (Option T):=[some (EJ rows),some (.lst (S.map T.int)),some (.raw (.ref l)),v3,some (.lst (bs.map T.int)),some (.int (k:Int)),v6,v7,v8]
theorem PL{v3 v7:Option T}{k:Nat}{fs:List (Option Nat)}{bey ds:List Int}{u:Int}{v:Nat}{Φ:BK}{N Bk Ct:FP}(hll:lb≠l)(n1:n≤200)(hv:(v:Int)<n)(m:Mid n (Rw rows) S k fs bey ds)(nd:bey.Nodup)(hw:ZQ n (Rw rows))(hS:∀z∈S,0≤z∧z<n)(hu:IsD (Rw rows) S u k)(a:Rw rows u v)
  (q:∀fs bey,Mid n (Rw rows) S k fs bey (ds++[(v:Int)])→bey.Nodup→N (GG n rows S l v3 bs (k+1) (some (.raw (.ref lb))) v7 (some (.int v))) (GF O l lb fs bey)):
  EG (zF P w K mg base f cdv A outer s H E O Ξ) (GG n rows S l v3 bs (k+1) (some (.raw (.ref lb))) v7 (some (.int v))) (GF O l lb fs bey) (EH ((EH (cQ 2)).getD 0 (.Pass ⟨0,0,0,0⟩))) {nx:=N,rt:=Φ,bk:=Bk,ct:=Ct}:=by
 have sb:=Aa
 have hl:=m.len
 have hlt:v<fs.length:=by omega
 have gl:GF O l lb fs bey l=some (fs.map AW):=by
  show Ab (Ab O l _) lb _ l=_
  rw[AS hll.symm,AF]
 have gv:atI (fs.map AW) (v:Int)=some (AW fs[v]):=An (by rw[List.getElem?_map,List.getElem?_eq_getElem hlt];rfl)
 refine AE (BB (DO Hd (BY gl (ev 2) (ev 8) gv)) (fun h=>?_) (fun h=>BH ?_))
 ·rw[Hf] at h
  have hn:fs[(v:Int).toNat]?=some none:=by
   rw[Int.toNat_natCast,List.getElem?_eq_getElem hlt]
   cases z:fs[v] with
   |none=>rfl
   |some d=>rw[z] at h;cases h
  have hb:bey.length≤n.toNat:=Gr.EV nd fun z hz=> (m.sub z hz).1.inb hw hS
  refine AD (ES (ET.we (ev 5) (ET.we (ev 2) ⟨l,rfl,ET.we (ev 8) ⟨_,_,v,rfl,gl,by rw[List.length_map];exact FB hlt,?_⟩⟩)))
  have eo:Ab (GF O l lb fs bey) l ((fs.map AW).set v (.int ((k+1:Nat):Int)))=GF O l lb (fs.set v (some (k+1))) bey:=by
   show Ab (Ab (Ab O l _) lb _) l _=_
   rw[BQ hll.symm,BJ]
   show _=Ab (Ab O l ((fs.set v (some (k+1))).map AW)) lb _
   rw[List.map_set]
   rfl
  rw[eo]
  refine AE (BL (Bw (ET.we (ev 6) ⟨lb,rfl,⟨_,AF⟩,ET.we (ev 8) ⟨bey.map T.int,AF,by rw[List.length_map];omega,?_⟩⟩)))
  have m2:=m.hit (v:=(v:Int)) (by omega) hv hn hu a
  rw[Int.toNat_natCast] at m2
  have:=q _ _ m2 (by
   rw[List.nodup_append]
   refine⟨nd,by simp,fun x hx y hy z=>?_⟩
   rw[List.mem_singleton.mp hy] at z
   exact m.fresh (by omega) hv hn (z▸hx))
  have e2:Ab (GF O l lb (fs.set v (some (k+1))) bey) lb (bey.map T.int++[T.int v])=GF O l lb (fs.set v (some (k+1))) (bey++[(v:Int)]):=by
   show Ab (Ab (Ab O l _) lb _) lb _=Ab (Ab O l _) lb _
   rw[BJ,List.map_append]
   rfl
  rw[e2]
  exact this
 ·rw[Hf] at h
  cases z:fs[v] with
  |none=>rw[z] at h;cases h
  |some d=>exact q fs bey (m.miss (by omega) hv (d:=d) (by rw[Int.toNat_natCast,List.getElem?_eq_getElem hlt,z])) nd
theorem Mk{v3 v8:Option T}{k:Nat}{fs:List (Option Nat)}{bey ds:List Int}{u:Nat}{Φ:BK}{N Bk Ct:FP}(hll:lb≠l)(hrl:(rows.length:Int)=n)(n1:n≤200)(hu0:(u:Int)<n)(m:Mid n (Rw rows) S k fs bey ds)(nd:bey.Nodup)(hw:ZQ n (Rw rows))(hS:∀z∈S,0≤z∧z<n)(hu:IsD (Rw rows) S u k)
  (q:∀v8 fs bey ds',Mid n (Rw rows) S k fs bey ds'→bey.Nodup→(∀v∈ds,v∈ds')→(∀v,Rw rows u v→v∈ds')→N (GG n rows S l v3 bs (k+1) (some (.raw (.ref lb))) (some (.int u)) v8) (GF O l lb fs bey)):
  EG (zF P w K mg base f cdv A outer s H E O Ξ) (GG n rows S l v3 bs (k+1) (some (.raw (.ref lb))) (some (.int u)) v8) (GF O l lb fs bey) (EH (cQ 2)) {nx:=N,rt:=Φ,bk:=Bk,ct:=Ct}:=by
 refine AE (Au AX.own rfl (EI.wi (Ar (Bb (ev 0) (ev 7) (GS (by omega)))) ⟨fun j ρ' O'=>∃v8 fs bey ds',ρ'=GG n rows S l v3 bs (k+1) (some (.raw (.ref lb))) (some (.int u)) v8∧O'=GF O l lb fs bey∧Mid n (Rw rows) S k fs bey ds'∧bey.Nodup∧(∀v∈ds,v∈ds')∧∀v∈(rows.getD u []).take j,v∈ds',⟨v8,fs,bey,ds,rfl,rfl,m,nd,fun _ h=>h,fun v h=>by simp at h⟩,?_,?_⟩))
 ·rintro j t _ _ e ⟨v8,fs,bey,ds',rfl,rfl,m,nd,h1,h2⟩
  rw[List.getElem?_map] at e
  cases ec:(rows.getD u [])[j]? with
  |none=>rw[ec] at e;cases e
  |some z=>
   rw[ec] at e
   cases e
   have a:=LU.mp (List.mem_of_getElem? ec)
   have hb:=hw _ _ a
   obtain⟨v,rfl⟩:=Int.eq_ofNat_of_zero_le hb.1
   refine⟨GG n rows S l v3 bs (k+1) (some (.raw (.ref lb))) (some (.int u)) (some (.int v)),AN 8 Cj.nd (by show 8<9;decide),PL hll n1 hb.2 m nd hw hS hu a fun fs' bey' m' nd'=> ⟨_,_,_,_,rfl,rfl,m',nd',fun x hx=>List.mem_append_left _ (h1 x hx),fun x hx=>?_⟩⟩
   rw[List.take_add_one,ec] at hx
   rcases List.mem_append.mp hx with hx|hx
   ·exact List.mem_append_left _ (h2 x hx)
   ·exact List.mem_append_right _ hx
 ·rintro _ _ ⟨v8,fs,bey,ds',rfl,rfl,m,nd,h1,h2⟩
  rw[List.length_map,List.take_length] at h2
  exact q v8 fs bey ds' m nd h1 fun v a=>h2 v (LU.mpr a)
theorem Ml{v3 v6 v7 v8:Option T}{k:Nat}{fs:List (Option Nat)}{Φ:BK}{N Bk Ct:FP}(hlO:O l=none)(wn:RowsN n rows)(hS:∀z∈S,0≤z∧z<n)(h:Fr n (Rw rows) S k fs)(hb:∀v,v∈bs↔IsD (Rw rows) S v k)
  (q:∀v6 v7 v8 fs bey,Fr n (Rw rows) S (k+1) fs→(∀v,v∈bey↔IsD (Rw rows) S v (k+1))→N (GG n rows S l v3 bey (k+1) v6 v7 v8) (Ab O l (fs.map AW))):
  EG (zF P w K mg base f cdv A outer s H E O Ξ) (GG n rows S l v3 bs k v6 v7 v8) (Ab O l (fs.map AW)) (EH (cP 4)) {nx:=N,rt:=Φ,bk:=Bk,ct:=Ct}:=by
 have sb:=Aa
 refine AD (MU 5 Pf rfl (ET.we AB (fun H v w Q ok r1 r2 acc=> ⟨_,_,r1.int_inv,r2.int_inv,acc _ H (.int (((k+1:Nat):Int))) _ ?_ (.refl ok) (.int _)⟩)) Cj.nd)
 refine AD (AM 6 (El (Al ⟨Nat.zero_le _,fun lb hlb=>?_⟩)) Cj.nd)
 have hll:lb≠l:=fun z=>by rw[z,AF] at hlb;cases hlb
 have hlb':O lb=none:=by rw[AS hll] at hlb;exact hlb
 refine AD (Au AX.own rfl (EI.wi (Ar (ev 4)) ⟨fun i ρ' O'=>∃v7 v8 fs bey ds,ρ'=GG n rows S l v3 bs (k+1) (some (.raw (.ref lb))) v7 v8∧O'=GF O l lb fs bey∧Mid n (Rw rows) S k fs bey ds∧bey.Nodup∧∀u∈bs.take i,∀v,Rw rows u v→v∈ds,⟨v7,v8,fs,[],[],rfl,rfl,h.mid,by simp,fun u hu=>by simp at hu⟩,?_,?_⟩))
 ·rintro i t _ _ e ⟨v7,v8,fs,bey,ds,rfl,rfl,m,nd,h1⟩
  rw[List.getElem?_map] at e
  cases ec:bs[i]? with
  |none=>rw[ec] at e;cases e
  |some z=>
   rw[ec] at e
   cases e
   have hz:=(hb z).mp (List.mem_of_getElem? ec)
   have hi:=hz.1.inb wn.hw hS
   obtain⟨u,rfl⟩:=Int.eq_ofNat_of_zero_le hi.1
   refine⟨GG n rows S l v3 bs (k+1) (some (.raw (.ref lb))) (some (.int u)) v8,AN 7 Cj.nd (by show 7<9;decide),Mk hll wn.len wn.n1 hi.2 m nd wn.hw hS hz fun v8 fs' bey' ds' m' nd' g1 g2=> ⟨_,_,_,_,ds',rfl,rfl,m',nd',fun x hx v a=>?_⟩⟩
   rw[List.take_add_one,ec] at hx
   rcases List.mem_append.mp hx with hx|hx
   ·exact g1 v (h1 x hx v a)
   ·have:x=(u:Int):=by simpa using hx
    rw[this] at a
    exact g2 v a
 ·rintro _ _ ⟨v7,v8,fs,bey,ds,rfl,rfl,m,nd,h1⟩
  rw[List.length_map,List.take_length] at h1
  obtain⟨h2,h3⟩:=m.done fun u v hu a=>h1 u ((hb u).mpr hu) v a
  refine CI (p:=lb) (n:=6) (ts:=bey.map T.int) AF hlb' rfl ?_
  rw[show CQ (GF O l lb fs bey) lb=Ab O l (fs.map AW) from BE (by rw[AS hll];exact hlb')]
  exact AE (AM 4 (ET.we (ev 6) (q _ _ _ fs bey h2 h3)) Cj.nd)
theorem Ra{fd:FuncData}(F:Fun K "fars_from" "fars_from" Iq f fd):FnOk P w K mg base (CXe P w) 1 f fd ["nears","starts"] (DZ K Nu):=by
 refine Ad F Cj ?_ ?_
 ·rintro ts O Φ Ξ ⟨n,rows,S,rfl,_⟩
  rfl
 ·rintro cdv A outer s H E O Ξ hr xf _ Φ ⟨n,rows,S,rfl,wn,hS,q⟩
  have sb:=Aa
  have n0:=wn.len
  have n1:=wn.n1
  refine AD (Fg (i:=2) (nc:=["near"]) (cap:=[]) (by rfl) Cj.nd rfl (Br (AA Iq) RY (by decide+kernel)) (EI.wi (Ar (ev 0)) ?_))
  refine⟨fun i acc O'=>i≤200∧acc=(List.replicate i (none:Option Nat)).map AW∧O=O',⟨by omega,rfl,rfl⟩,?_,?_⟩
  ·rintro i t acc _ c e ⟨_,rfl,rfl⟩ hc
   have hi:i<rows.length:=by
    have:=(List.getElem?_eq_some_iff.mp e).1
    simpa using this
   refine⟨[some t],fun X' Oe He is=> ⟨?_,Dv (GB fun X' Oe He is=>?_)⟩⟩
   ·obtain⟨cl,s',H',fp,rfl⟩:=is
    exact AN 0 Ze (by decide)
   ·obtain⟨cl,s',H',fp,rfl⟩:=is
    exact ET.we BN ⟨O,rfl,hc,by rw[List.length_map,List.length_replicate];omega,by omega,by rw[List.replicate_succ',List.map_append];rfl,rfl⟩
  ·rintro acc _ ⟨_,rfl,rfl⟩ l hlO
   rw[List.length_map]
   refine AD (Au AX.own rfl (EI.wi (Ar (ev 1)) ⟨fun j ρ' O'=>∃(fs:List (Option Nat)) (v3:Option T),ρ'=[some (EJ rows),some (.lst (S.map T.int)),some (.raw (.ref l)),v3,none,none,none,none,none]∧O'=Ab O l (fs.map AW)∧(fs.length:Int)=n∧∀v:Int,0≤v→v<n→∀d,fs[v.toNat]?=some (some d)↔(d=0∧v∈S.take j),⟨_,none,rfl,rfl,by rw[List.length_replicate];omega,fun v v0 v1 d=>?_⟩,?_,?_⟩))
   ·rw[List.getElem?_replicate]
    simp
   ·rintro j t _ _ e ⟨fs,v3,rfl,rfl,hl,hf⟩
    rw[List.getElem?_map] at e
    cases ec:S[j]? with
    |none=>rw[ec] at e;cases e
    |some z=>
     rw[ec] at e
     cases e
     have hz:=hS z (List.mem_of_getElem? ec)
     obtain⟨v,rfl⟩:=Int.eq_ofNat_of_zero_le hz.1
     have hlt:v<fs.length:=by omega
     refine⟨[some (EJ rows),some (.lst (S.map T.int)),some (.raw (.ref l)),some (.int v),none,none,none,none,none],AN 3 Cj.nd (by show 3<9;decide),?_⟩
     refine AE (ES (ET.we AB (ET.we (ev 2) ⟨l,rfl,ET.we (ev 3) ⟨_,_,v,rfl,AF,by rw[List.length_map];exact FB hlt,?_⟩⟩)))
     refine⟨fs.set v (some 0),_,rfl,by rw[BJ,List.map_set];rfl,by rw[List.length_set];exact hl,fun y y0 y1 d=>?_⟩
     rw[List.take_add_one,ec]
     by_cases hy:y=(v:Int)
     ·subst hy
      rw[Int.toNat_natCast,List.getElem?_set_self hlt]
      simp[eq_comm]
     ·rw[List.getElem?_set_ne (by omega),hf y y0 y1 d]
      simp[hy]
   ·rintro _ _ ⟨fs,v3,rfl,rfl,hl,hf⟩
    rw[List.length_map,List.take_length] at hf
    have fr:Fr n (Rw rows) S 0 fs:=Jh hl hf
    refine AD (AM 4 (ET.we (ev 1) ?_) Cj.nd)
    refine AD (AM 5 (ET.we AB ?_) Cj.nd)
    refine AD (Qv AX.own (fun m ρ' O'=>∃(k:Nat) (bs:List Int) (fs:List (Option Nat)) (v3 v6 v7 v8:Option T),ρ'=GG n rows S l v3 bs k v6 v7 v8∧O'=Ab O l (fs.map AW)∧Fr n (Rw rows) S k fs∧(∀v,v∈bs↔IsD (Rw rows) S v k)∧m=n.toNat+1-k) ⟨_,0,S,fs,v3,none,none,none,rfl,rfl,fr,fun v=>RZ.symm,rfl⟩ ?_)
    rintro m _ _ ⟨k,bs,fs,v3,v6,v7,v8,rfl,rfl,fr,hb,rfl⟩
    refine(show EB (zF P w K mg base f cdv A outer s H E O Ξ) (GG n rows S l v3 bs k v6 v7 v8) (Ab O l (fs.map AW)) _ (!(bs.map T.int).isEmpty) from Ks (t:=T.lst (bs.map T.int)) (ev 4) rfl) _ ?_
    cases bs with
    |nil=>
     refine Hx ?_
     have al:=fr.all_end fun v hv=>by
      have:=(hb v).mpr hv
      cases this
     refine CI (p:=l) (n:=2) (ts:=fs.map AW) AF hlO rfl ?_
     rw[BE hlO]
     exact AE (AR (ET.we (ev 2) (q fs al)))
    |cons b bs'=>
     refine GB (Ml hlO wn hS fr hb fun v6 v7 v8 fs' bey fr' hb'=> ⟨_,?_,k+1,bey,fs',_,v6,v7,v8,rfl,rfl,fr',hb',rfl⟩)
     have:=((hb b).mp (by simp)).lt wn.hw hS
     omega
end
end K18
namespace L2.TL
open PySem PySem.Spec PyProof.Rows
section
variable{Z:Zx}{ρ:List (Option T)}{O:AG}{e:Expr}{p pos:Pos}{ns:List Int}{i:Int}
theorem UH(hi:HB ns i)(m:Z.X.mg "min" =none)(hc:Z.X.calm=true)(h:ET Z ρ O e (.lst (ns.map T.int)))(hg:Gl Z.X "min":=by rfl)(he:starEach [e] Z.X.env=(false,eval e Z.X.env)::starEach [] Z.X.env:=by rfl):ET Z ρ O (.Call (.Name "min" p) [e] [] pos) (.int i):=
 Am (Ig hc) m TX (AJ h AC he) (fun Φ q H vs Q ok r k=>by
  obtain⟨v,rfl,r1⟩:=r.one_inv
  obtain⟨a,xs,rfl,h1,o1,r1⟩:=r1.lst_inv
  cases Reps.ints r1
  refine⟨a,ns,rfl,.inl (.inl (.inl h1)),List.length_pos_of_mem hi.1,fun n hn=>?_⟩
  have:n=i:=Int.le_antisymm (hn.2 i hi.1) (hi.2 n hn.1)
  rw[this]
  exact k _ H _ O q (.refl ok) (.int _)) hg (by decide) (by decide) he
theorem UI(hi:NQ ns i)(m:Z.X.mg "max" =none)(hc:Z.X.calm=true)(h:ET Z ρ O e (.lst (ns.map T.int)))(hg:Gl Z.X "max":=by rfl)(he:starEach [e] Z.X.env=(false,eval e Z.X.env)::starEach [] Z.X.env:=by rfl):ET Z ρ O (.Call (.Name "max" p) [e] [] pos) (.int i):=
 Am (Ih hc) m Wu (AJ h AC he) (fun Φ q H vs Q ok r k=>by
  obtain⟨v,rfl,r1⟩:=r.one_inv
  obtain⟨a,xs,rfl,h1,o1,r1⟩:=r1.lst_inv
  cases Reps.ints r1
  refine⟨a,ns,rfl,.inl (.inl (.inl h1)),List.length_pos_of_mem hi.1,fun n hn=>?_⟩
  have:n=i:=Int.le_antisymm (hi.2 n hn.1) (hn.2 i hi.1)
  rw[this]
  exact k _ H _ O q (.refl ok) (.int _)) hg (by decide) (by decide) he
theorem LV:∀{ns:List Int},ns≠[]→∃i,HB ns i
 | [],h=>absurd rfl h
 | [a],_=> ⟨a,by simp,fun n hn=>by rw[List.mem_singleton.mp hn];exact Int.le_refl _⟩
 |a::b::ns,_=>by
  obtain⟨i,h1,h2⟩:=LV (ns:=b::ns) (by simp)
  refine⟨min a i,?_,fun n hn=>?_⟩
  ·rcases Int.le_total a i with h|h
   ·rw[Int.min_eq_left h];simp
   ·rw[Int.min_eq_right h];exact List.mem_cons_of_mem _ h1
  ·rcases List.mem_cons.mp hn with rfl|hn
   ·exact Int.min_le_left ..
   ·exact Int.le_trans (Int.min_le_right ..) (h2 n hn)
theorem Nv:∀{ns:List Int},ns≠[]→∃i,NQ ns i
 | [],h=>absurd rfl h
 | [a],_=> ⟨a,by simp,fun n hn=>by rw[List.mem_singleton.mp hn];exact Int.le_refl _⟩
 |a::b::ns,_=>by
  obtain⟨i,h1,h2⟩:=Nv (ns:=b::ns) (by simp)
  refine⟨max a i,?_,fun n hn=>?_⟩
  ·rcases Int.le_total a i with h|h
   ·rw[Int.max_eq_right h];exact List.mem_cons_of_mem _ h1
   ·rw[Int.max_eq_left h];simp
  ·rcases List.mem_cons.mp hn with rfl|hn
   ·exact Int.le_max_left ..
   ·exact Int.le_trans (h2 n hn) (Int.le_max_right ..)
end
end L2.TL
namespace K18
open PySem L2 L2.TL PySem.Spec PyProof.Rows Gr
section
variable{P:Program}{w:World}{K:PySem.W.Frag}{mg:Str→Option Value}{base:Heap}{CN:Addr}
def Rb(CN:Addr):Cu:=fun ts O Φ Ξ=>∃t a b,ts=[t,.int a,.int b]∧BR t=false∧(Hu t a b=true→Φ .non O)∧(Hu t a b=false→Ξ (.ref CN) O)
theorem Zf:FnScope ["thing","least","most"] ["thing","least","most"] (AA Jl):=⟨rfl,rfl,rfl,by decide+kernel,rfl,by decide+kernel,by decide+kernel⟩
theorem XS{f:Addr}{fd:FuncData}(F:Fun K "need_number" "need_number" Jl f fd)(mN:mg "NoNumber" =some (.ref CN))(xN:PySem.W.excIn K CN Kb "ValueError.__new__" =true)(G:FnT P w K mg base "is_whole" 1 ["thing","least","most"] Nm):FnOk P w K mg base (CXe P w) 2 f fd ["thing","least","most"] (DZ K (Rb CN)):=by
 refine Nd F Zf ?_ ?_
 ·rintro ts O Φ Ξ ⟨t,a,b,rfl,_⟩
  rfl
 ·rintro cdv A outer s H E O Ξ hr xo _ Φ ⟨t,a,b,rfl,ht,q1,q2⟩
  refine AE (BB (MP (HG (BP G hr xo.f (AH (ev 0) (AH (ev 1) (AH (ev 2) AC))) ⟨t,a,b,rfl,ht,rfl⟩))) (fun h=>AE (Ff xo rfl mN xN (q2 ?_))) (fun h=>BH (q1 ?_)))
  ·cases z:Hu t a b with
   |true=>rw[z] at h;cases h
   |false=>rfl
  ·cases z:Hu t a b with
   |true=>rfl
   |false=>rw[z] at h;cases h
def BD(n:Int)(ps:List (Int×Int)):List Int:=(List.range n.toNat).map fun i=> ((Ac ps i).length:Int)
def Zg(cs:List Int):T:=if cs.all (fun c=>decide (c=cs.headD 0))=true then .int (cs.headD 0) else .non
def Hg:Cu:=MR fun ts r=>∃n ps,ts=[BI n ps]∧WebN n ps∧1≤n∧r=Zg (BD n ps)
theorem Rc:FnScope ["web","counts"] ["web"] (AA Nj):=⟨rfl,rfl,rfl,by decide+kernel,rfl,by decide+kernel,by decide+kernel⟩
theorem Zh:(Ak ["near"] []).Nodup:=by decide+kernel
theorem XT{cs:List Int}{a b:Int}(ha:HB cs a)(hb:NQ cs b):cs.all (fun c=>decide (c=cs.headD 0))=decide (a=b):=by
 have hne:cs≠[]:=fun z=>by rw[z] at ha;cases ha.1
 have hh:cs.headD 0∈cs:=by
  cases cs with
  |nil=>exact absurd rfl hne
  |cons x xs=>simp
 by_cases h:a=b
 ·subst h
  rw[decide_eq_true rfl,List.all_eq_true]
  intro c hc
  have h1:=ha.2 c hc
  have h2:=hb.2 c hc
  have h3:=ha.2 _ hh
  have h4:=hb.2 _ hh
  exact decide_eq_true (by omega)
 ·rw[decide_eq_false h]
  cases z:cs.all (fun c=>decide (c=cs.headD 0)) with
  |false=>rfl
  |true=>
   rw[List.all_eq_true] at z
   have h1:=of_decide_eq_true (z a ha.1)
   have h2:=of_decide_eq_true (z b hb.1)
   omega
theorem UJ{f:Addr}{fd:FuncData}(F:Fun K "even_by" "even_by" Nj f fd)(Tx:Txt mg)(G:FnT P w K mg base "nears_of" 1 ["web"] Jr):FnOk P w K mg base (CXe P w) 2 f fd ["web"] (DZ K Hg):=by
 refine Ad F Rc ?_ ?_
 ·rintro ts O Φ Ξ ⟨r,⟨n,ps,rfl,_⟩,_⟩
  rfl
 ·rintro cdv A outer s H E O Ξ hr xf _ Φ ⟨_,⟨n,ps,rfl,wn,n0,rfl⟩,q⟩
  have sb:=Aa
  have n1:=wn.n1
  have hlen:(BD n ps).length=n.toNat:=by simp[BD]
  have hne:BD n ps≠[]:=fun z=>by rw[z] at hlen;simp at hlen;omega
  obtain⟨a,ha⟩:=LV hne
  obtain⟨b,hb⟩:=Nv hne
  have e0:atI ((BD n ps).map T.int) 0=some (.int ((BD n ps).headD 0)):=by
   cases z:BD n ps with
   |nil=>exact absurd z hne
   |cons x xs=>
    show atI _ ((0:Nat):Int)=_
    exact An rfl
  refine AD (HH (i:=1) (nc:=["near"]) (cap:=[]) (by rfl) Rc.nd rfl (Br (AA Nj) ["web","counts"] (by decide+kernel)) (EI.wi (Ar (BP G hr xf (AH (ev 0) AC) ⟨n,ps,rfl,wn.n0,wn.n1,wn.hw,wn.hl,rfl⟩)) (Ep (List.range n.toNat) (fun i=>T.lst ((Ac ps i).map T.int)) (fun i=>T.int (((Ac ps i).map T.int).length:Int)) (by simp;omega) (fun x hx=> ⟨[some (.lst ((Ac ps x).map T.int))],fun X' Oe He is O'=>?_⟩) ?_)))
  ·obtain⟨cl,s',H',fp,rfl⟩:=is
   exact⟨AN 0 Zh (by decide),NX Tx.nLen (ev 0)⟩
  ·have e1:(List.range n.toNat).map (fun i=>T.int (((Ac ps i).map T.int).length:Int))=(BD n ps).map T.int:=by simp[BD]
   rw[e1]
   refine AE (AR (ET.we (Dl (Ce (UH ha Tx.nMin rfl (ev 1)) (UI hb Tx.nMax rfl (ev 1))) (fun _=>Bb (ev 1) AB e0) (fun _=>BN)) ?_))
   have:(if decide (a=b)=true then T.int ((BD n ps).headD 0) else T.non)=Zg (BD n ps):=by
    unfold Zg
    rw[XT ha hb]
   rw[this]
   exact q
end
section
variable{P:Program}{w:World}{K:PySem.W.Frag}{mg:Str→Option Value}{base:Heap}
def XU:List Str:=["_law_web","_law_many","_law_far_here","_law_place","_law_size","_law_one","_law_other","_law_a","_law_b"]
theorem Fw:FnScope XU ["_law_web"] (AA Mf):=⟨rfl,rfl,rfl,by decide+kernel,rfl,by decide+kernel,by decide+kernel⟩
abbrev Dy(O:AG)(l:Addr)(rs:List (Addr×List T))(p:Nat)(r:Addr×List T)(fs:List (Option Nat)):AG:=Ab (Fu O (rs.set p (r.1,fs.map AW))) l ((rs.set p (r.1,fs.map AW)).map Bm)
section
variable{O:AG}{l:Addr}{rs:List (Addr×List T)}{p:Nat}{r:Addr×List T}{fs gs:List (Option Nat)}
theorem Re{us:List T}(e:rs[p]?=some r):(rs.set p (r.1,us)).map Bm=rs.map Bm:=by
 have:=Bl (vs:=us) e
 have e1:∀rs:List (Addr×List T),rs.map Bm=(rs.map Prod.fst).map fun a=>T.raw (.ref a):=fun rs=>by rw[List.map_map];rfl
 rw[e1,e1,this]
theorem Rf{us:List T}(e:rs[p]?=some r)(nd:(rs.map Prod.fst).Nodup):((rs.set p (r.1,us)).map Prod.fst).Nodup:=by rw[Bl e];exact nd
theorem XW{us:List T}(e:rs[p]?=some r)(ne:∀r∈rs,r.1≠l):∀r'∈rs.set p (r.1,us),r'.1≠l:=fun r' hr=>by
 have:r'.1∈(rs.set p (r.1,us)).map Prod.fst:=List.mem_map_of_mem hr
 rw[Bl e] at this
 obtain⟨r2,h1,h2⟩:=List.mem_map.mp this
 rw[←h2];exact ne r2 h1
theorem Nw{us:List T}(e:rs[p]?=some r):(rs.set p (r.1,us))[p]?=some (r.1,us):=List.getElem?_set_self (List.getElem?_eq_some_iff.mp e).1
theorem Nx(e:rs[p]?=some r):Dy O l rs p r fs l=some (rs.map Bm):=by
 show Ab _ l _ l=_
 rw[AF,Re e]
theorem Ny(e:rs[p]?=some r)(nd:(rs.map Prod.fst).Nodup)(ne:∀r∈rs,r.1≠l):Dy O l rs p r fs r.1=some (fs.map AW):=by
 show Ab _ l _ r.1=_
 rw[AS (ne r (List.mem_of_getElem? e))]
 exact Cg (r:=(r.1,fs.map AW)) (Rf e nd) (List.mem_of_getElem? (Nw e))
theorem Nz(e:rs[p]?=some r)(nd:(rs.map Prod.fst).Nodup)(ne:∀r∈rs,r.1≠l):Ab (Dy O l rs p r fs) r.1 (gs.map AW)=Dy O l rs p r gs:=by
 have:=XR (O:=O) (us:=gs.map AW) (Nw (us:=fs.map AW) e) (Rf e nd) (XW e ne)
 rw[List.set_set] at this
 exact this
end
theorem UK{x:Option Nat}{k:Nat}{i:Int}(hi:i=(k:Int)):PyData.eqv (dT (AW x)) (dT (.int i))=decide (x=some k):=by
 subst hi
 cases x with
 |none=>rfl
 |some d=>
  show((d:Int)==(k:Int))=decide (some d=some k)
  rw[Bool.eq_iff_iff]
  simp
  omega
theorem UL{x:Option Nat}:CJ (AW x)=true:=by cases x<;> (unfold AW;rw[CJ])
theorem Mm{x:Option Nat}:(dT (AW x)).depth≤100:=by cases x<;>simp[AW,dT,PyData.depth]
variable{f:Addr}{cdv:Value}{A:Around}{outer:List Env}{s:Shared}{H:Hp}{E:XK}{O:AG}{Ξ:Value→AG→Prop}{n:Int}{ps:List (Int×Int)}{l:Addr}{rs:List (Addr×List T)}{p:Nat}{r:Addr×List T}
abbrev zG(P:Program)(w:World)(K:PySem.W.Frag)(mg:Str→Option Value)(base:Heap)(f:Addr)(cdv:Value)(A:Around)(outer:List Env)(s:Shared)(H:Hp)(E:XK)(O:AG)(Ξ:Value→AG→Prop):Zx:=zB P w K mg base XU "_law_far" (AA Mf) f cdv A outer s H E O Ξ
abbrev Dz(n:Int)(ps:List (Int×Int))(l:Addr)(p:Nat)(v4 v5 v6 v7 v8:Option T):List (Option T):=[some (BI n ps),some (.int n),some (.raw (.ref l)),some (.int (0+(p:Int))),v4,v5,v6,v7,v8]
def Zi(i:Nat):Stmt:=(Ai Mf).getD i (.Pass ⟨0,0,0,0⟩)
def YE(s:Stmt)(i:Nat):Stmt:=(EH s).getD i (.Pass ⟨0,0,0,0⟩)
theorem OA{v5 v6:Option T}{k a b:Nat}{fs:List (Option Nat)}{bey ds:List Int}{Φ:BK}{N Bk Ct:FP}(hu:(zG P w K mg base f cdv A outer s H E O Ξ).X.A.units+101<cLine)(er:rs[p]?=some r)(nd:(rs.map Prod.fst).Nodup)(ne:∀r∈rs,r.1≠l)(ha:(a:Int)<n)(hb:(b:Int)<n)(m:Mid n ps [(p:Int)] k fs bey ds)(ad:Adj ps a b)
  (q:∀fs bey ds',Mid n ps [(p:Int)] k fs bey ds'→(∀v∈ds,v∈ds')→(IsD ps [(p:Int)] a k→(b:Int)∈ds')→N (Dz n ps l p (some (.int (1+(k:Int)))) v5 v6 (some (.int a)) (some (.int b))) (Dy O l rs p r fs)):
  EG (zG P w K mg base f cdv A outer s H E O Ξ) (Dz n ps l p (some (.int (1+(k:Int)))) v5 v6 (some (.int a)) (some (.int b))) (Dy O l rs p r fs) (EH (YE (YE (YE (Zi 2) 1) 0) 0)) {nx:=N,rt:=Φ,bk:=Bk,ct:=Ct}:=by
 have hl:=m.len
 have la:a<fs.length:=by omega
 have lb:b<fs.length:=by omega
 have er':(rs.map Bm)[p]?=some (.raw (.ref r.1)):=by rw[List.getElem?_map,er];rfl
 have gp:atI (rs.map Bm) (0+(p:Int))=some (.raw (.ref r.1)):=by rw[Int.zero_add];exact An er'
 have ga:atI (fs.map AW) (a:Int)=some (AW fs[a]):=An (by rw[List.getElem?_map,List.getElem?_eq_getElem la];rfl)
 have gb:atI (fs.map AW) (b:Int)=some (AW fs[b]):=An (by rw[List.getElem?_map,List.getElem?_eq_getElem lb];rfl)
 have ea:=m.eq a (by omega) ha
 rw[Int.toNat_natCast,List.getElem?_eq_getElem la] at ea
 refine AE (BB (k:=decide (fs[a]=some k)&&(fs[b]).isNone) (EW.eb (EO (EB.cast (As (Jf hu) (Ae _) (Jg UL (by rw[CJ]) Mm) (BY (Ny er nd ne) (BY (Nx er) (ev 2) (ev 3) gp) (ev 7) ga) (CH (ev 4) AB)) (UK (by omega))) fun _=>DL (EB.cast (DO Hd (BY (Ny er nd ne) (BY (Nx er) (ev 2) (ev 3) gp) (ev 8) gb)) Hf))) (fun h=>?_) (fun h=>BH ?_))
 ·rw[Bool.and_eq_true] at h
  have h1:fs[a]=some k:=of_decide_eq_true h.1
  have hn:fs[(b:Int).toNat]?=some none:=by
   rw[Int.toNat_natCast,List.getElem?_eq_getElem lb]
   cases z:fs[b] with
   |none=>rfl
   |some d=>rw[z] at h;cases h.2
  have ia:IsD ps [(p:Int)] a k:=by
   rcases(ea k).mp (by rw[h1]) with z|z
   ·exact z.2
   ·omega
  refine AE (ES (ET.we (ev 4) (ET.we (BY (Nx er) (ev 2) (ev 3) gp) ⟨r.1,rfl,ET.we (ev 8) ⟨_,_,b,rfl,Ny er nd ne,by rw[List.length_map];exact FB lb,?_⟩⟩)))
  have e1:(fs.map AW).set b (.int (1+(k:Int)))=(fs.set b (some (k+1))).map AW:=by
   rw[List.map_set]
   congr 1
   show T.int _=T.int ((k+1:Nat):Int)
   congr 1
   omega
  rw[e1,Nz er nd ne]
  have m2:=m.hit (v:=(b:Int)) (by omega) hb hn ia ad
  rw[Int.toNat_natCast] at m2
  exact q _ _ _ m2 (fun v hv=>List.mem_append_left _ hv) (fun _=>by simp)
 ·by_cases h1:fs[a]=some k
  ·rw[decide_eq_true h1,Bool.true_and] at h
   cases z:fs[b] with
   |none=>rw[z] at h;cases h
   |some d=>exact q _ _ _ (m.miss (v:=(b:Int)) (by omega) hb (d:=d) (by rw[Int.toNat_natCast,List.getElem?_eq_getElem lb,z])) (fun v hv=>List.mem_append_left _ hv) (fun _=>by simp)
  ·exact q _ _ _ m (fun v hv=>hv) (fun i=>absurd (Option.some.inj ((ea k).mpr (.inl ⟨Nat.le_refl _,i⟩))) h1)
end
section
variable{P:Program}{w:World}{K:PySem.W.Frag}{mg:Str→Option Value}{base:Heap}{f:Addr}{cdv:Value}{A:Around}{outer:List Env}{s:Shared}{H:Hp}{E:XK}{O:AG}{Ξ:Value→AG→Prop}{n:Int}{ps:List (Int×Int)}{l:Addr}{rs:List (Addr×List T)}{p:Nat}{r:Addr×List T}
theorem UM{v7 v8:Option T}{k c e:Nat}{fs:List (Option Nat)}{bey ds:List Int}{Φ:BK}{N Bk Ct:FP}(hu:(zG P w K mg base f cdv A outer s H E O Ξ).X.A.units+101<cLine)(er:rs[p]?=some r)(nd:(rs.map Prod.fst).Nodup)(ne:∀r∈rs,r.1≠l)(hc:(c:Int)<n)(he:(e:Int)<n)(m:Mid n ps [(p:Int)] k fs bey ds)(ad:Adj ps c e)
  (q:∀v7 v8 fs bey ds',Mid n ps [(p:Int)] k fs bey ds'→(∀v∈ds,v∈ds')→(IsD ps [(p:Int)] c k→(e:Int)∈ds')→(IsD ps [(p:Int)] e k→(c:Int)∈ds')→N (Dz n ps l p (some (.int (1+(k:Int)))) (some (.int c)) (some (.int e)) v7 v8) (Dy O l rs p r fs)):
  EG (zG P w K mg base f cdv A outer s H E O Ξ) (Dz n ps l p (some (.int (1+(k:Int)))) (some (.int c)) (some (.int e)) v7 v8) (Dy O l rs p r fs) (EH (YE (YE (Zi 2) 1) 0)) {nx:=N,rt:=Φ,bk:=Bk,ct:=Ct}:=by
 refine AE (Au AX.own rfl (EI.wi (Ar (BG (ts:=[((c:Int),(e:Int)),((e:Int),(c:Int))].map AI) (AH (Bg (ev 5) (ev 6)) (AH (Bg (ev 6) (ev 5)) AC)) (by show 2≤sizeLine;decide))) ⟨fun i ρ' O'=>∃v7 v8 fs bey ds',ρ'=Dz n ps l p (some (.int (1+(k:Int)))) (some (.int c)) (some (.int e)) v7 v8∧O'=Dy O l rs p r fs∧Mid n ps [(p:Int)] k fs bey ds'∧(∀v∈ds,v∈ds')∧(1≤i→IsD ps [(p:Int)] c k→(e:Int)∈ds')∧(2≤i→IsD ps [(p:Int)] e k→(c:Int)∈ds'),⟨v7,v8,fs,bey,ds,rfl,rfl,m,fun _ h=>h,fun h=>by omega,fun h=>by omega⟩,?_,?_⟩))
 ·rintro i t _ _ et ⟨v7,v8,fs,bey,ds',rfl,rfl,m,h0,h1,h2⟩
  match i,et with
  |0,et=>
   cases et
   exact⟨Dz n ps l p (some (.int (1+(k:Int)))) (some (.int c)) (some (.int e)) (some (.int c)) (some (.int e)),BZ 7 8 rfl Fw.nd (by show 7<9;decide) (by show 8<9;decide),OA hu er nd ne hc he m ad fun fs bey ds2 m2 g0 g1=> ⟨_,_,_,_,_,rfl,rfl,m2,fun v hv=>g0 v (h0 v hv),fun _=>g1,fun h=>by omega⟩⟩
  |1,et=>
   cases et
   exact⟨Dz n ps l p (some (.int (1+(k:Int)))) (some (.int c)) (some (.int e)) (some (.int e)) (some (.int c)),BZ 7 8 rfl Fw.nd (by show 7<9;decide) (by show 8<9;decide),OA hu er nd ne he hc m ad.symm fun fs bey ds2 m2 g0 g1=> ⟨_,_,_,_,_,rfl,rfl,m2,fun v hv=>g0 v (h0 v hv),fun _ z=>g0 _ (h1 (Nat.le_refl _) z),fun _=>g1⟩⟩
  |i+2,et=>simp at et
 ·rintro _ _ ⟨v7,v8,fs,bey,ds',rfl,rfl,m,h0,h1,h2⟩
  exact q v7 v8 fs bey ds' m h0 (h1 (by simp)) (h2 (by simp))
theorem Rg{v5 v6 v7 v8:Option T}{k:Nat}{fs:List (Option Nat)}{Φ:BK}{N Bk Ct:FP}(hu:(zG P w K mg base f cdv A outer s H E O Ξ).X.A.units+101<cLine)(hw:FQ n ps)(er:rs[p]?=some r)(nd:(rs.map Prod.fst).Nodup)(ne:∀r∈rs,r.1≠l)(h:Fr n ps [(p:Int)] k fs)
  (q:∀v5 v6 v7 v8 fs,Fr n ps [(p:Int)] (k+1) fs→N (Dz n ps l p (some (.int (1+(k:Int)))) v5 v6 v7 v8) (Dy O l rs p r fs)):
  EG (zG P w K mg base f cdv A outer s H E O Ξ) (Dz n ps l p (some (.int (1+(k:Int)))) v5 v6 v7 v8) (Dy O l rs p r fs) (EH (YE (Zi 2) 1)) {nx:=N,rt:=Φ,bk:=Bk,ct:=Ct}:=by
 refine AE (Au AX.own rfl (EI.wi (Fc (Ao (ev 0) AB)) ⟨fun j ρ' O'=>∃v5 v6 v7 v8 fs bey ds,ρ'=Dz n ps l p (some (.int (1+(k:Int)))) v5 v6 v7 v8∧O'=Dy O l rs p r fs∧Mid n ps [(p:Int)] k fs bey ds∧∀z∈ps.take j,(IsD ps [(p:Int)] z.1 k→z.2∈ds)∧(IsD ps [(p:Int)] z.2 k→z.1∈ds),⟨v5,v6,v7,v8,fs,[],[],rfl,rfl,h.mid,fun z hz=>by simp at hz⟩,?_,?_⟩))
 ·rintro j t _ _ e ⟨v5,v6,v7,v8,fs,bey,ds,rfl,rfl,m,h1⟩
  rw[List.getElem?_map] at e
  cases ec:ps[j]? with
  |none=>rw[ec] at e;cases e
  |some z=>
   rw[ec] at e
   cases e
   have hz:=List.mem_of_getElem? ec
   have hb:=hw z hz
   obtain⟨a,b⟩:=z
   simp only at hb
   obtain⟨c,rfl⟩:=Int.eq_ofNat_of_zero_le hb.1
   obtain⟨e,rfl⟩:=Int.eq_ofNat_of_zero_le (show 0≤b by omega)
   refine⟨Dz n ps l p (some (.int (1+(k:Int)))) (some (.int c)) (some (.int e)) v7 v8,BZ 5 6 rfl Fw.nd (by show 5<9;decide) (by show 6<9;decide),UM hu er nd ne (by omega) hb.2.2 m (.inl hz) fun v7 v8 fs bey ds2 m2 g0 g1 g2=> ⟨_,_,_,_,_,_,_,rfl,rfl,m2,fun y hy=>?_⟩⟩
   rw[List.take_add_one,ec] at hy
   rcases List.mem_append.mp hy with hy|hy
   ·exact⟨fun i=>g0 _ ((h1 y hy).1 i),fun i=>g0 _ ((h1 y hy).2 i)⟩
   ·have:y=((c:Int),(e:Int)):=by simpa using hy
    subst this
    exact⟨g1,g2⟩
 ·rintro _ _ ⟨v5,v6,v7,v8,fs,bey,ds,rfl,rfl,m,h1⟩
  rw[List.length_map,List.take_length] at h1
  exact q v5 v6 v7 v8 fs (m.done fun u v i a=>by
   rcases a with a|a
   ·exact(h1 _ a).1 i
   ·exact(h1 _ a).2 i).1
theorem PM{v4 v5 v6 v7 v8:Option T}{Φ:BK}{N Bk Ct:FP}(Tx:Txt mg)(hu:(zG P w K mg base f cdv A outer s H E O Ξ).X.A.units+101<cLine)(wn:WebN n ps)(hp:(p:Int)<n)(er:rs[p]?=some r)(nd:(rs.map Prod.fst).Nodup)(ne:∀r∈rs,r.1≠l)
  (q:∀v4 v5 v6 v7 v8 fs,All n ps [(p:Int)] fs→N (Dz n ps l p v4 v5 v6 v7 v8) (Dy O l rs p r fs)):
  EG (zG P w K mg base f cdv A outer s H E O Ξ) (Dz n ps l p v4 v5 v6 v7 v8) (Dy O l rs p r (List.replicate n.toNat none)) (EH (Zi 2)) {nx:=N,rt:=Φ,bk:=Bk,ct:=Ct}:=by
 have n0:=wn.n0
 have n1:=wn.n1
 have hpl:p<n.toNat:=by omega
 have er':(rs.map Bm)[p]?=some (.raw (.ref r.1)):=by rw[List.getElem?_map,er];rfl
 have gp:atI (rs.map Bm) (0+(p:Int))=some (.raw (.ref r.1)):=by rw[Int.zero_add];exact An er'
 refine AD (ES (ET.we AB (ET.we (BY (Nx er) (ev 2) (ev 3) gp) ⟨r.1,rfl,ET.we (ev 3) ⟨_,_,p,rfl,Ny er nd ne,by rw[List.length_map,List.length_replicate,Int.zero_add];exact FB hpl,?_⟩⟩)))
 have e1:((List.replicate n.toNat (none:Option Nat)).map AW).set p (.int 0)=((List.replicate n.toNat none).set p (some 0)).map AW:=by rw[List.map_set];rfl
 rw[e1,Nz er nd ne]
 have hS:∀z∈[(p:Int)],0≤z∧z<n:=fun z hz=>by rw[List.mem_singleton.mp hz];omega
 have fr:Fr n ps [(p:Int)] 0 ((List.replicate n.toNat none).set p (some 0)):=Jh (by rw[List.length_set,List.length_replicate];omega) fun v v0 v1 d=>by
  by_cases hv:v=(p:Int)
  ·subst hv
   rw[Int.toNat_natCast,List.getElem?_set_self (by rw[List.length_replicate];exact hpl)]
   simp[eq_comm]
  ·rw[List.getElem?_set_ne (by omega),List.getElem?_replicate]
   simp[hv]
 refine AE (Au AX.own rfl (EI.wi (Cv Tx.nRange AB (ev 1) ⟨by decide,by decide,by omega,by omega⟩) ⟨fun j ρ' O'=>∃v4 v5 v6 v7 v8 fs,ρ'=Dz n ps l p v4 v5 v6 v7 v8∧O'=Dy O l rs p r fs∧Fr n ps [(p:Int)] j fs,⟨_,_,_,_,_,_,rfl,rfl,fr⟩,?_,?_⟩))
 ·rintro j t _ _ e ⟨v4,v5,v6,v7,v8,fs,rfl,rfl,fr⟩
  obtain⟨hj,rfl⟩:=Aw e
  exact⟨Dz n ps l p (some (.int (1+(j:Int)))) v5 v6 v7 v8,AN 4 Fw.nd (by show 4<9;decide),Rg hu wn.hw er nd ne fr fun v5 v6 v7 v8 fs fr'=> ⟨_,_,_,_,_,_,rfl,rfl,fr'⟩⟩
 ·rintro _ _ ⟨v4,v5,v6,v7,v8,fs,rfl,rfl,fr⟩
  rw[AY] at fr
  exact q v4 v5 v6 v7 v8 fs (fr.all_n wn.hw hS (by omega))
end
section
variable{P:Program}{w:World}{K:PySem.W.Frag}{mg:Str→Option Value}{base:Heap}
def Zj(FL:List (List (Option Nat))):T:=.lst (FL.map fun fs=> .lst (fs.map AW))
structure FarL(n:Int)(ps:List (Int×Int))(FL:List (List (Option Nat))):Prop where
 len:(FL.length:Int)=n
 all:∀(i:Nat) fs,FL[i]?=some fs→All n ps [(i:Int)] fs
def VL:Cu:=fun ts O Φ _=>∃n ps,ts=[BI n ps]∧WebN n ps∧∀FL,FarL n ps FL→Φ (Zj FL) O
theorem Zk:(Ak ["_law_place"] [(("_law_many" :Str),1)]).Nodup:=by decide+kernel
theorem Rh{α:Type}{xs:List α}{i:Nat}{x:α}(h:xs[i]?=some x):xs.set i x=xs:=by
 apply List.ext_getElem?
 intro m
 by_cases hm:i=m
 ·subst hm
  rw[List.getElem?_set_self (List.getElem?_eq_some_iff.mp h).1,h]
 ·rw[List.getElem?_set_ne hm]
theorem XX{f:Addr}{fd:FuncData}(F:Fun K "_law_far" "_law_far" Mf f fd)(Tx:Txt mg):FnOk P w K mg base (CXe P w) 1 f fd ["_law_web"] (DZ K VL):=by
 refine Ad F Fw ?_ ?_
 ·rintro ts O Φ Ξ ⟨n,ps,rfl,_⟩
  rfl
 ·rintro cdv A outer s H E O Ξ hr xf _ Φ ⟨n,ps,rfl,wn,q⟩
  have sb:=Aa
  have n0:=wn.n0
  have n1:=wn.n1
  have hu:(A.deeper (envOfC "_law_far" (AA Mf) s.heap.objs.size f cdv)).units+101<cLine:=by have:=hr.un;omega
  refine AD (AM 1 (ET.we (Ao (ev 0) AB) ?_) Fw.nd)
  refine AD (Fg (i:=2) (nc:=["_law_place"]) (cap:=[("_law_many",1)]) (by rfl) Fw.nd rfl (Br (AA Mf) XU (by decide+kernel)) (EI.wi (Ag Tx.nRange (ev 1) ⟨by omega,by omega⟩) ?_))
  refine⟨fun i acc O'=>i≤200∧∃as:List Addr,acc=(as.map fun a=> (a,(List.replicate n.toNat (none:Option Nat)).map AW)).map Bm∧as.length=i∧as.Nodup∧(∀a∈as,O a=none)∧O'=Fu O (as.map fun a=> (a,(List.replicate n.toNat (none:Option Nat)).map AW)),⟨by omega,[],rfl,rfl,by simp,(fun _ h=>by cases h),rfl⟩,?_,?_⟩
  ·rintro i t acc O' c e ⟨_,as,rfl,hal,hnd,hfr,rfl⟩ hc
   obtain⟨hi,rfl⟩:=Aw e
   refine⟨[some (.int (0+(i:Int))),some (.int n)],fun X' Oe He is=> ⟨?_,Dv (GB fun X' Oe He is=>?_)⟩⟩
   ·obtain⟨cl,s',H',fp,rfl⟩:=is
    exact AN 0 Zk (by decide)
   ·obtain⟨cl,s',H',fp,rfl⟩:=is
    refine Tn (BG (AH BN AC) (by show 1≤sizeLine;decide)) (ev 1) ⟨by omega,by omega⟩ fun p hp=>?_
    have hpc:p≠c:=fun z=>by rw[z,AF] at hp;cases hp
    rw[AS hpc] at hp
    have hk:((as.map fun a=> (a,(List.replicate n.toNat (none:Option Nat)).map AW)).map Prod.fst)=as:=by rw[List.map_map];simp[Function.comp_def]
    have hpa:p∉as:=fun z=>by
     rw[Cg (r:=(p,(List.replicate n.toNat (none:Option Nat)).map AW)) (by rw[hk];exact hnd) (List.mem_map_of_mem (f:=fun a=> (a,(List.replicate n.toNat (none:Option Nat)).map AW)) z)] at hp
     cases hp
    have hpO:O p=none:=by
     rw[CU fun r hr=>by
      obtain⟨a,ha,rfl⟩:=List.mem_map.mp hr
      exact fun z=>hpa (z▸ha)] at hp
     exact hp
    have er:List.replicate n.toNat T.non=(List.replicate n.toNat (none:Option Nat)).map AW:=by rw[List.map_replicate];rfl
    rw[er]
    refine⟨Ab (Fu O (as.map fun a=> (a,(List.replicate n.toNat (none:Option Nat)).map AW))) p ((List.replicate n.toNat (none:Option Nat)).map AW),BQ hpc,by rw[AS hpc.symm];exact hc,by rw[List.length_map,List.length_map];omega,by omega,as++[p],by rw[List.map_append,List.map_append];rfl,by simp;omega,?_,fun a ha=>?_,?_⟩
    ·rw[List.nodup_append]
     refine⟨hnd,by simp,fun a ha b hb z=>?_⟩
     rw[List.mem_singleton.mp hb] at z
     exact hpa (z▸ha)
    ·rcases List.mem_append.mp ha with ha|ha
     ·exact hfr a ha
     ·rw[List.mem_singleton.mp ha];exact hpO
    ·rw[List.map_append];exact(Kz (r:=(p,(List.replicate n.toNat (none:Option Nat)).map AW))).symm
  ·rintro acc O' ⟨_,as,rfl,hal,hnd,hfr,rfl⟩ l hlO
   rw[AY] at hal
   have hk:((as.map fun a=> (a,(List.replicate n.toNat (none:Option Nat)).map AW)).map Prod.fst)=as:=by rw[List.map_map];simp[Function.comp_def]
   have hne:∀r∈(as.map fun a=> (a,(List.replicate n.toNat (none:Option Nat)).map AW)),r.1≠l:=fun r hr z=>by
    rw[←z,Cg (by rw[hk];exact hnd) hr] at hlO
    cases hlO
   have hlO':O l=none:=by rw[CU hne] at hlO;exact hlO
   refine AD (Au AX.own rfl (EI.wi (Ag Tx.nRange (ev 1) ⟨by omega,by omega⟩) ⟨fun j ρ' O'=>∃(rs:List (Addr×List T)) (FL:List (List (Option Nat))) (v3 v4 v5 v6 v7 v8:Option T),ρ'=[some (BI n ps),some (.int n),some (.raw (.ref l)),v3,v4,v5,v6,v7,v8]∧O'=Ab (Fu O rs) l (rs.map Bm)∧rs.map Prod.fst=as∧rs.map Prod.snd=FL.map (fun fs=>fs.map AW)∧∀(i:Nat) fs,FL[i]?=some fs→(i<j→All n ps [(i:Int)] fs)∧(j≤i→fs=List.replicate n.toNat none),
    ⟨_,List.replicate as.length (List.replicate n.toNat none),none,none,none,none,none,none,rfl,rfl,hk,?_,fun i fs e=> ⟨fun h=>by omega,fun _=>?_⟩⟩,?_,?_⟩))
   ·have rep:∀(bs:List Addr) (x:List (Option Nat)),(bs.map fun a=> (a,x.map AW)).map Prod.snd=(List.replicate bs.length x).map fun fs=>fs.map AW:=fun bs x=>by
     induction bs with
     |nil=>rfl
     |cons b bs ih=>
      rw[List.map_cons,List.map_cons,ih]
      rfl
    exact rep as _
   ·rw[List.getElem?_replicate] at e
    split at e
    ·cases e;rfl
    ·cases e
   ·rintro j t _ _ e ⟨rs,FL,v3,v4,v5,v6,v7,v8,rfl,rfl,h1,h2,h3⟩
    obtain⟨hj,rfl⟩:=Aw e
    have hrl:rs.length=n.toNat:=by rw[←List.length_map (f:=Prod.fst),h1];exact hal
    have hjr:j<rs.length:=by omega
    have gj:=List.getElem?_eq_getElem hjr
    have hfl:FL.length=rs.length:=by have:=congrArg List.length h2;simp at this;omega
    have gf:=List.getElem?_eq_getElem (l:=FL) (i:=j) (by omega)
    have hrow:rs[j].2=(List.replicate n.toNat (none:Option Nat)).map AW:=by
     have:(rs.map Prod.snd)[j]?=(FL.map fun fs=>fs.map AW)[j]?:=by rw[h2]
     rw[List.getElem?_map,gj,List.getElem?_map,gf,(h3 j _ gf).2 (Nat.le_refl _)] at this
     exact Option.some.inj this
    have nd:(rs.map Prod.fst).Nodup:=by rw[h1];exact hnd
    have ne:∀r∈rs,r.1≠l:=fun r hr z=>by
     have:r.1∈as:=by rw[←h1];exact List.mem_map_of_mem hr
     exact hne (r.1,_) (List.mem_map_of_mem (f:=fun a=> (a,(List.replicate n.toNat (none:Option Nat)).map AW)) this) z
    have e0:rs.set j (rs[j].1,(List.replicate n.toNat (none:Option Nat)).map AW)=rs:=by
     rw[←hrow];exact Rh gj
    refine⟨Dz n ps l j v4 v5 v6 v7 v8,AN 3 Fw.nd (by show 3<9;decide),?_⟩
    have st:=PM (P:=P) (w:=w) (K:=K) (base:=base) (f:=f) (cdv:=cdv) (A:=A) (outer:=outer) (s:=s) (H:=H) (E:=E) (O:=O) (Ξ:=Ξ) (v4:=v4) (v5:=v5) (v6:=v6) (v7:=v7) (v8:=v8) (Φ:=Φ) (N:=fun ρ' O'=>∃(rs:List (Addr×List T)) (FL:List (List (Option Nat))) (v3 v4 v5 v6 v7 v8:Option T),ρ'=[some (BI n ps),some (.int n),some (.raw (.ref l)),v3,v4,v5,v6,v7,v8]∧O'=Ab (Fu O rs) l (rs.map Bm)∧rs.map Prod.fst=as∧rs.map Prod.snd=FL.map (fun fs=>fs.map AW)∧∀(i:Nat) fs,FL[i]?=some fs→(i<j+1→All n ps [(i:Int)] fs)∧(j+1≤i→fs=List.replicate n.toNat none)) (Bk:=fun ρ' O'=>EG (zG P w K mg base f cdv A outer s H E O Ξ) ρ' O' [Zi 3] {nx:=fun _ O'=>Φ .non O',rt:=Φ}) (Ct:=fun ρ' O'=>∃(rs:List (Addr×List T)) (FL:List (List (Option Nat))) (v3 v4 v5 v6 v7 v8:Option T),ρ'=[some (BI n ps),some (.int n),some (.raw (.ref l)),v3,v4,v5,v6,v7,v8]∧O'=Ab (Fu O rs) l (rs.map Bm)∧rs.map Prod.fst=as∧rs.map Prod.snd=FL.map (fun fs=>fs.map AW)∧∀(i:Nat) fs,FL[i]?=some fs→(i<j+1→All n ps [(i:Int)] fs)∧(j+1≤i→fs=List.replicate n.toNat none)) Tx hu wn (by omega) gj nd ne (fun v4 v5 v6 v7 v8 fs al=> ⟨_,FL.set j fs,_,_,_,_,_,_,rfl,rfl,by rw[Bl gj];exact h1,by rw[List.map_set,h2,List.map_set],fun i gs e=>?_⟩)
    ·have eo:Dy O l rs j rs[j] (List.replicate n.toNat none)=Ab (Fu O rs) l (rs.map Bm):=by
      show Ab (Fu O (rs.set j (rs[j].1,(List.replicate n.toNat (none:Option Nat)).map AW))) l ((rs.set j (rs[j].1,(List.replicate n.toNat (none:Option Nat)).map AW)).map Bm)=_
      rw[e0]
     rw[←eo]
     exact st
    ·by_cases hi:j=i
     ·subst hi
      rw[List.getElem?_set_self (by omega)] at e
      cases e
      exact⟨fun _=>al,fun h=>by omega⟩
     ·rw[List.getElem?_set_ne hi] at e
      obtain⟨g1,g2⟩:=h3 i gs e
      exact⟨fun h=>g1 (by omega),fun h=>g2 (by omega)⟩
   ·rintro _ _ ⟨rs,FL,v3,v4,v5,v6,v7,v8,rfl,rfl,h1,h2,h3⟩
    rw[AY] at h3
    have hrl:rs.length=n.toNat:=by rw[←List.length_map (f:=Prod.fst),h1];exact hal
    have hfl:FL.length=rs.length:=by have:=congrArg List.length h2;simp at this;omega
    have nd:(rs.map Prod.fst).Nodup:=by rw[h1];exact hnd
    have mem:∀r∈rs,r.1∈as:=fun r hr=>by rw[←h1];exact List.mem_map_of_mem hr
    refine LD nd (fun r hr=>hne (r.1,(List.replicate n.toNat (none:Option Nat)).map AW) (List.mem_map_of_mem (f:=fun a=> (a,(List.replicate n.toNat (none:Option Nat)).map AW)) (mem r hr))) (fun r hr=>hfr _ (mem r hr)) (fun r hr=>hfr _ (mem r hr)) ?_
    refine CI (p:=l) (n:=2) (ts:=rs.map fun r=>T.lst r.2) AF hlO' rfl ?_
    rw[BE hlO']
    refine AE (AR (ET.we (ev 2) ?_))
    show Φ (T.lst (rs.map fun r=>T.lst r.2)) O
    have:(rs.map fun r=>T.lst r.2)=FL.map fun fs=>T.lst (fs.map AW):=by
     have e1:(rs.map fun r=>T.lst r.2)=(rs.map Prod.snd).map T.lst:=by rw[List.map_map];rfl
     rw[e1,h2,List.map_map];rfl
    rw[this]
    exact q FL ⟨by omega,fun i fs e=> (h3 i fs e).1 (by have:=(List.getElem?_eq_some_iff.mp e).1;omega)⟩
end
theorem Jt{n:Int}{ps:List (Int×Int)}{i:Nat}(hw:FQ n ps)(hp:ps.Pairwise Kx):(Ac ps i).Pairwise (· < ·):=by
 unfold Ac
 rw[List.pairwise_filterMap]
 refine List.Pairwise.imp_of_mem ?_ hp
 intro p q hp hq h x hx y hy
 have a:=hw p hp
 have b:=hw q hq
 unfold Kx at h
 have f:∀(r:Int×Int) (z:Int),(if r.1=(i:Int) then some r.2 else if r.2=(i:Int) then some r.1 else none)=some z→(r.1=(i:Int)∧r.2=z)∨(r.1≠(i:Int)∧r.2=(i:Int)∧r.1=z):=fun r z e=>by
  by_cases h:r.1=(i:Int)
  ·rw[if_pos h] at e
   cases e
   exact .inl ⟨h,rfl⟩
  ·rw[if_neg h] at e
   by_cases h2:r.2=(i:Int)
   ·rw[if_pos h2] at e
    cases e
    exact .inr ⟨h,h2,rfl⟩
   ·rw[if_neg h2] at e;cases e
 rcases f p x hx with c|c<;>rcases f q y hy with d|d<;>omega
def mm(p:Int×Int):Int×Int:=(min p.1 p.2,max p.1 p.2)
section
variable{P:Program}{w:World}{K:PySem.W.Frag}{mg:Str→Option Value}{base:Heap}{CP CL:Addr}
end
theorem dI:bootBuiltins "ValueError" =some (.type "ValueError"):=by decide+kernel
theorem FD{H H':Hp}{p:Addr}{o:HO}(s:Same H H')(hp:H' p=none):Same H (upd H' p o):=fun b u e=>by
 rw[AQ (AV (s b u e) hp)];exact s b u e
structure Asks(K:PySem.W.Frag)(mg:Str→Option Value)(CN:Addr)(x:Str)(b:Bool):Prop where
 ex:∃C,mg x=some (.ref C)∧PySem.W.kitOne K (.ref CN) (.ref C)=some b
structure Kinds(K:PySem.W.Frag)(mg:Str→Option Value)(CN:Addr)(b0 b1 b2 b3 b4 b5 b6 b7:Bool):Prop where
 a0:Asks K mg CN "NoPlace" b0
 a1:Asks K mg CN "NoNumber" b1
 a2:Asks K mg CN "NoLine" b2
 a3:Asks K mg CN "NoRing" b3
 a4:Asks K mg CN "NotEven" b4
 a5:Asks K mg CN "NoWeb" b5
 a6:Asks K mg CN "NoText" b6
 a7:Asks K mg CN "TooGreat" b7
 ve:PySem.W.kitOne K (.ref CN) (.type "ValueError")=some true
 eN:ExcCls K CN
section
variable{P:Program}{w:World}{K:PySem.W.Frag}{mg:Str→Option Value}{base:Heap}{CP:Addr}
theorem Mn:FnScope ["_law_e","_law_marks"] ["_law_e"] (AA Ir):=⟨rfl,rfl,rfl,by decide+kernel,rfl,by decide+kernel,by decide+kernel⟩
theorem Ju{f:Addr}{fd:FuncData}{b0 b1 b2 b3 b4 b5 b6 b7:Bool}{y:Str}{j:Nat}(F:Fun K "_law_kind_of" "_law_kind_of" Ir f fd)(T:Txt mg)(U:Kinds K mg CP b0 b1 b2 b3 b4 b5 b6 b7)(hc:(([.bl b0,.bl b1,.bl b2,.bl b3]++[.bl b4,.bl b5,.bl b6,.bl b7]:List V).countP fun z=>Le z (.bl true))=1)(hj:([.bl b0,.bl b1,.bl b2,.bl b3]++[.bl b4,.bl b5,.bl b6,.bl b7]:List V)[j]?=some (.bl true))(hno:∀m z,m<j→([.bl b0,.bl b1,.bl b2,.bl b3]++[.bl b4,.bl b5,.bl b6,.bl b7]:List V)[m]?=some z→Le z (.bl true)=false)(hw:([.str "place",.str "number",.str "line",.str "ring",.str "even",.str "web",.str "text",.str "great"]:List V)[j]?=some (.str y)):FnH P w K mg base 1 f fd ["_law_e"] (Bu CP y):=by
 obtain⟨c0,m0,k0⟩:=U.a0.ex
 obtain⟨c1,m1,k1⟩:=U.a1.ex
 obtain⟨c2,m2,k2⟩:=U.a2.ex
 obtain⟨c3,m3,k3⟩:=U.a3.ex
 obtain⟨c4,m4,k4⟩:=U.a4.ex
 obtain⟨c5,m5,k5⟩:=U.a5.ex
 obtain⟨c6,m6,k6⟩:=U.a6.ex
 obtain⟨c7,m7,k7⟩:=U.a7.ex
 refine F.okH Mn (fun vs H Q E h=>?_) (fun cdv A outer s H vs Q hr h=>?_)
 ·obtain⟨x,rfl,_⟩:=h
  rfl
 ·obtain⟨x,rfl,hx,k⟩:=h
  refine⟨_,Dc (Lh (i:=1) Mn.nd rfl (Or.inl rfl) (Ga
    (AL (BC BO (by rfl) T.nIsi IC (AL (pv 0) (AL (Bd (v:=.ref c0) (by rfl) m0 rfl) BF)))
    (AL (BC BO (by rfl) T.nIsi IC (AL (pv 0) (AL (Bd (v:=.ref c1) (by rfl) m1 rfl) BF)))
    (AL (BC BO (by rfl) T.nIsi IC (AL (pv 0) (AL (Bd (v:=.ref c2) (by rfl) m2 rfl) BF)))
    (AL (BC BO (by rfl) T.nIsi IC (AL (pv 0) (AL (Bd (v:=.ref c3) (by rfl) m3 rfl) BF))) BF))))))
   (Dc (Lh (i:=1) Mn.nd rfl (Or.inl rfl) (Uk Lo (pv 1) (Ga
    (AL (BC BO (by rfl) T.nIsi IC (AL (pv 0) (AL (Bd (v:=.ref c4) (by rfl) m4 rfl) BF)))
    (AL (BC BO (by rfl) T.nIsi IC (AL (pv 0) (AL (Bd (v:=.ref c5) (by rfl) m5 rfl) BF)))
    (AL (BC BO (by rfl) T.nIsi IC (AL (pv 0) (AL (Bd (v:=.ref c6) (by rfl) m6 rfl) BF)))
    (AL (BC BO (by rfl) T.nIsi IC (AL (pv 0) (AL (Bd (v:=.ref c7) (by rfl) m7 rfl) BF))) BF)))))))
   (Dc (Pd (Ui (Pb (KN (BC BO (by rfl) T.nIsi IC (AL (pv 0) (AL (Mv (v:=.ty "ValueError") (by rfl) T.nVE dI rfl) BF))) (fun _=>rfl)))
     (Pa (JJ Mz (Pv PySem.F.plainAttrs_list PySem.F.slot_list_count PySem.F.type_list_count QF (pv 1) (AL PZ BF)) Lg (Ae _)))).pt
     (Ed (FT Ca)) JG)
   (Ed (FT (Pt Ee (Ga (AL Ca (AL Ca (AL Ca (AL Ca (AL Ca (AL Ca (AL Ca (AL Ca BF)))))))))
    (Pv PySem.F.plainAttrs_list PySem.F.slot_list_index PySem.F.type_list_index QG (pv 1) (AL PZ BF)) (fun _ _=>rfl)))))),?_⟩
  refine⟨_,rfl,_,.ref c0,_,_,b0,rfl,rfl,.inr ⟨x,CP,rfl,rfl,hx,U.eN⟩,k0,?_⟩
  refine⟨_,rfl,_,.ref c1,_,_,b1,rfl,rfl,.inr ⟨x,CP,rfl,rfl,hx,U.eN⟩,k1,?_⟩
  refine⟨_,rfl,_,.ref c2,_,_,b2,rfl,rfl,.inr ⟨x,CP,rfl,rfl,hx,U.eN⟩,k2,?_⟩
  refine⟨_,rfl,_,.ref c3,_,_,b3,rfl,rfl,.inr ⟨x,CP,rfl,rfl,hx,U.eN⟩,k3,(by show 4≤sizeLine;decide),fun p hp=>?_⟩
  have hx1:Rd (upd H p (.lst [.bl b0,.bl b1,.bl b2,.bl b3])) x (GC CP x):=hx.upd hp
  refine⟨_,rfl,?_⟩
  refine⟨_,rfl,_,.ref c4,_,_,b4,rfl,rfl,.inr ⟨x,CP,rfl,rfl,hx1,U.eN⟩,k4,?_⟩
  refine⟨_,rfl,_,.ref c5,_,_,b5,rfl,rfl,.inr ⟨x,CP,rfl,rfl,hx1,U.eN⟩,k5,?_⟩
  refine⟨_,rfl,_,.ref c6,_,_,b6,rfl,rfl,.inr ⟨x,CP,rfl,rfl,hx1,U.eN⟩,k6,?_⟩
  refine⟨_,rfl,_,.ref c7,_,_,b7,rfl,rfl,.inr ⟨x,CP,rfl,rfl,hx1,U.eN⟩,k7,(by show 4≤sizeLine;decide),fun p2 hp2=>?_⟩
  have np:p≠p2:=fun z=>by rw[z,AO] at hp2;cases hp2
  refine⟨p,p2,_,_,rfl,rfl,(by rw[AQ np];exact AO),AO,(by show 8≤sizeLine;decide),fun p3 hp3=>?_⟩
  have s1:Same H (upd H p (.lst [.bl b0,.bl b1,.bl b2,.bl b3])):=FD (Same.refl H) hp
  have s2:=FD (o:=.lst [.bl b4,.bl b5,.bl b6,.bl b7]) s1 hp2
  have s3:=FD (o:=.lst ([.bl b0,.bl b1,.bl b2,.bl b3]++[.bl b4,.bl b5,.bl b6,.bl b7])) s2 hp3
  refine⟨_,rfl,_,.ty "ValueError",_,_,true,rfl,rfl,.inr ⟨x,CP,rfl,rfl,hx.same s3,U.eN⟩,U.ve,true,rfl,?_⟩
  refine Hx ?_
  refine⟨_,rfl,.inl ⟨rfl,_,SqL.of AO⟩,p3,_,_,rfl,rfl,SqL.of AO,rfl,rfl,rfl,_,rfl,?_⟩
  have ec:(!decide (V.int ((([.bl b0,.bl b1,.bl b2,.bl b3]++[.bl b4,.bl b5,.bl b6,.bl b7]:List V).countP fun z=>Le z (.bl true):Nat):Int)=V.int 1))=false:=by rw[hc];rfl
  rw[ec]
  refine Hx ?_
  refine⟨(by show 8≤sizeLine;decide),fun p4 hp4=>?_⟩
  have n4:p3≠p4:=fun z=>by rw[z,AO] at hp4;cases hp4
  refine⟨_,rfl,.inl ⟨rfl,_,SqL.of (by rw[AQ n4];exact AO)⟩,p3,_,_,j,rfl,rfl,SqL.of (by rw[AQ n4];exact AO),rfl,rfl,⟨.bl true,hj,rfl⟩,hno,?_⟩
  exact⟨p4,_,(j:Int),_,rfl,rfl,SqL.of AO,An hw,k _ (FD s3 hp4)⟩
theorem Ri{xs:List V}{j:Nat}(h:((List.range j).all fun m=>match xs[m]? with|some z=>!Le z (.bl true)|none=>true)=true):∀m z,m<j→xs[m]?=some z→Le z (.bl true)=false:=fun m z hm e=>by
 have:=List.all_eq_true.mp h m (List.mem_range.mpr hm)
 rw[e] at this
 simpa using this
theorem Hh{f:Addr}{fd:FuncData}(F:Fun K "_law_kind_of" "_law_kind_of" Ir f fd)(T:Txt mg)(U:Kinds K mg CP false true false false false false false false):FnH P w K mg base 1 f fd ["_law_e"] (Bu CP "number"):=Ju (j:=1) F T U rfl rfl (Ri (by decide)) rfl
theorem Jv{f:Addr}{fd:FuncData}(F:Fun K "_law_kind_of" "_law_kind_of" Ir f fd)(T:Txt mg)(U:Kinds K mg CP false false false true false false false false):FnH P w K mg base 1 f fd ["_law_e"] (Bu CP "ring"):=Ju (j:=3) F T U rfl rfl (Ri (by decide)) rfl
theorem Jw{f:Addr}{fd:FuncData}(F:Fun K "_law_kind_of" "_law_kind_of" Ir f fd)(T:Txt mg)(U:Kinds K mg CP false false false false true false false false):FnH P w K mg base 1 f fd ["_law_e"] (Bu CP "even"):=Ju (j:=4) F T U rfl rfl (Ri (by decide)) rfl
end
section
variable{P:Program}{w:World}{K:PySem.W.Frag}{mg:Str→Option Value}{base:Heap}{CP CL:Addr}
end
end K18
namespace L2.TL
open PySem PySem.Spec PyProof.Rows
section
variable{Z:Zx}{ρ:List (Option T)}{O:AG}{a:Expr}{t:T}{us:List T}{K:PySem.W.Frag}{p1 pos:Pos}
theorem UN{j:Nat}(hr:BR t=false)(ha:ET Z ρ O a t):EB Z ρ O (.Compare a [.IsNot] [.Constant .none j p1] pos) (!Er t):=As NA (Ae _) (fun Φ p H v w Q ok r1 r2 q=>by
 refine⟨r2.non_inv,?_⟩
 have e:decide (v=V.non)=Er t:=by
  cases r1<;>first|rfl|cases hr
 rw[e]
 exact q _ H _ O p (.refl ok) (.bl _)) ha BN
end
def Aj(ns:List Int):T:=.tup (ns.map T.int)
theorem LW:∀{ns ms:List Int},PyData.eqvAll (dTs (ns.map T.int)) (dTs (ms.map T.int))=decide (ns=ms)
 | [],[]=>rfl
 | [],_::_=>rfl
 |_::_,[]=>rfl
 |n::ns,m::ms=>by
  show((n==m)&&PyData.eqvAll (dTs (ns.map T.int)) (dTs (ms.map T.int)))=_
  rw[LW,Bool.eq_iff_iff]
  simp
theorem DU:∀{ns:List Int},rdBs (ns.map T.int)=true
 | []=>rfl
 |n::ns=>by
  show(CJ (.int n)&&rdBs (ns.map T.int))=true
  rw[DU,CJ];rfl
theorem Rj{ns:List Int}:CJ (Aj ns)=true:=by unfold Aj;rw[CJ];exact DU
theorem Iz:∀{L:List (List Int)},rdBs (L.map Aj)=true
 | []=>rfl
 |x::L=>by
  show(CJ (Aj x)&&rdBs (L.map Aj))=true
  rw[Rj,Iz];rfl
theorem DV:∀{ns:List Int},PyData.depthAll (dTs (ns.map T.int))≤1
 | []=>by simp[dTs,PyData.depthAll]
 |n::ns=>by
  have:=DV (ns:=ns)
  simp only[List.map_cons,dTs,PyData.depthAll,dT,PyData.depth]
  omega
end L2.TL
namespace K18
open PySem L2 L2.TL PySem.Spec PyProof.Rows Gr
def FF(fs:List (Option Nat)):List Int:=(fs.filter Option.isSome).map fun x=> ((x.getD 0:Nat):Int)
theorem Hi:∀{fs:List (Option Nat)},(fs.filter Option.isSome).map AW=(FF fs).map T.int
 | []=>rfl
 |none::fs=>Hi (fs:=fs)
 |some d::fs=>by
  show T.int (d:Int)::(fs.filter Option.isSome).map AW=T.int (d:Int)::(FF fs).map T.int
  rw[Hi]
theorem UO{fs:List (Option Nat)}{z:Int}:z∈FF fs↔∃(i d:Nat),fs[i]?=some (some d)∧z=d:=by
 unfold FF
 rw[List.mem_map]
 constructor
 ·rintro⟨x,hx,rfl⟩
  obtain⟨h1,h2⟩:=List.mem_filter.mp hx
  cases x with
  |none=>cases h2
  |some d=>
   obtain⟨i,hi⟩:=List.getElem?_of_mem h1
   exact⟨i,d,hi,rfl⟩
 ·rintro⟨i,d,h,rfl⟩
  exact⟨some d,List.mem_filter.mpr ⟨List.mem_of_getElem? h,rfl⟩,rfl⟩
section
variable{P:Program}{w:World}{K:PySem.W.Frag}{mg:Str→Option Value}{base:Heap}{CP CL:Addr}
end
end K18
namespace StT
open PySem PySem.SetTable PyProof.Rows
section
variable{prog:Program}{w:World}{A:Around}{E:Value→Shared→Prop}{s:Shared}
variable{a:Addr}{xs:List (Int×Tok)}{o:Obj}{es:Array (Int×Value)}{ep:Nat}{t:SetTable}
end
section
variable{prog:Program}{w:World}{A:Around}{E:Value→Shared→Prop}{s:Shared}
variable{a:Addr}{xs:List (Int×Tok)}{o:Obj}{es:Array (Int×Value)}{ep:Nat}{t:SetTable}
end
section
variable{prog:Program}{w:World}{A:Around}{E:Value→Shared→Prop}{s:Shared}
end
open PySem.Calls PySem.W
section
variable{prog:Program}{w:World}{A:Around}{E:Value→Shared→Prop}{s:Shared}
end
end StT
namespace L2
open PySem PySem.Spec PySem.Calls PyProof.Rows
section
variable{X:Cx}
end
end L2
namespace L2.TL
open PySem PySem.Spec PySem.Calls PyProof.Rows
section
variable{Z:Zx}{ρ:List (Option T)}{O:AG}{e:Expr}{Φ:BK}{pos p p1 pos1:Pos}
end
end L2.TL
namespace K18
open PySem L2 L2.TL PySem.Spec PyProof.Rows Gr
def AK(ps:List (Int×Int))(x:Int):List Int:=(ps.filter fun p=>decide (x∈[p.1,p.2])).map fun p=>p.1+p.2-x
theorem By{ps:List (Int×Int)}{x v:Int}:v∈AK ps x↔Adj ps x v:=by
 unfold AK
 rw[List.mem_map]
 constructor
 ·rintro⟨p,hp,rfl⟩
  obtain⟨h1,h2⟩:=List.mem_filter.mp hp
  have h2:x=p.1∨x=p.2:=by simpa using h2
  rcases h2 with h|h
  ·refine .inl ?_
   have e:(x,p.1+p.2-x)=p:=Prod.ext h (by show p.1+p.2-x=p.2;omega)
   rw[e];exact h1
  ·refine .inr ?_
   have e:(p.1+p.2-x,x)=p:=Prod.ext (by show p.1+p.2-x=p.1;omega) h
   rw[e];exact h1
 ·rintro(h|h)
  ·exact⟨_,List.mem_filter.mpr ⟨h,by simp⟩,by show x+v-x=v;omega⟩
  ·exact⟨_,List.mem_filter.mpr ⟨h,by simp⟩,by show v+x-x=v;omega⟩
section
variable{P:Program}{w:World}{K:PySem.W.Frag}{mg:Str→Option Value}{base:Heap}
variable{f:Addr}{cdv:Value}{A:Around}{outer:List Env}{s:Shared}{H:Hp}{E:XK}{O:AG}{Ξ:Value→AG→Prop}{n:Int}{ps:List (Int×Int)}{S bs:List Int}{l:Addr}
end
end K18
namespace L2.TL
open PySem PySem.Spec PyProof.Rows
section
variable{Z:Zx}{ρ:List (Option T)}{O:AG}{e:Expr}{Φ:BK}{pos p:Pos}{ts:List T}
theorem PN(m:Z.X.mg "list" =none)(h:ET Z ρ O e (.lst ts))(q:∀a,O a=none→Φ (.raw (.ref a)) (Ab O a ts))(hg:Gl Z.X "list":=by rfl)(he:starEach [e] Z.X.env=(false,eval e Z.X.env)::starEach [] Z.X.env:=by rfl):WE Z ρ O (.Call (.Name "list" p) [e] [] pos) Φ:=
 Du HD m Qn (AJ h AC he _ (fun H vs Q ok r k=>by
  obtain⟨v,rfl,r1⟩:=r.one_inv
  obtain⟨a,xs,rfl,h1,_,r1⟩:=r1.lst_inv
  exact⟨a,xs,rfl,.inl (.inl (.inl h1)),fun p hp=>k _ _ _ _ (q p (ok.none_of hp)) (.newO ok hp r1) (.raw _)⟩)) hg (by decide) (by decide) he
end
end L2.TL
namespace K18
open PySem L2 L2.TL PySem.Spec PyProof.Rows GrR
def LX:List Int→Option Int
 | []=>none
 |x::xs=>some (match LX xs with|none=>x|some m=>min x m)
theorem GT:∀(ns:List Int),Fh ns (LX ns)
 | []=>rfl
 |x::xs=>by
  have h:=GT xs
  show Fh (x::xs) (some (match LX xs with|none=>x|some m=>min x m))
  cases e:LX xs with
  |none=>
   rw[e] at h
   rw[show xs=[] from h]
   exact⟨by simp,fun n hn=>by rw[List.mem_singleton.mp hn];exact Int.le_refl _⟩
  |some m=>
   rw[e] at h
   refine⟨?_,fun n hn=>?_⟩
   ·rcases Int.le_total x m with hx|hx
    ·show min x m∈_
     rw[Int.min_eq_left hx];simp
    ·show min x m∈_
     rw[Int.min_eq_right hx];exact List.mem_cons_of_mem _ h.1
   ·rcases List.mem_cons.mp hn with rfl|hn
    ·exact Int.min_le_left ..
    ·exact Int.le_trans (Int.min_le_right ..) (h.2 n hn)
def Hj(rows:List (List Int))(a b:Int):List (List Int):=rows.set a.toNat ((rows.getD a.toNat []).filter fun v=>decide (v≠b))
def Hk(rows:List (List Int))(a b:Int):Option Nat:=(ID (Rw (Hj rows a b)) [a] b).map (· +1)
theorem Mo{rows:List (List Int)}{a b u v:Int}(a0:0≤a)(a1:a<rows.length):Rw (Hj rows a b) u v↔Rw rows u v∧¬(u=a∧v=b):=by
 unfold Rw Hj
 have hlt:a.toNat<rows.length:=by omega
 by_cases hu:u=a
 ·subst hu
  rw[List.getD_eq_getElem?_getD,List.getElem?_set_self hlt]
  simp only[Option.getD_some,List.mem_filter,decide_eq_true_eq]
  constructor
  ·rintro⟨h0,h1,h2⟩
   exact⟨⟨h0,h1⟩,fun z=>h2 z.2⟩
  ·rintro⟨⟨h0,h1⟩,h2⟩
   exact⟨h0,h1,fun z=>h2 ⟨trivial,z⟩⟩
 ·constructor
  ·rintro⟨h0,h1⟩
   rw[List.getD_eq_getElem?_getD,List.getElem?_set_ne (by omega),←List.getD_eq_getElem?_getD] at h1
   exact⟨⟨h0,h1⟩,fun z=>hu z.1⟩
  ·rintro⟨⟨h0,h1⟩,_⟩
   refine⟨h0,?_⟩
   rw[List.getD_eq_getElem?_getD,List.getElem?_set_ne (by omega),←List.getD_eq_getElem?_getD]
   exact h1
theorem XY{n:Int}{rows:List (List Int)}{a b:Int}(rn:RowsN n rows)(a0:0≤a)(a1:a<n):RowsN n (Hj rows a b):=
 ⟨by unfold Hj;rw[List.length_set];exact rn.len,rn.n1,fun u v h=>rn.hw u v ((Mo a0 (by have:=rn.len;omega)).mp h).1⟩
def BA(n:Int)(ps:List (Int×Int)):List (List Int):=(List.range n.toNat).map fun i=>Ac ps i
theorem PP{n:Int}{ps:List (Int×Int)}:Hc n ps=EJ (BA n ps):=by
 unfold Hc BA
 show _=T.lst (((List.range n.toNat).map fun i=>Ac ps i).map fun r=>T.lst (r.map T.int))
 rw[List.map_map]
 rfl
theorem FH{n:Int}{ps:List (Int×Int)}{i:Nat}(h:(i:Int)<n):(BA n ps).getD i []=Ac ps i:=by
 unfold BA
 rw[List.getD_eq_getElem?_getD,List.getElem?_map,List.getElem?_range (by omega)]
 rfl
theorem Jx{n:Int}{ps:List (Int×Int)}(hw:Gr.FQ n ps){u v:Int}:Rw (BA n ps) u v↔Gr.Adj ps u v:=by
 constructor
 ·rintro⟨h0,h⟩
  obtain⟨i,rfl⟩:=Int.eq_ofNat_of_zero_le h0
  rw[Int.toNat_natCast] at h
  by_cases hi:(i:Int)<n
  ·rw[FH hi] at h
   exact(Bx hw).mp h
  ·unfold BA at h
   rw[List.getD_eq_getElem?_getD,List.getElem?_map,List.getElem?_eq_none (by rw[List.length_range];omega)] at h
   cases h
 ·intro a
  have hb:=a.symm.inb hw
  obtain⟨i,rfl⟩:=Int.eq_ofNat_of_zero_le hb.1
  refine⟨by omega,?_⟩
  rw[Int.toNat_natCast,FH hb.2.1]
  exact(Bx hw).mpr a
theorem GU{n:Int}{ps:List (Int×Int)}(wn:WebN n ps):RowsN n (BA n ps):=
 ⟨by have:=wn.n0;unfold BA;simp;omega,wn.n1,fun u v h=>by have:=((Jx wn.hw).mp h).inb wn.hw;exact⟨this.1,this.2.1⟩⟩
section
variable{P:Program}{w:World}{K:PySem.W.Frag}{mg:Str→Option Value}{base:Heap}{CP CL:Addr}
def VM:Cu:=MR fun ts r=>∃xs:List (Option Nat),ts=[.lst (xs.map AW)]∧xs.length≤300∧r=EY (LX (FF xs))
theorem Zl:FnScope ["numbers"] ["numbers"] (AA Jn):=⟨rfl,rfl,rfl,by decide+kernel,rfl,by decide+kernel,by decide+kernel⟩
theorem Zm:(Ak ["number"] []).Nodup:=by decide+kernel
theorem Rm{f:Addr}{fd:FuncData}(F:Fun K "least_told" "least_told" Jn f fd)(Tx:Txt mg):FnOk P w K mg base (CXe P w) 1 f fd ["numbers"] (DZ K VM):=by
 refine Ad F Zl ?_ ?_
 ·rintro ts O Φ Ξ ⟨r,⟨xs,rfl,_⟩,_⟩
  rfl
 ·rintro cdv A outer s H E O Ξ hr xf _ Φ ⟨_,⟨xs,rfl,hl,rfl⟩,q⟩
  have sb:=Aa
  refine AE (AR (ET.we (UA (GT _) Tx.nMin rfl (ET.cast (Fd ["number"] [] xs AW AW Option.isSome rfl (Br (AA Jn) ["numbers"] (by decide+kernel)) (Ar (ev 0)) (by omega) fun x hx=> ⟨[some (AW x)],fun X' Oe He is O'=>?_⟩) (by rw[Hi]))) q))
  obtain⟨cl,s',H',fp,rfl⟩:=is
  refine⟨AN 0 Zm (by decide),EB.cast (UN Hd (ev 0)) ?_,fun _=>ev 0⟩
  cases x<;>rfl
def VN:Cu:=MR fun ts r=>∃(n:Int) (rows:List (List Int)) (a b:Int),ts=[EJ rows,.int a,.int b]∧RowsN n rows∧(∀r∈rows,r.length≤300)∧(0≤a∧a<n)∧(0≤b∧b<n)∧r=AW (Hk rows a b)
def Zo:List Str:=["nears","a","b","cut","far"]
theorem Rn:FnScope Zo ["nears","a","b"] (AA UC):=⟨rfl,rfl,rfl,by decide+kernel,rfl,by decide+kernel,by decide+kernel⟩
theorem Zp:(Ak ["near"] [(("b" :Str),2)]).Nodup:=by decide+kernel
theorem XZ{f:Addr}{fd:FuncData}(F:Fun K "ring_by_tie" "ring_by_tie" UC f fd)(Tx:Txt mg)(G:FnT P w K mg base "fars_from" 1 ["nears","starts"] Nu):FnOk P w K mg base (CXe P w) 2 f fd ["nears","a","b"] (DZ K VN):=by
 refine Ad F Rn ?_ ?_
 ·rintro ts O Φ Ξ ⟨r,⟨n,rows,a,b,rfl,_⟩,_⟩
  rfl
 ·rintro cdv A outer s H E O Ξ hr xf _ Φ ⟨_,⟨n,rows,a,b,rfl,rn,hlr,ha,hb,rfl⟩,q⟩
  have sb:=Aa
  have hl:=rn.len
  have n1:=rn.n1
  obtain⟨i,rfl⟩:=Int.eq_ofNat_of_zero_le ha.1
  obtain⟨j,rfl⟩:=Int.eq_ofNat_of_zero_le hb.1
  have hi:i<rows.length:=by omega
  have hri:(rows.getD i []).length≤300:=hlr _ (by rw[List.getD_eq_getElem?_getD,List.getElem?_eq_getElem hi];exact List.getElem_mem hi)
  refine AD (AM 3 (PN Tx.nList (ev 0) fun l hlO=>?_) Rn.nd)
  refine AD (ES (ET.we (t:=.lst (((rows.getD i []).filter fun v=>decide (v≠(j:Int))).map T.int)) (Fd ["near"] [("b",2)] (rows.getD i []) T.int T.int (fun v=>decide (v≠(j:Int))) rfl (Br (AA UC) Zo (by decide+kernel)) (Ar (Bb (ev 0) (ev 1) (GS hi))) (by omega) fun x hx=> ⟨[some (.int x),some (.int (j:Int))],fun X' Oe He is O'=>?_⟩) (ET.we (ev 3) ⟨l,rfl,ET.we (ev 1) ⟨_,_,i,rfl,AF,by rw[List.length_map];exact FB hi,?_⟩⟩)))
  ·obtain⟨cl,s',H',fp,rfl⟩:=is
   refine⟨AN 0 Zp (by decide),EB.cast (Qb (ev 0) (ev 1)) ?_,fun _=>ev 0⟩
   by_cases h:x=(j:Int)<;>simp[h]
  ·rw[BJ]
   have eset:(rows.map fun r=>T.lst (r.map T.int)).set i (.lst (((rows.getD i []).filter fun v=>decide (v≠(j:Int))).map T.int))=(Hj rows (i:Int) (j:Int)).map fun r=>T.lst (r.map T.int):=by
    unfold Hj
    rw[List.map_set,Int.toNat_natCast]
   rw[eset]
   refine CI (p:=l) (n:=3) AF hlO rfl ?_
   rw[BE hlO]
   refine AD (AM 4 (Ut Ee (fun _ _=>rfl) (Af G hr xf (EA.wa (AH (ev 3) (AH (BG (ts:=[(i:Int)].map T.int) (AH (ev 1) AC) (by show 1≤sizeLine;decide)) AC)) ⟨n,Hj rows i j,[(i:Int)],rfl,XY rn ha.1 ha.2,fun z hz=>?_,fun fs al=>?_⟩))) Rn.nd)
   ·rw[List.mem_singleton.mp hz];exact ha
   ·have hlf:=al.len
    have hg:=al.get hb.1 hb.2
    rw[Int.toNat_natCast] at hg
    refine ET.we (ev 2) (Qe (t:=AW (ID (Rw (Hj rows i j)) [(i:Int)] j)) (An (by rw[List.getElem?_map,hg];rfl)) _ ?_)
    unfold Hk at q
    generalize ID (Rw (Hj rows i j)) [(i:Int)] j=x at q
    cases x with
    |none=>exact AE (AR (ET.we (Dl (x:=true) (ta:=.non) (tb:=.non) (DO (t:=.non) rfl (ev 4)) (fun _=>BN) (fun h=>by cases h)) q))
    |some d=>exact AE (AR (ET.we (Dl (x:=false) (ta:=.non) (tb:=.int ((d:Int)+1)) (DO (t:=.int (d:Int)) rfl (ev 4)) (fun h=>by cases h) (fun _=>BX (ev 4) AB)) q))
theorem Ro{n:Int}{ps:List (Int×Int)}(wn:WebN n ps):∀r∈BA n ps,r.length≤300:=fun r hr=>by
 unfold BA at hr
 obtain⟨i,_,rfl⟩:=List.mem_map.mp hr
 have:=DT (qs:=ps) (i:=i)
 have:=wn.hl
 omega
end
end K18
namespace L2.TL
open PySem PySem.Spec PyProof.Rows
section
variable{Z:Zx}{ρ:List (Option T)}{O:AG}{a:Expr}{t:T}{p1 pos:Pos}
theorem Rp{j:Nat}(hr:BR t=false)(ha:ET Z ρ O a t):ET Z ρ O (.Compare a [.Is] [.Constant .none j p1] pos) (.bl (Er t)):=Dj Pl (Ae _) (fun Φ p H v w Q ok r1 r2 q=>by
 refine⟨r2.non_inv,?_⟩
 have e:decide (v=V.non)=Er t:=by
  cases r1<;>first|rfl|cases hr
 rw[e]
 exact q _ H _ O p (.refl ok) (.bl _)) ha BN
end
end L2.TL
namespace K18
open PySem L2 L2.TL PySem.Spec PyProof.Rows GrR
def Fy(ps:List (Int×Int))(t:Int×Int):List (Int×Int):=ps.filter fun q=>decide (q≠t)
def FI(ps:List (Int×Int))(t:Int×Int):Option Nat:=(ID (Gr.Adj (Fy ps t)) [t.1] t.2).map (· +1)
theorem FJ{n:Int}{ps:List (Int×Int)}(hw:Gr.FQ n ps){a b u v:Int}:Gr.Adj (Fy ps (mm (a,b))) u v↔Gr.Adj ps u v∧¬(u=a∧v=b)∧¬(u=b∧v=a):=by
 have key:∀x y:Int,(x,y)∈Fy ps (mm (a,b))↔(x,y)∈ps∧¬(x=a∧y=b)∧¬(x=b∧y=a):=fun x y=>by
  unfold Fy
  rw[List.mem_filter,decide_eq_true_eq]
  constructor
  ·rintro⟨h,hne⟩
   have hxy:=(hw _ h).2.1
   simp only at hxy
   refine⟨h,fun⟨e1,e2⟩=>hne ?_,fun⟨e1,e2⟩=>hne ?_⟩
   ·subst e1 e2;exact Prod.ext (by show x=min x y;omega) (by show y=max x y;omega)
   ·subst e1 e2;exact Prod.ext (by show x=min y x;omega) (by show y=max y x;omega)
  ·rintro⟨h,h1,h2⟩
   refine⟨h,fun e=>?_⟩
   have e1:x=min a b:=congrArg Prod.fst e
   have e2:y=max a b:=congrArg Prod.snd e
   rcases Int.le_total a b with hab|hab
   ·exact h1 ⟨by omega,by omega⟩
   ·exact h2 ⟨by omega,by omega⟩
 unfold Gr.Adj
 rw[key,key]
 constructor
 ·rintro(⟨h,h1,h2⟩| ⟨h,h1,h2⟩)
  ·exact⟨.inl h,h1,h2⟩
  ·exact⟨.inr h,fun z=>h2 ⟨z.2,z.1⟩,fun z=>h1 ⟨z.2,z.1⟩⟩
 ·rintro⟨h|h,h1,h2⟩
  ·exact .inl ⟨h,h1,h2⟩
  ·exact .inr ⟨h,fun z=>h2 ⟨z.2,z.1⟩,fun z=>h1 ⟨z.2,z.1⟩⟩
theorem Rq{n:Int}{ps:List (Int×Int)}(wn:WebN n ps){a b:Int}(ad:Gr.Adj ps a b):Hk (BA n ps) a b=FI ps (mm (a,b)):=by
 have ha:=ad.symm.inb wn.hw
 have hl:=(GU wn).len
 have e1:ID (Rw (Hj (BA n ps) a b)) [a] b=ID (Gr.Adj (Fy ps (mm (a,b)))) [a] b:=Im fun d=>Tq
  (fun u v h=> (Mo ha.1 (by omega)).mpr ⟨(Jx wn.hw).mpr ((FJ wn.hw).mp h).1,((FJ wn.hw).mp h).2.1⟩)
  (fun u v h=>by
   obtain⟨h1,h2⟩:=(Mo ha.1 (by omega)).mp h
   by_cases hu:u=b∧v=a
   ·exact .inr hu.1
   ·exact .inl ((FJ wn.hw).mpr ⟨(Jx wn.hw).mp h1,h2,hu⟩))
 unfold Hk FI
 rw[e1]
 congr 1
 rcases Int.le_total a b with hab|hab
 ·have:mm (a,b)=(a,b):=Prod.ext (by show min a b=a;omega) (by show max a b=b;omega)
  rw[this]
 ·have:mm (a,b)=(b,a):=Prod.ext (by show min a b=b;omega) (by show max a b=a;omega)
  rw[this]
  exact Im fun d=>Nh fun u v h=>Gr.Adj.symm h
theorem VO{n:Int}{ps:List (Int×Int)}(hw:Gr.FQ n ps){p:Int×Int}(h:p∈ps):mm p=p∧mm (p.2,p.1)=p:=by
 have:=(hw _ h).2.1
 exact⟨Prod.ext (by show min p.1 p.2=p.1;omega) (by show max p.1 p.2=p.2;omega),Prod.ext (by show min p.2 p.1=p.1;omega) (by show max p.2 p.1=p.2;omega)⟩
section
variable{P:Program}{w:World}{K:PySem.W.Frag}{mg:Str→Option Value}{base:Heap}{CP CL:Addr}
end
end K18
namespace L2.TL
open PySem PySem.Spec PyProof.Rows
section
variable{Z:Zx}{ρ:List (Option T)}{O:AG}{e lo:Expr}{p2 pos:Pos}{ts:List T}{i:Int}
end
end L2.TL
namespace K18
open PySem L2 L2.TL PySem.Spec PyProof.Rows Gr
def IE(b:Int):Nat→Int
 |0=>0
 |n+1=>IE b n+b^n
def grown(d:Int)(g:Nat):Int:=if g%2=1 then 1+d*IE (d-1) (g/2) else 2*IE (d-1) (g/2)
section
variable{P:Program}{w:World}{K:PySem.W.Frag}{mg:Str→Option Value}{base:Heap}{CN CE CP CL:Addr}
def UP(CN:Addr)(a b:Int):Cu:=fun ts O Φ Ξ=>∃t,ts=[t]∧BR t=false∧(Hu t a b=true→Φ .non O)∧(Hu t a b=false→Ξ (.ref CN) O)
theorem Xa:FnScope ["d"] ["d"] (AA RH):=⟨rfl,rfl,rfl,by decide+kernel,rfl,by decide+kernel,by decide+kernel⟩
theorem UQ{f:Addr}{fd:FuncData}(F:Fun K "need_ties" "need_ties" RH f fd)(Tx:Txt mg)(G:FnT P w K mg base "need_number" 2 ["thing","least","most"] (Rb CN)):FnOk P w K mg base (CXe P w) 3 f fd ["d"] (DZ K (UP CN 2 15)):=by
 refine Ad F Xa ?_ ?_
 ·rintro ts O Φ Ξ ⟨t,rfl,_⟩
  rfl
 ·rintro cdv A outer s H E O Ξ hr xf _ Φ ⟨t,rfl,ht,q1,q2⟩
  exact AE (BL (Af G hr xf (EA.wa (AH (ev 0) (AH (Ek Tx.iLT) (AH (Ek Tx.iMT) AC))) ⟨t,2,15,rfl,ht,q1,q2⟩)))
theorem Xb:FnScope ["g"] ["g"] (AA RI):=⟨rfl,rfl,rfl,by decide+kernel,rfl,by decide+kernel,by decide+kernel⟩
theorem UR{f:Addr}{fd:FuncData}(F:Fun K "need_ring" "need_ring" RI f fd)(Tx:Txt mg)(G:FnT P w K mg base "need_number" 2 ["thing","least","most"] (Rb CN)):FnOk P w K mg base (CXe P w) 3 f fd ["g"] (DZ K (UP CN 3 16)):=by
 refine Ad F Xb ?_ ?_
 ·rintro ts O Φ Ξ ⟨t,rfl,_⟩
  rfl
 ·rintro cdv A outer s H E O Ξ hr xf _ Φ ⟨t,rfl,ht,q1,q2⟩
  exact AE (BL (Af G hr xf (EA.wa (AH (ev 0) (AH (Ek Tx.iLR) (AH (Ek Tx.iMR) AC))) ⟨t,3,16,rfl,ht,q1,q2⟩)))
def Xc(CN:Addr):Cu:=fun ts O Φ Ξ=>∃t u,ts=[t,u]∧BR t=false∧BR u=false∧(Hu t 2 15=true→Hu u 3 16=true→Φ .non O)∧(Hu t 2 15=false∨Hu u 3 16=false→Ξ (.ref CN) O)
theorem bh:FnScope ["d","g"] ["d","g"] (AA bg):=⟨rfl,rfl,rfl,by decide+kernel,rfl,by decide+kernel,by decide+kernel⟩
theorem Zq{f:Addr}{fd:FuncData}(F:Fun K "need_ties_and_ring" "need_ties_and_ring" bg f fd)(G:FnT P w K mg base "need_ties" 3 ["d"] (UP CN 2 15))(G2:FnT P w K mg base "need_ring" 3 ["g"] (UP CN 3 16)):FnOk P w K mg base (CXe P w) 4 f fd ["d","g"] (DZ K (Xc CN)):=by
 refine Ad F bh ?_ ?_
 ·rintro ts O Φ Ξ ⟨t,u,rfl,_⟩
  rfl
 ·rintro cdv A outer s H E O Ξ hr xf _ Φ ⟨t,u,rfl,ht,hu,q1,q2⟩
  refine AD (BL (Af G hr xf (EA.wa (AH (ev 0) AC) ⟨t,rfl,ht,fun h=>?_,fun h=>q2 (.inl h)⟩)))
  exact AE (BL (Af G2 hr xf (EA.wa (AH (ev 1) AC) ⟨u,rfl,hu,fun h2=>q1 h h2,fun h=>q2 (.inr h)⟩)))
def VP:Cu:=MR fun ts r=>∃(b:Int) (m:Nat),ts=[.int b,.int (m:Int)]∧(0≤b∧b<100)∧m≤100∧r=.int (IE b m)
def bj:List Str:=["base","many","total","power","step"]
theorem JA:FnScope bj ["base","many"] (AA XH):=⟨rfl,rfl,rfl,by decide+kernel,rfl,by decide+kernel,by decide+kernel⟩
theorem Xd{f:Addr}{fd:FuncData}(F:Fun K "sum_of_powers" "sum_of_powers" XH f fd)(Tx:Txt mg):FnOk P w K mg base (CXe P w) 1 f fd ["base","many"] (DZ K VP):=by
 refine Ad F JA ?_ ?_
 ·rintro ts O Φ Ξ ⟨r,⟨b,m,rfl,_⟩,_⟩
  rfl
 ·rintro cdv A outer s H E O Ξ hr xf _ Φ ⟨_,⟨b,m,rfl,hb,hm,rfl⟩,q⟩
  refine AD (AM 2 (ET.we AB ?_) JA.nd)
  refine AD (AM 3 (ET.we AB ?_) JA.nd)
  refine AD (Au AX.own rfl (EI.wi (Ag Tx.nRange (ev 1) ⟨by omega,by omega⟩) ⟨fun i ρ' O'=>∃v4,ρ'=[some (.int b),some (.int (m:Int)),some (.int (IE b i)),some (.int (b^i)),v4]∧O=O',⟨none,by rw[Int.pow_zero];rfl,rfl⟩,?_,?_⟩))
  ·rintro i t _ _ e ⟨v4,rfl,rfl⟩
   refine⟨[some (.int b),some (.int (m:Int)),some (.int (IE b i)),some (.int (b^i)),some t],AN 4 JA.nd (by show 4<5;decide),?_⟩
   refine AD (MU 2 Pf rfl (ET.we (ev 3) (fun H v w Q ok r1 r2 acc=> ⟨_,_,r1.int_inv,r2.int_inv,acc _ H (.int (IE b (i+1))) _ ?_ (.refl ok) (.int _)⟩)) JA.nd)
   refine AE (MU 3 WQ rfl (ET.we (ev 0) (fun H v w Q ok r1 r2 acc=> ⟨_,_,r1.int_inv,r2.int_inv,.inr ⟨by omega,by omega⟩,acc _ H (.int (b^(i+1))) _ ⟨_,rfl,rfl⟩ (.refl ok) (by rw[Int.pow_succ];exact .int _)⟩)) JA.nd)
  ·rintro _ _ ⟨v4,rfl,rfl⟩
   refine AE (AR (ET.we (t:=.int (IE b m)) (ev 2 ?_) q))
   rw[AY,Int.toNat_natCast]
   rfl
def FK:Cu:=MR fun ts r=>∃(d:Int) (g:Nat),ts=[.int d,.int (g:Int)]∧(1≤d∧d<100)∧g≤100∧r=.int (grown d g)
theorem OB:FnScope ["d","g","powers"] ["d","g"] (AA Mh):=⟨rfl,rfl,rfl,by decide+kernel,rfl,by decide+kernel,by decide+kernel⟩
theorem Rr{f:Addr}{fd:FuncData}(F:Fun K "grown_places" "grown_places" Mh f fd)(G:FnT P w K mg base "sum_of_powers" 1 ["base","many"] VP):FnOk P w K mg base (CXe P w) 2 f fd ["d","g"] (DZ K FK):=by
 refine Ad F OB ?_ ?_
 ·rintro ts O Φ Ξ ⟨r,⟨d,g,rfl,_⟩,_⟩
  rfl
 ·rintro cdv A outer s H E O Ξ hr xf _ Φ ⟨_,⟨d,g,rfl,hd,hg,rfl⟩,q⟩
  refine AD (AM 2 (ET.we (BP G hr xf (AH (CH (ev 0) AB) (AH (Em (ev 1) AB ⟨by decide,by decide⟩) AC)) ⟨d-1,g/2,rfl,⟨by omega,by omega⟩,by omega,rfl⟩) ?_) OB.nd)
  refine AE (AR (ET.we (ET.cast (Dl (Ce (Dk (ev 1) AB (by decide)) AB) (fun _=>BX AB (EN (ev 0) (ev 2) (.inl ⟨by omega,by omega⟩))) (fun _=>EN AB (ev 2) (.inl ⟨by decide,by decide⟩))) ?_) q))
  unfold grown
  by_cases h:g%2=1
  ·rw[if_pos h,decide_eq_true (by omega:(g:Int)%2=1)];rfl
  ·rw[if_neg h,decide_eq_false (by omega:¬(g:Int)%2=1)];rfl
end
open GrR
variable{n:Int}{ps:List (Int×Int)}{s:Nat}
theorem Ck:∀u v,Gr.Adj ps u v→Gr.Adj ps v u:=fun _ _ h=>h.symm
theorem Cm:∀u v,v∈AK ps u↔Gr.Adj ps u v:=fun _ _=>By
theorem Bc(hw:Gr.FQ n ps){i:Nat}:Ac ps i=AK ps (i:Int):=by
 unfold Ac AK
 induction ps with
 |nil=>rfl
 |cons p ps ih=>
  have ih:=ih fun q hq=>hw q (List.mem_cons_of_mem _ hq)
  have hp:=hw p (by simp)
  by_cases h1:p.1=(i:Int)
  ·rw[List.filterMap_cons,if_pos h1,List.filter_cons,if_pos (by simp[h1]),List.map_cons,←ih,show p.1+p.2- (i:Int)=p.2 by omega]
  ·by_cases h2:p.2=(i:Int)
   ·rw[List.filterMap_cons,if_neg h1,if_pos h2,List.filter_cons,if_pos (by simp[h2]),List.map_cons,←ih,show p.1+p.2- (i:Int)=p.1 by omega]
   ·rw[List.filterMap_cons,if_neg h1,if_neg h2,List.filter_cons,if_neg (by simp only[List.mem_cons,List.not_mem_nil,or_false,decide_eq_true_eq];exact fun z=>z.elim (fun z=>h1 z.symm) (fun z=>h2 z.symm))]
    exact ih
theorem US(hw:Gr.FQ n ps){u:Int}(h:u<0):AK ps u=[]:=by
 cases e:AK ps u with
 |nil=>rfl
 |cons v l=>
  have:Gr.Adj ps u v:=By.mp (by rw[e];simp)
  have:=(this.symm.inb hw).1
  omega
theorem Dx(hw:Gr.FQ n ps)(hp:ps.Pairwise Kx):∀u,(AK ps u).Pairwise (· < ·):=fun u=>by
 by_cases h:u<0
 ·rw[US hw h];exact List.Pairwise.nil
 ·obtain⟨i,rfl⟩:=Int.eq_ofNat_of_zero_le (show 0≤u by omega)
  rw[←Bc hw]
  exact Jt hw hp
theorem Bp(hw:Gr.FQ n ps):∀u v,Gr.Adj ps u v→0≤v∧v<n:=fun u v h=> ⟨(h.inb hw).1,(h.inb hw).2.1⟩
theorem VQ(hw:Gr.FQ n ps)(hp:ps.Pairwise Kx):∀u,(AK ps u).Nodup:=fun u=>List.Pairwise.imp (fun h=>by omega) (Dx hw hp u)
def Da(ps:List (Int×Int)):Option Int:=LX (FF (ps.map fun p=>FI ps p))
theorem LY(hw:Gr.FQ n ps){p:Int×Int}(hp:p∈ps):Gr.Adj (Fy ps p)=VF (Gr.Adj ps) p.1 p.2:=by
 funext u v
 have:=FJ hw (a:=p.1) (b:=p.2) (u:=u) (v:=v)
 rw[(VO hw hp).1] at this
 exact propext this
theorem LZ{z:Int}:z∈FF (ps.map fun p=>FI ps p)↔∃p∈ps,∃d:Nat,ID (Gr.Adj (Fy ps p)) [p.1] p.2=some d∧z=d+1:=by
 rw[UO]
 constructor
 ·rintro⟨i,d,h,rfl⟩
  rw[List.getElem?_map] at h
  cases e:ps[i]? with
  |none=>rw[e] at h;cases h
  |some p=>
   rw[e] at h
   have h:FI ps p=some d:=by simpa using h
   unfold FI at h
   cases e2:ID (Gr.Adj (Fy ps p)) [p.1] p.2 with
   |none=>rw[e2] at h;cases h
   |some d'=>
    rw[e2] at h
    have:d'+1=d:=by simpa using h
    exact⟨p,List.mem_of_getElem? e,d',e2,by omega⟩
 ·rintro⟨p,hp,d,h,rfl⟩
  obtain⟨i,hi,rfl⟩:=List.getElem_of_mem hp
  refine⟨i,d+1,?_,by omega⟩
  rw[List.getElem?_map,List.getElem?_eq_getElem hi]
  unfold FI
  simp[h]
theorem Jy(hw:Gr.FQ n ps){r:List Int}(h:Ring (Gr.Adj ps) r):∃m,Da ps=some m∧m≤r.length:=by
 obtain⟨a,b,hab,w⟩:=XG h
 have key:∃z,z∈FF (ps.map fun p=>FI ps p)∧z≤r.length:=by
  have hl:=h.len
  have fin:∀p∈ps,W (VF (Gr.Adj ps) p.1 p.2) [p.1] (r.length-1) p.2→∃z,z∈FF (ps.map fun p=>FI ps p)∧z≤r.length:=fun p hp w=>by
   obtain⟨d,hd,hD⟩:=w.least
   rw[←LY hw hp] at hD
   exact⟨d+1,LZ.mpr ⟨p,hp,d,Bj hD,rfl⟩,by omega⟩
  have sy:∀u v,VF (Gr.Adj ps) a b u v→VF (Gr.Adj ps) a b v u:=fun u v c=> ⟨c.1.symm,fun e=>c.2.2 ⟨e.2,e.1⟩,fun e=>c.2.1 ⟨e.2,e.1⟩⟩
  have sw:∀u v,VF (Gr.Adj ps) a b u v→VF (Gr.Adj ps) b a u v:=fun u v c=> ⟨c.1,c.2.2,c.2.1⟩
  rcases hab with hm|hm
  ·exact fin (a,b) hm (w.rev sy)
  ·exact fin (b,a) hm (w.mono sw)
 obtain⟨z,hz,hle⟩:=key
 have hm:=GT (FF (ps.map fun p=>FI ps p))
 unfold Da
 cases e:LX (FF (ps.map fun p=>FI ps p)) with
 |none=>rw[e] at hm;have hm:FF (ps.map fun p=>FI ps p)=[]:=hm;rw[hm] at hz;cases hz
 |some m=>
  rw[e] at hm
  exact⟨m,rfl,Int.le_trans (hm.2 z hz) hle⟩
theorem Xe(hw:Gr.FQ n ps){m:Int}(h:Da ps=some m):∃r,Ring (Gr.Adj ps) r∧(r.length:Int)=m:=by
 have hm:=GT (FF (ps.map fun p=>FI ps p))
 unfold Da at h
 rw[h] at hm
 obtain⟨p,hp,d,hd,rfl⟩:=LZ.mp hm.1
 rw[LY hw hp] at hd
 obtain⟨r,h1,h2⟩:=Ts Ck (fun u hu=> (hu.inb hw).2.2 rfl) (show Gr.Adj ps p.1 p.2 from .inl hp) (Et.mp hd)
 exact⟨r,h1,by rw[h2];rfl⟩
theorem Rt(hw:Gr.FQ n ps){r:List Int}(h:Ring (Gr.Adj ps) r):(r.length:Int)≤n∧3≤r.length:=by
 have:=Gr.EV (n:=n) h.nd (GO (Bp hw) h)
 have:=h.len
 omega
theorem CY(hw:Gr.FQ n ps){m:Int}(h:Da ps=some m):∃k:Nat,m=k∧3≤k∧(k:Int)≤n∧(∀M,Ring (Gr.Adj ps) M→k≤M.length)∧∃r,Ring (Gr.Adj ps) r∧r.length=k:=by
 obtain⟨r,h1,h2⟩:=Xe hw h
 have hl:=Rt hw h1
 refine⟨r.length,h2.symm,hl.2,hl.1,fun M hM=>?_,r,h1,rfl⟩
 obtain⟨m',e,hle⟩:=Jy hw hM
 rw[h] at e
 cases e
 omega
theorem Ru(hw:Gr.FQ n ps)(h:Da ps=none)(hs:3≤s):DP (Gr.Adj ps) (AK ps) s n.toNat=[]:=by
 cases e:DP (Gr.Adj ps) (AK ps) s n.toNat with
 |nil=>rfl
 |cons r l=>
  obtain⟨h1,_⟩:=(Cy Ck Cm (Bp hw) hs).mp (by rw[e];exact List.mem_cons_self ..)
  obtain⟨m,h2,_⟩:=Jy hw h1
  rw[h] at h2;cases h2
theorem Rv(hw:Gr.FQ n ps){m:Int}(h:Da ps=some m)(hs:3≤s)(hm:(s:Int)<m):DP (Gr.Adj ps) (AK ps) s n.toNat=[]:=by
 cases e:DP (Gr.Adj ps) (AK ps) s n.toNat with
 |nil=>rfl
 |cons r l=>
  obtain⟨h1,h3⟩:=(Cy Ck Cm (Bp hw) hs).mp (by rw[e];exact List.mem_cons_self ..)
  obtain⟨m',h2,hle⟩:=Jy hw h1
  rw[h] at h2;cases h2;omega
theorem Rx(hw:Gr.FQ n ps)(hp:ps.Pairwise Kx)(hn:n≤32){k:Nat}(h:Da ps=some (k:Int)):DP (Gr.Adj ps) (AK ps) k n.toNat≠[]∧DP (Gr.Adj ps) (AK ps) k n.toNat=Tu (Gr.Adj ps) (AK ps) k n.toNat:=by
 obtain⟨k',e,h3,hkn,hl,r,hr,hrl⟩:=CY hw h
 have:k'=k:=by omega
 subst this
 refine⟨fun z=>?_,Tv Ck Cm (Bp hw) hn (Dx hw hp) h3 hl⟩
 have:=(Cy (s:=k') Ck Cm (Bp hw) h3).mpr ⟨hr,hrl⟩
 rw[z] at this
 cases this
theorem Jz(hw:Gr.FQ n ps)(hp:ps.Pairwise Kx)(hn:n≤20){c:Nat→Int→Bool}{p:Int}(h:0≤p∧p<n){k:Nat}(least:∀M,Ring (Gr.Adj ps) M→s≤M.length)(hk:k<s):(Ew (AK ps) c p k).length≤8000:=
 Tw Ck Cm (Dx hw hp) (Bp hw) hn h least hk
end K18
namespace L2
open PySem PySem.Spec PySem.Calls PyProof.Rows
section
variable{X:Cx}
end
end L2
namespace L2.TL
open PySem PySem.Spec PySem.Calls PyProof.Rows
section
variable{Z:Zx}{ρ:List (Option T)}{O:AG}{e:Expr}{p pos:Pos}{ns:List Int}
end
end L2.TL
namespace K18
open PySem L2 L2.TL PySem.Spec PyProof.Rows GrR
theorem Zr{n:Int}{ps:List (Int×Int)}(wn:WebN n ps):LX (FF (ps.map fun p=>Hk (BA n ps) p.1 p.2))=Da ps:=by
 unfold Da
 congr 2
 refine List.map_congr_left fun p hp=>?_
 rw[Rq wn (show Gr.Adj ps p.1 p.2 from .inl hp)]
 exact congrArg (FI ps) (VO wn.hw hp).1
theorem Zs:(Ak ["a","b"] [(("nears" :Str),1)]).Nodup:=by decide+kernel
section
variable{P:Program}{w:World}{K:PySem.W.Frag}{mg:Str→Option Value}{base:Heap}
def KA:Cu:=MR fun ts r=>∃n ps,ts=[BI n ps]∧WebN n ps∧r=EY (Da ps)
theorem OC:FnScope ["web","nears"] ["web"] (AA Jo):=⟨rfl,rfl,rfl,by decide+kernel,rfl,by decide+kernel,by decide+kernel⟩
theorem Ry{f:Addr}{fd:FuncData}(F:Fun K "shortest" "shortest" Jo f fd)(G:FnT P w K mg base "nears_of" 1 ["web"] Jr)(Gr:FnT P w K mg base "ring_by_tie" 2 ["nears","a","b"] VN)(Gl:FnT P w K mg base "least_told" 1 ["numbers"] VM):FnOk P w K mg base (CXe P w) 3 f fd ["web"] (DZ K KA):=by
 refine Ad F OC ?_ ?_
 ·rintro ts O Φ Ξ ⟨r,⟨n,ps,rfl,_⟩,_⟩
  rfl
 ·rintro cdv A outer s H E O Ξ hr xf _ Φ ⟨_,⟨n,ps,rfl,wn,rfl⟩,q⟩
  have sb:=Aa
  have hl:=wn.hl
  refine AD (AM 1 (ET.we (BP G (hr.mono (by decide)) xf (AH (ev 0) AC) ⟨n,ps,rfl,wn.n0,wn.n1,wn.hw,wn.hl,rfl⟩) ?_) OC.nd)
  rw[PP,←Zr wn] at*
  refine AE (AR (ET.we (BP Gl (hr.mono (by decide)) xf (AH (Dn ["a","b"] [("nears",1)] ps AI (fun p=>AW (Hk (BA n ps) p.1 p.2)) rfl (Br (AA Jo) ["web","nears"] (by decide+kernel)) (Fc (Ao (ev 0) AB)) (by omega) fun p hp=> ⟨[some (.int p.1),some (.int p.2),some (EJ (BA n ps))],fun X' Oe He is O'=>?_⟩) AC) ⟨ps.map fun p=>Hk (BA n ps) p.1 p.2,by rw[List.map_map];rfl,by rw[List.length_map];omega,rfl⟩) q))
  obtain⟨cl,s',H',fp,rfl⟩:=is
  have hb:=wn.hw p hp
  exact⟨BZ 0 1 rfl Zs (by decide) (by decide),BP Gr hr DM (AH (ev 2) (AH (ev 0) (AH (ev 1) AC))) ⟨n,BA n ps,p.1,p.2,rfl,GU wn,Ro wn,by omega,by omega,rfl⟩⟩
def KB(c:Int→Bool)(r xs:List Int):List (List Int):=(xs.filter fun v=>c v&&!decide (v∈r)).map fun v=>r++[v]
theorem Fo{c:Int→Bool}{r xs:List Int}{v:Int}:KB c r (xs++[v])=KB c r xs++(if(c v&&!decide (v∈r))=true then[r++[v]] else[]):=by
 unfold KB
 rw[List.filter_append,List.map_append]
 congr 1
 by_cases h:(c v&&!decide (v∈r))=true
 ·rw[if_pos h,List.filter_cons,if_pos h];rfl
 ·rw[if_neg h,List.filter_cons,if_neg h];rfl
theorem Rz{c:Int→Bool}{r xs:List Int}{i:Nat}:(KB c r (xs.take i)).length≤(KB c r xs).length:=by
 unfold KB
 rw[List.length_map,List.length_map]
 exact((List.take_sublist i xs).filter _).length_le
theorem La{nb:Int→List Int}{c:Int→Bool}{rs:List (List Int)}{r:List Int}:LJ nb c (rs++[r])=LJ nb c rs++KB c r (nb (lst r)):=by
 unfold LJ
 rw[List.flatMap_append]
 simp only[List.flatMap_cons,List.flatMap_nil,List.append_nil]
 rfl
theorem UT{nb:Int→List Int}{c:Int→Bool}{rs:List (List Int)}{j:Nat}{r:List Int}(h:rs[j]?=some r)(i:Nat):(LJ nb c (rs.take j)).length+(KB c r ((nb (lst r)).take i)).length≤(LJ nb c rs).length:=by
 have e:rs=rs.take j++[r]++rs.drop (j+1):=by
  obtain⟨hj,rfl⟩:=List.getElem?_eq_some_iff.mp h
  rw[List.append_assoc,List.singleton_append,List.getElem_cons_drop,List.take_append_drop]
 have h1:(LJ nb c rs).length=(LJ nb c (rs.take j++[r])).length+(LJ nb c (rs.drop (j+1))).length:=by
  conv=>lhs;rw[e]
  unfold LJ
  rw[List.flatMap_append,List.length_append]
 rw[h1,La,List.length_append]
 have:=Rz (c:=c) (r:=r) (xs:=nb (lst r)) (i:=i)
 omega
theorem Hl:(9000000:Nat)<sizeLine:=by decide
theorem OD{r:List Int}(h:r≠[]):atI (r.map T.int) (-1)=some (.int (lst r)):=by
 obtain⟨M,e⟩:=List.getLast?_eq_some_iff.mp (Bn h)
 generalize lst r=v at*
 subst e
 rw[List.map_append]
 exact Pq _ _
theorem OE{r:List Int}(h:r≠[]):lst r∈r:=List.mem_of_getLast? (Bn h)
end
structure WebR(n:Int)(ps:List (Int×Int)):Prop where
 wn:WebN n ps
 hp:ps.Pairwise Kx
 n0:1≤n
 n1:n≤20
theorem SA{n:Int}{ps:List (Int×Int)}(hw:Gr.FQ n ps){c:Nat→Int→Bool}{p:Int}(hp:0≤p∧p<n){k:Nat}{r:List Int}(h:r∈Ew (AK ps) c p k):r≠[]∧r.length=k+1∧∀z∈r,0≤z∧z<n:=by
 have w1:=((CV Cm).mp h).len
 exact⟨(fun z=>by rw[z] at w1;cases w1),w1,RF Cm (Bp hw) hp h⟩
section
variable{P:Program}{w:World}{K:PySem.W.Frag}{mg:Str→Option Value}{base:Heap}
end
end K18
namespace SrtG
open PySem PySem.Calls PySem.W PyProof.Rows
def Lb(h:Heap)(v:Value)(r:List Int):Prop:=∃x o xs n,v=.ref x∧h.get? x=some o∧o.cls=.type "tuple"∧o.data=.seq (List.toArray xs) n∧IntsAre xs r
def Xf:Value→Option Int
 | .int a _=>some a
 |_=>none
theorem OF:∀{vs:List Value} {ns:List Int},IntsAre vs ns→vs.filterMap Xf=ns
 |_,_,.nil=>rfl
 |_,_,.cons n t r=>by rw[List.filterMap_cons];show n::_=_;rw[OF r]
def Zt(h:Heap)(v:Value):Int:=match v with
  | .ref x=>match h.get? x with
    |some o=>match o.data with
     | .seq xs _=>GrR.rk (xs.toList.filterMap Xf)
     |_=>0
    |_=>0
  |_=>0
theorem Dp{h:Heap}{v:Value}{r:List Int}(p:Lb h v r):Zt h v=GrR.rk r:=by
 obtain⟨x,o,xs,n,e1,e2,_,e3,e4⟩:=p
 unfold Zt
 rw[e1]
 dsimp only
 rw[e2]
 dsimp only
 rw[e3]
 show GrR.rk (xs.filterMap Xf)=_
 rw[OF e4]
theorem Ea:∀(r:List Int) (a:Int),r.foldl (fun a v=>a*32+v) a=a*32^r.length+GrR.rk r
 | [],a=>by show a=a*1+0;omega
 |v::r,a=>by
  show r.foldl (fun a v=>a*32+v) (a*32+v)=_
  have e:GrR.rk (v::r)=v*32^r.length+GrR.rk r:=by
   show r.foldl (fun a v=>a*32+v) (0*32+v)=_
   rw[Ea r,Int.zero_mul,Int.zero_add]
  rw[Ea r,e,List.length_cons,Int.pow_succ,Int.add_mul,Int.mul_comm (32^r.length) 32,←Int.mul_assoc,Int.add_assoc]
theorem DW{v:Int}{r:List Int}:GrR.rk (v::r)=v*32^r.length+GrR.rk r:=by
 show r.foldl (fun a v=>a*32+v) (0*32+v)=_
 rw[Ea r,Int.zero_mul,Int.zero_add]
theorem SB:∀{r:List Int},(∀z∈r,0≤z∧z<32)→0≤GrR.rk r∧GrR.rk r<32^r.length
 | [],_=>by show(0:Int)≤0∧(0:Int)<1;omega
 |v::r,h=>by
  have h1:=h v (by simp)
  have h2:=SB (r:=r) fun z hz=>h z (List.mem_cons_of_mem _ hz)
  rw[DW,List.length_cons,Int.pow_succ]
  have hp:(0:Int)<32^r.length:=Int.pow_pos (by decide)
  have e1:=Int.mul_nonneg h1.1 (Int.le_of_lt hp)
  have e2:v*32^r.length≤31*32^r.length:=Int.mul_le_mul_of_nonneg_right (by omega) (Int.le_of_lt hp)
  omega
theorem VR{a c:Int}{r q:List Int}(hl:r.length=q.length)(hr:∀z∈r,0≤z∧z<32)(hq:∀z∈q,0≤z∧z<32)(h:a≠c):decide (a<c)=decide (GrR.rk (a::r)<GrR.rk (c::q)):=by
 have h1:=SB hr
 have h2:=SB hq
 rw[DW,DW,hl]
 rw[hl] at h1
 generalize (32:Int)^q.length=B at*
 refine decide_eq_decide.mpr ⟨fun z=>?_,fun z=>?_⟩
 ·have:(a+1)*B≤c*B:=Int.mul_le_mul_of_nonneg_right (by omega) (by omega)
  rw[Int.add_mul,Int.one_mul] at this
  omega
 ·by_cases z2:a<c
  ·exact z2
  ·have:(c+1)*B≤a*B:=Int.mul_le_mul_of_nonneg_right (by omega) (by omega)
   rw[Int.add_mul,Int.one_mul] at this
   omega
variable{prog:Program}{w:World}{A:Around}{E:Value→Shared→Prop}{s:Shared}
theorem OG{Q:Bool→Shared→Prop}:∀{xs ys:List Value} {ns ms:List Int} {i:Nat},IntsAre xs ns→IntsAre ys ms→ns.length=ms.length→(∀z∈ns,0≤z∧z<32)→(∀z∈ms,0≤z∧z<32)→Q (decide (GrR.rk ns<GrR.rk ms)) s→KatLex prog w A true false Q (xs.zip ys) (i+1) s
 |_,_,_,_,_,.nil,.nil,_,_,_,h=>kat_nil (by simpa using h)
 |_,_,_,_,_,.nil,.cons _ _ _,hl,_,_,_=>by cases hl
 |_,_,_,_,_,.cons _ _ _,.nil,hl,_,_,_=>by cases hl
 |_,_,_,_,_,@IntsAre.cons a t vs ns hx,@IntsAre.cons c u us ms hy,hl,hr,hq,h=>by
  have hl':ns.length=ms.length:=by simpa using hl
  have hr':=fun z (hz:z∈ns)=>hr z (List.mem_cons_of_mem _ hz)
  have hq':=fun z (hz:z∈ms)=>hq z (List.mem_cons_of_mem _ hz)
  refine kat_cons (wpAny_eqBool_int (kat_go (fun e=>kat_yes ?_) fun e=>?_))
  ·have e':=eq_of_beq e
   subst e'
   refine OG hx hy hl' hr' hq' ?_
   rw[DW,DW,hl'] at h
   rw[show decide (GrR.rk ns<GrR.rk ms)=decide (a*32^ms.length+GrR.rk ns<a*32^ms.length+GrR.rk ms) from decide_eq_decide.mpr (by omega)]
   exact h
  ·have e':a≠c:=fun q=>by rw[q] at e;simp at e
   exact kat_no (kat_one _ _ (lt_int (by rw[VR hl' hr' hq' e'];exact h)))
def bo(k:Nat)(h:Heap)(v:Value):Prop:=∃r,Lb h v r∧r.length=k+1∧∀z∈r,0≤z∧z<32
theorem UU{k:Nat}:Rk prog w (bo k) Zt (.type "int") where
 cmp:=by
  intro A E s st x y Q hk hx hy h
  obtain⟨r,px,lx,bx⟩:=hx
  obtain⟨q,py,ly,bY⟩:=hy
  have h:Q (some (decide (Zt s.heap x.1<Zt s.heap y.1))) st:=h
  rw[Dp px,Dp py] at h
  obtain⟨p,o,xs,n,e1,e2,_,e3,e4⟩:=px
  obtain⟨p',o',ys,n',e1',e2',_,e3',e4'⟩:=py
  rw[lt'_eq]
  refine wpS_bind (wpS_get ?_)
  rw[hk,e1,e1']
  refine wpS_bind (wpS_lift (wpAny_attempt ?_))
  refine PySem.W.kat_lt e2 e3 e2' e3' ?_
  have fin:∀b:Bool,b=decide (GrR.rk r<GrR.rk q)→(s=s∧wpS (model prog w) A E s (match (Except.ok b:Except Value Bool) with
    | .ok b=>pure (some b)
    | .error e=>do
     modify (fun s=>SortSt.mk' (kindOf s) (arrOf s) (pendingOf s) (gallopOf s) (some e))
     pure none) Q st):=fun b hb=> ⟨rfl,by rw[hb];exact wpS_pure h⟩
  cases e4 with
  |nil=>cases lx
  | @cons a t vs ns hx=>
   cases e4' with
   |nil=>cases ly
   | @cons c u us ms hy=>
    have hl:ns.length=ms.length:=by simp only[List.length_cons] at lx ly;omega
    have hv:vs.length=us.length:=by rw[hx.length,hy.length];exact hl
    have br:=fun z (hz:z∈ns)=>bx z (List.mem_cons_of_mem _ hz)
    have bq:=fun z (hz:z∈ms)=>bY z (List.mem_cons_of_mem _ hz)
    have sz:decide ((Value.int a t::vs).toArray.size< (Value.int c u::us).toArray.size)=false:=decide_eq_false (by simp[hv])
    rw[sz]
    refine PySem.W.kat_cons (r:=vs.zip us) (wpAny_eqBool_int ?_)
    refine PySem.W.kat_go (fun e=>?_) (fun e=>?_)
    ·have e':=eq_of_beq e
     subst e'
     refine PySem.W.kat_yes (OG hx hy hl br bq (fin _ ?_))
     rw[DW,DW,hl]
     exact decide_eq_decide.mpr (by omega)
    ·have e':a≠c:=fun q=>by rw[q] at e;simp at e
     exact PySem.W.kat_no (oneLt_int (fin _ (VR hl br bq e')))
 kept:=by
  rintro h h' v ⟨r,p,q⟩ k
  have p':Lb h' v r:=by
   obtain⟨x,o,xs,n,e1,e2,e3,e4,e5⟩:=p
   exact⟨x,o,xs,n,e1,k _ _ e3 e2,e3,e4,e5⟩
  exact⟨⟨r,p',q⟩,by rw[Dp p,Dp p']⟩
 kat:=fun{h vs}=>by
  induction vs with
  |nil=>exact fun _=> ⟨[],KatTups.nil,rfl,fun v hv=>by cases hv⟩
  |cons v vs ih=>
   intro ok
   obtain⟨fs,k,hl,hf⟩:=ih fun v hv=>ok v (.tail _ hv)
   obtain⟨r,⟨x,o,xs,n,rfl,e,hc,hd,e5⟩,lr,_⟩:=ok v (.head _)
   cases e5 with
   |nil=>cases lr
   |cons a t hx=>
    exact⟨.int a t::fs,KatTups.cons e hc hd rfl k,by rw[List.length_cons,List.length_cons,hl],fun v hv=>by
     rcases List.mem_cons.mp hv with rfl|hv
     ·exact fun M h'=>fun _ _ _ _ _ q=>wpAny_pure q
     ·exact hf v hv⟩
 t1:=rfl
 t2:=rfl
end SrtG
namespace L2
open PySem PySem.Spec PySem.Calls PyProof.Rows SrtG
section
variable{X:Cx}{pins:List (Addr×Obj)}{σ:St}{H:Hp}{s:Shared}
theorem Inv.rowAt{x:Addr}{r:List Int}(I:Inv X pins σ H s)(h:Hs X.K H x (r.map V.int)):Lb s.heap (.ref x) r:=by
 obtain⟨its,rr,⟨o,ho,hc,n,hd⟩,hz⟩:=I.tuple h
 exact⟨x,o,its,n,rfl,ho,hc,hd,Ll rr⟩
theorem Hm:∀{ps:List (List Int×Addr)} {us:List Value},Vals (ps.map fun p=>V.ref p.2) us→us=ps.map fun p=>Value.ref p.2
 | [],us,r=>by rw[List.map_nil] at r;cases r;rfl
 |p::ps,us,r=>by
  rw[List.map_cons] at r
  cases r with
  |cons r1 r2=>
   rw[Hm r2]
   have r1:_=Value.ref p.2:=r1
   rw[r1]
   rfl
theorem Hn:∀(ps:List (List Int×Addr)),Vals (ps.map fun p=>V.ref p.2) (ps.map fun p=>Value.ref p.2)
 | []=> .nil
 |p::ps=> .cons rfl (Hn ps)
theorem KC:Az X (.builtin "sorted") (fun xs H Q=>∃(a:Addr) (ks:List (List Int×Addr)) (m:Nat),xs=[.ref a]∧SqL X.K H a (ks.map fun p=>V.ref p.2)∧(∀k x,(k,x)∈ks→Hs X.K H x (k.map V.int)∧k.length=m+1∧∀z∈k,0≤z∧z<32)∧ks.length≤9000000∧ks.Pairwise (fun x y=>GrR.rk x.1≤GrR.rk y.1)∧
  ∀(p:Addr) (ms:List (List Int×Addr)),H p=none→ms.Perm ks→ms.Pairwise (fun x y=>GrR.rk x.1≤GrR.rk y.1)→Q (.ref p) (upd H p (.lst (ms.map fun p=>V.ref p.2)))):=by
 intro pins s σ H xs us Q I r h
 obtain⟨a,ks,m,rfl,hS,hk,hn,hp,q⟩:=h
 obtain⟨u,rfl,ru⟩:=Vals.one r
 cases ru
 obtain⟨its,rv,⟨o,n,e1,e2,_,e3⟩,_⟩:=I.list hS
 have ei:=Hm rv
 subst ei
 have at_:∀k x,(k,x)∈ks→Lb s.heap (.ref x) k:=fun k x h=>I.rowAt (hk k x h).1
 refine Ma e1 e2 e3 (UU (k:=m)) (fun v hv=>?_) (by rw[List.length_map];omega) (.inr (List.pairwise_map.mpr (hp.imp_of_mem fun{x y} hx hy z=>by rw[Dp (at_ x.1 x.2 hx),Dp (at_ y.1 y.2 hy)];exact z))) fun h' b out c hb hg kp pm pw=>?_
 ·obtain⟨⟨k,x⟩,hx,rfl⟩:=List.mem_map.mp hv
  exact⟨k,at_ k x hx,(hk k x hx).2⟩
 ·obtain⟨ms,pm',rfl⟩:=Bq pm rfl
  have hf:H b=none:=I.hok.none_of hb
  refine⟨.ref b,upd H b (.lst (ms.map fun p=>V.ref p.2)),I.laidF (t':=s.toks) kp hb ⟨?_,_,c,Hn ms,hg⟩,rfl,q b ms hf pm' ?_⟩
  ·rw[List.length_map,pm'.length_eq,sizeLine_eq]
   omega
  ·rw[List.pairwise_map] at pw
   refine List.Pairwise.imp_of_mem (fun{x y} hx hy z=>?_) pw
   rw[Dp (at_ x.1 x.2 (pm'.mem_iff.mp hx)),Dp (at_ y.1 y.2 (pm'.mem_iff.mp hy))] at z
   exact z
end
end L2
namespace L2.TL
open PySem PySem.Spec PyProof.Rows SrtG
section
variable{K:PySem.W.Frag}{O:AG}{H:Hp}
theorem JB:∀{ks:List (List Int)} {xs:List V},Reps K O H xs (ks.map fun r=>T.tup (r.map T.int))→∃qs:List (List Int×Addr),xs=qs.map (fun p=>V.ref p.2)∧qs.map (·.1)=ks∧∀k x,(k,x)∈qs→H x=some (.tup (k.map V.int))
 | [],xs,r=> ⟨[],r.nil_inv,rfl,fun _ _ h=>by cases h⟩
 |p::ks,xs,r=>by
  obtain⟨v,vs',rfl,h,r'⟩:=Reps.cons_inv r
  obtain⟨a,ys,rfl,ha,r2⟩:=h.tup_inv
  cases Reps.ints (ns:=p) r2
  obtain⟨qs,rfl,e,hk⟩:=JB r'
  refine⟨(p,a)::qs,rfl,by rw[List.map_cons,e],fun k x h=>?_⟩
  rcases List.mem_cons.mp h with h|h
  ·cases h;exact ha
  ·exact hk k x h
theorem JC:∀{qs:List (List Int×Addr)},(∀k x,(k,x)∈qs→H x=some (.tup (k.map V.int)))→Reps K O H (qs.map fun p=>V.ref p.2) ((qs.map (·.1)).map fun r=>T.tup (r.map T.int))
 | [],_=> .nil
 | (k,x)::qs,h=> .cons (.tup (h k x (List.mem_cons_self ..)) (Fe _)) (JC fun k x hk=>h k x (List.mem_cons_of_mem _ hk))
end
section
variable{Z:Zx}{ρ:List (Option T)}{O:AG}{e:Expr}{Φ:BK}{p pos:Pos}{ks:List (List Int)}
theorem Mp{m:Nat}(mm:Z.X.mg "sorted" =none)(h:ET Z ρ O e (.lst (ks.map fun r=>T.tup (r.map T.int))))(hk:∀k∈ks,k.length=m+1∧∀z∈k,0≤z∧z<32)(hn:ks.length≤9000000)(pw:ks.Pairwise (fun x y=>GrR.rk x<GrR.rk y))(hg:Gl Z.X "sorted":=by rfl)
  (he:starEach [e] Z.X.env=(false,eval e Z.X.env)::starEach [] Z.X.env:=by rfl):ET Z ρ O (.Call (.Name "sorted" p) [e] [] pos) (.lst (ks.map fun r=>T.tup (r.map T.int))):=fun Φ q=>
 Kt KC mm NW (AJ h AC he _ (fun H vs Q ok r q'=>by
  obtain⟨v,rfl,r1⟩:=r.one_inv
  obtain⟨a,xs,rfl,h1,_,r1⟩:=r1.lst_inv
  obtain⟨qs,rfl,rfl,hq⟩:=JB r1
  refine⟨a,qs,m,rfl,.inl (.inl h1),fun k x hx=> ⟨.inl (.inl (hq k x hx)),hk k (List.mem_map.mpr ⟨(k,x),hx,rfl⟩)⟩,by simpa using hn,(List.pairwise_map.mp pw).imp fun h=>Int.le_of_lt h,fun p ms hp pm pw2=>?_⟩
  have r2:Reps Z.K O H (ms.map fun p=>V.ref p.2) ((ms.map (·.1)).map fun r=>T.tup (r.map T.int)):=JC fun k x hx=>hq k x (pm.mem_iff.mp hx)
  have e:ms.map (·.1)=qs.map (·.1):=by
   have p1:=pm.map (fun x:List Int×Addr=>x.1)
   have lt:∀{x y:List Int},x∈qs.map (·.1)→y∈qs.map (·.1)→GrR.rk x≤GrR.rk y→GrR.rk y≤GrR.rk x→x=y:=fun{x y} hx hy a b=>by
    obtain⟨i,hi,rfl⟩:=List.getElem_of_mem hx
    obtain⟨j,hj,rfl⟩:=List.getElem_of_mem hy
    rcases Nat.lt_trichotomy i j with c|c|c
    ·have:=List.pairwise_iff_getElem.mp pw i j hi hj c;omega
    ·subst c;rfl
    ·have:=List.pairwise_iff_getElem.mp pw j i hj hi c;omega
   exact List.Perm.eq_of_pairwise (fun a b ha hb x y=>lt (p1.mem_iff.mp ha) hb x y) (List.pairwise_map.mpr pw2) (pw.imp fun h=>Int.le_of_lt h) p1
  rw[e] at r2
  exact q' _ _ _ O q (.new ok hp) (.lst AO (ok.none_of hp) (r2.kp (BV ok hp) ok)))) hg (by decide) (by decide) he
end
end L2.TL
namespace K18
open PySem L2 L2.TL PySem.Spec PyProof.Rows GrR
def Zu:Stmt→Expr
 | .Assign _ e _=>e
 |_=> .Constant .none 0 ⟨0,0,0,0⟩
def bp:Expr→Scope
 | .ListComp _ _ sc _=>sc
 |_=>AA Ba
def af:List Str:=["_law_web","_law_size","_law_near","_law_far_here","_law_found","_law_place","_law_ways","_law_turn","_law_longer","_law_way","_law_there"]
theorem GH:FnScope af ["_law_web","_law_size"] (AA Ba):=⟨rfl,rfl,rfl,by decide+kernel,rfl,by decide+kernel,by decide+kernel⟩
def bu:Scope:=relabel (bp (Zu ((Ai Ba).getD 0 (.Pass ⟨0,0,0,0⟩)))) (envOfC "_law_rings" (AA Ba) 0 0 .none)
theorem Zv:(Ak ["_law_place"] [(("_law_web" :Str),0)]).Nodup:=by decide+kernel
theorem Zw:(Ak ["_law_one","_law_other"] [(("_law_place" :Str),0)]).Nodup:=by decide+kernel
theorem Zy:(Ak ["_law_way"] [(("_law_place" :Str),5),(("_law_near" :Str),2)]).Nodup:=by decide+kernel
def VS:Stmt→List Stmt
 | .For _ _ b _ _=>b
 |_=> []
def dJ(i:Nat):Stmt:=(Ai Ba).getD i (.Pass ⟨0,0,0,0⟩)
def bw(i:Nat):Stmt:=(VS (dJ 3)).getD i (.Pass ⟨0,0,0,0⟩)
abbrev zR(P:Program)(w:World)(K:PySem.W.Frag)(mg:Str→Option Value)(base:Heap)(f:Addr)(cdv:Value)(A:Around)(outer:List Env)(s:Shared)(H:Hp)(E:XK)(O:AG)(Ξ:Value→AG→Prop):Zx:=zB P w K mg base af "_law_rings" (AA Ba) f cdv A outer s H E O Ξ
abbrev IF(n:Int)(ps:List (Int×Int))(s:Nat)(FL:List (List (Option Nat)))(fd:List (List Int))(v5 v6 v7 v8 v9 v10:Option T):List (Option T):=[some (BI n ps),some (.int (s:Int)),some (EJ (BA n ps)),some (Zj FL),some (.lst (fd.map Aj)),v5,v6,v7,v8,v9,v10]
theorem UV{n:Int}{ps:List (Int×Int)}(wn:WebN n ps){FL:List (List (Option Nat))}(hF:FarL n ps FL){p:Nat}(hp:(p:Int)<n){c:Nat→Int→Bool}{k:Nat}{r:List Int}(hr:r∈Ew (AK ps) c (p:Int) k){v:Nat}(hv:(v:Int)∈AK ps (lst r)):
  ∃(fs:List (Option Nat)) (d:Nat),FL[v]?=some fs∧fs[p]?=some (some d)∧ID (Gr.Adj ps) [(p:Int)] (v:Int)=some d:=by
 obtain⟨w1,w2,_,w4,_⟩:=(CV Cm).mp hr
 have hne:r≠[]:=fun z=>by rw[z] at w1;cases w1
 have hvn:=Bp wn.hw _ _ (By.mp hv)
 have hl:=hF.len
 have hlt:v<FL.length:=by omega
 have al:=XF (hF.all v _ (List.getElem?_eq_getElem hlt))
 have wk:W (Gr.Adj ps) [(p:Int)] (r.length) (v:Int):=by
  cases r with
  |nil=>exact absurd rfl hne
  |cons x L=>
   have:x=(p:Int):=by simpa using w2
   subst this
   exact .go (PB w4 (Bn hne)) (By.mp hv)
 obtain⟨d,_,hD⟩:=wk.least
 refine⟨FL[v],d,List.getElem?_eq_getElem hlt,?_,Bj hD⟩
 have:=(al.eq (p:Int) (by omega) hp d).mpr ((Nh Ck).mp hD)
 rwa[Int.toNat_natCast] at this
section
variable{P:Program}{w:World}{K:PySem.W.Frag}{mg:Str→Option Value}{base:Heap}{f:Addr}{cdv:Value}{A:Around}{outer:List Env}{s0:Shared}{H:Hp}{E:XK}{O:AG}{Ξ:Value→AG→Prop}
theorem UW{n:Int}{ps:List (Int×Int)}{s:Nat}{FL:List (List (Option Nat))}{fd:List (List Int)}{v8 v9 v10:Option T}{p i:Nat}{Φ:BK}{N Bk Ct:FP}(hu:(zR P w K mg base f cdv A outer s0 H E O Ξ).X.A.units+102<cLine)(wr:WebR n ps)(hF:FarL n ps FL)(hp:(p:Int)<n)(hi:i+1<s)(hs:(s:Int)≤n)(least:∀M,Ring (Gr.Adj ps) M→s≤M.length)
  (q:∀v8 v9 v10,N (IF n ps s FL fd (some (.int p)) (some (.lst ((Ew (AK ps) (CM (Gr.Adj ps) s p) p (i+1)).map Aj))) (some (.int (1+(i:Int)))) v8 v9 v10) O):
  EG (zR P w K mg base f cdv A outer s0 H E O Ξ) (IF n ps s FL fd (some (.int p)) (some (.lst ((Ew (AK ps) (CM (Gr.Adj ps) s p) p i).map Aj))) (some (.int (1+(i:Int)))) v8 v9 v10) O (VS (bw 1)) {nx:=N,rt:=Φ,bk:=Bk,ct:=Ct}:=by
 have sb:=Hl
 have wn:=wr.wn
 have n1:=wr.n1
 have hz:(LJ (AK ps) (CM (Gr.Adj ps) s p (i+1)) (Ew (AK ps) (CM (Gr.Adj ps) s p) p i)).length≤8000:=Jz (c:=CM (Gr.Adj ps) s p) (k:=i+1) wn.hw wr.hp wr.n1 ⟨by omega,hp⟩ least hi
 have hin:∀r∈Ew (AK ps) (CM (Gr.Adj ps) s p) (p:Int) i,_:=fun r hr=>SA wn.hw (p:=(p:Int)) ⟨by omega,hp⟩ hr
 have hmem:∀r∈Ew (AK ps) (CM (Gr.Adj ps) s p) (p:Int) i,r∈Ew (AK ps) (CM (Gr.Adj ps) s p) (p:Int) i:=fun r h=>h
 have q:∀v8 v9 v10,N (IF n ps s FL fd (some (.int p)) (some (.lst ((LJ (AK ps) (CM (Gr.Adj ps) s p (i+1)) (Ew (AK ps) (CM (Gr.Adj ps) s p) p i)).map Aj))) (some (.int (1+(i:Int)))) v8 v9 v10) O:=q
 have hfar:∀r∈Ew (AK ps) (CM (Gr.Adj ps) s p) (p:Int) i,∀v:Nat,(v:Int)∈AK ps (lst r)→∃(fs:List (Option Nat)) (d:Nat),FL[v]?=some fs∧fs[p]?=some (some d)∧CM (Gr.Adj ps) s p (i+1) (v:Int)=decide (d≤s- (i+1)):=fun r hr v hv=>by
  obtain⟨fs,d,h1,h2,h3⟩:=UV wn hF hp hr hv
  exact⟨fs,d,h1,h2,by unfold CM;rw[h3]⟩
 generalize CM (Gr.Adj ps) s p (i+1)=c at*
 generalize Ew (AK ps) (CM (Gr.Adj ps) s p) (p:Int) i=rs at*
 refine AD (AM 8 (El (Al ⟨Nat.zero_le _,fun l hl=>?_⟩)) GH.nd)
 refine AD (Au AX.own rfl (EI.wi (Ar (ev 6)) ⟨fun j ρ' O'=>∃v9 v10:Option T,ρ'=IF n ps s FL fd (some (.int p)) (some (.lst (rs.map Aj))) (some (.int (1+(i:Int)))) (some (.raw (.ref l))) v9 v10∧O'=Ab O l ((LJ (AK ps) c (rs.take j)).map Aj),⟨v9,v10,rfl,rfl⟩,?_,?_⟩))
 ·rintro j t _ _ e ⟨v9,v10,rfl,rfl⟩
  rw[List.getElem?_map] at e
  cases er:rs[j]? with
  |none=>rw[er] at e;cases e
  |some r=>
   rw[er] at e
   cases e
   have hrm:=List.mem_of_getElem? er
   obtain⟨h1,h2,h3⟩:=hin r hrm
   have hll:=h3 _ (OE h1)
   obtain⟨u,hu'⟩:=Int.eq_ofNat_of_zero_le hll.1
   have hrow:(BA n ps).getD u []=AK ps (lst r):=by
    rw[FH (by omega),Bc wn.hw,←hu']
   have hlen:u< (BA n ps).length:=by have:=(GU wn).len;omega
   refine⟨IF n ps s FL fd (some (.int p)) (some (.lst (rs.map Aj))) (some (.int (1+(i:Int)))) (some (.raw (.ref l))) (some (Aj r)) v10,AN 9 GH.nd (by show 9<11;decide),?_⟩
   refine AE (Au AX.own rfl (EI.wi (Ar (ts:=(AK ps (lst r)).map T.int) (ET.cast (Bb (ev 2) (ET.cast (Ao (ts:=r.map T.int) (ev 9) (QZ AB) (OD h1)) (by rw[hu'])) (GS hlen)) (by rw[hrow]))) ⟨fun k ρ' O'=>∃v10:Option T,ρ'=IF n ps s FL fd (some (.int p)) (some (.lst (rs.map Aj))) (some (.int (1+(i:Int)))) (some (.raw (.ref l))) (some (Aj r)) v10∧O'=Ab O l ((LJ (AK ps) c (rs.take j)++KB c r ((AK ps (lst r)).take k)).map Aj),⟨v10,rfl,by rw[List.take_zero];show _=Ab O l ((_++[]).map _);rw[List.append_nil]⟩,?_,?_⟩))
   ·rintro k t _ _ e ⟨v10,rfl,rfl⟩
    rw[List.getElem?_map] at e
    cases ei:(AK ps (lst r))[k]? with
    |none=>rw[ei] at e;cases e
    |some v=>
     rw[ei] at e
     cases e
     have hvm:=List.mem_of_getElem? ei
     have hv:=Bp wn.hw _ _ (By.mp hvm)
     obtain⟨y,rfl⟩:=Int.eq_ofNat_of_zero_le hv.1
     obtain⟨fs,d,g1,g2,g3⟩:=hfar r hrm y hvm
     refine⟨IF n ps s FL fd (some (.int p)) (some (.lst (rs.map Aj))) (some (.int (1+(i:Int)))) (some (.raw (.ref l))) (some (Aj r)) (some (.int y)),AN 10 GH.nd (by show 10<11;decide),?_⟩
     have a1:atI (FL.map fun fs=>T.lst (fs.map AW)) (y:Int)=some (.lst (fs.map AW)):=An (by rw[List.getElem?_map,g1];rfl)
     have a2:atI (fs.map AW) (p:Int)=some (.int (d:Int)):=An (by rw[List.getElem?_map,g2];rfl)
     have step:(AK ps (lst r)).take (k+1)=(AK ps (lst r)).take k++[(y:Int)]:=by rw[List.take_add_one,ei];rfl
     refine AE (BB (k:=c (y:Int)&&!decide ((y:Int)∈r)) (EW.eb (EW.cast (EO (EB.cast (As (Wz hu) rfl (MY (t:=.int (y:Int)) (us:=r.map T.int) (by rw[CJ]) LO (by show 0≤100;decide)) (ev 10) (ev 9)) (by rw[Cz])) fun _=>DL (ZG (Bb (Bb (ev 3) (ev 10) a1) (ev 5) a2) (CH (ev 1) (ev 7)))) ?_)) (fun h=>?_) (fun h=>BH ?_))
     ·rw[g3,Bool.and_comm]
      congr 1
      exact decide_eq_decide.mpr (by omega)
     ·have hb:=UT (nb:=AK ps) (c:=c) er (k+1)
      rw[step,Fo,if_pos h,List.length_append] at hb
      refine AE (BL (Bw (ET.we (ev 8) ⟨l,rfl,⟨_,AF⟩,ET.we (Td (ts:=r.map T.int) (us:=[.int (y:Int)]) (ev 9) (BW (AH (ev 10) AC)) (by simp only[List.length_map,List.length_cons,List.length_nil];omega)) ⟨_,AF,by rw[List.length_map,List.length_append];simp only[List.length_cons,List.length_nil] at hb;omega,⟨_,rfl,?_⟩⟩⟩)))
      rw[BJ,step,Fo,if_pos h]
      congr 1
      simp only[List.map_append,List.append_assoc]
      congr 2
      simp[Aj]
     ·refine⟨_,rfl,?_⟩
      rw[step,Fo,if_neg (by rw[h];decide),List.append_nil]
   ·rintro _ _ ⟨v10,rfl,rfl⟩
    refine⟨_,_,rfl,?_⟩
    rw[List.length_map,List.take_length,←La,List.take_add_one,er]
    rfl
 ·rintro _ _ ⟨v9,v10,rfl,rfl⟩
  rw[List.length_map,List.take_length]
  refine CI (p:=l) (n:=8) (ts:=(LJ (AK ps) c rs).map Aj) AF hl rfl ?_
  rw[BE hl]
  exact AE (AM 6 (ET.we (ev 8) (q _ _ _)) GH.nd)
def Zz:Cu:=MR fun ts t=>∃(n:Int) (ps:List (Int×Int)) (s:Nat),ts=[BI n ps,.int (s:Int)]∧WebR n ps∧3≤s∧(s:Int)≤n∧(∀M,Ring (Gr.Adj ps) M→s≤M.length)∧t=.lst ((DP (Gr.Adj ps) (AK ps) s n.toNat).map Aj)
theorem aA{fd:FuncData}(F:Fun K "_law_rings" "_law_rings" Ba f fd)(Tx:Txt mg)(G:FnT P w K mg base "_law_far" 1 ["_law_web"] VL):FnOk P w K mg base (CXe P w) 2 f fd ["_law_web","_law_size"] (DZ K Zz):=by
 refine Ad F GH ?_ ?_
 ·rintro ts O Φ Ξ ⟨r,⟨n,ps,s,rfl,_⟩,_⟩
  rfl
 ·rintro cdv A outer s0 H E O Ξ hr xf _ Φ ⟨_,⟨n,ps,s,rfl,wr,h3,hsn,least,rfl⟩,q⟩
  have sb:=Hl
  have wn:=wr.wn
  have n0:=wr.n0
  have n1:=wr.n1
  have hpl:=wn.hl
  have hu:(A.deeper (envOfC "_law_rings" (AA Ba) s0.heap.objs.size f cdv)).units+102<cLine:=by have:=hr.un;omega
  have hnr:((List.range n.toNat).map fun(i:Nat)=>T.lst ((AK ps (i:Int)).map T.int))=(BA n ps).map fun r=>T.lst (r.map T.int):=by
   unfold BA
   rw[List.map_map]
   exact List.map_congr_left fun i _=>by rw[Function.comp,Bc wn.hw]
  refine AD (AM 2 (ET.we (t:=EJ (BA n ps)) (ET.cast (Dn ["_law_place"] [("_law_web",0)] (List.range n.toNat) (fun(i:Nat)=>T.int (0+(i:Int))) (fun(i:Nat)=> .lst ((AK ps (i:Int)).map T.int)) rfl (Br (AA Ba) af (by decide+kernel)) (Ag Tx.nRange (Ao (t:=.int n) (ev 0) AB) (by omega)) (by rw[List.length_range];omega) fun x hx=> ⟨[some (.int (0+(x:Int))),some (BI n ps)],fun X' Oe He is O'=>?near⟩) (by rw[hnr])) ?_) GH.nd)
  case near=>
   obtain⟨cl,s',H',fp,rfl⟩:=is
   rw[Int.zero_add]
   refine⟨AN 0 Zv (by decide),ET.cast (Fd ["_law_one","_law_other"] [("_law_place",0)] ps AI (fun p=> .int (p.1+p.2- (x:Int))) (fun p=>decide ((x:Int)∈[p.1,p.2])) rfl (Br bu ["_law_place","_law_web"] (by decide+kernel)) (Fc (Ao (ev 1) AB)) (by omega) fun y hy=> ⟨[some (.int y.1),some (.int y.2),some (.int (x:Int))],fun X'' Oe' He' is' O''=>?_⟩) ?_⟩
   ·obtain⟨cl',s'',H'',fp',rfl⟩:=is'
    exact⟨BZ 0 1 rfl Zw (by decide) (by decide),EB.cast (As (Qu hu) rfl (MY (t:=.int (x:Int)) (us:=[y.1,y.2].map T.int) (by rw[CJ]) DU (by show 0≤100;decide)) (ev 2) (BW (AH (ev 0) (AH (ev 1) AC)) (by show 2≤sizeLine;decide))) Cz,fun _=>CH (BX (ev 0) (ev 1)) (ev 2)⟩
   ·unfold AK
    rw[List.map_map]
    rfl
  refine AD (AM 3 (Af G (hr.mono (by decide)) xf (EA.wa (AH (ev 0) AC) ⟨n,ps,rfl,wn,fun FL hF=>?_⟩)) GH.nd)
  refine AD (AM 4 (ET.we (t:=.lst (([]:List (List Int)).map Aj)) (BG AC (Nat.zero_le _)) ?_) GH.nd)
  have big:∀j,j≤n.toNat→((List.range j).flatMap fun(i:Nat)=>GE (Gr.Adj ps) (AK ps) s (i:Int)).length≤j*8000:=fun j hj=>by
   have:=LK (f:=fun(i:Nat)=>GE (Gr.Adj ps) (AK ps) s (i:Int)) (m:=8000) (xs:=List.range j) fun i hi=>by
    have hi:=List.mem_range.mp hi
    exact Nat.le_trans (List.length_filter_le ..) (Jz wn.hw wr.hp n1 (p:=(i:Int)) ⟨by omega,by omega⟩ least (by omega))
   rwa[List.length_range] at this
  refine AD (Au AX.own rfl (EI.wi (Ag Tx.nRange (Ao (t:=.int n) (ev 0) AB) (by omega)) ⟨fun j ρ' O'=>∃v5 v6 v7 v8 v9 v10:Option T,O'=O∧ρ'=IF n ps s FL ((List.range j).flatMap fun(i:Nat)=>GE (Gr.Adj ps) (AK ps) s (i:Int)) v5 v6 v7 v8 v9 v10,⟨none,none,none,none,none,none,rfl,rfl⟩,?_,?_⟩))
  ·rintro j t _ _ ej ⟨v5,v6,v7,v8,v9,v10,rfl,rfl⟩
   obtain⟨hj,rfl⟩:=Aw ej
   rw[Int.zero_add]
   have hp:(j:Int)<n:=by omega
   have hb:=big (j+1) (by omega)
   have hstep:((List.range (j+1)).flatMap fun(i:Nat)=>GE (Gr.Adj ps) (AK ps) s (i:Int))=((List.range j).flatMap fun(i:Nat)=>GE (Gr.Adj ps) (AK ps) s (i:Int))++GE (Gr.Adj ps) (AK ps) s (j:Int):=by
    rw[List.range_succ,List.flatMap_append]
    simp
   rw[hstep,List.length_append] at hb
   generalize ((List.range j).flatMap fun(i:Nat)=>GE (Gr.Adj ps) (AK ps) s (i:Int))=fd0 at*
   refine⟨IF n ps s FL fd0 (some (.int (j:Int))) v6 v7 v8 v9 v10,AN 5 GH.nd (by show 5<11;decide),?_⟩
   refine AD (AM 6 (ET.we (t:=.lst ([[(j:Int)]].map Aj)) (BG (AH (BW (AH (ev 5) AC)) AC) (by show 1≤sizeLine;decide)) ?_) GH.nd)
   refine AD (Au AX.own rfl (EI.wi (Cv Tx.nRange AB (ev 1) (by omega)) ⟨fun i ρ' O'=>∃v7 v8 v9 v10:Option T,O'=O'∧ρ'=IF n ps s FL fd0 (some (.int (j:Int))) (some (.lst ((Ew (AK ps) (CM (Gr.Adj ps) s j) (j:Int) i).map Aj))) v7 v8 v9 v10∧O'=_,⟨v7,v8,v9,v10,rfl,rfl,rfl⟩,?_,?_⟩))
   ·rintro i t _ _ ei ⟨v7,v8,v9,v10,_,rfl,rfl⟩
    obtain⟨hi,rfl⟩:=Aw ei
    exact⟨_,AN 7 GH.nd (by show 7<11;decide),UW hu wr hF hp (by omega) hsn least fun v8 v9 v10=> ⟨_,_,_,_,rfl,rfl,rfl⟩⟩
   ·rintro _ _ ⟨v7,v8,v9,v10,_,rfl,rfl⟩
    rw[AY]
    have es:((s:Int)-1).toNat=s-1:=by omega
    rw[es]
    have hel:(Ew (AK ps) (CM (Gr.Adj ps) s j) (j:Int) (s-1)).length≤8000:=Jz wn.hw wr.hp n1 (p:=(j:Int)) ⟨by omega,hp⟩ least (by omega)
    have hin:∀r∈Ew (AK ps) (CM (Gr.Adj ps) s j) (j:Int) (s-1),_:=fun r hr=>SA wn.hw (p:=(j:Int)) ⟨by omega,hp⟩ hr
    have hlw:GE (Gr.Adj ps) (AK ps) s (j:Int)=(Ew (AK ps) (CM (Gr.Adj ps) s j) (j:Int) (s-1)).filter fun r=>decide ((j:Int)∈AK ps (lst r)):=rfl
    rw[hlw] at hstep hb
    generalize Ew (AK ps) (CM (Gr.Adj ps) s j) (j:Int) (s-1)=rs at*
    refine AE (AM 4 (ET.we (En (us:=(rs.filter fun r=>decide ((j:Int)∈AK ps (lst r))).map Aj) (ev 4) (Fd ["_law_way"] [("_law_place",5),("_law_near",2)] rs Aj Aj (fun r=>decide ((j:Int)∈AK ps (lst r))) rfl (Br (AA Ba) af (by decide+kernel)) (Ar (ev 6)) (by omega) fun r hr=> ⟨[some (Aj r),some (.int (j:Int)),some (EJ (BA n ps))],fun X' Oe He is O'=>?_⟩) ?_) ?_) GH.nd)
    ·obtain⟨cl,s',H',fp,rfl⟩:=is
     obtain⟨h1,h2,h4⟩:=hin r hr
     have hll:=h4 _ (OE h1)
     obtain⟨u,hu'⟩:=Int.eq_ofNat_of_zero_le hll.1
     have hrow:(BA n ps).getD u []=AK ps (lst r):=by
      rw[FH (by omega),Bc wn.hw,←hu']
     have hlen:u< (BA n ps).length:=by have:=(GU wn).len;omega
     exact⟨AN 0 Zy (by decide),EB.cast (As (Qu hu) rfl (XA (t:=.int (j:Int)) (us:=(AK ps (lst r)).map T.int) (by rw[CJ]) DU (by show 0≤100;decide)) (ev 1) (ET.cast (Bb (ev 2) (ET.cast (Ao (ts:=r.map T.int) (ev 0) (QZ AB) (OD h1)) (by rw[hu'])) (GS hlen)) (by rw[hrow]))) Cz,fun _=>ev 0⟩
    ·rw[List.length_map,List.length_map]
     omega
    ·refine⟨some (.int (j:Int)),some (.lst (rs.map Aj)),v7,v8,v9,v10,rfl,?_⟩
     rw[hstep]
     show _=[_,_,_,_,some (T.lst ((fd0++_).map Aj)),_,_,_,_,_,_]
     rw[List.map_append]
     rfl
  ·rintro _ _ ⟨v5,v6,v7,v8,v9,v10,rfl,rfl⟩
   rw[AY]
   have hb:=big n.toNat (Nat.le_refl _)
   have hmem:∀r∈DP (Gr.Adj ps) (AK ps) s n.toNat,r.length=(s-1)+1∧∀z∈r,0≤z∧z<32:=fun r hr=>by
    obtain⟨h1,h2⟩:=(Cy Ck Cm (Bp wn.hw) h3).mp hr
    exact⟨by omega,fun z hz=>by have:=GO (Bp wn.hw) h1 z hz;omega⟩
   exact AE (AR (ET.we (Mp (ks:=DP (Gr.Adj ps) (AK ps) s n.toNat) (m:=s-1) Tx.nSorted (ev 4) hmem (by show _≤_;unfold DP;omega) (Fv (Dx wn.hw wr.hp) (fun u v h=>by have:=Bp wn.hw u v (By.mp h);omega))) q))
end
section
variable{P:Program}{w:World}{K:PySem.W.Frag}{mg:Str→Option Value}{base:Heap}{f:Addr}{cdv:Value}{A:Around}{outer:List Env}{s:Shared}{H:Hp}{E:XK}{O0 O2:AG}{Ξ:Value→AG→Prop}{p:Addr}{most way n:Int}{es:List (Int×Int)}{v5:Option T}{Φ:BK}{N:FP}
theorem dM(hr:Room 2 (zS P w K mg base f cdv A outer s H E O0 Ξ).X.A)(xf:XFly (zS P w K mg base f cdv A outer s H E O0 Ξ).X (zS P w K mg base f cdv A outer s H E O0 Ξ).W)(Tx:Txt mg)(G:FnT P w K mg base "_law_draw" 2 ["_law_pen","_law_many"] Ax)(po2:PO O0 p O2)(w0:0≤way)(n0:1≤n)(n1:n≤10)(he:∀q∈es,AU n q)(hz:es.length≤256)
  (q:∀(ps:List (Int×Int)) (O':AG),(∀q∈ps,AU n q)→ps.length≤256→PO O0 p O'→Φ (.tup [.int n,.tup (ps.map AI)]) O') (w3:way<3):HS (zS P w K mg base f cdv A outer s H E O0 Ξ) (EZ p most way n es v5) O2 (Zc (Fn 4)) {nx:=N,rt:=Φ}:=by
 have sb:=Aa
 refine⟨?_⟩
 obtain⟨mm,em,mm0,mm1⟩:=Zb w0 w3
 refine AE (AR (CF (Bt (ET.we (ev 3) (Bt (Cw Tx.nTuple (Ij (nc:=["_law_pair"]) (cap:=[("_law_pen",0),("_law_way",2)]) rfl (Br (AA Bo) DR (by decide+kernel)) (EI.wi (Ar (ev 4)) ?_))))))))
 refine⟨fun i acc O'=>∃qs:List (Int×Int),acc=qs.map AI∧(∀z∈qs,AU n z)∧qs.length≤i∧i≤256∧PO O0 p O',⟨[],rfl,by simp,by simp,by omega,po2⟩,?_,?_⟩
 ·rintro i t acc O' c e ⟨qs,rfl,hq,hl,_,po⟩ hc
  rw[List.getElem?_map] at e
  cases ee:es[i]? with
  |none=>rw[ee] at e;cases e
  |some z=>
   rw[ee] at e
   cases e
   have hi:=(List.getElem?_eq_some_iff.mp ee).1
   refine⟨[some (AI z),some (.raw (.ref p)),some (.int way)],fun X' Oe He is=>?_⟩
   obtain⟨cl,s',H',fp,rfl⟩:=is
   refine⟨AN 0 ZX (by decide),Jc (MN KM (Ae _) (CK G hr DM po hc (ev 1) (Bb (BG (AH AB (AH AB (AH AB AC))) (by show 3≤sizeLine;decide)) (ev 2) em) mm0 mm1 fun r O3 r0 r1 po3 hc3=>ET.we AB (Ja _ ⟨_,rfl,?_⟩)))⟩
   refine WH (fun h=>?_) (fun h=>?_)
   ·rintro X' Oe He ⟨cl,s',H',fp,rfl⟩
    refine ET.we (ev 0) ⟨O3,rfl,hc3,by rw[List.length_map];omega,qs++[z],by rw[List.map_append];rfl,fun y hy=>?_,by simp;omega,by omega,po3⟩
    rcases List.mem_append.mp hy with hy|hy
    ·exact hq y hy
    ·rw[List.mem_singleton.mp hy];exact he z (List.mem_of_getElem? ee)
   ·exact⟨O3,rfl,hc3,qs,rfl,hq,by omega,by omega,po3⟩
 ·rintro acc O' ⟨qs,rfl,hq,hl,_,po⟩
  rw[List.length_map] at hl
  exact⟨_,rfl,Al ⟨by show 2≤sizeLine;decide,q qs O' hq (by omega) po⟩⟩
end
section
variable{P:Program}{w:World}{K:PySem.W.Frag}{mg:Str→Option Value}{base:Heap}{f:Addr}{cdv:Value}{A:Around}{outer:List Env}{s:Shared}{H:Hp}{E:XK}{O0 O2:AG}{Ξ:Value→AG→Prop}{p:Addr}{most way n:Int}{es:List (Int×Int)}{v5:Option T}{Φ:BK}{N:FP}
theorem dN(hr:Room 2 (zS P w K mg base f cdv A outer s H E O0 Ξ).X.A)(xf:XFly (zS P w K mg base f cdv A outer s H E O0 Ξ).X (zS P w K mg base f cdv A outer s H E O0 Ξ).W)(Tx:Txt mg)(G:FnT P w K mg base "_law_draw" 2 ["_law_pen","_law_many"] Ax)(po2:PO O0 p O2)(w0:0≤way)(n0:1≤n)(n1:n≤10)(he:∀q∈es,AU n q)(hz:es.length≤256)
  (q:∀(ps:List (Int×Int)) (O':AG),(∀q∈ps,AU n q)→ps.length≤256→PO O0 p O'→Φ (.tup [.int n,.tup (ps.map AI)]) O') (n2:2<n) (Gt:FnT P w K mg base "_law_turned" 2 ["_law_many","_law_steps"] DA):HS (zS P w K mg base f cdv A outer s H E O0 Ξ) (EZ p most way n es v5) O2 (Zc (Fn 5)) {nx:=N,rt:=Φ}:=by
 have sb:=Aa
 refine⟨?_⟩
 refine AE (AR (Af Gt hr xf (Bt (ET.we (ev 3) (Bt (Ij (nc:=["_law_step"]) (cap:=[("_law_pen",0)]) rfl (Br (AA Bo) DR (by decide+kernel)) (EI.wi (Cv Tx.nRange AB (BX (Em (ev 3) AB ⟨by decide,by decide⟩) AB) ⟨by decide,by decide,by omega,by omega⟩) ?_)))))))
 refine⟨fun i acc O'=>∃ss:List Int,acc=ss.map T.int∧(∀z∈ss,1≤z∧z<n)∧ss.length≤i∧i≤16∧PO O0 p O',⟨[],rfl,by simp,by simp,by omega,po2⟩,?_,?_⟩
 ·rintro i t acc O' c e ⟨qs,rfl,hq,hl,_,po⟩ hc
  obtain⟨hi,rfl⟩:=Aw e
  refine⟨[some (.int (1+i)),some (.raw (.ref p))],fun X' Oe He is=>?_⟩
  obtain⟨cl,s',H',fp,rfl⟩:=is
  refine⟨AN 0 ZY (by decide),Jc (MN KM (Ae _) (CK G hr DM po hc (ev 1) AB (by decide) (by decide) fun r O3 r0 r1 po3 hc3=>ET.we AB (Ja _ ⟨_,rfl,?_⟩)))⟩
  refine WH (fun h=>?_) (fun h=>?_)
  ·rintro X' Oe He ⟨cl,s',H',fp,rfl⟩
   refine ET.we (ev 0) ⟨O3,rfl,hc3,by rw[List.length_map];omega,qs++[1+(i:Int)],by rw[List.map_append];rfl,fun y hy=>?_,by simp;omega,by omega,po3⟩
   rcases List.mem_append.mp hy with hy|hy
   ·exact hq y hy
   ·rw[List.mem_singleton.mp hy];omega
  ·exact⟨O3,rfl,hc3,qs,rfl,hq,by omega,by omega,po3⟩
 ·rintro acc O' ⟨ss,rfl,hq,hl,hl2,po⟩
  exact Al ⟨n,ss,rfl,by omega,by omega,by omega,hq,fun qs _ h2 h3=>q qs O' h2 h3 po⟩
end
section
variable{P:Program}{w:World}{K:PySem.W.Frag}{mg:Str→Option Value}{base:Heap}{f:Addr}{cdv:Value}{A:Around}{outer:List Env}{s:Shared}{H:Hp}{E:XK}{O0 O2:AG}{Ξ:Value→AG→Prop}{p:Addr}{most way n:Int}{es:List (Int×Int)}{v5:Option T}{Φ:BK}{N:FP}
theorem dO(hr:Room 2 (zS P w K mg base f cdv A outer s H E O0 Ξ).X.A)(xf:XFly (zS P w K mg base f cdv A outer s H E O0 Ξ).X (zS P w K mg base f cdv A outer s H E O0 Ξ).W)(Tx:Txt mg)(G:FnT P w K mg base "_law_draw" 2 ["_law_pen","_law_many"] Ax)(po2:PO O0 p O2)(w0:0≤way)(n0:1≤n)(n1:n≤10)(he:∀q∈es,AU n q)(hz:es.length≤256)
  (q:∀(ps:List (Int×Int)) (O':AG),(∀q∈ps,AU n q)→ps.length≤256→PO O0 p O'→Φ (.tup [.int n,.tup (ps.map AI)]) O')  :HS (zS P w K mg base f cdv A outer s H E O0 Ξ) (EZ p most way n es v5) O2 (Zc (Fn 6)) {nx:=N,rt:=Φ}:=by
 have sb:=Aa
 refine⟨?_⟩
 refine AD (AM 6 (Cr DD (ET.we AB (DQ G hr xf po2 (ev 0) (ev 3) (by omega) (by omega) fun side O3 u0 u1 po3=>EF _ ?_))) CW.nd)
 refine AE (AR (CF (Bt (ET.we (ev 3) (Bt (ET.we (HJ Tx.nTuple (Fd ["_law_one","_law_other"] [("_law_side",6)] es AI AI (fun z=>!(decide (z.1<1+side)==decide (z.2<1+side))) rfl (Br (AA Bo) DR (by decide+kernel)) (Ar (ev 4)) (by omega) fun x hx=> ⟨[some (.int x.1),some (.int x.2),some (.int (1+side))],fun X' Oe He is O'=>?_⟩)) (Al ⟨by show 2≤sizeLine;decide,?_⟩)))))))
 ·obtain⟨cl,s',H',fp,rfl⟩:=is
  exact⟨BZ 0 1 rfl ZZ (by decide) (by decide),Qc (QY (ev 0) (ev 2)) (QY (ev 1) (ev 2)),fun _=>Bg (ev 0) (ev 1)⟩
 ·exact q _ O3 (fun z hz=>he z (List.mem_filter.mp hz).1) (Nat.le_trans (List.length_filter_le _ _) hz) po3
end
section
variable{P:Program}{w:World}{K:PySem.W.Frag}{mg:Str→Option Value}{base:Heap}{f:Addr}{cdv:Value}{A:Around}{outer:List Env}{s:Shared}{H:Hp}{E:XK}{O0 O2:AG}{Ξ:Value→AG→Prop}{p:Addr}{most way n:Int}{es:List (Int×Int)}{v5:Option T}{Φ:BK}{N:FP}
theorem dP(hr:Room 2 (zS P w K mg base f cdv A outer s H E O0 Ξ).X.A)(xf:XFly (zS P w K mg base f cdv A outer s H E O0 Ξ).X (zS P w K mg base f cdv A outer s H E O0 Ξ).W)(Tx:Txt mg)(G:FnT P w K mg base "_law_draw" 2 ["_law_pen","_law_many"] Ax)(po2:PO O0 p O2)(w0:0≤way)(n0:1≤n)(n1:n≤10)(he:∀q∈es,AU n q)(hz:es.length≤256)
  (q:∀(ps:List (Int×Int)) (O':AG),(∀q∈ps,AU n q)→ps.length≤256→PO O0 p O'→Φ (.tup [.int n,.tup (ps.map AI)]) O') (q10:∀(ps:List (Int×Int)) (O':AG),(∀q∈ps,AU 10 q)→ps.length≤256→PO O0 p O'→Φ (.tup [.int 10,.tup (ps.map AI)]) O'):HS (zS P w K mg base f cdv A outer s H E O0 Ξ) (EZ p most way n es v5) O2 (Zc (Fn 7)) {nx:=N,rt:=Φ}:=by
 have sb:=Aa
 refine⟨?_⟩
 refine AD ?_
 refine Tf (ts:=List.map AI [(0,1),(1,2),(2,3),(3,4),(0,4),(5,7),(7,9),(6,9),(6,8),(5,8)]) 7 ?hE ?hl ?hk CW.nd ?ha ?hb ?hc
 case ha=>rfl
 case hb=>exact Or.inl rfl
 case hc=>exact .inl rfl
 case hE=>exact CPs.hea (ps:=[(0,1),(1,2),(2,3),(3,4),(0,4),(5,7),(7,9),(6,9),(6,8),(5,8)]) (.cons (.cons (.cons (.cons (.cons (.cons (.cons (.cons (.cons (.cons .nil))))))))))
 case hl=>
  rw[List.length_map]
  exact Nat.le_trans (show 10≤1000 by decide) (Nat.le_of_lt sb)
 refine AE ?_
 refine AR ?_
 refine CF ?_
 refine Bt (ET.we AB ?_)
 refine Bt ?_
 refine ET.we (t:=.tup (List.map AI [(0,1),(1,2),(2,3),(3,4),(0,4),(5,7),(7,9),(6,9),(6,8),(5,8)]++(List.range 5).map fun(j:Nat)=>AI (0+(j:Int),0+(j:Int)+5))) ?u3 ?u4
 case u3=>
  refine HJ Tx.nTuple ?_
  refine En (ev 7) ?_ (by rw[List.length_map,List.length_map];exact Nat.le_trans (show 15≤1000 by decide) (Nat.le_of_lt sb))
  refine Dn ["_law_place"] [] (List.range 5) (fun(j:Nat)=> .int (0+(j:Int))) (fun(j:Nat)=>AI (0+(j:Int),0+(j:Int)+5)) rfl (Br (AA Bo) DR (by decide+kernel)) ?_ (by show 5≤sizeLine;decide) ?_
  ·exact Ag (k:=5) Tx.nRange AB ⟨by decide,by decide⟩
  ·intro x hx
   refine⟨[some (.int (0+x))],fun X' Oe He is O'=>?_⟩
   obtain⟨cl,s',H',fp,rfl⟩:=is
   exact⟨AN 0 VJ (by decide),Bg (ev 0) (BX (ev 0) AB)⟩
 refine Al ⟨by show 2≤sizeLine;decide,?_⟩
 refine q10 [(0,1),(1,2),(2,3),(3,4),(0,4),(5,7),(7,9),(6,9),(6,8),(5,8),(0,5),(1,6),(2,7),(3,8),(4,9)] O2 ?_ (by decide) po2
 unfold AU
 decide
end
section
variable{P:Program}{w:World}{K:PySem.W.Frag}{mg:Str→Option Value}{base:Heap}{f:Addr}{cdv:Value}{A:Around}{outer:List Env}{s:Shared}{H:Hp}{E:XK}{O0 O2:AG}{Ξ:Value→AG→Prop}{p:Addr}{most way n:Int}{es:List (Int×Int)}{v5:Option T}{Φ:BK}{N:FP}
theorem dQ(hr:Room 2 (zS P w K mg base f cdv A outer s H E O0 Ξ).X.A)(xf:XFly (zS P w K mg base f cdv A outer s H E O0 Ξ).X (zS P w K mg base f cdv A outer s H E O0 Ξ).W)(Tx:Txt mg)(G:FnT P w K mg base "_law_draw" 2 ["_law_pen","_law_many"] Ax)(po2:PO O0 p O2)(w0:0≤way)(n0:1≤n)(n1:n≤10)(he:∀q∈es,AU n q)(hz:es.length≤256)
  (q:∀(ps:List (Int×Int)) (O':AG),(∀q∈ps,AU n q)→ps.length≤256→PO O0 p O'→Φ (.tup [.int n,.tup (ps.map AI)]) O') (n2:2<n):HS (zS P w K mg base f cdv A outer s H E O0 Ξ) (EZ p most way n es v5) O2 (Zc (Fn 8)) {nx:=N,rt:=Φ}:=by
 have sb:=Aa
 refine⟨?_⟩
 refine AE (AR (CF (Bt (ET.we (ev 3) (Bt (ET.we (HJ Tx.nTuple (En (us:=[AI (0,n-1)]) (Dn ["_law_place"] [] (List.range (n-1).toNat) (fun j=> .int (0+j)) (fun j=>AI (0+j,0+j+1)) rfl (Br (AA Bo) DR (by decide+kernel)) (Ag Tx.nRange (CH (ev 3) AB) ⟨by omega,by omega⟩) (by simp;omega) fun x hx=> ⟨[some (.int (0+x))],fun X' Oe He is O'=>?_⟩) (BG (AH (Bg AB (CH (ev 3) AB)) AC) (by show 1≤sizeLine;decide)) (by simp;omega))) (Al ⟨by show 2≤sizeLine;decide,?_⟩)))))))
 ·obtain⟨cl,s',H',fp,rfl⟩:=is
  exact⟨AN 0 VJ (by decide),Bg (ev 0) (BX (ev 0) AB)⟩
 ·have:=q ((List.range (n-1).toNat).map (fun(j:Nat)=> (0+(j:Int),0+(j:Int)+1))++[(0,n-1)]) O2 (fun z hz=>by
   rcases List.mem_append.mp hz with hz|hz
   ·obtain⟨j,hj,rfl⟩:=List.mem_map.mp hz
    have:=List.mem_range.mp hj
    show 0≤0+(j:Int)∧0+(j:Int)<0+(j:Int)+1∧0+(j:Int)+1<n
    omega
   ·rw[List.mem_singleton.mp hz]
    show(0:Int)≤0∧0<n-1∧n-1<n
    omega) (by simp;omega) po2
  rw[List.map_append,List.map_map] at this
  exact this
end
section
variable{P:Program}{w:World}{K:PySem.W.Frag}{mg:Str→Option Value}{base:Heap}{f:Addr}{cdv:Value}{A:Around}{outer:List Env}{s:Shared}{H:Hp}{E:XK}{O0 O2:AG}{Ξ:Value→AG→Prop}{p:Addr}{most way n:Int}{es:List (Int×Int)}{v5:Option T}{Φ:BK}{N:FP}
theorem dR(hr:Room 2 (zS P w K mg base f cdv A outer s H E O0 Ξ).X.A)(xf:XFly (zS P w K mg base f cdv A outer s H E O0 Ξ).X (zS P w K mg base f cdv A outer s H E O0 Ξ).W)(Tx:Txt mg)(G:FnT P w K mg base "_law_draw" 2 ["_law_pen","_law_many"] Ax)(po2:PO O0 p O2)(w0:0≤way)(n0:1≤n)(n1:n≤10)(he:∀q∈es,AU n q)(hz:es.length≤256)
  (q:∀(ps:List (Int×Int)) (O':AG),(∀q∈ps,AU n q)→ps.length≤256→PO O0 p O'→Φ (.tup [.int n,.tup (ps.map AI)]) O')  :HS (zS P w K mg base f cdv A outer s H E O0 Ξ) (EZ p most way n es v5) O2 ([Fn 9]) {nx:=N,rt:=Φ}:=by
 have sb:=Aa
 refine⟨?_⟩
 refine AE (AR (CF (Bt (ET.we (ev 3) (Bt (Cw Tx.nTuple (Ij (nc:=["_law_place"]) (cap:=[("_law_pen",0)]) rfl (Br (AA Bo) DR (by decide+kernel)) (EI.wi (Cv Tx.nRange AB (ev 3) ⟨by decide,by decide,by omega,by omega⟩) ?_))))))))
 refine⟨fun i acc O'=>∃qs:List (Int×Int),acc=qs.map AI∧(∀z∈qs,AU n z)∧qs.length≤i∧i≤16∧PO O0 p O',⟨[],rfl,by simp,by simp,by omega,po2⟩,?_,?_⟩
 ·rintro i t acc O' c e ⟨qs,rfl,hq,hl,_,po⟩ hc
  obtain⟨hi,rfl⟩:=Aw e
  refine⟨[some (.int (1+i)),some (.raw (.ref p))],fun X' Oe He is=>?_⟩
  obtain⟨cl,s',H',fp,rfl⟩:=is
  refine⟨AN 0 Za (by decide),Dv (GB ?_)⟩
  rintro X' Oe He ⟨cl,s',H',fp,rfl⟩
  refine CF (Bt (CK G hr DM po hc (ev 1) (ev 0) (by omega) (by omega) fun r O3 r0 r1 po3 hc3=>EA.wa (AH (ev 0) AC) ⟨by show 2≤sizeLine;decide,O3,rfl,hc3,by rw[List.length_map];omega,qs++[(r,1+(i:Int))],by rw[List.map_append];rfl,fun y hy=>?_,by simp;omega,by omega,po3⟩))
  rcases List.mem_append.mp hy with hy|hy
  ·exact hq y hy
  ·rw[List.mem_singleton.mp hy]
   show 0≤r∧r<1+(i:Int)∧1+(i:Int)<n
   omega
 ·rintro acc O' ⟨qs,rfl,hq,hl,hl2,po⟩
  exact⟨_,rfl,Al ⟨by show 2≤sizeLine;decide,q qs O' hq (by omega) po⟩⟩
end
section
variable{P:Program}{w:World}{K:PySem.W.Frag}{mg:Str→Option Value}{base:Heap}{f:Addr}{cdv:Value}{A:Around}{outer:List Env}{s:Shared}{H:Hp}{E:XK}{O0 O2:AG}{Ξ:Value→AG→Prop}{p:Addr}{most way n:Int}{es:List (Int×Int)}{v5:Option T}{Φ:BK}{N:FP}
theorem t9(hr:Room 2 (zS P w K mg base f cdv A outer s H E O0 Ξ).X.A)(xf:XFly (zS P w K mg base f cdv A outer s H E O0 Ξ).X (zS P w K mg base f cdv A outer s H E O0 Ξ).W)(Tx:Txt mg)(G:FnT P w K mg base "_law_draw" 2 ["_law_pen","_law_many"] Ax)(po2:PO O0 p O2)(w0:0≤way)(n0:1≤n)(n1:n≤10)(he:∀q∈es,AU n q)(hz:es.length≤256)
  (q:∀(ps:List (Int×Int)) (O':AG),(∀q∈ps,AU n q)→ps.length≤256→PO O0 p O'→Φ (.tup [.int n,.tup (ps.map AI)]) O'):HS (zS P w K mg base f cdv A outer s H E O0 Ξ) (EZ p most way n es v5) O2 ([Fn 9]) {nx:=N,rt:=Φ}:=by
 exact dR hr xf Tx G po2 w0 n0 n1 he hz q
theorem t8(hr:Room 2 (zS P w K mg base f cdv A outer s H E O0 Ξ).X.A)(xf:XFly (zS P w K mg base f cdv A outer s H E O0 Ξ).X (zS P w K mg base f cdv A outer s H E O0 Ξ).W)(Tx:Txt mg)(G:FnT P w K mg base "_law_draw" 2 ["_law_pen","_law_many"] Ax)(po2:PO O0 p O2)(w0:0≤way)(n0:1≤n)(n1:n≤10)(he:∀q∈es,AU n q)(hz:es.length≤256)
  (q:∀(ps:List (Int×Int)) (O':AG),(∀q∈ps,AU n q)→ps.length≤256→PO O0 p O'→Φ (.tup [.int n,.tup (ps.map AI)]) O'):HS (zS P w K mg base f cdv A outer s H E O0 Ξ) (EZ p most way n es v5) O2 ([Fn 8,Fn 9]) {nx:=N,rt:=Φ}:=by
 refine HQ (EW.eb (EO (Ce (ev 2) AB) fun _=>DL (NS (ev 3) AB))) (fun h=>?_) (fun h=>t9 hr xf Tx G po2 w0 n0 n1 he hz q)
 have h:(decide (way=6)&&decide (2<n))=true:=h
 have n2:2<n:=by simp at h;exact h.2
 exact dQ hr xf Tx G po2 w0 n0 n1 he hz q n2
theorem t7(hr:Room 2 (zS P w K mg base f cdv A outer s H E O0 Ξ).X.A)(xf:XFly (zS P w K mg base f cdv A outer s H E O0 Ξ).X (zS P w K mg base f cdv A outer s H E O0 Ξ).W)(Tx:Txt mg)(G:FnT P w K mg base "_law_draw" 2 ["_law_pen","_law_many"] Ax)(po2:PO O0 p O2)(w0:0≤way)(n0:1≤n)(n1:n≤10)(he:∀q∈es,AU n q)(hz:es.length≤256)
  (q:∀(ps:List (Int×Int)) (O':AG),(∀q∈ps,AU n q)→ps.length≤256→PO O0 p O'→Φ (.tup [.int n,.tup (ps.map AI)]) O') (q10:9<most→∀(ps:List (Int×Int)) (O':AG),(∀q∈ps,AU 10 q)→ps.length≤256→PO O0 p O'→Φ (.tup [.int 10,.tup (ps.map AI)]) O'):HS (zS P w K mg base f cdv A outer s H E O0 Ξ) (EZ p most way n es v5) O2 ([Fn 7,Fn 8,Fn 9]) {nx:=N,rt:=Φ}:=by
 refine HQ (EW.eb (EO (Ce (ev 2) AB) fun _=>DL (NS (ev 1) AB))) (fun h=>?_) (fun h=>t8 hr xf Tx G po2 w0 n0 n1 he hz q)
 have h:(decide (way=5)&&decide (9<most))=true:=h
 have n2:9<most:=by simp at h;exact h.2
 exact dP hr xf Tx G po2 w0 n0 n1 he hz q (q10 n2)
theorem t6(hr:Room 2 (zS P w K mg base f cdv A outer s H E O0 Ξ).X.A)(xf:XFly (zS P w K mg base f cdv A outer s H E O0 Ξ).X (zS P w K mg base f cdv A outer s H E O0 Ξ).W)(Tx:Txt mg)(G:FnT P w K mg base "_law_draw" 2 ["_law_pen","_law_many"] Ax)(po2:PO O0 p O2)(w0:0≤way)(n0:1≤n)(n1:n≤10)(he:∀q∈es,AU n q)(hz:es.length≤256)
  (q:∀(ps:List (Int×Int)) (O':AG),(∀q∈ps,AU n q)→ps.length≤256→PO O0 p O'→Φ (.tup [.int n,.tup (ps.map AI)]) O') (q10:9<most→∀(ps:List (Int×Int)) (O':AG),(∀q∈ps,AU 10 q)→ps.length≤256→PO O0 p O'→Φ (.tup [.int 10,.tup (ps.map AI)]) O'):HS (zS P w K mg base f cdv A outer s H E O0 Ξ) (EZ p most way n es v5) O2 ([Fn 6,Fn 7,Fn 8,Fn 9]) {nx:=N,rt:=Φ}:=by
 exact HQ (Ce (ev 2) AB) (fun h=>dO hr xf Tx G po2 w0 n0 n1 he hz q) (fun h=>t7 hr xf Tx G po2 w0 n0 n1 he hz q q10)
theorem t5(hr:Room 2 (zS P w K mg base f cdv A outer s H E O0 Ξ).X.A)(xf:XFly (zS P w K mg base f cdv A outer s H E O0 Ξ).X (zS P w K mg base f cdv A outer s H E O0 Ξ).W)(Tx:Txt mg)(G:FnT P w K mg base "_law_draw" 2 ["_law_pen","_law_many"] Ax)(po2:PO O0 p O2)(w0:0≤way)(n0:1≤n)(n1:n≤10)(he:∀q∈es,AU n q)(hz:es.length≤256)
  (q:∀(ps:List (Int×Int)) (O':AG),(∀q∈ps,AU n q)→ps.length≤256→PO O0 p O'→Φ (.tup [.int n,.tup (ps.map AI)]) O') (q10:9<most→∀(ps:List (Int×Int)) (O':AG),(∀q∈ps,AU 10 q)→ps.length≤256→PO O0 p O'→Φ (.tup [.int 10,.tup (ps.map AI)]) O') (Gt:FnT P w K mg base "_law_turned" 2 ["_law_many","_law_steps"] DA):HS (zS P w K mg base f cdv A outer s H E O0 Ξ) (EZ p most way n es v5) O2 ([Fn 5,Fn 6,Fn 7,Fn 8,Fn 9]) {nx:=N,rt:=Φ}:=by
 refine HQ (EW.eb (EO (Ce (ev 2) AB) fun _=>DL (NS (ev 3) AB))) (fun h=>?_) (fun h=>t6 hr xf Tx G po2 w0 n0 n1 he hz q q10)
 have h:(decide (way=3)&&decide (2<n))=true:=h
 have n2:2<n:=by simp at h;exact h.2
 exact dN hr xf Tx G po2 w0 n0 n1 he hz q n2 Gt
theorem t4(hr:Room 2 (zS P w K mg base f cdv A outer s H E O0 Ξ).X.A)(xf:XFly (zS P w K mg base f cdv A outer s H E O0 Ξ).X (zS P w K mg base f cdv A outer s H E O0 Ξ).W)(Tx:Txt mg)(G:FnT P w K mg base "_law_draw" 2 ["_law_pen","_law_many"] Ax)(po2:PO O0 p O2)(w0:0≤way)(n0:1≤n)(n1:n≤10)(he:∀q∈es,AU n q)(hz:es.length≤256)
  (q:∀(ps:List (Int×Int)) (O':AG),(∀q∈ps,AU n q)→ps.length≤256→PO O0 p O'→Φ (.tup [.int n,.tup (ps.map AI)]) O') (q10:9<most→∀(ps:List (Int×Int)) (O':AG),(∀q∈ps,AU 10 q)→ps.length≤256→PO O0 p O'→Φ (.tup [.int 10,.tup (ps.map AI)]) O') (Gt:FnT P w K mg base "_law_turned" 2 ["_law_many","_law_steps"] DA):HS (zS P w K mg base f cdv A outer s H E O0 Ξ) (EZ p most way n es v5) O2 ([Fn 4,Fn 5,Fn 6,Fn 7,Fn 8,Fn 9]) {nx:=N,rt:=Φ}:=by
 exact HQ (Uv (ev 2) AB) (fun h=>dM hr xf Tx G po2 w0 n0 n1 he hz q (of_decide_eq_true h)) (fun h=>t5 hr xf Tx G po2 w0 n0 n1 he hz q q10 Gt)
end
section
variable{P:Program}{w:World}{K:PySem.W.Frag}{mg:Str→Option Value}{base:Heap}
theorem SC{f:Addr}{fd:FuncData}(F:Fun K "_law_shape" "_law_shape" Bo f fd)(Tx:Txt mg)(G:FnT P w K mg base "_law_draw" 2 ["_law_pen","_law_many"] Ax)(Gt:FnT P w K mg base "_law_turned" 2 ["_law_many","_law_steps"] DA):FnOk P w K mg base (CXe P w) 3 f fd ["_law_pen","_law_most"] (DZ K Np):=by
 refine Nb F CW ?_ ?_
 ·rintro ts O Φ Ξ ⟨p,xs,m,rfl,_⟩
  rfl
 ·rintro cdv A outer s H E O0 Ξ hr xf _ Φ ⟨p,xs,most,rfl,hp,px,t0,t1,q⟩
  have sb:=Aa
  refine Ah (AM 2 (DQ G hr xf (PO.start hp px) (ev 0) AB (by decide) (by decide) fun way O1 w0 w1 po1=>?_) CW.nd)
  refine Ah (AM 3 (Cr DD (ET.we AB (DQ G hr xf po1 (ev 0) (ev 1) (by omega) (by omega) fun mm O2 u0 u1 po2=>EF _ ?_))) CW.nd)
  have n0:1≤1+mm:=by omega
  have n1:1+mm≤most:=by omega
  generalize 1+mm=n at n0 n1
  clear u0 u1 po1 mm
  have q':∀(ps:List (Int×Int)) (O':AG),(∀q∈ps,AU n q)→ps.length≤256→PO O0 p O'→Φ (.tup [.int n,.tup (ps.map AI)]) O':=fun ps O' a b c=>q n ps O' n0 n1 a b c
  refine Ah (AM 4 (ET.we (BG AC (Nat.zero_le _)) ?_) CW.nd)
  refine Ah (Au AX.own rfl (EI.wi (Ag Tx.nRange (ev 3) ⟨by omega,by omega⟩) ⟨fun i ρ' O'=>∃(es:List (Int×Int)) (v5:Option T),ρ'=EZ p most way n es v5∧O'=O2∧(∀q∈es,AU n q)∧es.length≤16*i,⟨[],none,rfl,rfl,by simp,by simp⟩,?_,?_⟩))
  ·rintro i t _ _ e ⟨es,v5,rfl,rfl,he,hz⟩
   obtain⟨hi,rfl⟩:=Aw e
   refine⟨EZ p most way n es (some (.int (0+i))),AN 5 CW.nd (by show 5<8;decide),?_⟩
   refine AE (AM 4 (ET.we (En (ev 4) (Dn ["_law_one"] [("_law_other",5)] (List.range (0+(i:Int)).toNat) (fun j=> .int (0+j)) (fun j=>AI (0+j,0+i)) rfl (Br (AA Bo) DR (by decide+kernel)) (Ag Tx.nRange (ev 5) ⟨by omega,by omega⟩) (by simp;omega) fun x hx=> ⟨[some (.int (0+x)),some (.int (0+i))],fun X' Oe He is O'=>?_⟩) (by simp;omega)) ?_) CW.nd)
   ·obtain⟨cl,s',H',fp,rfl⟩:=is
    exact⟨AN 0 ZW (by decide),Bg (ev 0) (ev 1)⟩
   ·refine⟨es++(List.range (0+(i:Int)).toNat).map fun(j:Nat)=> (0+(j:Int),0+(i:Int)),some (.int (0+(i:Int))),?_,rfl,fun z hz=>?_,by simp;omega⟩
    ·unfold EZ
     rw[List.map_append,List.map_map];rfl
    ·rcases List.mem_append.mp hz with hz|hz
     ·exact he z hz
     ·obtain⟨j,hj,rfl⟩:=List.mem_map.mp hz
      have:=List.mem_range.mp hj
      show 0≤0+(j:Int)∧0+(j:Int)<0+(i:Int)∧0+(i:Int)<n
      omega
  ·rintro _ _ ⟨es,v5,rfl,rfl,he,hz⟩
   rw[AY] at hz
   have hz:es.length≤256:=by omega
   have n16:n≤10:=by omega
   exact t4 hr xf Tx G po2 w0 n0 n16 he hz q' (fun n2 ps O' a b c=>q 10 ps O' (by decide) (by omega) a b c) Gt
end
end K18
namespace L2.TL
open PySem PySem.Spec PyProof.Rows
theorem OH:∀{ns:List Int},(∀z∈ns,z.natAbs<10^12)→shBs (ns.map T.int)=true
 | [],_=>rfl
 |n::ns,h=>by
  show(Ht (.int n)&&shBs (ns.map T.int))=true
  rw[OH fun z hz=>h z (List.mem_cons_of_mem _ hz),Ht,decide_eq_true (h n (List.mem_cons_self ..))]
  rfl
theorem OI:∀{ns:List Int},(∀z∈ns,z.natAbs<10^12)→PyData.weightAll (dTs (ns.map T.int))≤43*ns.length
 | [],_=>Nat.le_refl _
 |n::ns,h=>by
  show PyData.weight (dT (.int n))+1+PyData.weightAll (dTs (ns.map T.int))≤_
  have h1:=OI fun z hz=>h z (List.mem_cons_of_mem _ hz)
  have h2:=MX (h n (List.mem_cons_self ..))
  rw[List.length_cons]
  omega
theorem FM:∀{L:List (List Int)},PyData.depthAll (dTs (L.map Aj))≤2
 | []=>by simp[dTs,PyData.depthAll]
 |x::L=>by
  have h1:=FM (L:=L)
  have h2:=DV (ns:=x)
  simp only[List.map_cons,dTs,PyData.depthAll,Aj,dT,PyData.depth]
  omega
section
variable{Z:Zx}{ρ:List (Option T)}{O:AG}{e lo:Expr}{p2 pos:Pos}{ts:List T}{i:Int}
end
end L2.TL
namespace K18
open PySem L2 L2.TL PySem.Spec PyProof.Rows GrR
section
variable{P:Program}{w:World}{K:PySem.W.Frag}{mg:Str→Option Value}{base:Heap}
theorem UX{L:List (List Int)}:PyData.eqv (dT (.lst (L.map Aj))) (dT (.lst []))=L.isEmpty:=by
 cases L<;>rfl
def VT:Cu:=MR fun ts t=>∃n ps,ts=[BI n ps]∧WebR n ps∧t=EY (Da ps)
theorem VU:FnScope ["_law_web","_law_size"] ["_law_web"] (AA GP):=⟨rfl,rfl,rfl,by decide+kernel,rfl,by decide+kernel,by decide+kernel⟩
theorem Xh{f:Addr}{fd:FuncData}(F:Fun K "_law_shortest" "_law_shortest" GP f fd)(Tx:Txt mg)(G:FnT P w K mg base "_law_rings" 2 ["_law_web","_law_size"] Zz):FnOk P w K mg base (CXe P w) 3 f fd ["_law_web"] (DZ K VT):=by
 refine Ad F VU ?_ ?_
 ·rintro ts O Φ Ξ ⟨r,⟨n,ps,rfl,_⟩,_⟩
  rfl
 ·rintro cdv A outer s0 H E O Ξ hr xf _ Φ ⟨_,⟨n,ps,rfl,wr,rfl⟩,q⟩
  have sb:=Hl
  have n0:=wr.n0
  have n1:=wr.n1
  have hw:=wr.wn.hw
  have hu:(A.deeper (envOfC "_law_shortest" (AA GP) s0.heap.objs.size f cdv)).units+101<cLine:=by have:=hr.un;omega
  refine AD (Au AX.own rfl (EI.wi (Cv Tx.nRange AB (BX (Ao (t:=.int n) (ev 0) AB) AB) (by omega)) ⟨fun j ρ' O'=>∃v1:Option T,O'=O∧ρ'=[some (BI n ps),v1]∧∀s,3≤s→s<3+j→DP (Gr.Adj ps) (AK ps) s n.toNat=[],⟨none,rfl,rfl,fun s h1 h2=>by omega⟩,?_,?_⟩))
  ·rintro j t _ _ ej ⟨v1,rfl,rfl,hno⟩
   obtain⟨hj,rfl⟩:=Aw ej
   have e3:(3:Int)+(j:Int)=((3+j:Nat):Int):=by omega
   rw[e3]
   refine⟨[some (BI n ps),some (.int ((3+j:Nat):Int))],AN 1 VU.nd (by show 1<2;decide),?_⟩
   refine AE (BB (k:=!(DP (Gr.Adj ps) (AK ps) (3+j) n.toNat).isEmpty) (EB.cast (As (HR hu) (Ae _) (Jg (t:=.lst ((DP (Gr.Adj ps) (AK ps) (3+j) n.toNat).map Aj)) (u:=.lst []) (by rw[CJ];exact Iz) (by rw[CJ];rfl) (by show PyData.depthAll _+1≤100;have:=FM (L:=DP (Gr.Adj ps) (AK ps) (3+j) n.toNat);omega)) (BP G (hr.mono (by decide)) xf (AH (ev 0) (AH (ev 1) AC)) ⟨n,ps,3+j,rfl,wr,by omega,by omega,fun M hM=>?least,rfl⟩) (BG AC (Nat.zero_le _))) (by rw[UX])) (fun h=>?_) (fun h=>BH ⟨_,rfl,rfl,fun s h1 h2=>?_⟩))
   case least=>
    by_cases hlt:3+j≤M.length
    ·exact hlt
    ·have:=(Cy (s:=M.length) Ck Cm (Bp hw) hM.len).mpr ⟨hM,rfl⟩
     rw[hno M.length hM.len (by omega)] at this
     cases this
   ·have hne:DP (Gr.Adj ps) (AK ps) (3+j) n.toNat≠[]:=fun z=>by rw[z] at h;cases h
    have:Da ps=some ((3+j:Nat):Int):=by
     cases e:Da ps with
     |none=>exact absurd (Ru hw e (by omega)) hne
     |some m=>
      obtain⟨k,rfl,hk3,hkn,_,_⟩:=CY hw e
      have h1:=(Rx hw wr.hp (by omega) e).1
      rcases Nat.lt_trichotomy k (3+j) with c|c|c
      ·exact absurd (hno k hk3 c) h1
      ·rw[c]
      ·exact absurd (Rv hw e (by omega) (by omega)) hne
    rw[this] at q
    exact AE (AR (ET.we (ev 1) q))
   ·by_cases hs:s=3+j
    ·subst hs
     revert h
     cases DP (Gr.Adj ps) (AK ps) (3+j) n.toNat with
     |nil=>exact fun _=>rfl
     |cons x l=>intro h;cases h
    ·exact hno s h1 (by omega)
  ·rintro _ _ ⟨v1,rfl,rfl,hno⟩
   rw[AY] at hno
   have:Da ps=none:=by
    cases e:Da ps with
    |none=>rfl
    |some m=>
     obtain⟨k,rfl,hk3,hkn,_,_⟩:=CY hw e
     exact absurd (hno k hk3 (by omega)) (Rx hw wr.hp (by omega) e).1
   rw[this] at q
   exact AE (AR (ET.we BN q))
end
end K18
namespace L2
open PySem PySem.Spec PyProof.Rows
section
variable{X:Cx}{pos:Pos}
end
end L2
namespace L2.TL
open PySem PySem.Spec PyProof.Rows
section
variable{Z:Zx}{ρ:List (Option T)}{O:AG}{Ψ:Es}
variable{k:Nat}{x y z x2:Str}{ta tb tc td:T}{p1 p2 p3 p4 pos:Pos}
end
theorem CZ{Z:Zx}{ρ:List (Option T)}{O:AG}{a:Expr}{t:T}{p1 pos:Pos}{j:Nat}(hr:BR t=false)(ha:ET Z ρ O a t):ET Z ρ O (.Compare a [.IsNot] [.Constant .none j p1] pos) (.bl (!Er t)):=Dj NA (Ae _) (fun Φ p H v w Q ok r1 r2 q=>by
 refine⟨r2.non_inv,?_⟩
 have e:decide (v=V.non)=Er t:=by
  cases r1<;>first|rfl|cases hr
 rw[e]
 exact q _ H _ O p (.refl ok) (.bl _)) ha BN
end L2.TL
namespace K18
open PySem L2 L2.TL PySem.Spec PyProof.Rows GrR
def aB(cs:List Int):Option Int:=if cs.all (fun c=>decide (c=cs.headD 0))=true then some (cs.headD 0) else none
theorem aC{cs:List Int}:Zg cs=EY (aB cs):=by
 unfold Zg aB
 by_cases h:cs.all (fun c=>decide (c=cs.headD 0))=true
 ·rw[if_pos h,if_pos h];rfl
 ·rw[if_neg h,if_neg h];rfl
theorem FO{x:Option Int}{d:Int}:PyData.eqv (dT (EY x)) (dT (.int d))=decide (x=some d):=by
 cases x with
 |none=>rfl
 |some i=>
  show(i==d)=_
  rw[Bool.eq_iff_iff]
  simp
theorem GV{x:Option Int}:CJ (EY x)=true:=by cases x<;> (unfold EY;rw[CJ])
theorem GW{x:Option Int}:(dT (EY x)).depth≤100:=by cases x<;> (show 0≤100;decide)
def EC(n:Int)(ps:List (Int×Int)):Option Int:=aB (BD n ps)
def PV(ps:List (Int×Int))(g:Int):Bool:=match Da ps with
 |none=>false
 |some m=>decide (m<g)
def VV(n:Int)(ps:List (Int×Int))(d g:Int):Bool:=decide (EC n ps=some d)&&!PV ps g
def KI(n:Int)(ps:List (Int×Int)):Option (Int×Int):=match EC n ps,Da ps with
 |some d,some g=>if 2≤d∧grown d g.toNat=n then some (d,g) else none
 |_,_=>none
def UY:Option (Int×Int)→T
 |none=> .non
 |some p=>AI p
theorem OJ{n:Int}{ps:List (Int×Int)}(wr:WebR n ps){d:Int}(h:EC n ps=some d):0≤d∧d≤200∧∀i:Nat,(i:Int)<n→((Ac ps i).length:Int)=d:=by
 unfold EC aB at h
 split at h
 ·rename_i ha
  have h:=Option.some.inj h
  rw[h] at ha
  have all:∀i:Nat,(i:Int)<n→((Ac ps i).length:Int)=d:=fun i hi=>of_decide_eq_true (List.all_eq_true.mp ha _ (List.mem_map.mpr ⟨i,List.mem_range.mpr (by omega),rfl⟩))
  have h0:=all 0 (by have:=wr.n0;omega)
  have:=DT (qs:=ps) (i:=0)
  have:=wr.wn.hl
  exact⟨by omega,by omega,all⟩
 ·cases h
theorem Mq{n:Int}{ps:List (Int×Int)}(wr:WebR n ps){d g:Int}(h:EC n ps=some d)(hs:Da ps=some g):2≤d:=by
 obtain⟨k,rfl,h3,hkn,_,r,hr,hrl⟩:=CY wr.wn.hw hs
 have hall:=(OJ wr h).2.2
 match r,hr,hrl with
 | [],hr,_=>exact absurd hr.len (by decide)
 | [_],hr,_=>exact absurd hr.len (by show¬3≤1;decide)
 | [_,_],hr,_=>exact absurd hr.len (by show¬3≤2;decide)
 |x::y::z::L,hr,_=>
  have hx:=GO (Bp wr.wn.hw) hr x (by simp)
  obtain⟨i,rfl⟩:=Int.eq_ofNat_of_zero_le hx.1
  have e:=hall i hx.2
  have hne:(z::L)≠[]:=by simp
  have hl:(Int.ofNat i::y::z::L).getLast?=some (lst (z::L)):=by
   rw[List.getLast?_cons_cons,List.getLast?_cons_cons];exact Bn hne
  have m1:y∈Ac ps i:=(Bx wr.wn.hw).mpr hr.ch.1
  have m2:lst (z::L)∈Ac ps i:=(Bx wr.wn.hw).mpr (Ck _ _ (hr.cl _ _ rfl hl))
  have ne:y≠lst (z::L):=fun w=>by
   have nd:=hr.nd
   rw[List.nodup_cons,List.nodup_cons] at nd
   exact nd.2.1 (w▸List.mem_of_getLast? (Bn hne))
  have:2≤(Ac ps i).length:=by
   match hh:Ac ps i,m1,m2 with
   | [a],m1,m2=>exact absurd ((List.mem_singleton.mp m1).trans (List.mem_singleton.mp m2).symm) ne
   |_::_::_,_,_=>simp
  omega
section
variable{P:Program}{w:World}{K:PySem.W.Frag}{mg:Str→Option Value}{base:Heap}{CN CE CG CR:Addr}
def SD:Cu:=MR fun ts r=>∃n ps g,ts=[BI n ps,.int g]∧WebR n ps∧r=.bl (PV ps g)
theorem VW:FnScope ["web","g","size"] ["web","g"] (AA XI):=⟨rfl,rfl,rfl,by decide+kernel,rfl,by decide+kernel,by decide+kernel⟩
theorem Xj{f:Addr}{fd:FuncData}(F:Fun K "has_shorter_ring" "has_shorter_ring" XI f fd)(G:FnT P w K mg base "shortest" 3 ["web"] KA):FnOk P w K mg base (CXe P w) 4 f fd ["web","g"] (DZ K SD):=by
 refine Ad F VW ?_ ?_
 ·rintro ts O Φ Ξ ⟨r,⟨n,ps,g,rfl,_⟩,_⟩
  rfl
 ·rintro cdv A outer s H E O Ξ hr xf _ Φ ⟨_,⟨n,ps,g,rfl,wr,rfl⟩,q⟩
  refine AD (AM 2 (ET.we (BP G hr xf (AH (ev 0) AC) ⟨n,ps,rfl,wr.wn,rfl⟩) ?_) VW.nd)
  unfold PV at q
  cases e:Da ps with
  |none=>
   rw[e] at q
   exact AE (AR (ET.we (ET.cast (Cf (x:=false) (y:=false) (CZ (t:=.non) rfl (ev 2)) (fun h=>by cases h)) rfl) q))
  |some m=>
   rw[e] at q
   exact AE (AR (ET.we (ET.cast (Cf (x:=true) (y:=decide (m<g)) (CZ (t:=.int m) rfl (ev 2)) (fun _=>ER (QY (ev 2) (ev 1)))) (by simp)) q))
def SE:Cu:=MR fun ts r=>∃n ps d g,ts=[BI n ps,.int d,.int g]∧WebR n ps∧r=.bl (VV n ps d g)
theorem Xl:FnScope ["web","d","g"] ["web","d","g"] (AA Nk):=⟨rfl,rfl,rfl,by decide+kernel,rfl,by decide+kernel,by decide+kernel⟩
theorem Mr{Z:Zx}{ρ:List (Option T)}{O:AG}{e:Expr}{n:Int}{ps:List (Int×Int)}{p pos:Pos}(G:FnT Z.X.prog Z.X.w Z.X.K Z.X.mg Z.X.base "even_by" 2 ["web"] Hg)(hr:Room 2 Z.X.A)(xf:XFly Z.X Z.W)(wr:WebR n ps)(h:ET Z ρ O e (BI n ps))(hn:Bf e=true:=by rfl)(hg:Gl Z.X "even_by":=by rfl):ET Z ρ O (.Call (.Name "even_by" p) [e] [] pos) (EY (EC n ps)):=
 ET.cast (BP G hr xf (AH h AC hn) ⟨n,ps,rfl,wr.wn,wr.n0,rfl⟩ hg (he:=Dw hn)) (aC)
theorem UZ{f:Addr}{fd:FuncData}(F:Fun K "does_fit" "does_fit" Nk f fd)(Ge:FnT P w K mg base "even_by" 2 ["web"] Hg)(Gh:FnT P w K mg base "has_shorter_ring" 4 ["web","g"] SD):FnOk P w K mg base (CXe P w) 5 f fd ["web","d","g"] (DZ K SE):=by
 refine Ad F Xl ?_ ?_
 ·rintro ts O Φ Ξ ⟨r,⟨n,ps,d,g,rfl,_⟩,_⟩
  rfl
 ·rintro cdv A outer s H E O Ξ hr xf _ Φ ⟨_,⟨n,ps,d,g,rfl,wr,rfl⟩,q⟩
  have hu:(A.deeper (envOfC "does_fit" (AA Nk) s.heap.objs.size f cdv)).units+101<cLine:=by have:=hr.un;omega
  exact AE (AR (ET.we (Cf (x:=decide (EC n ps=some d)) (y:=!PV ps g) (ET.cast (Dj (Jf hu) (Ae _) (Jg (u:=.int d) GV (by rw[CJ]) GW) (Mr Ge (hr.mono (by decide)) xf wr (ev 0)) (ev 1)) (by rw[FO])) (fun _=>ER (Wj (BP Gh (hr.mono (by decide)) xf (AH (ev 0) (AH (ev 2) AC)) ⟨n,ps,g,rfl,wr,rfl⟩)))) q))
def bz(t u:T)(Bad:Prop)(Q:Int→Nat→Prop):Prop:=BR t=false∧BR u=false∧(Hu t 2 15=false∨Hu u 3 16=false→Bad)∧∀(d:Int) (g:Nat),t=.int d→u=.int (g:Int)→2≤d→d≤15→3≤g→g≤16→Q d g
def SF(CN:Addr):Cu:=fun ts O Φ Ξ=>∃n ps t u,ts=[BI n ps,t,u]∧WebR n ps∧bz t u (Ξ (.ref CN) O) fun d g=>Φ (.bl (VV n ps d g)) O
theorem OK{t:T}{a b:Int}(h:Hu t a b=true):∃i,t=.int i∧a≤i∧i≤b:=by
 cases t<;>first| (exact⟨_,rfl,by simpa[Hu] using h⟩)|cases h
theorem Xm:FnScope ["web","d","g"] ["web","d","g"] (AA RJ):=⟨rfl,rfl,rfl,by decide+kernel,rfl,by decide+kernel,by decide+kernel⟩
theorem Ua{f:Addr}{fd:FuncData}(F:Fun K "fits" "fits" RJ f fd)(Gn:FnT P w K mg base "need_ties_and_ring" 4 ["d","g"] (Xc CN))(G:FnT P w K mg base "does_fit" 5 ["web","d","g"] SE):FnOk P w K mg base (CXe P w) 6 f fd ["web","d","g"] (DZ K (SF CN)):=by
 refine Ad F Xm ?_ ?_
 ·rintro ts O Φ Ξ ⟨n,ps,t,u,rfl,_⟩
  rfl
 ·rintro cdv A outer s H E O Ξ hr xf _ Φ ⟨n,ps,t,u,rfl,wr,ht,hu,q1,q2⟩
  refine AD (BL (Af Gn (hr.mono (by decide)) xf (EA.wa (AH (ev 1) (AH (ev 2) AC)) ⟨t,u,rfl,ht,hu,fun h1 h2=>?_,q1⟩)))
  obtain⟨d,rfl,d1,d2⟩:=OK h1
  obtain⟨g,rfl,g1,g2⟩:=OK h2
  obtain⟨k,rfl⟩:=Int.eq_ofNat_of_zero_le (show 0≤g by omega)
  exact AE (AR (ET.we (BP G hr xf (AH (ev 0) (AH (ev 1) (AH (ev 2) AC))) ⟨n,ps,d,k,rfl,wr,rfl⟩) (q2 d k rfl rfl d1 d2 (by omega) (by omega))))
structure Sur(n:Int)(ps:List (Int×Int))(d:Int)(g:Nat)(Ne Nr Ok:Prop):Prop where
 ne:EC n ps≠some d→Ne
 nr:EC n ps=some d→PV ps g=true→Nr
 ok:EC n ps=some d→PV ps g=false→Ok
def VX(CN CE CG:Addr):Cu:=fun ts O Φ Ξ=>∃n ps t u,ts=[BI n ps,t,u]∧WebR n ps∧bz t u (Ξ (.ref CN) O) fun d g=>Sur n ps d g (Ξ (.ref CE) O) (Ξ (.ref CG) O) (Φ (.int (n-grown d g)) O)
theorem aD:FnScope ["web","d","g"] ["web","d","g"] (AA Nl):=⟨rfl,rfl,rfl,by decide+kernel,rfl,by decide+kernel,by decide+kernel⟩
theorem Xn{f:Addr}{fd:FuncData}(F:Fun K "surplus" "surplus" Nl f fd)(mE:mg "NotEven" =some (.ref CE))(xE:PySem.W.excIn K CE Kb "ValueError.__new__" =true)(mG:mg "NoRing" =some (.ref CG))(xG:PySem.W.excIn K CG Kb "ValueError.__new__" =true)(Gn:FnT P w K mg base "need_ties_and_ring" 4 ["d","g"] (Xc CN))(Ge:FnT P w K mg base "even_by" 2 ["web"] Hg)(Gh:FnT P w K mg base "has_shorter_ring" 4 ["web","g"] SD)(Gg:FnT P w K mg base "grown_places" 2 ["d","g"] FK):FnOk P w K mg base (CXe P w) 6 f fd ["web","d","g"] (DZ K (VX CN CE CG)):=by
 refine Nd F aD ?_ ?_
 ·rintro ts O Φ Ξ ⟨n,ps,t,u,rfl,_⟩
  rfl
 ·rintro cdv A outer s H E O Ξ hr xo _ Φ ⟨n,ps,t,u,rfl,wr,ht,hu',q1,q2⟩
  have xf:=xo.f
  have hu:(A.deeper (envOfC "surplus" (AA Nl) s.heap.objs.size f cdv)).units+101<cLine:=by have:=hr.un;omega
  refine AD (BL (Af Gn (hr.mono (by decide)) xf (EA.wa (AH (ev 1) (AH (ev 2) AC)) ⟨t,u,rfl,ht,hu',fun h1 h2=>?_,q1⟩)))
  obtain⟨d,rfl,d1,d2⟩:=OK h1
  obtain⟨g,rfl,g1,g2⟩:=OK h2
  obtain⟨k,rfl⟩:=Int.eq_ofNat_of_zero_le (show 0≤g by omega)
  have q:=q2 d k rfl rfl d1 d2 (by omega) (by omega)
  refine AD (BB (k:=!decide (EC n ps=some d)) (EB.cast (As (HR hu) (Ae _) (Jg (u:=.int d) GV (by rw[CJ]) GW) (Mr Ge (hr.mono (by decide)) xf wr (ev 0)) (ev 1)) (by rw[FO])) (fun h=>?_) (fun h=>BH ?_))
  ·exact AE (Ff xo rfl mE xE (q.ne (by simpa using h)))
  ·have he:EC n ps=some d:=by simpa using h
   refine AD (BB (k:=PV ps (k:Int)) (HG (BP Gh (hr.mono (by decide)) xf (AH (ev 0) (AH (ev 2) AC)) ⟨n,ps,k,rfl,wr,rfl⟩)) (fun h=>?_) (fun h=>BH ?_))
   ·exact AE (Ff xo rfl mG xG (q.nr he h))
   ·exact AE (AR (ET.we (CH (Ao (t:=.int n) (ev 0) AB) (BP Gg (hr.mono (by decide)) xf (AH (ev 1) (AH (ev 2) AC)) ⟨d,k,rfl,by omega,by omega,rfl⟩)) (q.ok he h)))
def SG:Cu:=MR fun ts r=>∃n ps,ts=[BI n ps]∧WebR n ps∧r=UY (KI n ps)
theorem SH:FnScope ["web","d","g"] ["web"] (AA XJ):=⟨rfl,rfl,rfl,by decide+kernel,rfl,by decide+kernel,by decide+kernel⟩
theorem Xo{f:Addr}{fd:FuncData}(F:Fun K "tight_by" "tight_by" XJ f fd)(Tx:Txt mg)(Ge:FnT P w K mg base "even_by" 2 ["web"] Hg)(Gs:FnT P w K mg base "shortest" 3 ["web"] KA)(Gg:FnT P w K mg base "grown_places" 2 ["d","g"] FK):FnOk P w K mg base (CXe P w) 4 f fd ["web"] (DZ K SG):=by
 refine Ad F SH ?_ ?_
 ·rintro ts O Φ Ξ ⟨r,⟨n,ps,rfl,_⟩,_⟩
  rfl
 ·rintro cdv A outer s H E O Ξ hr xf _ Φ ⟨_,⟨n,ps,rfl,wr,rfl⟩,q⟩
  have n1:=wr.n1
  refine AD (AM 1 (ET.we (Mr Ge (hr.mono (by decide)) xf wr (ev 0)) ?_) SH.nd)
  refine AD (AM 2 (ET.we (BP Gs hr xf (AH (ev 0) AC) ⟨n,ps,rfl,wr.wn,rfl⟩) ?_) SH.nd)
  unfold KI at q
  cases e1:EC n ps with
  |none=>
   rw[e1] at q
   exact AD (BB (k:=true) (EW.eb (EW.cast (Ft (x:=true) (y:=true) (EB.cast (DO (t:=.non) rfl (ev 1)) rfl) (fun h=>by cases h)) rfl)) (fun _=>AE (AR (ET.we BN q))) (fun h=>by cases h))
  |some d=>
   cases e2:Da ps with
   |none=>
    rw[e1,e2] at q
    exact AD (BB (k:=true) (EW.eb (EW.cast (Ft (x:=false) (y:=true) (EB.cast (DO (t:=.int d) rfl (ev 1)) rfl) (fun _=>EW.cast (Ft (x:=true) (y:=true) (EB.cast (DO (t:=.non) rfl (ev 2)) rfl) (fun h=>by cases h)) rfl)) rfl)) (fun _=>AE (AR (ET.we BN q))) (fun h=>by cases h))
   |some g=>
    have hd:=(OJ wr e1).1
    have h2:=Mq wr e1 e2
    have hd2:=(OJ wr e1).2.2 0 (by have:=wr.n0;omega)
    have hd3:d<100:=by
     have:=Gr.EV (n:=n) (L:=Ac ps 0) (by rw[Bc wr.wn.hw];exact VQ wr.wn.hw wr.hp _) (fun z hz=>Bp wr.wn.hw _ _ ((Bx wr.wn.hw).mp hz))
     omega
    obtain⟨k,rfl,h3,hkn,_⟩:=CY wr.wn.hw e2
    rw[e1,e2] at q
    have q:Φ (UY (if 2≤d∧grown d (k:Int).toNat=n then some (d,(k:Int)) else none)) O:=q
    rw[Int.toNat_natCast] at q
    refine AD (BB (k:=!decide (grown d k=n)) (EW.eb (EW.cast (Ft (x:=false) (EB.cast (DO (t:=.int d) rfl (ev 1)) rfl) (fun _=>Ft (x:=false) (EB.cast (DO (t:=.int (k:Int)) rfl (ev 2)) rfl) (fun _=>Ft (EB.cast (Uv (ev 1) (Ek Tx.iLT)) (decide_eq_false (show¬d<2 by omega))) fun _=>MQ (Qb (BP Gg (hr.mono (by decide)) xf (AH (ev 1) (AH (ev 2) AC)) ⟨d,k,rfl,by omega,by omega,rfl⟩) (Ao (t:=.int n) (ev 0) AB))))) rfl)) (fun h=>?_) (fun h=>BH ?_))
    ·rw[if_neg (fun z=>by rw[decide_eq_true z.2] at h;cases h)] at q
     exact AE (AR (ET.we BN q))
    ·rw[if_pos ⟨h2,by simpa using h⟩] at q
     exact AE (AR (ET.we (BW (AH (ev 1) (AH (ev 2) AC))) q))
def OL:Cu:=MR fun ts r=>∃n ps,ts=[BI n ps]∧WebR n ps∧r=.bl (KI n ps).isSome
theorem Ub:FnScope ["web"] ["web"] (AA Mi):=⟨rfl,rfl,rfl,by decide+kernel,rfl,by decide+kernel,by decide+kernel⟩
theorem SI{f:Addr}{fd:FuncData}(F:Fun K "tight" "tight" Mi f fd)(G:FnT P w K mg base "tight_by" 4 ["web"] SG):FnOk P w K mg base (CXe P w) 5 f fd ["web"] (DZ K OL):=by
 refine Ad F Ub ?_ ?_
 ·rintro ts O Φ Ξ ⟨r,⟨n,ps,rfl,_⟩,_⟩
  rfl
 ·rintro cdv A outer s H E O Ξ hr xf _ Φ ⟨_,⟨n,ps,rfl,wr,rfl⟩,q⟩
  refine AE (AR (ET.we (ET.cast (CZ (t:=UY (KI n ps)) (by cases KI n ps<;>rfl) (BP G hr xf (AH (ev 0) AC) ⟨n,ps,rfl,wr,rfl⟩)) ?_) q))
  cases KI n ps<;>rfl
theorem Lc:FnScope ["_law_d","_law_g","_law_many","_law_layer","_law_turn"] ["_law_d","_law_g"] (AA Jp):=⟨rfl,rfl,rfl,by decide+kernel,rfl,by decide+kernel,by decide+kernel⟩
theorem Xp{f:Addr}{fd:FuncData}(F:Fun K "_law_grown" "_law_grown" Jp f fd)(Tx:Txt mg):FnOk P w K mg base (CXe P w) 1 f fd ["_law_d","_law_g"] (DZ K FK):=by
 refine Ad F Lc ?_ ?_
 ·rintro ts O Φ Ξ ⟨r,⟨d,g,rfl,_⟩,_⟩
  rfl
 ·rintro cdv A outer s H E O Ξ hr xf _ Φ ⟨_,⟨d,g,rfl,hd,hg,rfl⟩,q⟩
  refine AD (Qf (n:=5) (ET.we (t:=.tup [.int 0,.int 1]) (BW (AH AB (AH AB AC)) (by show 2≤sizeLine;decide)) ⟨[some (.int d),some (.int (g:Int)),some (.int 0),some (.int 1),none],BZ 2 3 rfl Lc.nd (by decide) (by decide),?_⟩))
  refine AD (Au AX.own rfl (EI.wi (Ag Tx.nRange (Em (ev 1) AB ⟨by decide,by decide⟩) (by omega)) ⟨fun i ρ' O'=>∃v4,ρ'=[some (.int d),some (.int (g:Int)),some (.int (IE (d-1) i)),some (.int ((d-1)^i)),v4]∧O=O',⟨none,by rw[Int.pow_zero];rfl,rfl⟩,?_,?_⟩))
  ·rintro i t _ _ e ⟨v4,rfl,rfl⟩
   refine⟨[some (.int d),some (.int (g:Int)),some (.int (IE (d-1) i)),some (.int ((d-1)^i)),some t],AN 4 Lc.nd (by show 4<5;decide),?_⟩
   refine AD (AM 2 (ET.we (BX (ev 2) (ev 3)) ?_) Lc.nd)
   refine AE (AM 3 (ET.we (ET.cast (EN (ev 3) (CH (ev 0) AB) (.inr ⟨by omega,by omega⟩)) (by rw[←Int.pow_succ])) ?_) Lc.nd)
   exact⟨_,rfl,rfl⟩
  ·rintro _ _ ⟨v4,rfl,rfl⟩
   rw[AY,show((g:Int)/2).toNat=g/2 by omega]
   refine AE (AR (ET.we (ET.cast (Dl (Ce (Dk (ev 1) AB (by decide)) AB) (fun _=>BX AB (EN (ev 0) (ev 2) (.inl ⟨by omega,by omega⟩))) (fun _=>EN AB (ev 2) (.inl ⟨by decide,by decide⟩))) ?_) q))
   unfold grown
   by_cases h:g%2=1
   ·rw[if_pos h,decide_eq_true (by omega:(g:Int)%2=1)];rfl
   ·rw[if_neg h,decide_eq_false (by omega:¬(g:Int)%2=1)];rfl
structure Cat(P:Program)(w:World)(K:PySem.W.Frag)(mg:Str→Option Value)(base:Heap)(CN CE CG CR:Addr):Prop where
 ex:∃fR fdR,FnH P w K mg base 1 fR fdR ["_law_e"] (Bu CN "number")∧FnH P w K mg base 1 fR fdR ["_law_e"] (Bu CE "even")∧FnH P w K mg base 1 fR fdR ["_law_e"] (Bu CG "ring")∧mg "_law_kind_of" =some (.ref fR)∧PySem.W.keepIn K (.ref fR)=true∧Binds K fdR ["_law_e"] []
 mR:mg "RingError" =some (.ref CR)
 bR:PySem.W.mroIn K CR (.type "BaseException")=some true
 kN:PySem.W.kitCls K (.ref CN) (.ref CR)=some true
 kE:PySem.W.kitCls K (.ref CE) (.ref CR)=some true
 kG:PySem.W.kitCls K (.ref CG) (.ref CR)=some true
 gf:FnT P w K mg base "fits" 6 ["web","d","g"] (SF CN)
 gs:FnT P w K mg base "surplus" 6 ["web","d","g"] (VX CN CE CG)
theorem SJ{k:Nat}{f C:Addr}{fd:FuncData}{qs:List Str}{y:Str}(F:FnH P w K mg base k f fd qs (Bu C y)):FnH P w K mg base k f fd qs (bb C (.str y)):=
 have im:∀vs H Q E,bb C (.str y) vs H Q E→Bu C y vs H Q E:=fun _ _ _ _ ⟨x,e,r,q⟩=> ⟨x,e,r,fun H' s=>q _ H' s fun _ _=> .str y⟩
 ⟨fun vs H Q E s=>F.len vs H Q E (im _ _ _ _ s),fun A outer s H args us vs Q r e b v q=>F.run A outer s H args us vs Q r e b v (im _ _ _ _ q)⟩
def SK:Cu:=fun ts O Φ _=>∃(i:Nat) (n:Int) (ps:List (Int×Int)) (t u:T),ts=[.int (i:Int),BI n ps,t,u]∧WebR n ps∧i<2∧bz t u (Φ (.str "number") O) fun d g=> (i=0→Φ (.bl (VV n ps d g)) O)∧(i=1→Sur n ps d g (Φ (.str "even") O) (Φ (.str "ring") O) (Φ (.int (n-grown d g)) O))
theorem aE:FnScope ["_law_way","_law_web","_law_d","_law_g","_law_e"] ["_law_way","_law_web","_law_d","_law_g"] (AA Iu):=⟨rfl,rfl,rfl,by decide+kernel,rfl,by decide+kernel,by decide+kernel⟩
theorem aF{f:Addr}{fd:FuncData}(F:Fun K "_law_told" "_law_told" Iu f fd)(B:Cat P w K mg base CN CE CG CR):FnOk P w K mg base (CXe P w) 7 f fd ["_law_way","_law_web","_law_d","_law_g"] (DZ K SK):=by
 refine Ad F aE ?_ ?_
 ·rintro ts O Φ Ξ ⟨i,n,ps,t,u,rfl,_⟩
  rfl
 ·rintro cdv A outer s H E O Ξ hr xf _ Φ ⟨i,n,ps,t,u,rfl,wr,hi,ht,hu,q1,q2⟩
  obtain⟨fR,fdR,FN,FE,FG,mF,kF,bF⟩:=B.ex
  obtain⟨f0,_,_,m0,_,_⟩:=B.gf.ex
  obtain⟨f1,_,_,m1,_,_⟩:=B.gs.ex
  have z2:(2:Nat)≤sizeLine:=by decide
  refine AE (UB (i:=4) (fun cls O'=>O'=O∧((cls=.ref CN∧Φ (.str "number") O)∨(cls=.ref CE∧Φ (.str "even") O)∨(cls=.ref CG∧Φ (.str "ring") O))) (fun pins E' H1 fr xf1=>?_) (fun cls O' h=>?_) (fun y cls O' C x o H1 hc h1 fr hz=>?_) rfl rfl rfl aE.nd rfl rfl B.mR B.bR rfl (by decide))
  ·match i,hi,q2 with
   |0,_,q2=>
    refine AE (AR (Ip (Z:=⟨CA (zB P w K mg base ["_law_way","_law_web","_law_d","_law_g","_law_e"] "_law_told" (AA Iu) f cdv A outer s H E O Ξ).X pins E',O,H1,fun cls O'=>O'=O∧((cls=.ref CN∧Φ (.str "number") O)∨(cls=.ref CE∧Φ (.str "even") O)∨(cls=.ref CG∧Φ (.str "ring") O))⟩) B.gf hr xf1 (fun a ma=>?_) (EA.wa (AH (ev 1) (AH (ev 2) (AH (ev 3) AC))) ⟨n,ps,t,u,rfl,wr,ht,hu,fun h=> ⟨rfl,.inl ⟨rfl,q1 h⟩⟩,fun d g e1 e2 h1 h2 h3 h4=> (q2 d g e1 e2 h1 h2 h3 h4).1 rfl⟩)))
    have:a=f0:=by have z:some (Value.ref f0)=some (Value.ref a):=m0.symm.trans ma;cases z;rfl
    subst this
    exact Bb (BG (ts:=[.raw (.ref a),.raw (.ref f1)]) (AH (GK m0) (AH (GK m1) AC)) z2) (ev 0) (An (j:=0) rfl)
   |1,_,q2=>
    refine AE (AR (Ip (Z:=⟨CA (zB P w K mg base ["_law_way","_law_web","_law_d","_law_g","_law_e"] "_law_told" (AA Iu) f cdv A outer s H E O Ξ).X pins E',O,H1,fun cls O'=>O'=O∧((cls=.ref CN∧Φ (.str "number") O)∨(cls=.ref CE∧Φ (.str "even") O)∨(cls=.ref CG∧Φ (.str "ring") O))⟩) B.gs hr xf1 (fun a ma=>?_) (EA.wa (AH (ev 1) (AH (ev 2) (AH (ev 3) AC))) ⟨n,ps,t,u,rfl,wr,ht,hu,fun h=> ⟨rfl,.inl ⟨rfl,q1 h⟩⟩,fun d g e1 e2 h1 h2 h3 h4=>?_⟩)))
    ·have:a=f1:=by have z:some (Value.ref f1)=some (Value.ref a):=m1.symm.trans ma;cases z;rfl
     subst this
     exact Bb (BG (ts:=[.raw (.ref f0),.raw (.ref a)]) (AH (GK m0) (AH (GK m1) AC)) z2) (ev 0) (An (j:=1) rfl)
    ·have S:=(q2 d g e1 e2 h1 h2 h3 h4).2 rfl
     exact⟨fun h=> ⟨rfl,.inr (.inl ⟨rfl,S.ne h⟩)⟩,fun h h'=> ⟨rfl,.inr (.inr ⟨rfl,S.nr h h'⟩)⟩,S.ok⟩
  ·rcases h.2 with⟨e,_⟩| ⟨e,_⟩| ⟨e,_⟩
   ·exact⟨CN,.inl e,B.kN⟩
   ·exact⟨CE,.inl e,B.kE⟩
   ·exact⟨CG,.inl e,B.kG⟩
  ·obtain⟨rfl,hc⟩:=hc
   have exc:=HK.exc (y:=y) h1 fr hz
   have rH:RoomH 1 (zH (zB P w K mg base ["_law_way","_law_web","_law_d","_law_g","_law_e"] "_law_told" (AA Iu) f cdv A outer s H E O' Ξ) y O' (upd H1 x o)).X.A:=Room.toH (hr.mono (by decide))
   rcases hc with⟨rfl,q⟩| ⟨rfl,q⟩| ⟨rfl,q⟩
   ·obtain rfl:=HK.cls_ref h1
    exact AE (AR (ET.we (HY (SJ FN) mF kF bF rH exc (ev 4)) q))
   ·obtain rfl:=HK.cls_ref h1
    exact AE (AR (ET.we (HY (SJ FE) mF kF bF rH exc (ev 4)) q))
   ·obtain rfl:=HK.cls_ref h1
    exact AE (AR (ET.we (HY (SJ FG) mF kF bF rH exc (ev 4)) q))
end
end K18
namespace L2.TL
open PySem PySem.Spec PySem.Calls PyProof.Rows
section
variable{K:PySem.W.Frag}{O:AG}{H:Hp}{P:Program}{w:World}{h:Heap}
end
section
variable{X:Cx}
theorem Ms(hg:X.A.guards=some [])(hu:X.A.units+101<cLine):Az X (.builtin "repr") (fun xs H Q=>∃a,xs=[.ref a]∧H a=some (.dK [])∧Q (.str (PyData.shown (.dict []))) H):=by
 intro pins s σ H xs us Q I r h
 obtain⟨a,rfl,e,q⟩:=h
 obtain⟨u,rfl,ru⟩:=Vals.one r
 cases ru
 obtain⟨_,ne,vs,kv,o,es,ep,ho,ex,hd,_,he,_⟩:=(show ObjOk X.prog X.w H s.heap a (.dK []) from I.hok a _ e)
 cases kv
 have hes:es.toList=[]:=by
  generalize es.toList=l at he
  cases he
  rfl
 have rd:Reads s.heap (.ref a) (.dict []) (a::[]++[]):=.dict ho ex.1 hd (by rw[hes];exact .nil) (by rw[hes];exact .nil)
 refine repr_of_reads' rd rfl (fun _ hm=>?_) hg (by show X.A.units+(PyData.depth (.dict [])+1)<cLine;simp[PyData.depth,PyData.depthKv];omega) (fun _ _ e=>e) (fun h' u tk hk=> ⟨.str _,H,I.kept hk,⟨u,rfl⟩,q⟩) (by decide+kernel)
 have:sysModules=a:=by simpa using hm
 rw[←this] at ne
 simp at ne
end
section
variable{Z:Zx}{ρ:List (Option T)}{O:AG}{e:Expr}{p pos:Pos}{t:T}{ts:List T}{Φ:BK}
theorem SL(hg:Z.X.A.guards=some [])(hu:Z.X.A.units+101<cLine)(m:Z.X.mg "repr" =none)(h:ET Z ρ O e .dct)
  (hgl:Gl Z.X "repr":=by rfl) (he:starEach [e] Z.X.env=(false,eval e Z.X.env)::starEach [] Z.X.env:=by rfl):ET Z ρ O (.Call (.Name "repr" p) [e] [] pos) (.str (PyData.shown (.dict []))):=
 Am (Ms hg hu) m Il (AJ h AC he) (fun Φ q H vs Q ok r k=>by
  obtain⟨v,rfl,r1⟩:=r.one_inv
  cases r1 with
  |dct h=>exact⟨_,rfl,h,k _ H _ O q (.refl ok) (.str _)⟩) hgl (by decide) (by decide) he
end
mutual
def gW:T→Bool
 | .non=>true
 | .bl _=>true
 | .int i=> (PyData.showable (.int i))&&decide ((PyData.shown (.int i)).length≤64)
 | .str x=>x.cps.toList.all fun c=>decide (c<16^8)
 | .tup ts=>gWs ts
 | .lst ts=>gWs ts
 | .frz _=>false
 | .dct=>false
 | .raw _=>false
def gWs:List T→Bool
 | []=>true
 |t::ts=>gW t&&gWs ts
end
mutual
theorem SM:∀(t:T),gW t=true→(dT t).showable=true∧(dT t).hasDict=false∧(dT t).leavesShort 64=true
 | .non,_=> ⟨rfl,rfl,rfl⟩
 | .bl _,_=> ⟨rfl,rfl,rfl⟩
 | .int i,h=>by
  unfold gW at h
  rw[Bool.and_eq_true] at h
  exact⟨h.1,rfl,h.2⟩
 | .str x,h=> ⟨rfl,rfl,by unfold gW at h;exact h⟩
 | .tup ts,h=>ws_show ts (by unfold gW at h;exact h)
 | .lst ts,h=>ws_show ts (by unfold gW at h;exact h)
 | .frz _,h=>by unfold gW at h;cases h
 | .dct,h=>by unfold gW at h;cases h
 | .raw _,h=>by unfold gW at h;cases h
theorem ws_show:∀(ts:List T),gWs ts=true→PyData.showableAll (dTs ts)=true∧PyData.hasDictAll (dTs ts)=false∧PyData.leavesShortAll 64 (dTs ts)=true
 | [],_=> ⟨rfl,rfl,rfl⟩
 |t::ts,h=>by
  unfold gWs at h
  rw[Bool.and_eq_true] at h
  obtain⟨a1,a2,a3⟩:=SM t h.1
  obtain⟨b1,b2,b3⟩:=ws_show ts h.2
  refine⟨?_,?_,?_⟩
  ·show(PyData.showable (dT t)&&PyData.showableAll (dTs ts))=true
   rw[a1,b1];rfl
  ·show(PyData.hasDict (dT t)||PyData.hasDictAll (dTs ts))=false
   rw[a2,b2];rfl
  ·show(PyData.leavesShort 64 (dT t)&&PyData.leavesShortAll 64 (dTs ts))=true
   rw[a3,b3];rfl
end
section
variable{K:PySem.W.Frag}{O:AG}{H:Hp}{P:Program}{w:World}{h:Heap}
mutual
theorem Rep.readsW (hok:HOk P w H h):∀{v:V} {t:T} {u:Value},Rep K O H v t→gW t=true→RelV v u→∃as,Reads h u (dT t) as
 |_,_,_,.non,_,r=>by cases r;exact⟨_,.none⟩
 |_,_,_,.bl b,_,r=>by cases r;exact⟨_,.bool b⟩
 |_,_,_,.int i,_,r=>by obtain⟨t,rfl⟩:=r;exact⟨_,.int i t⟩
 |_,_,_,.str x,_,r=>by obtain⟨t,rfl⟩:=r;exact⟨_,.str x t⟩
 |_,_,_,.tup (ts:=ts) e q,g,r=>by
  cases r
  obtain⟨_,its,rv,⟨o,e1,e2,n,e3⟩⟩:=(show ObjOk P w H h _ (.tup _) from hok _ _ e)
  obtain⟨as,ra⟩:=Reps.readsW hok q (by unfold gW at g;exact g) rv
  exact⟨_,.tuple (vs:=its.toArray) e1 e2 e3 (by simpa using ra)⟩
 |_,_,_,.lst (ts:=ts) e _ q,g,r=>by
  cases r
  obtain⟨_,its,n,rv,e1⟩:=(show ObjOk P w H h _ (.lst _) from hok _ _ e)
  obtain⟨as,ra⟩:=Reps.readsW hok q (by unfold gW at g;exact g) rv
  exact⟨_,.list (vs:=its.toArray) e1 rfl rfl (by simpa using ra)⟩
 |_,_,_,.frz _ _,g,_=>by unfold gW at g;cases g
 |_,_,_,.dct _,g,_=>by unfold gW at g;cases g
 |_,_,_,.raw v,g,_=>by unfold gW at g;cases g
theorem Reps.readsW (hok:HOk P w H h):∀{vs:List V} {ts:List T} {us:List Value},Reps K O H vs ts→gWs ts=true→Vals vs us→∃as,ReadsAll h us (dTs ts) as
 |_,_,_,.nil,_,r=>by cases r;exact⟨_,.nil⟩
 |_,_,_,.cons a b,g,.cons r1 r2=>by
  unfold gWs at g
  rw[Bool.and_eq_true] at g
  obtain⟨as,x⟩:=Rep.readsW hok a g.1 r1
  obtain⟨bs,y⟩:=Reps.readsW hok b g.2 r2
  exact⟨_,.cons x y⟩
end
end
section
variable{X:Cx}
def Xq(K:PySem.W.Frag):List V→Hp→VK→Prop:=fun xs H Q=>∃v O t,xs=[v]∧Rep K O H v t∧To t=true∧gW t=true∧(dT t).weight≤2^15∧(dT t).depth≤100∧Q (.str (dT t).shown) H
theorem Mt(hg:X.A.guards=some [])(hu:X.A.units+101<cLine):Az X (.builtin "repr") (Xq X.K):=by
 intro pins s σ H xs us Q I r h
 obtain⟨v,O,t,rfl,rep,sq,sh,hw,hd,q⟩:=h
 obtain⟨u,rfl,ru⟩:=Vals.one r
 obtain⟨as,rd⟩:=Rep.readsW I.hok rep sh ru
 obtain⟨s1,s2,s3⟩:=SM t sh
 have hv:∃a,v=.ref a:=by
  cases t with
  |tup ts=>obtain⟨a,_,rfl,_⟩:=rep.tup_inv;exact⟨a,rfl⟩
  |lst ts=>obtain⟨a,_,rfl,_⟩:=rep.lst_inv;exact⟨a,rfl⟩
  |_=>cases sq
 obtain⟨a,rfl⟩:=hv
 cases ru
 have fit:(dT t).shown.length≤sizeLine:=by
  have h:=PyData.shown_le 64 (by decide) (dT t) s3
  have e:(2:Nat)^15=32768:=by decide
  have h2:(64+2)*(dT t).weight≤66*32768:=Nat.mul_le_mul (by omega) (by omega)
  rw[sizeLine_eq]
  omega
 exact repr_of_reads' rd s1 (PyData.noDict_hsm s2) hg (by omega) (fun _ _ e=>e) (fun h' u tk hk=> ⟨.str _,H,I.kept hk,⟨u,rfl⟩,q⟩) fit
theorem Mu:Az X (.builtin "repr") (fun xs H Q=>∃x,xs=[.str x]∧(reprText x).length≤sizeLine∧Q (.str (reprText x)) H):=by
 intro pins s σ H xs us Q I r h
 obtain⟨x,rfl,hz,q⟩:=h
 obtain⟨u,rfl,t,rfl⟩:=Dd r
 exact PySem.P.repr_of_str ⟨.str _,H,I.tok _,⟨_,rfl⟩,q⟩ hz
end
def aG:T→Str
 | .non=> "None"
 | .str x=>reprText x
 | .dct=>PyData.shown (.dict [])
 |t=> (dT t).shown
def cR(t:T):Prop:=(To t=true∧gW t=true∧(dT t).weight≤2^15∧(dT t).depth≤100)∨t=.non∨t=.dct∨∃x,t=.str x∧(reprText x).length≤sizeLine
section
variable{Z:Zx}{ρ:List (Option T)}{O:AG}{e:Expr}{p pos:Pos}{t:T}{ts:List T}{Φ:BK}
theorem Ld(hg:Z.X.A.guards=some [])(hu:Z.X.A.units+101<cLine)(m:Z.X.mg "repr" =none)(h:ET Z ρ O e t)(hr:cR t)
  (hgl:Gl Z.X "repr":=by rfl) (he:starEach [e] Z.X.env=(false,eval e Z.X.env)::starEach [] Z.X.env:=by rfl):ET Z ρ O (.Call (.Name "repr" p) [e] [] pos) (.str (aG t)):=by
 rcases hr with⟨sq,sh,hw,hd⟩|rfl|rfl| ⟨x,rfl,hz⟩
 ·have er:aG t=(dT t).shown:=by cases t<;>first|rfl|cases sq
  rw[er]
  exact Am (Mt hg hu) m Il (AJ h AC he) (fun Φ q H vs Q ok r k=>by
   obtain⟨v,rfl,r1⟩:=r.one_inv
   exact⟨v,O,t,rfl,r1,sq,sh,hw,hd,k _ H _ O q (.refl ok) (.str _)⟩) hgl (by decide) (by decide) he
 ·exact LI m h hgl he
 ·exact SL hg hu m h hgl he
 ·exact Am Mu m Il (AJ h AC he) (fun Φ q H vs Q ok r k=>by
   obtain⟨v,rfl,r1⟩:=r.one_inv
   cases r1.str_inv
   exact⟨x,rfl,hz,k _ H _ O q (.refl ok) (.str _)⟩) hgl (by decide) (by decide) he
end
end L2.TL
namespace K18
open PySem L2 L2.TL PySem.Spec PyProof.Rows GrR
theorem OM{cs:List Int}{a:Int}:(cs=List.replicate cs.length a)↔cs.all (fun c=>decide (c=a))=true:=by
 rw[List.all_eq_true,List.eq_replicate_iff]
 exact⟨fun h c hc=>decide_eq_true (h.2 c hc),fun h=> ⟨rfl,fun c hc=>of_decide_eq_true (h c hc)⟩⟩
theorem PQ{ns ms:List Int}:PyData.eqv (dT (.lst (ns.map T.int))) (dT (.lst (ms.map T.int)))=decide (ns=ms):=LW
theorem Uc{n:Int}{ps:List (Int×Int)}(hw:Gr.FQ n ps){i:Nat}:(ps.filter fun p=>decide ((i:Int)∈[p.1,p.2])).length=(Ac ps i).length:=by
 rw[Bc hw]
 unfold AK
 rw[List.length_map]
theorem PR:(((List.range 16).all fun d=> (List.range 17).all fun g=>decide ((grown (d:Int) g).natAbs<10^12))=true):=by decide+kernel
theorem SN{d:Int}{g:Nat}(h0:0≤d)(h1:d≤15)(hg:g≤16):(grown d g).natAbs<10^12:=by
 obtain⟨k,rfl⟩:=Int.eq_ofNat_of_zero_le h0
 exact of_decide_eq_true (List.all_eq_true.mp (List.all_eq_true.mp PR k (List.mem_range.mpr (by omega))) g (List.mem_range.mpr (by omega)))
def aH:Stmt→Expr
 | .Assign _ e _=>e
 |_=> .Constant .none 0 ⟨0,0,0,0⟩
def cA:Expr→Scope
 | .ListComp _ _ sc _=>sc
 |_=>AA Ci
def cB:List Str:=["_law_web","_law_pen","_law_counts","_law_size","_law_even","_law_pairs","_law_d","_law_g","_law_due","_law_found","_law_word","_law_held"]
theorem Ho:FnScope cB ["_law_web","_law_pen"] (AA Ci):=⟨rfl,rfl,rfl,by decide+kernel,rfl,by decide+kernel,by decide+kernel⟩
def cS(i:Nat):Stmt:=(Ai Ci).getD i (.Pass ⟨0,0,0,0⟩)
def aI:Stmt→List Stmt
 | .For _ _ b _ _=>b
 |_=> []
def cC:Scope:=relabel (cA (aH (cS 0))) (envOfC "_law_right" (AA Ci) 0 0 .none)
theorem aJ:(Ak ["_law_place"] [(("_law_web" :Str),0)]).Nodup:=by decide+kernel
theorem aK:(Ak ["_law_tie"] [(("_law_place" :Str),0)]).Nodup:=by decide+kernel
abbrev zQ(P:Program)(w:World)(K:PySem.W.Frag)(mg:Str→Option Value)(base:Heap)(f:Addr)(cdv:Value)(A:Around)(outer:List Env)(s:Shared)(H:Hp)(E:XK)(O:AG)(Ξ:Value→AG→Prop):Zx:=zB P w K mg base cB "_law_right" (AA Ci) f cdv A outer s H E O Ξ
abbrev SO(n:Int)(ps:List (Int×Int))(p:Addr)(v5 v6 v7 v8 v9 v10 v11:Option T):List (Option T):=[some (BI n ps),some (.raw (.ref p)),some (.lst ((BD n ps).map T.int)),some (EY (Da ps)),some (EY (EC n ps)),v5,v6,v7,v8,v9,v10,v11]
structure HasR(P:Program)(w:World)(K:PySem.W.Frag)(mg:Str→Option Value)(base:Heap):Prop where
 tx:Txt mg
 gd:FnT P w K mg base "_law_draw" 2 ["_law_pen","_law_many"] Ax
 ls:FnT P w K mg base "_law_shortest" 3 ["_law_web"] VT
 lg:FnT P w K mg base "_law_grown" 1 ["_law_d","_law_g"] FK
 lt:FnT P w K mg base "_law_told" 7 ["_law_way","_law_web","_law_d","_law_g"] SK
 gt:FnT P w K mg base "tight_by" 4 ["web"] SG
 gi:FnT P w K mg base "tight" 5 ["web"] OL
theorem Xr{n:Int}{ps:List (Int×Int)}{g:Int}:(!PV ps g)=((Da ps).isNone||decide (g≤(Da ps).getD 0)):=by
 unfold PV
 cases Da ps with
 |none=>rfl
 |some m=>
  show(!decide (m<g))=(false||decide (g≤m))
  rw[Bool.false_or,←decide_not]
  exact decide_eq_decide.mpr (by omega)
section
variable{P:Program}{w:World}{K:PySem.W.Frag}{mg:Str→Option Value}{base:Heap}{f:Addr}{cdv:Value}{A:Around}{outer:List Env}{s0:Shared}{H:Hp}{E:XK}{O0 O:AG}{Ξ:Value→AG→Prop}
theorem Ud{n:Int}{ps:List (Int×Int)}{p:Addr}{d:Int}{g:Nat}{v5 v8 v9 v10 v11:Option T}{Φ:BK}{N Bk Ct:FP}(B:HasR P w K mg base)(hr:Room 7 (zQ P w K mg base f cdv A outer s0 H E O0 Ξ).X.A)(xf:XFly (zQ P w K mg base f cdv A outer s0 H E O0 Ξ).X (zQ P w K mg base f cdv A outer s0 H E O0 Ξ).W)(wr:WebR n ps)(hd:2≤d∧d≤15)(hg:3≤g∧g≤16)
  (k:∀v8 v9 v10,N (SO n ps p v5 (some (.int d)) (some (.int (g:Int))) v8 v9 v10 v11) O):
  HS (zQ P w K mg base f cdv A outer s0 H E O0 Ξ) (SO n ps p v5 (some (.int d)) (some (.int (g:Int))) v8 v9 v10 v11) O (aI (cS 4)) {nx:=N,rt:=Φ,bk:=Bk,ct:=Ct}:=by
 have hgd:(zQ P w K mg base f cdv A outer s0 H E O0 Ξ).X.A.guards=some []:=hr.gd
 have hu:(zQ P w K mg base f cdv A outer s0 H E O0 Ξ).X.A.units+101<cLine:=by have:=hr.un;omega
 have n0:=wr.n0
 have n1:=wr.n1
 have no:∀{t:T} {u:T},t=.int d→u=.int (g:Int)→Hu t 2 15=false∨Hu u 3 16=false→False:=fun{t u} e1 e2 h=>by
  subst e1;subst e2
  rcases h with h|h
  ·have h:(decide ((2:Int)≤d)&&decide (d≤15))=false:=h
   rw[decide_eq_true hd.1,decide_eq_true hd.2] at h;cases h
  ·have h:(decide ((3:Int)≤(g:Int))&&decide ((g:Int)≤16))=false:=h
   rw[decide_eq_true (by omega:(3:Int)≤(g:Int)),decide_eq_true (by omega:(g:Int)≤16)] at h;cases h
 have same:∀{d':Int} {g':Nat},T.int d=.int d'→T.int (g:Int)=.int (g':Int)→d'=d∧g'=g:=fun{d' g'} e1 e2=>by
  cases e1
  have:(g:Int)=g':=by cases e2;rfl
  exact⟨rfl,by omega⟩
 refine Ah (AM 8 (ET.we (t:=.bl (VV n ps d g)) (Cf (x:=decide (EC n ps=some d)) (y:=!PV ps (g:Int)) (ET.cast (Dj (Jf hu) (Ae _) (Jg (u:=.int d) GV (by rw[CJ]) GW) (ev 4) (ev 6)) (by rw[FO])) (fun _=>ER ?or)) ?_) Ho.nd)
 case or=>
  rw[Xr (n:=n)]
  cases e:Da ps with
  |none=>exact ET.cast (Ux (x:=true) (y:=true) (Rp (t:=.non) rfl (ET.cast (ev 3) (by rw[e];rfl))) (fun h=>by cases h)) rfl
  |some m=>exact ET.cast (Ux (x:=false) (y:=decide ((g:Int)≤m)) (Rp (t:=.int m) rfl (ET.cast (ev 3) (by rw[e];rfl))) (fun _=>ER (Uu (ET.cast (ev 3) (by rw[e];rfl)) (ev 7)))) rfl
 refine Ah (AM 9 (ET.we (t:=.bl (VV n ps d g)) (Dt B.lt hr xf (AH AB (AH (ev 0) (AH (ev 6) (AH (ev 7) AC)))) fun Φ' h=> ⟨0,n,ps,.int d,.int (g:Int),rfl,wr,by decide,rfl,rfl,fun z=> (no rfl rfl z).elim,fun d' g' e1 e2 _ _ _ _=> ⟨fun _=>by obtain⟨rfl,rfl⟩:=same e1 e2;exact h,fun z=>by cases z⟩⟩) ?_) Ho.nd)
 refine HQ (k:=false) (EW.eb (EW.cast (Ft (MP (MV B.tx.nIsi B.tx.nBool Ql HI (ev 9) rfl)) fun _=>MQ (Qc (ev 9) (ev 8))) (by simp[Qj]))) (fun h=>by cases h) fun _=>?_
 refine Ah (AM 10 (ET.we (t:=.str (if EC n ps=some d then "ring" else "even")) (ET.cast (Dl (x:=!decide (EC n ps=some d)) (ta:=.str "even") (tb:=.str "ring") (EB.cast (As (HR hu) (Ae _) (Jg (u:=.int d) GV (by rw[CJ]) GW) (ev 4) (ev 6)) (by rw[FO])) (fun _=>Fb) (fun _=>Fb)) (by by_cases z:EC n ps=some d<;>simp[z])) ?_) Ho.nd)
 by_cases hf:VV n ps d g=true
 ·have h1:EC n ps=some d:=of_decide_eq_true (Bool.and_eq_true .. |>.mp hf).1
  have h2:PV ps (g:Int)=false:=by simpa using(Bool.and_eq_true .. |>.mp hf).2
  have hl:(n-grown d g).natAbs.log2<1920:=by
   have:=SN (by omega) hd.2 hg.2
   by_cases h0:(n-grown d g).natAbs=0
   ·rw[h0];decide
   ·exact Nat.lt_trans ((Nat.log2_lt h0).mpr (show _<2^60 by omega)) (by decide)
  refine EU (BB (k:=false) (EB.cast (Md (LH B.tx.nRepr (i:=n-grown d g) (Dt B.lt hr xf (AH AB (AH (ev 0) (AH (ev 6) (AH (ev 7) AC)))) fun Φ' h=> ⟨1,n,ps,.int d,.int (g:Int),rfl,wr,by decide,rfl,rfl,fun z=> (no rfl rfl z).elim,fun d' g' e1 e2 _ _ _ _=> ⟨(fun z=>by cases z),fun _=>by obtain⟨rfl,rfl⟩:=same e1 e2;exact⟨fun z=>absurd h1 z,fun _ z=> (by rw[h2] at z;cases z),fun _ _=>h⟩⟩⟩) hl) (LH B.tx.nRepr (i:=n-grown d g) (ET.cast (Dl (x:=true) (ta:=.int (n-grown d g)) (tb:=.non) (EB.cast (HG (ev 8)) hf) (fun _=>CH (Ao (t:=.int n) (ev 0) AB) (BP B.lg (hr.mono (by decide)) xf (AH (ev 6) (AH (ev 7) AC)) ⟨d,g,rfl,by omega,by omega,rfl⟩)) (fun h=>by cases h)) rfl) hl)) (by simp)) (fun h=>by cases h) (fun _=>BH (k _ _ _)))
 ·have hf':VV n ps d g=false:=by simpa using hf
  have hw:∀{x:Str},x= "ring"∨x= "even"→cR (.str x):=fun{x} h=> .inr (.inr (.inr ⟨x,rfl,by rcases h with rfl|rfl<;>decide+kernel⟩))
  refine EU (BB (k:=false) (EB.cast (Md (Ld (t:=.str (if EC n ps=some d then "ring" else "even")) hgd hu B.tx.nRepr (Dt B.lt hr xf (AH AB (AH (ev 0) (AH (ev 6) (AH (ev 7) AC)))) fun Φ' h=> ⟨1,n,ps,.int d,.int (g:Int),rfl,wr,by decide,rfl,rfl,fun z=> (no rfl rfl z).elim,fun d' g' e1 e2 _ _ _ _=> ⟨(fun z=>by cases z),fun _=>?_⟩⟩) (hw (by split<;>simp))) (Ld (t:=.str (if EC n ps=some d then "ring" else "even")) hgd hu B.tx.nRepr (ET.cast (Dl (x:=false) (ta:=.non) (tb:=.str (if EC n ps=some d then "ring" else "even")) (EB.cast (HG (ev 8)) hf') (fun h=>by cases h) (fun _=>ev 10)) rfl) (hw (by split<;>simp)))) (by simp)) (fun h=>by cases h) (fun _=>BH (k _ _ _)))
  rw[(same e1 e2).1,(same e1 e2).2]
  by_cases z:EC n ps=some d
  ·rw[if_pos z] at h
   have hs:PV ps (g:Int)=true:=by
    unfold VV at hf'
    rw[decide_eq_true z,Bool.true_and] at hf'
    simpa using hf'
   exact⟨fun y=>absurd z y,fun _ _=>h,fun _ y=>by rw[hs] at y;cases y⟩
  ·rw[if_neg z] at h
   exact⟨fun _=>h,fun y=>absurd y z,fun y=>absurd y z⟩
end
end K18
namespace L2
open PySem PySem.Spec PyProof.Rows
section
variable{X:Cx}{a b:Expr}{rest:List Expr}{pos:Pos}{ta tb:TE}
theorem Xs(ha:PE X a ta)(hb:PE X (.BoolOp .Or (b::rest) pos) tb):PE X (.BoolOp .Or (a::b::rest) pos) (fun σ H Q=>ta σ H fun x H1=>∃k,Sk X.K x H1 k∧if k=true then Q x H1 else tb σ H1 Q):=by
 intro pins s σ H Q I h
 refine BoolOp_or (Ay (ha pins s σ H _ I h) fun v s1 ⟨x,H1,I1,r1,k,tr,q1⟩=>?_)
 refine wpAny_mono (Pn pins s1 σ H1 x v (fun k' H'=>k'=k∧H'=H1) I1 r1 ⟨k,tr,rfl,rfl⟩) ?_ fun _ _ e=>e
 rintro k' s2 ⟨H2,I2,rfl,rfl⟩
 cases k' with
 |false=>
  rw[if_neg Bool.false_ne_true] at q1
  exact hb pins s2 σ H2 Q I2 q1
 |true=>
  rw[if_pos rfl] at q1
  exact⟨x,H2,I2,r1,q1⟩
end
end L2
namespace L2.TL
open PySem PySem.Spec PyProof.Rows
section
variable{Z:Zx}{ρ:List (Option T)}{O:AG}{a b:Expr}{es:List Expr}{pos:Pos}{t u:T}
theorem Xu{x:Bool}(ha:ET Z ρ O a t)(tr:TruT O t x)(hb:x=false→ET Z ρ O (.BoolOp .Or (b::es) pos) u):ET Z ρ O (.BoolOp .Or (a::b::es) pos) (if x=true then t else u):=fun Φ p=>by
 refine PE.weak (Xs (BM (ρ:=ρ)) (BM (ρ:=ρ))) fun σ H Q q=>?_
 refine⟨O,_,ha (fun t' O'=>t'=t∧O'=O) ⟨rfl,rfl⟩,q.1,?_⟩
 rintro v H1 _ _ ⟨rfl,rfl⟩ f r
 refine⟨x,tr.v r f.ok,?_⟩
 cases x with
 |true=>exact GB (q.2 _ H1 _ _ p f r)
 |false=>exact Hx ⟨_,_,hb rfl _ p,q.1.step f,q.2.step f⟩
end
end L2.TL
namespace K18
open PySem L2 L2.TL PySem.Spec PyProof.Rows GrR
theorem SQ{n:Int}{ps:List (Int×Int)}(wr:WebR n ps)(n1:n≤10):∃(c:Int) (cs:List Int),BD n ps=c::cs∧(c::cs).length=n.toNat∧0≤c∧c≤10:=by
 have hlen:(BD n ps).length=n.toNat:=by simp[BD]
 have n0:=wr.n0
 cases e:BD n ps with
 |nil=>rw[e] at hlen;simp at hlen;omega
 |cons c cs=>
  rw[e] at hlen
  refine⟨c,cs,rfl,hlen,?_⟩
  have hm:c∈BD n ps:=by rw[e];exact List.mem_cons_self ..
  obtain⟨i,hi,rfl⟩:=List.mem_map.mp hm
  have hi:=List.mem_range.mp hi
  have:=Gr.EV (n:=n) (L:=Ac ps i) (by rw[Bc wr.wn.hw];exact VQ wr.wn.hw wr.hp _) (fun z hz=>Bp wr.wn.hw _ _ ((Bx wr.wn.hw).mp hz))
  omega
theorem KE{n:Int}{ps:List (Int×Int)}{c:Int}{cs:List Int}(e:BD n ps=c::cs):EC n ps=if c::cs=List.replicate (c::cs).length c then some c else none:=by
 unfold EC aB
 rw[e]
 show(if((c::cs).all fun x=>decide (x=c))=true then some c else none)=_
 by_cases h:c::cs=List.replicate (c::cs).length c
 ·rw[if_pos h,if_pos (OM.mp h)]
 ·rw[if_neg h,if_neg (fun z=>h (OM.mpr z))]
def sP:Option (Int×Int)→Str
 |none=> "None"
 |some z=> (dT (AI z)).shown
theorem JD{Z:Zx}{ρ:List (Option T)}{O:AG}{e:Expr}{p pos:Pos}{x:Option (Int×Int)}(hg:Z.X.A.guards=some [])(hu:Z.X.A.units+101<cLine)(m:Z.X.mg "repr" =none)(h:ET Z ρ O e (UY x))(hx:∀z,x=some z→(0≤z.1∧z.1<100)∧0≤z.2∧z.2<100)(hgl:Gl Z.X "repr")(he:starEach [e] Z.X.env=(false,eval e Z.X.env)::starEach [] Z.X.env):ET Z ρ O (.Call (.Name "repr" p) [e] [] pos) (.str (sP x)):=by
 cases x with
 |none=>exact LI m h hgl he
 |some z=>
  obtain⟨h1,h2⟩:=hx z rfl
  have hs:∀y∈[z.1,z.2],y.natAbs<10^12:=fun y hy=>by
   simp only[List.mem_cons,List.not_mem_nil,or_false] at hy
   rcases hy with rfl|rfl<;>omega
  have w1:=OI hs
  have d1:=DV (ns:=[z.1,z.2])
  refine Tp hg hu m h rfl ?_ ?_ ?_ hgl he
  ·show Ht (.tup ([z.1,z.2].map T.int))=true
   rw[Ht];exact OH hs
  ·show PyData.weightAll (dTs ([z.1,z.2].map T.int))≤_
   simp only[List.length_cons,List.length_nil] at w1
   omega
  ·show PyData.depthAll (dTs ([z.1,z.2].map T.int))+1≤100
   omega
section
variable{P:Program}{w:World}{K:PySem.W.Frag}{mg:Str→Option Value}{base:Heap}
def aL:Cu:=fun ts O Φ _=>∃(n:Int) (ps:List (Int×Int)) (p:Addr) (xs:List T),ts=[BI n ps,.raw (.ref p)]∧WebR n ps∧n≤10∧O p=some xs∧Fj xs∧∀O',PO O p O'→Φ (.bl true) O'
theorem aM{f:Addr}{fd:FuncData}(F:Fun K "_law_right" "_law_right" Ci f fd)(B:HasR P w K mg base):FnOk P w K mg base (CXe P w) 8 f fd ["_law_web","_law_pen"] (DZ K aL):=by
 refine Nb F Ho ?_ ?_
 ·rintro ts O Φ Ξ ⟨n,ps,p,xs,rfl,_⟩
  rfl
 ·rintro cdv A outer s0 H E O Ξ hr xf _ Φ ⟨n,ps,p,xs,rfl,wr,n1,hp,px,q⟩
  have sb:=Aa
  have Tx:=B.tx
  have n0:=wr.n0
  have hgd:(A.deeper (envOfC "_law_right" (AA Ci) s0.heap.objs.size f cdv)).guards=some []:=hr.gd
  have hu:(A.deeper (envOfC "_law_right" (AA Ci) s0.heap.objs.size f cdv)).units+102<cLine:=by have:=hr.un;omega
  have po0:PO O p O:=⟨xs,(HP hp).symm,px⟩
  obtain⟨c,cs,ec,hcl,c0,c10⟩:=SQ wr n1
  have hpl:=wr.wn.hl
  refine Ah (HH (i:=2) (nc:=["_law_place"]) (cap:=[("_law_web",0)]) (by rfl) Ho.nd rfl (Br (AA Ci) cB (by decide+kernel)) (EI.wi (Ag Tx.nRange (Ao (t:=.int n) (ev 0) AB) (by omega)) (Ep (List.range n.toNat) (fun(i:Nat)=>T.int (0+(i:Int))) (fun i=>T.int (((Ac ps i).length:Nat):Int)) (by rw[List.length_range];omega) (fun x hx=> ⟨[some (.int (0+(x:Int))),some (BI n ps)],fun X' Oe He is O'=>?near⟩) ?_)))
  case near=>
   obtain⟨cl,s',H',fp,rfl⟩:=is
   rw[Int.zero_add]
   refine⟨AN 0 aJ (by decide),ET.cast (NX Tx.nLen (Fd ["_law_tie"] [("_law_place",0)] ps AI AI (fun p=>decide ((x:Int)∈[p.1,p.2])) rfl (Br cC ["_law_place","_law_web"] (by decide+kernel)) (Fc (Ao (ev 1) AB)) (by omega) fun y hy=> ⟨[some (AI y),some (.int (x:Int))],fun X'' Oe' He' is' O''=>?_⟩)) ?_⟩
   ·obtain⟨cl',s'',H'',fp',rfl⟩:=is'
    exact⟨AN 0 aK (by decide),EB.cast (As (Qu hu) rfl (MY (t:=.int (x:Int)) (us:=[y.1,y.2].map T.int) (by rw[CJ]) DU (by show 0≤100;decide)) (ev 1) (ev 0)) Cz,fun _=>ev 0⟩
   ·rw[List.length_map,Uc wr.wn.hw]
  have e1:(List.range n.toNat).map (fun i=>T.int (((Ac ps i).length:Nat):Int))=(BD n ps).map T.int:=by simp[BD]
  rw[e1]
  refine Ah (AM 3 (ET.we (BP B.ls (hr.mono (by decide)) xf (AH (ev 0) AC) ⟨n,ps,rfl,wr,rfl⟩) ?_) Ho.nd)
  have a0:atI ((BD n ps).map T.int) 0=some (.int c):=by rw[ec];exact An (j:=0) rfl
  have cut1:Oy ((BD n ps).map T.int) none (some 1)=[T.int c]:=by
   rw[ec]
   show((List.map T.int (c::cs)).drop (HT.Fz _ 0 none)).take _=_
   have h1:HT.Fz ((c::cs).map T.int).length 0 none=0:=rfl
   have h2:HT.Fz ((c::cs).map T.int).length ((c::cs).map T.int).length (some 1)=1:=by
    unfold HT.Fz
    simp
   rw[h1,h2]
   rfl
  refine Ah (AM 4 (ET.we (t:=EY (EC n ps)) (ET.cast (Dl (x:=decide (c::cs=List.replicate (c::cs).length c)) (ta:=.int c) (tb:=.non) (EB.cast (As (Jf (Nat.lt_of_succ_lt hu)) (Ae _) (Jg (t:=.lst ((BD n ps).map T.int)) (u:=.lst ((List.replicate n.toNat c).map T.int)) (by rw[CJ];exact DU) (by rw[CJ];exact DU) (by show PyData.depthAll _+1≤100;have:=DV (ns:=BD n ps);omega)) (ev 2) (ET.cast (Ji (t:=.int c) (ET.cast (XC (ev 2) AB) (congrArg T.lst cut1)) (Ao (t:=.int n) (ev 0) AB) ⟨by omega,by omega⟩) (by rw[List.map_replicate]))) (by rw[PQ,ec,hcl])) (fun _=>Bb (ev 2) AB a0) (fun _=>BN)) ?_) ?_) Ho.nd)
  ·rw[KE ec]
   by_cases h:c::cs=List.replicate (c::cs).length c
   ·rw[if_pos h,decide_eq_true h];rfl
   ·rw[if_neg h,decide_eq_false h];rfl
  obtain⟨g0,hg0,hor⟩:∃g0:Nat,(3≤g0∧g0≤16)∧∃x:Bool,TruT O (EY (Da ps)) x∧(if x=true then EY (Da ps) else .int 3)=.int (g0:Int):=by
   cases e:Da ps with
   |none=>exact⟨3,by decide,false,rfl,rfl⟩
   |some m=>
    obtain⟨k,rfl,h3,hkn,_⟩:=CY wr.wn.hw e
    refine⟨k,by omega,true,?_,rfl⟩
    show true=!decide ((k:Int)=0)
    rw[decide_eq_false (by omega)];rfl
  obtain⟨xb,htr,hval⟩:=hor
  have hmx:max 2 c=(if 2≤c then c else 2):=by split<;>omega
  refine Ah (AM 5 (ML (Bt (ET.we (t:=AI (max 2 c,(g0:Int))) (BW (ts:=[.int (max 2 c),.int (g0:Int)]) (AH (GL Tx.nMax rfl AB (Bb (ev 2) AB a0)) (AH (ET.cast (Xu (ev 3) htr (fun _=>ER AB)) hval) AC)) (by show 2≤sizeLine;decide)) (Bt (CF (Bt (Cr DD (ET.we AB (DQ B.gd (hr.mono (by decide)) xf po0 (ev 1) AB (by decide) (by decide) fun r1 O1 r10 r11 po1=>EF _ (Bt (Cr DD (ET.we AB (DQ B.gd (hr.mono (by decide)) xf po1 (ev 1) AB (by decide) (by decide) fun r2 O2 r20 r21 po2=>EF _ (Al ⟨by show 2≤sizeLine;decide,Al ⟨by show 2≤sizeLine;decide,?_⟩⟩)))))))))))))) Ho.nd)
  obtain⟨k2,hk2⟩:=Int.eq_ofNat_of_zero_le (show 0≤3+r2 by omega)
  have four:∀(L:List (Int×Int)),L=[(max 2 c,(g0:Int)),(2+r1,3+r2),(max 2 c,3),(2,16)]→∀q∈L,∃(d:Int) (g:Nat),q=(d,(g:Int))∧(2≤d∧d≤15)∧3≤g∧g≤16:=by
   rintro L rfl q hq
   simp only[List.mem_cons,List.not_mem_nil,or_false] at hq
   rcases hq with rfl|rfl|rfl|rfl
   ·exact⟨_,g0,rfl,by omega,hg0⟩
   ·exact⟨_,k2,by rw[←hk2],by omega,by omega⟩
   ·exact⟨_,3,rfl,by omega,by decide⟩
   ·exact⟨_,16,rfl,by decide,by decide⟩
  have h4:=four _ rfl
  refine Ah (Au AX.own rfl (EI.wi (Ar (ts:=[((max 2 c,(g0:Int)):Int×Int),(2+r1,3+r2),(max 2 c,3),(2,16)].map AI) (ET.cast (En (ts:=[AI (max 2 c,(g0:Int)),.tup [.int (2+r1),.int (3+r2)]]) (us:=[AI (max 2 c,3),AI (2,16)]) (ev 5) (BG (AH (Bg (GL Tx.nMax rfl AB (Bb (ev 2) AB a0)) AB) (AH (Bg AB AB) AC)) (by show 2≤sizeLine;decide)) (by show 4≤sizeLine;decide)) rfl)) ⟨fun j ρ' O'=>∃v6 v7 v8 v9 v10 v11,O2=O'∧ρ'=SO n ps p (some (.lst [AI (max 2 c,(g0:Int)),.tup [.int (2+r1),.int (3+r2)]])) v6 v7 v8 v9 v10 v11,⟨none,none,none,none,none,none,rfl,rfl⟩,?_,?_⟩))
  ·rintro j t _ _ e ⟨v6,v7,v8,v9,v10,v11,rfl,rfl⟩
   rw[List.getElem?_map] at e
   generalize [((max 2 c,(g0:Int)):Int×Int),(2+r1,3+r2),(max 2 c,3),(2,16)]=L at e h4
   cases el:L[j]? with
   |none=>rw[el] at e;cases e
   |some q'=>
    rw[el] at e
    cases e
    obtain⟨d,g,rfl,hd,hg⟩:=h4 q' (List.mem_of_getElem? el)
    exact⟨_,BZ 6 7 rfl Ho.nd (by show 6<12;decide) (by show 7<12;decide),(Ud B hr xf wr hd hg fun v8 v9 v10=> ⟨_,_,_,_,_,_,rfl,rfl⟩).out⟩
  ·rintro _ _ ⟨v6,v7,v8,v9,v10,v11,rfl,rfl⟩
   have htb:(KI n ps).isSome=((EC n ps).isSome&&((Da ps).isSome&&decide (grown ((EC n ps).getD 0) ((Da ps).getD 0).toNat=n))):=by
    unfold KI
    cases e1:EC n ps with
    |none=>rfl
    |some d=>
     cases e2:Da ps with
     |none=>rfl
     |some g=>
      have:=Mq wr e1 e2
      show(if 2≤d∧grown d g.toNat=n then some (d,g) else none).isSome=(true&&(true&&decide (grown d g.toNat=n)))
      by_cases h:grown d g.toNat=n
      ·rw[if_pos ⟨this,h⟩,decide_eq_true h];rfl
      ·rw[if_neg fun z=>h z.2,decide_eq_false h];rfl
   refine Ah (AM 11 (ET.we (t:=.bl (KI n ps).isSome) ?held ?_) Ho.nd)
   case held=>
    rw[htb]
    cases e1:EC n ps with
    |none=>exact ET.cast (Cf (x:=false) (y:=false) (CZ (t:=.non) rfl (ET.cast (ev 4) (by rw[e1];rfl))) (fun h=>by cases h)) rfl
    |some d=>
     cases e2:Da ps with
     |none=>exact ET.cast (Cf (x:=true) (y:=false) (CZ (t:=.int d) rfl (ET.cast (ev 4) (by rw[e1];rfl))) (fun _=>ET.cast (Cf (x:=false) (y:=false) (CZ (t:=.non) rfl (ET.cast (ev 3) (by rw[e2];rfl))) (fun h=>by cases h)) rfl)) rfl
     |some g=>
      obtain⟨k,rfl,h3,hkn,_⟩:=CY wr.wn.hw e2
      have hd:=(OJ wr e1)
      have h2:=Mq wr e1 e2
      have hd3:d≤10:=by
       have:=KE ec
       rw[e1] at this
       split at this
       ·have:=Option.some.inj this;omega
       ·cases this
      refine ET.cast (Cf (x:=true) (y:=decide (grown d k=n)) (CZ (t:=.int d) rfl (ET.cast (ev 4) (by rw[e1];rfl))) (fun _=>ET.cast (Cf (x:=true) (y:=decide (grown d k=n)) (CZ (t:=.int (k:Int)) rfl (ET.cast (ev 3) (by rw[e2];rfl))) (fun _=>ER (Wg (BP B.lg (hr.mono (by decide)) xf (AH (ET.cast (ev 4) (by rw[e1];rfl)) (AH (ET.cast (ev 3) (by rw[e2];rfl)) AC)) ⟨d,k,rfl,by omega,by omega,rfl⟩) (Ao (t:=.int n) (ev 0) AB)))) (by simp))) ?_
      show T.bl (true&&decide (grown d k=n))=T.bl (true&&(true&&decide (grown d (k:Int).toNat=n)))
      rw[Int.toNat_natCast]
      simp
   have hrp:∀z,KI n ps=some z→(0≤z.1∧z.1<100)∧0≤z.2∧z.2<100:=fun z e=>by
    unfold KI at e
    cases e1:EC n ps with
    |none=>rw[e1] at e;cases e
    |some d=>
     cases e2:Da ps with
     |none=>rw[e1,e2] at e;cases e
     |some g=>
      rw[e1,e2] at e
      have e:(if 2≤d∧grown d g.toNat=n then some (d,g) else none)=some z:=e
      split at e
      ·cases e
       obtain⟨k,rfl,h3,hkn,_⟩:=CY wr.wn.hw e2
       have:=KE ec
       rw[e1] at this
       split at this
       ·have:=Option.some.inj this
        exact⟨by simp only;omega,by simp only;omega⟩
       ·cases this
      ·cases e
   refine HQ (k:=false) (EB.cast (Md (JD (x:=KI n ps) hgd (Nat.lt_of_succ_lt hu) Tx.nRepr (BP B.gt (hr.mono (by decide)) xf (AH (ev 0) AC) ⟨n,ps,rfl,wr,rfl⟩) hrp rfl rfl) (JD (x:=KI n ps) hgd (Nat.lt_of_succ_lt hu) Tx.nRepr ?pr hrp rfl rfl)) (by simp)) (fun h=>by cases h) fun _=>?_
   case pr=>
    cases e:KI n ps with
    |none=>exact ET.cast (Dl (x:=false) (ta:=.non) (tb:=.non) (EB.cast (HG (ev 11)) rfl) (fun h=>by cases h) (fun _=>BN)) rfl
    |some z=>
     have hz:EC n ps=some z.1∧Da ps=some z.2:=by
      unfold KI at e
      cases e1:EC n ps with
      |none=>rw[e1] at e;cases e
      |some d=>
       cases e2:Da ps with
       |none=>rw[e1,e2] at e;cases e
       |some g=>
        rw[e1,e2] at e
        have e:(if 2≤d∧grown d g.toNat=n then some (d,g) else none)=some z:=e
        split at e
        ·cases e;exact⟨rfl,rfl⟩
        ·cases e
     exact ET.cast (Dl (x:=true) (ta:=AI z) (tb:=.non) (EB.cast (HG (ev 11)) rfl) (fun _=>BW (ts:=[.int z.1,.int z.2]) (AH (ET.cast (ev 4) (by rw[hz.1];rfl)) (AH (ET.cast (ev 3) (by rw[hz.2];rfl)) AC)) (by show 2≤sizeLine;decide)) (fun h=>by cases h)) rfl
   refine Ah (AM 9 (ET.we (BP B.gi (hr.mono (by decide)) xf (AH (ev 0) AC) ⟨n,ps,rfl,wr,rfl⟩) ?_) Ho.nd)
   exact EU (AR (ET.we (ET.cast (Cf (x:=true) (y:=true) (ET.cast (Qo (t:=.bl (KI n ps).isSome) Tx.nIsi Tx.nBool Ql HI (ev 9) rfl) rfl) (fun _=>ER (ET.cast (Wh (x:=(KI n ps).isSome) (y:=(KI n ps).isSome) (ev 9) (ev 11)) (by simp)))) rfl) (q O2 po2)))
end
end K18
namespace L2.TL
open PySem PySem.Spec PyProof.Rows
section
variable{Z:Zx}{ρ:List (Option T)}{O:AG}{e hi:Expr}{p2 pos:Pos}{ts:List T}{Φ:BK}
theorem Ue(h:ET Z ρ O e (.lst ts))(h2:WE Z ρ O hi fun t O'=>∃i,t=.int i∧Φ (.lst (Oy ts none (some i))) O'):WE Z ρ O (.Subscript e (.Slice none (some hi) none p2) pos) Φ:=by
 refine PE.weak (Gc JL (BM (ρ:=ρ)) NB (GI (BM (ρ:=ρ)))) fun σ H0 Q q=>?_
 refine⟨O,_,h (fun t O'=>t=.lst ts∧O'=O) ⟨rfl,rfl⟩,q.1,?_⟩
 rintro v H1 _ _ ⟨rfl,rfl⟩ f1 r1
 refine⟨_,_,h2,q.1.step f1,?_⟩
 rintro v2 H2 t2 O2 ⟨i,rfl,k⟩ f2 r2
 obtain⟨a,xs,rfl,h1,_,r1⟩:=(r1.kp f2.kp f1.ok).lst_inv
 have ff:=f1.trans f2
 exact⟨i,r2.int_inv,a,xs,rfl,.inl (.inl h1),fun l hl=>q.2 _ _ _ _ k (ff.trans (.new ff.ok hl)) (.lst AO (ff.ok.none_of hl) ((r1.cut).kp (BV ff.ok hl) ff.ok))⟩
end
end L2.TL
namespace K18
open PySem L2 L2.TL PySem.Spec PyProof.Rows GrR
def cD(i:Nat):Stmt:=(Ai LP).getD i (.Pass ⟨0,0,0,0⟩)
def cE:Stmt→Expr
 | .For _ i _ _ _=>i
 |_=> .Constant .none 0 ⟨0,0,0,0⟩
def Ug:Stmt→List Stmt
 | .For _ _ b _ _=>b
 |_=> []
def cT(i:Nat):Stmt:=(Ug (cD 0)).getD i (.Pass ⟨0,0,0,0⟩)
def SR:List Str:=["_law_script","_law_cell","_law_pen","_law_web","_law_round_web","_law_bad"]
theorem Hq:FnScope SR ["_law_script"] (AA LP):=⟨rfl,rfl,rfl,by decide+kernel,rfl,by decide+kernel,by decide+kernel⟩
abbrev zL(P:Program)(w:World)(K:PySem.W.Frag)(mg:Str→Option Value)(base:Heap)(f:Addr)(cdv:Value)(A:Around)(outer:List Env)(s:Shared)(H:Hp)(E:XK):Zx:=zB P w K mg base SR "law" (AA LP) f cdv A outer s H E VC (fun _ _=>False)
structure Has(P:Program)(w:World)(K:PySem.W.Frag)(mg:Str→Option Value)(base:Heap):Prop where
 tx:Txt mg
 gp:FnT P w K mg base "_law_pen_of" 1 ["_law_cell"] VG
 gd:FnT P w K mg base "_law_draw" 2 ["_law_pen","_law_many"] Ax
 gy:FnT P w K mg base "_law_web_by" 4 ["_law_pen","_law_most"] Nq
 gu:FnT P w K mg base "_law_turned" 2 ["_law_many","_law_steps"] DA
 lt:FnT P w K mg base "_law_told" 7 ["_law_way","_law_web","_law_d","_law_g"] SK
 gr:FnT P w K mg base "_law_right" 8 ["_law_web","_law_pen"] aL
def ON(K:PySem.W.Frag):Sp:=fun vs H Q _=>∃(a:Addr) (ns:List Int),vs=[.ref a]∧SqL K H a (ns.map V.int)∧ns.length≤63∧∀H',Q (.bl true) H'
def cF:BK:=fun t _=>t=.bl true
theorem Xv{n:Int}{ps:List (Int×Int)}(n1:n≤10)(hP:∀q∈ps,AU n q)(pw:ps.Pairwise Kx):ps.length≤100:=by
 have h:=Gr.EV (n:=100) (L:=ps.map fun p=>p.1*10+p.2) ?_ ?_
 ·rw[List.length_map] at h
  have:(100:Int).toNat=100:=rfl
  omega
 ·rw[List.nodup_iff_pairwise_ne,List.pairwise_map]
  have:=List.Pairwise.and_mem.mp pw
  refine this.imp ?_
  rintro a b ⟨ha,hb,h⟩ e
  have h1:=hP a ha
  have h2:=hP b hb
  unfold AU at h1 h2
  unfold Kx at h
  omega
 ·intro z hz
  obtain⟨p,hp,rfl⟩:=List.mem_map.mp hz
  have h1:=hP p hp
  unfold AU at h1
  omega
theorem VY{n:Int}{ps:List (Int×Int)}(n0:1≤n)(n1:n≤10)(hP:∀q∈ps,AU n q)(pw:ps.Pairwise Kx):WebR n ps:=⟨⟨by omega,by omega,hP,by have:=Xv n1 hP pw;omega⟩,pw,n0,by omega⟩
theorem aN:(Ak ["_law_way"] [(("_law_web" :Str),3),(("_law_bad" :Str),5)]).Nodup:=by decide+kernel
def Xw:List T:=[.int 1,.int 16,.bl true,.non,.str "3",.tup [.int 3],.int (10^30)]
def Xx:List T:=[.int 2,.int 17,.bl true,.non,.str "3",.tup [.int 3],.int (10^30)]
theorem aO:∀t∈Xw,BR t=false∧Hu t 2 15=false:=by
 intro t ht
 unfold Xw at ht
 simp only[List.mem_cons,List.not_mem_nil,or_false] at ht
 rcases ht with rfl|rfl|rfl|rfl|rfl|rfl|rfl<;>exact⟨rfl,by decide+kernel⟩
theorem aP:∀t∈Xx,BR t=false∧Hu t 3 16=false:=by
 intro t ht
 unfold Xx at ht
 simp only[List.mem_cons,List.not_mem_nil,or_false] at ht
 rcases ht with rfl|rfl|rfl|rfl|rfl|rfl|rfl<;>exact⟨rfl,by decide+kernel⟩
section
variable{P:Program}{w:World}{K:PySem.W.Frag}{mg:Str→Option Value}{base:Heap}{f:Addr}{cdv:Value}{A:Around}{outer:List Env}{s:Shared}{H:Hp}{E:XK}
theorem OO:PyData.eqv (dT (.lst ((List.range 2).map fun _=>T.str "number"))) (dT (.lst (List.replicate (2:Int).toNat (T.str "number"))))=true:=by decide+kernel
theorem SS{O:AG}{v0 v1 v2 v4:Option T}{n:Int}{ps:List (Int×Int)}{t:T}{Φ:BK}{N Bk Ct:FP}(B:Has P w K mg base)(hr:Room 8 (zL P w K mg base f cdv A outer s H E).X.A)(wr:WebR n ps)(ht:BR t=false∧Hu t 2 15=false)(k:N [v0,v1,v2,some (BI n ps),v4,some t] O):
  HS (zL P w K mg base f cdv A outer s H E) [v0,v1,v2,some (BI n ps),v4,some t] O (Ug (cT 4)) {nx:=N,rt:=Φ,bk:=Bk,ct:=Ct}:=by
 have hu:(zL P w K mg base f cdv A outer s H E).X.A.units+101<cLine:=by have:=hr.un;omega
 refine EU (BB (k:=false) (EB.cast (As (HR hu) (Ae _) (Jg (t:=.lst ((List.range 2).map fun _=>T.str "number")) (u:=.lst (List.replicate (2:Int).toNat (T.str "number"))) (by decide+kernel) (by decide+kernel) (by decide+kernel)) (Dn ["_law_way"] [("_law_web",3),("_law_bad",5)] (List.range 2) (fun(i:Nat)=>T.int (0+(i:Int))) (fun _=> .str "number") rfl (Br (AA LP) SR (by decide+kernel)) (Ag (k:=2) B.tx.nRange AB ⟨by decide,by decide⟩) (by show 2≤sizeLine;decide) fun i hi=> ⟨[some (.int (0+(i:Int))),some (BI n ps),some t],fun X' Oe He is O'=>?_⟩) (Ji (t:=.str "number") (BG (AH Fb AC) (by show 1≤sizeLine;decide)) AB ⟨by decide,by decide⟩)) (by rw[OO];rfl)) (fun h=>by cases h) (fun _=>BH k))
 obtain⟨cl,s',H',fp,rfl⟩:=is
 have hi:=List.mem_range.mp hi
 rw[Int.zero_add]
 exact⟨AN 0 aN (by decide),Dt B.lt (hr.mono (by decide)) DM (AH (ev 0) (AH (ev 1) (AH (ev 2) (AH AB AC)))) fun Φ' h=> ⟨i,n,ps,t,.int 3,rfl,wr,hi,ht.1,rfl,fun _=>h,fun d g e1 _ h1 h2 _ _=>by
  exfalso
  rw[e1] at ht
  have h5:(decide ((2:Int)≤d)&&decide (d≤15))=false:=ht.2
  rw[decide_eq_true h1,decide_eq_true h2] at h5
  cases h5⟩⟩
theorem SU{O:AG}{v0 v1 v2 v4:Option T}{n:Int}{ps:List (Int×Int)}{t:T}{Φ:BK}{N Bk Ct:FP}(B:Has P w K mg base)(hr:Room 8 (zL P w K mg base f cdv A outer s H E).X.A)(wr:WebR n ps)(ht:BR t=false∧Hu t 3 16=false)(k:N [v0,v1,v2,some (BI n ps),v4,some t] O):
  HS (zL P w K mg base f cdv A outer s H E) [v0,v1,v2,some (BI n ps),v4,some t] O (Ug (cT 5)) {nx:=N,rt:=Φ,bk:=Bk,ct:=Ct}:=by
 have hu:(zL P w K mg base f cdv A outer s H E).X.A.units+101<cLine:=by have:=hr.un;omega
 refine EU (BB (k:=false) (EB.cast (As (HR hu) (Ae _) (Jg (t:=.lst ((List.range 2).map fun _=>T.str "number")) (u:=.lst (List.replicate (2:Int).toNat (T.str "number"))) (by decide+kernel) (by decide+kernel) (by decide+kernel)) (Dn ["_law_way"] [("_law_web",3),("_law_bad",5)] (List.range 2) (fun(i:Nat)=>T.int (0+(i:Int))) (fun _=> .str "number") rfl (Br (AA LP) SR (by decide+kernel)) (Ag (k:=2) B.tx.nRange AB ⟨by decide,by decide⟩) (by show 2≤sizeLine;decide) fun i hi=> ⟨[some (.int (0+(i:Int))),some (BI n ps),some t],fun X' Oe He is O'=>?_⟩) (Ji (t:=.str "number") (BG (AH Fb AC) (by show 1≤sizeLine;decide)) AB ⟨by decide,by decide⟩)) (by rw[OO];rfl)) (fun h=>by cases h) (fun _=>BH k))
 obtain⟨cl,s',H',fp,rfl⟩:=is
 have hi:=List.mem_range.mp hi
 rw[Int.zero_add]
 exact⟨AN 0 aN (by decide),Dt B.lt (hr.mono (by decide)) DM (AH (ev 0) (AH (ev 1) (AH AB (AH (ev 2) AC)))) fun Φ' h=> ⟨i,n,ps,.int 2,t,rfl,wr,hi,rfl,ht.1,fun _=>h,fun d g _ e1 _ _ h1 h2=>by
  exfalso
  rw[e1] at ht
  have h5:(decide ((3:Int)≤(g:Int))&&decide ((g:Int)≤16))=false:=ht.2
  rw[decide_eq_true (by omega:(3:Int)≤(g:Int)),decide_eq_true (by omega:(g:Int)≤16)] at h5
  cases h5⟩⟩
theorem SV{O:AG}{v0 v2 v3 v4 v5:Option T}{c:Int}{Φ:BK}{N Bk Ct:FP}(B:Has P w K mg base)(hr:Room 8 (zL P w K mg base f cdv A outer s H E).X.A)(xf:XFly (zL P w K mg base f cdv A outer s H E).X (zL P w K mg base f cdv A outer s H E).W)
  (k:∀v2 v3 v4 v5 O',N [v0,some (.int c),v2,v3,v4,v5] O'):HS (zL P w K mg base f cdv A outer s H E) [v0,some (.int c),v2,v3,v4,v5] O (Ug (cD 0)) {nx:=N,rt:=Φ,bk:=Bk,ct:=Ct}:=by
 have sb:=Aa
 refine Ah (AM 2 (Af B.gp (hr.mono (by decide)) xf (EA.wa (AH (ev 1) AC) ⟨c,rfl,fun p xs hp px=>?_⟩)) Hq.nd)
 refine Ah (AM 3 (Af B.gy (hr.mono (by decide)) xf (EA.wa (AH (ev 2) (AH AB AC)) ⟨p,xs,10,rfl,AF,px,by decide,by decide,fun n ps O1 n0 n1 hP pw hl po=>?_⟩)) Hq.nd)
 have wr:=VY n0 n1 hP pw
 refine Ah (AM 4 (Af B.gu (hr.mono (by decide)) xf (Bt (Cr DD (ET.we AB (DQ B.gd (hr.mono (by decide)) xf po (ev 2) AB (by decide) (by decide) fun r1 O2 r10 r11 po2=>EF _ (Bt (Ue (ts:=[.int 1,.int 2]) (BG (AH AB (AH AB AC)) (by show 2≤sizeLine;decide)) (Cr DD (ET.we AB (DQ B.gd (hr.mono (by decide)) xf po2 (ev 2) AB (by decide) (by decide) fun r2 O3 r20 r21 po3=>EF _ ⟨1+r2,rfl,Al ?_⟩)))))))))) Hq.nd)
 obtain⟨ss,hcut,hss⟩:∃ss:List Int,Oy [T.int 1,T.int 2] none (some (1+r2))=ss.map T.int∧(ss=[1]∨ss=[1,2]):=by
  have:r2=0∨r2=1:=by omega
  rcases this with rfl|rfl
  ·exact⟨[1],rfl,.inl rfl⟩
  ·exact⟨[1,2],rfl,.inr rfl⟩
 rw[hcut]
 refine⟨3+r1,ss,rfl,by omega,by omega,by rcases hss with rfl|rfl<;>decide,fun z hz=>?_,fun qs q1 q2 q3=>?_⟩
 ·rcases hss with rfl|rfl
  ·rw[List.mem_singleton.mp hz];omega
  ·simp only[List.mem_cons,List.not_mem_nil,or_false] at hz
   rcases hz with rfl|rfl<;>omega
 have wr2:WebR (3+r1) qs:=VY (by omega) (by omega) q2 q1
 obtain⟨ys,hy,py⟩:=po3.at
 refine Ah (Uz (WW.wt (Uw (MO (HF (Af B.gr hr xf (EA.wa (AH (ev 3) (AH (ev 2) AC)) ⟨n,ps,p,ys,rfl,wr,n1,hy,py,fun O4 po4=> ⟨true,rfl,?_⟩⟩)))))))
 refine Hx (Qd ?_)
 obtain⟨zs,hz,pz⟩:=po4.at
 refine MO (HF (Af B.gr hr xf (EA.wa (AH (ev 4) (AH (ev 2) AC)) ⟨3+r1,qs,p,zs,rfl,wr2,by omega,hz,pz,fun O5 po5=> ⟨true,rfl,?_⟩⟩)))
 refine Hx (BH ?_)
 refine Ah (Nf AX.own rfl (ts:=Xw) (.cons ⟨AB⟩ (.cons ⟨AB⟩ (.cons ⟨NR⟩ (.cons ⟨BN⟩ (.cons ⟨Fb⟩ (.cons ⟨BW (AH AB AC)⟩ (.cons ⟨MM AB AB ⟨by decide,by decide,by decide⟩⟩ .nil))))))) (by show 7≤sizeLine;decide) (fun i ρ' O'=>∃v5,ρ'=[v0,some (.int c),some (.raw (.ref p)),some (BI n ps),some (BI (3+r1) qs),v5]) ⟨_,rfl⟩ ?_ ?_)
 ·rintro i t _ O' e ⟨v5,rfl⟩
  exact⟨_,AN 5 Hq.nd (by show 5<6;decide),SS B hr wr (aO t (List.mem_of_getElem? e)) ⟨_,rfl⟩⟩
 ·rintro _ O' ⟨v5,rfl⟩
  refine EU (Nf AX.own rfl (ts:=Xx) (.cons ⟨AB⟩ (.cons ⟨AB⟩ (.cons ⟨NR⟩ (.cons ⟨BN⟩ (.cons ⟨Fb⟩ (.cons ⟨BW (AH AB AC)⟩ (.cons ⟨MM AB AB ⟨by decide,by decide,by decide⟩⟩ .nil))))))) (by show 7≤sizeLine;decide) (fun i ρ' O'=>∃v5,ρ'=[v0,some (.int c),some (.raw (.ref p)),some (BI n ps),some (BI (3+r1) qs),v5]) ⟨_,rfl⟩ ?_ ?_)
  ·rintro i t _ O' e ⟨v5,rfl⟩
   exact⟨_,AN 5 Hq.nd (by show 5<6;decide),SU B hr wr (aP t (List.mem_of_getElem? e)) ⟨_,rfl⟩⟩
  ·rintro _ O' ⟨v5,rfl⟩
   exact k _ _ _ _ _
theorem SW{ρ:List (Option T)}{a:Addr}{ns:List Int}{Φ:BK}{fC:Addr}{fdC:FuncData}(hr:Room 8 (zL P w K mg base f cdv A outer s H E).X.A)(xf:XFly (zL P w K mg base f cdv A outer s H E).X (zL P w K mg base f cdv A outer s H E).W)(hS:SqL K H a (ns.map V.int))(hn:ns.length≤63)(hρ:ρ[0]?=some (some (.raw (.ref a))))
  (FC:FnOk P w K mg base (CXe P w) 1 fC fdC ["_law_script","_law_k"] (HZ K)) (mC:mg "_law_cell_at" =some (.ref fC)) (kC:PySem.W.keepIn K (.ref fC)=true) (bC:Binds K fdC ["_law_script","_law_k"] [])
  (k:∀ms:List Int,ms.length≤64→Φ (.lst (ms.map T.int)) VC):HWE (zL P w K mg base f cdv A outer s H E) ρ VC (cE (cD 0)) Φ:=by
 have sb:=Aa
 refine⟨?_⟩
 refine Cr Lo ?_
 refine ML (Bt (Qr FC mC kC bC (hr.mono (by decide)) xf (AH (ev 0 hρ) (AH AB AC)) ?_))
 intro σ H1 vs Q as r acc
 obtain⟨v,u,rfl,r1,r2⟩:=r.two_inv
 cases r1.raw_inv
 cases r2.int_inv
 refine⟨a,ns,rfl,VD as.fr.kp hS,fun c=>acc _ _ _ _ ?_ (.refl as.ok) (.int c)⟩
 refine Al ⟨by show 1≤sizeLine;decide,?_⟩
 refine Wx rfl hS (ev 0 hρ) AB AB fun ms hm=>?_
 exact NZ (ts:=[T.int c]) (us:=ms.map T.int) (by simp;omega) _ (k (c::ms) (by simp;omega))
theorem SX{a:Addr}{ns:List Int}{fC:Addr}{fdC:FuncData}(B:Has P w K mg base)(hr:Room 8 (zL P w K mg base f cdv A outer s H E).X.A)(xf:XFly (zL P w K mg base f cdv A outer s H E).X (zL P w K mg base f cdv A outer s H E).W)(hS:SqL K H a (ns.map V.int))(hn:ns.length≤63)
  (FC:FnOk P w K mg base (CXe P w) 1 fC fdC ["_law_script","_law_k"] (HZ K)) (mC:mg "_law_cell_at" =some (.ref fC)) (kC:PySem.W.keepIn K (.ref fC)=true) (bC:Binds K fdC ["_law_script","_law_k"] []):HS (zL P w K mg base f cdv A outer s H E) (Dm SR [.raw (.ref a)]) VC (Ai LP) {nx:=fun _ O'=>cF .non O',rt:=cF}:=by
 refine Ah (Tg AX.own rfl (SW hr xf hS hn rfl FC mC kC bC fun ms hm=> ⟨ms.map T.int,rfl,fun i ρ' O'=>∃v1 v2 v3 v4 v5,ρ'=[some (.raw (.ref a)),v1,v2,v3,v4,v5],⟨none,none,none,none,none,rfl⟩,?_,?_⟩) (by intro _;rfl))
 ·rintro i t _ O1 e ⟨v1,v2,v3,v4,v5,rfl⟩
  rw[List.getElem?_map] at e
  cases ec:ms[i]? with
  |none=>rw[ec] at e;cases e
  |some c=>
   rw[ec] at e
   cases e
   exact⟨[some (.raw (.ref a)),some (.int c),v2,v3,v4,v5],AN 1 Hq.nd (by show 1<6;decide),SV B hr xf fun _ _ _ _ _=> ⟨_,_,_,_,_,rfl⟩⟩
 ·rintro _ _ ⟨v1,v2,v3,v4,v5,rfl⟩
  exact EU (AR (ET.we NR rfl))
theorem Xy{fd:FuncData}{fC:Addr}{fdC:FuncData}(F:Fun K "law" "law" LP f fd)(B:Has P w K mg base)
  (FC:FnOk P w K mg base (CXe P w) 1 fC fdC ["_law_script","_law_k"] (HZ K)) (mC:mg "_law_cell_at" =some (.ref fC)) (kC:PySem.W.keepIn K (.ref fC)=true) (bC:Binds K fdC ["_law_script","_law_k"] []):
  FnOk P w K mg base (CXe P w) 9 f fd ["_law_script"] (ON K):=by
 refine ZN F Hq (fun vs H Q E h=>?_) (fun cdv A outer s H vs Q E hr h=>?_)
 ·obtain⟨a,ns,rfl,_⟩:=h
  rfl
 ·obtain⟨a,ns,rfl,hS,hn,k⟩:=h
  refine⟨[.raw (.ref a)],VC,cF,fun _ _=>False,.cons (.raw _) .nil,Qt,fun xf=>SX B hr xf hS hn FC mC kC bC,fun v H' t O' p f r=>?_,fun cls O' H' z=>z.elim⟩
  have p:t=T.bl true:=p
  subst p
  cases r.bl_inv
  exact k H'
end
theorem Hr{P:Program}{w:World}{K:PySem.W.Frag}{mg:Str→Option Value}{base:Heap}{C CR CNoPlace CNoNumber CNoLine CNoRing CNotEven CNoWeb CNoText CTooGreat:Addr}{b0 b1 b2 b3 b4 b5 b6 b7:Bool}(M:Mg P w K mg base)(mNoPlace:Cn K "NoPlace" CNoPlace)(mNoNumber:Cn K "NoNumber" CNoNumber)(mNoLine:Cn K "NoLine" CNoLine)(mNoRing:Cn K "NoRing" CNoRing)(mNotEven:Cn K "NotEven" CNotEven)(mNoWeb:Cn K "NoWeb" CNoWeb)(mNoText:Cn K "NoText" CNoText)(mTooGreat:Cn K "TooGreat" CTooGreat)(g:Xg K CR)(x:Xk K C CR CNoPlace CNoNumber CNoLine CNoRing CNotEven CNoWeb CNoText CTooGreat b0 b1 b2 b3 b4 b5 b6 b7):Kinds K mg C b0 b1 b2 b3 b4 b5 b6 b7:=
 ⟨⟨_,M.mm mNoPlace,x.e0⟩,⟨_,M.mm mNoNumber,x.e1⟩,⟨_,M.mm mNoLine,x.e2⟩,⟨_,M.mm mNoRing,x.e3⟩,⟨_,M.mm mNotEven,x.e4⟩,⟨_,M.mm mNoWeb,x.e5⟩,⟨_,M.mm mNoText,x.e6⟩,⟨_,M.mm mTooGreat,x.e7⟩,x.ve,⟨x.g1,x.g2,x.g3,x.g4,x.g5,g.g6,g.g7⟩⟩
theorem Xz{l:PySem.W.OpenLaw}{w:World}{K:PySem.W.Frag}{h:Heap}{mg:Str→Option Value}{fa CR CNoPlace CNoNumber CNoLine CNoRing CNotEven CNoWeb CNoText CTooGreat:Addr}{tLEAST_TIES tMOST_TIES tLEAST_RING tMOST_RING:Tok}(X:K.In h)(G:h.Ns mainGlobals mg)(hfa:mg "law" =some (.ref fa))
  (H0:Fx K "is_whole" Me) (H1:Fx K "need_number" Jl) (H2:Fx K "least_told" Jn) (H3:Fx K "nears_of" Jm) (H4:Fx K "fars_from" Iq) (H5:Fx K "even_by" Nj) (H6:Fx K "ring_by_tie" UC) (H7:Fx K "shortest" Jo) (H8:Fx K "need_ties" RH) (H9:Fx K "need_ring" RI) (H10:Fx K "need_ties_and_ring" bg) (H11:Fx K "sum_of_powers" XH) (H12:Fx K "grown_places" Mh) (H13:Fx K "has_shorter_ring" XI) (H14:Fx K "does_fit" Nk) (H15:Fx K "fits" RJ) (H16:Fx K "surplus" Nl) (H17:Fx K "tight_by" XJ) (H18:Fx K "tight" Mi) (H19:Fx K "_law_cell_at" RM) (H20:Fx K "_law_next" RN) (H21:Fx K "_law_pen_of" XM) (H22:Fx K "_law_draw" RO) (H23:Fx K "_law_kind_of" Ir) (H24:Fx K "_law_named" Fk) (H25:Fx K "_law_names_by" Ez) (H26:Fx K "_law_turned" GQ) (H27:Fx K "_law_shape" Bo) (H28:Fx K "_law_web_by" DS) (H29:Fx K "_law_far" Mf) (H30:Fx K "_law_rings" Ba) (H31:Fx K "_law_shortest" GP) (H32:Fx K "_law_grown" Jp) (H33:Fx K "_law_told" Iu) (H34:Fx K "_law_right" Ci) (H35:Fx K "law" LP)
  (zint:Zn K "int") (zbool:Zn K "bool") (ztuple:Zn K "tuple") (zlist:Zn K "list") (zset:Zn K "set") (zrange:Zn K "range") (zisinstance:Zn K "isinstance") (zmax:Zn K "max") (zmin:Zn K "min") (zlen:Zn K "len") (zall:Zn K "all") (zsorted:Zn K "sorted") (zrepr:Zn K "repr") (zValueError:Zn K "ValueError") (zany:Zn K "any") (zenumerate:Zn K "enumerate") (vLEAST_TIES:PySem.W.nsIn K mainGlobals "LEAST_TIES" =some (some (.int 2 tLEAST_TIES))) (vMOST_TIES:PySem.W.nsIn K mainGlobals "MOST_TIES" =some (some (.int 15 tMOST_TIES))) (vLEAST_RING:PySem.W.nsIn K mainGlobals "LEAST_RING" =some (some (.int 3 tLEAST_RING))) (vMOST_RING:PySem.W.nsIn K mainGlobals "MOST_RING" =some (some (.int 16 tMOST_RING))) (mNoPlace:Cn K "NoPlace" CNoPlace) (mNoNumber:Cn K "NoNumber" CNoNumber) (mNoLine:Cn K "NoLine" CNoLine) (mNoRing:Cn K "NoRing" CNoRing) (mNotEven:Cn K "NotEven" CNotEven) (mNoWeb:Cn K "NoWeb" CNoWeb) (mNoText:Cn K "NoText" CNoText) (mTooGreat:Cn K "TooGreat" CTooGreat) (mR:Cn K "RingError" CR) (gR:Xg K CR)
  (yNoNumber:Xk K CNoNumber CR CNoPlace CNoNumber CNoLine CNoRing CNotEven CNoWeb CNoText CTooGreat false true false false false false false false) (xNoNumber:PySem.W.excIn K CNoNumber Kb "ValueError.__new__" =true) (yNotEven:Xk K CNotEven CR CNoPlace CNoNumber CNoLine CNoRing CNotEven CNoWeb CNoText CTooGreat false false false false true false false false) (xNotEven:PySem.W.excIn K CNotEven Kb "ValueError.__new__" =true) (yNoRing:Xk K CNoRing CR CNoPlace CNoNumber CNoLine CNoRing CNotEven CNoWeb CNoText CTooGreat false false false true false false false false) (xNoRing:PySem.W.excIn K CNoRing Kb "ValueError.__new__" =true)
  :∃fd:FuncData,(∀(s:Shared) (v:Value),BindsTo s fd ⟨[v],[]⟩ [("_law_script",v)])∧∀base:Heap,K.In base→base.Ns mainGlobals mg→FnOk l.prog w K mg base (CXe l.prog w) 9 fa fd ["_law_script"] (ON K):=by
 obtain⟨f0,d0,h0⟩:=H0
 obtain⟨f1,d1,h1⟩:=H1
 obtain⟨f2,d2,h2⟩:=H2
 obtain⟨f3,d3,h3⟩:=H3
 obtain⟨f4,d4,h4⟩:=H4
 obtain⟨f5,d5,h5⟩:=H5
 obtain⟨f6,d6,h6⟩:=H6
 obtain⟨f7,d7,h7⟩:=H7
 obtain⟨f8,d8,h8⟩:=H8
 obtain⟨f9,d9,h9⟩:=H9
 obtain⟨f10,d10,h10⟩:=H10
 obtain⟨f11,d11,h11⟩:=H11
 obtain⟨f12,d12,h12⟩:=H12
 obtain⟨f13,d13,h13⟩:=H13
 obtain⟨f14,d14,h14⟩:=H14
 obtain⟨f15,d15,h15⟩:=H15
 obtain⟨f16,d16,h16⟩:=H16
 obtain⟨f17,d17,h17⟩:=H17
 obtain⟨f18,d18,h18⟩:=H18
 obtain⟨f19,d19,h19⟩:=H19
 obtain⟨f20,d20,h20⟩:=H20
 obtain⟨f21,d21,h21⟩:=H21
 obtain⟨f22,d22,h22⟩:=H22
 obtain⟨f23,d23,h23⟩:=H23
 obtain⟨f24,d24,h24⟩:=H24
 obtain⟨f25,d25,h25⟩:=H25
 obtain⟨f26,d26,h26⟩:=H26
 obtain⟨f27,d27,h27⟩:=H27
 obtain⟨f28,d28,h28⟩:=H28
 obtain⟨f29,d29,h29⟩:=H29
 obtain⟨f30,d30,h30⟩:=H30
 obtain⟨f31,d31,h31⟩:=H31
 obtain⟨f32,d32,h32⟩:=H32
 obtain⟨f33,d33,h33⟩:=H33
 obtain⟨f34,d34,h34⟩:=H34
 obtain⟨f35,d35,h35⟩:=H35
 have e:=hfa.symm.trans (PySem.W.mg_of X G h35.a)
 cases e
 have mm:∀{x:Str} {v:Value},PySem.W.nsIn K mainGlobals x=some (some v)→mg x=some v:=fun e=>PySem.W.mg_of X G e
 have nn:∀{x:Str},Zn K x→mg x=none:=fun e=>PySem.W.mg_none_of X G e
 have Tx:Txt mg:=⟨nn zint,nn zbool,nn ztuple,nn zlist,nn zset,nn zrange,nn zisinstance,nn zmax,nn zmin,nn zlen,nn zall,nn zsorted,nn zrepr,nn zValueError,nn zany,nn zenumerate,⟨tLEAST_TIES,mm vLEAST_TIES⟩,⟨tMOST_TIES,mm vMOST_TIES⟩,⟨tLEAST_RING,mm vLEAST_RING⟩,⟨tMOST_RING,mm vMOST_RING⟩⟩
 refine⟨d35,fun s v=>?_,fun base _ _=>?_⟩
 ·obtain⟨⟨_,_,_,_,_,_,_,_,_,rfl,_⟩,_⟩:=h35.F
  exact .of_eq rfl
 have M:Mg l.prog w K mg base:=⟨mm⟩
 have UNoNumber:=Hr M mNoPlace mNoNumber mNoLine mNoRing mNotEven mNoWeb mNoText mTooGreat gR yNoNumber
 have UNotEven:=Hr M mNoPlace mNoNumber mNoLine mNoRing mNotEven mNoWeb mNoText mTooGreat gR yNotEven
 have UNoRing:=Hr M mNoPlace mNoNumber mNoLine mNoRing mNotEven mNoWeb mNoText mTooGreat gR yNoRing
 have G0:=h0.t M (RL h0.F Tx) (h0.b3 rfl fun _ _ _ _ _ _ _ _ _=>rfl)
 have G1:=h1.t M (XS h1.F (mm mNoNumber) xNoNumber G0) (h1.b3 rfl fun _ _ _ _ _ _ _ _ _=>rfl)
 have G2:=h2.t M (Rm h2.F Tx) (h2.b1 rfl fun _ _ _ _ _ _ _=>rfl)
 have G3:=h3.t M (RX h3.F Tx) (h3.b1 rfl fun _ _ _ _ _ _ _=>rfl)
 have G4:=h4.t M (Ra h4.F) (h4.b2 rfl fun _ _ _ _ _ _ _ _=>rfl)
 have G5:=h5.t M (UJ h5.F Tx G3) (h5.b1 rfl fun _ _ _ _ _ _ _=>rfl)
 have G6:=h6.t M (XZ h6.F Tx G4) (h6.b3 rfl fun _ _ _ _ _ _ _ _ _=>rfl)
 have G7:=h7.t M (Ry h7.F G3 G6 G2) (h7.b1 rfl fun _ _ _ _ _ _ _=>rfl)
 have G8:=h8.t M (UQ h8.F Tx G1) (h8.b1 rfl fun _ _ _ _ _ _ _=>rfl)
 have G9:=h9.t M (UR h9.F Tx G1) (h9.b1 rfl fun _ _ _ _ _ _ _=>rfl)
 have G10:=h10.t M (Zq h10.F G8 G9) (h10.b2 rfl fun _ _ _ _ _ _ _ _=>rfl)
 have G11:=h11.t M (Xd h11.F Tx) (h11.b2 rfl fun _ _ _ _ _ _ _ _=>rfl)
 have G12:=h12.t M (Rr h12.F G11) (h12.b2 rfl fun _ _ _ _ _ _ _ _=>rfl)
 have G13:=h13.t M (Xj h13.F G7) (h13.b2 rfl fun _ _ _ _ _ _ _ _=>rfl)
 have G14:=h14.t M (UZ h14.F G5 G13) (h14.b3 rfl fun _ _ _ _ _ _ _ _ _=>rfl)
 have G15:=h15.t M (Ua h15.F G10 G14) (h15.b3 rfl fun _ _ _ _ _ _ _ _ _=>rfl)
 have G16:=h16.t M (Xn h16.F (mm mNotEven) xNotEven (mm mNoRing) xNoRing G10 G5 G13 G12) (h16.b3 rfl fun _ _ _ _ _ _ _ _ _=>rfl)
 have G17:=h17.t M (Xo h17.F Tx G5 G7 G12) (h17.b1 rfl fun _ _ _ _ _ _ _=>rfl)
 have G18:=h18.t M (SI h18.F G17) (h18.b1 rfl fun _ _ _ _ _ _ _=>rfl)
 have W19:FnOk l.prog w K mg base (CXe l.prog w) 1 f19 _ _ (HZ K):=UE h19.F Tx
 have G20:=h20.t M (UF h20.F) (h20.b1 rfl fun _ _ _ _ _ _ _=>rfl)
 have G21:=h21.t M (XO h21.F Tx) (h21.b1 rfl fun _ _ _ _ _ _ _=>rfl)
 have G22:=h22.t M (UG h22.F G20) (h22.b2 rfl fun _ _ _ _ _ _ _ _=>rfl)
 have C:Cat l.prog w K mg base CNoNumber CNotEven CNoRing CR:=⟨⟨f23,d23,Hh h23.F Tx UNoNumber,Jw h23.F Tx UNotEven,Jv h23.F Tx UNoRing,mm h23.a,h23.F.kp,(h23.b1 rfl fun _ _ _ _ _ _ _=>rfl)⟩,mm mR,gR.bR,yNoNumber.kit,yNotEven.kit,yNoRing.kit,G15,G16⟩
 have G24:=h24.t M (RV h24.F Tx) (h24.b2 rfl fun _ _ _ _ _ _ _ _=>rfl)
 have G25:=h25.t M (LR h25.F Tx G22) (h25.b2 rfl fun _ _ _ _ _ _ _ _=>rfl)
 have G26:=h26.t M (PJ h26.F Tx) (h26.b2 rfl fun _ _ _ _ _ _ _ _=>rfl)
 have G27:=h27.t M (SC h27.F Tx G22 G26) (h27.b2 rfl fun _ _ _ _ _ _ _ _=>rfl)
 have G28:=h28.t M (PK h28.F Tx G22 G27 G24 G25) (h28.b2 rfl fun _ _ _ _ _ _ _ _=>rfl)
 have G29:=h29.t M (XX h29.F Tx) (h29.b1 rfl fun _ _ _ _ _ _ _=>rfl)
 have G30:=h30.t M (aA h30.F Tx G29) (h30.b2 rfl fun _ _ _ _ _ _ _ _=>rfl)
 have G31:=h31.t M (Xh h31.F Tx G30) (h31.b1 rfl fun _ _ _ _ _ _ _=>rfl)
 have G32:=h32.t M (Xp h32.F Tx) (h32.b2 rfl fun _ _ _ _ _ _ _ _=>rfl)
 have G33:=h33.t M (aF h33.F C) (h33.b4 rfl fun _ _ _ _ _ _ _ _ _ _=>rfl)
 have G34:=h34.t M (aM h34.F ⟨Tx,G22,G31,G32,G33,G17,G18⟩) (h34.b2 rfl fun _ _ _ _ _ _ _ _=>rfl)
 exact Xy h35.F ⟨Tx,G21,G22,G28,G26,G33,G34⟩ W19 (mm h19.a) h19.F.kp (h19.b2 rfl fun _ _ _ _ _ _ _ _=>rfl)
theorem walk{l:PySem.W.OpenLaw}{q:Program}{loose:List Str}{XP:(Str→Option Value)→Heap→Prop}{YP:World→Heap→Prop}{d:DefRec}{K:Params→PySem.W.Frag}(hn:l.most=some 63)(hdf:d.params.defaults=[])
  (hY:∀(w:World) (h:Heap),YP w h→(K w.params).In h)
  (F:∀(w:World) (mg:Str→Option Value) (fa:Addr) (h:Heap),(K w.params).In h→h.Ns mainGlobals mg→mg d.name=some (.ref fa)→
   ∃fd:FuncData,(∀(s:Shared) (u:Value),BindsTo s fd ⟨[u],[]⟩ [("_law_script",u)])∧∀base:Heap,(K w.params).In base→base.Ns mainGlobals mg→FnOk l.prog w (K w.params) mg base (CXe l.prog w) 9 fa fd ["_law_script"] (ON (K w.params))):
  PySem.W.WalkO q loose XP YP l.row.toRowW d [] (fun f vs=>PySem.call f vs):=
 L2.Sq (n:=63) (k:=9) (x:="_law_script") (CX:=fun w=>CXe l.prog w) (sp:=fun w=>ON (K w.params)) hn (by decide) hdf ⟨rfl,by decide,by decide,rfl⟩ hY F (fun _ _ a ns hl _ hS=> ⟨a,ns,rfl,hS,hl,fun _=>rfl⟩) fun _ _ _ _ _ z=>z.never
end K18
open PySem PySem.W PyProof.Rows
set_option maxRecDepth 100000 in
set_option maxHeartbeats 0 in
theorem PySem.Challenge.cw_noshortring_k18_webs_that_fit_holds : PySem.Challenge.rw_noshortring_k18_webs_that_fit.Holds := by
 w_on;o_law
 refine PySem.W.holds_open (q:=K18.kq) (loose:=[]) (Xt:=fun s=>PySem.W.xlAt K18.kq [] s&&PySem.W.recOk [] s) (XP:=PySem.W.XL K18.kq []) (Yf:=fun s=>K18.ka.map s.heap.get?) (Ya:=fun w=> (K18.Kk w.params).map fun(p:Addr×Obj)=>some p.2) (YP:=PySem.W.InK K18.Kk) (N:=6422) K18.left (PySem.W.InK.of fun _=>by kernel_rfl) PySem.W.InK.keeps (fun s e=>xl_of s (Bool.and_eq_true_iff.mp e).1) XL.keeps (by rfl) (by rfl) (by rfl) (fun s e=>recFacts_of (Bool.and_eq_true_iff.mp e).2) (by rfl) (by first|assumption|decide+kernel) (by first|k_qdec|decide+kernel) ⟨rfl,rfl,rfl,rfl,rfl,by decide+kernel⟩ ?hw ?hc
 (case hw=>w_witness2)
 k_fill
 refine K18.walk (l:=PySem.Challenge.rw_noshortring_k18_webs_that_fit) rfl rfl (fun w h Y=>Y) ?F
 case F=>
  intro w mg fa h KX G hmg
  refine' K18.Xz KX G hmg ?H0 ?H1 ?H2 ?H3 ?H4 ?H5 ?H6 ?H7 ?H8 ?H9 ?H10 ?H11 ?H12 ?H13 ?H14 ?H15 ?H16 ?H17 ?H18 ?H19 ?H20 ?H21 ?H22 ?H23 ?H24 ?H25 ?H26 ?H27 ?H28 ?H29 ?H30 ?H31 ?H32 ?H33 ?H34 ?H35 ?zint ?zbool ?ztuple ?zlist ?zset ?zrange ?zisinstance ?zmax ?zmin ?zlen ?zall ?zsorted ?zrepr ?zValueError ?zany ?zenumerate ?vLEAST_TIES ?vMOST_TIES ?vLEAST_RING ?vMOST_RING ?mNoPlace ?mNoNumber ?mNoLine ?mNoRing ?mNotEven ?mNoWeb ?mNoText ?mTooGreat ?mR ?gR ?yNoNumber ?xNoNumber ?yNotEven ?xNotEven ?yNoRing ?xNoRing
  case H0|H1|H2|H3|H4|H5|H6|H7|H8|H9|H10|H11|H12|H13|H14|H15|H16|H17|H18|H19|H20|H21|H22|H23|H24|H25|H26|H27|H28|H29|H30|H31|H32|H33|H34|H35=> (refine' L2.TL.fi ?a ?l ?q ?k;(case a=>k_is);(case l=>k_is);(case q=>k_is);(case k=>k_is))
  case zint|zbool|ztuple|zlist|zset|zrange|zisinstance|zmax|zmin|zlen|zall|zsorted|zrepr|zValueError|zany|zenumerate=> (delta L2.TL.Zn;k_is)
  case mNoPlace|mNoNumber|mNoLine|mNoRing|mNotEven|mNoWeb|mNoText|mTooGreat|mR=> (delta L2.TL.Cn;k_is)
  case vLEAST_TIES=>k_is
  case vMOST_TIES=>k_is
  case vLEAST_RING=>k_is
  case vMOST_RING=>k_is
  case gR=>exact⟨by k_is,by k_is,by k_is⟩
  case yNoNumber=>exact⟨by kit_is,by kit_is,by kit_is,by kit_is,by kit_is,by kit_is,by kit_is,by kit_is,by kit_is,rfl,by kit_is,by k_is,by k_is,by k_is,by k_is,by k_is⟩
  case xNoNumber=>k_exc
  case yNotEven=>exact⟨by kit_is,by kit_is,by kit_is,by kit_is,by kit_is,by kit_is,by kit_is,by kit_is,by kit_is,rfl,by kit_is,by k_is,by k_is,by k_is,by k_is,by k_is⟩
  case xNotEven=>k_exc
  case yNoRing=>exact⟨by kit_is,by kit_is,by kit_is,by kit_is,by kit_is,by kit_is,by kit_is,by kit_is,by kit_is,rfl,by kit_is,by k_is,by k_is,by k_is,by k_is,by k_is⟩
  case xNoRing=>k_exc
