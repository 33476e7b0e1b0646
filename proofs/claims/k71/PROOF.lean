import PyProof.Rows.All
import Wide.All
import OpenK.AllK
import Wide.FinOn
import Lean
import PyProof.EqAt
import PyProof.EqKinds
import PyProof.TupleCall
import PySem.Challenge.RW_noshortring_k71_texts_that_write_none
noncomputable section
set_option Elab.async false
set_option linter.all false
set_option maxRecDepth 100000
namespace L2
open PySem PySem.Spec PyProof.Rows
abbrev JO:=Sum Int Str
def UY:JO→Value→Bool
 | .inl k,v=>Value.isInt k v
 | .inr x,v=>Value.isStrOf x v
def aM(w:World):JO→Int
 | .inl k=>hashInt k
 | .inr x=>hashStr w x
theorem Ah:∀{k:JO} {v:Value},UY k v=true→(∃i t,k=Sum.inl i∧v=Value.int i t)∨(∃x t,k=Sum.inr x∧v=Value.str x t)
 | .inl i,v,h=>by
  obtain⟨t,e⟩:=Value.isInt_shape (k:=i) (v:=v) h
  exact .inl ⟨i,t,rfl,e⟩
 | .inr x,v,h=>by
  obtain⟨t,e⟩:=Value.isStrOf_shape (x:=x) (v:=v) h
  exact .inr ⟨x,t,rfl,e⟩
theorem VM(a b:Int):decide ((Sum.inl a:JO)=Sum.inl b)=(a==b):=by
 by_cases e:a=b
 ·subst e;simp
 ·have h:¬(Sum.inl a:JO)=Sum.inl b:=fun q=>e (Sum.inl.inj q)
  rw[decide_eq_false h]
  exact(beq_eq_false_iff_ne.mpr e).symm
theorem VN(a b:Str):decide ((Sum.inr a:JO)=Sum.inr b)=decide (a=b):=by
 by_cases e:a=b
 ·subst e;simp
 ·have h:¬(Sum.inr a:JO)=Sum.inr b:=fun q=>e (Sum.inr.inj q)
  rw[decide_eq_false h,decide_eq_false e]
theorem VO(a:Int)(b:Str):decide ((Sum.inl a:JO)=Sum.inr b)=false:=decide_eq_false (fun q=>nomatch q)
theorem VP(a:Str)(b:Int):decide ((Sum.inr a:JO)=Sum.inl b)=false:=decide_eq_false (fun q=>nomatch q)
def II(prog:Program)(w:World):PySem.KeyKind prog w JO where
 is:=UY
 hash:=aM w
 inj:=fun v a b ha hb=>by
  rcases Ah ha with⟨i,t,rfl,rfl⟩| ⟨x,t,rfl,rfl⟩
  ·rcases Ah hb with⟨j,u,rfl,e⟩| ⟨y,u,rfl,e⟩
   ·injection e with e1 _;rw[e1]
   ·exact nomatch e
  ·rcases Ah hb with⟨j,u,rfl,e⟩| ⟨y,u,rfl,e⟩
   ·exact nomatch e
   ·injection e with e1 _;rw[e1]
 byValue:=fun k v h=>by
  rcases Ah h with⟨i,t,rfl,rfl⟩| ⟨x,t,rfl,rfl⟩<;>rfl
 pyHash:=fun hv h=>by
  rcases Ah hv with⟨i,t,rfl,rfl⟩| ⟨x,t,rfl,rfl⟩
  ·exact wpAny_pyHash_int h
  ·exact wpAny_pyHash_str h
 eqBool:=fun hu hv h=>by
  rcases Ah hu with⟨i,t,rfl,rfl⟩| ⟨x,t,rfl,rfl⟩
  ·rcases Ah hv with⟨j,u,rfl,rfl⟩| ⟨y,u,rfl,rfl⟩
   ·rw[VM] at h;exact wpAny_eqBool_int h
   ·rw[VO] at h;exact SeqAt.EqAt.int_str i t y u _ _ _ _ h
  ·rcases Ah hv with⟨j,u,rfl,rfl⟩| ⟨y,u,rfl,rfl⟩
   ·rw[VP] at h;exact SeqAt.EqAt.str_int x t j u _ _ _ _ h
   ·rw[VN] at h;exact wpAny_eqBool_str h
 «strs»:=fun k x t v h=>by
  rcases Ah h with⟨i,u,rfl,e⟩| ⟨y,u,rfl,e⟩
  ·exact nomatch e
  ·injection e with e1 _
   subst e1
   cases v<;>rfl
inductive V where
 |non|bl (b:Bool)|int (i:Int)|str (x:Str)|byt (b:Array UInt8)|flt (b:UInt64)|ref (a:Addr)|ty (n:String)
 deriving DecidableEq
def RelV:V→Value→Prop
 | .non,u=>u=Value.none
 | .bl b,u=>u=Value.bool b
 | .int i,u=>∃t,u=Value.int i t
 | .str x,u=>∃t,u=Value.str x t
 | .byt b,u=>∃t,u=Value.bytes b t
 | .flt b,u=>∃t,u=Value.float b t
 | .ref a,u=>u=Value.ref a
 | .ty n,u=>u=Value.type n
abbrev Vals:List V→List Value→Prop:=Paired RelV
theorem Vals.length{xs:List V}{us:List Value}(r:Vals xs us):xs.length=us.length:=Paired.length r
theorem Vals.get:∀{xs:List V} {us:List Value} {i:Nat} {x:V},Vals xs us→xs[i]?=some x→∃u,us[i]?=some u∧RelV x u
 |_,_,_,_,.nil,e=>by simp at e
 |_,_,0,_,.cons r _,e=>by simp at e;subst e;exact⟨_,rfl,r⟩
 |_,_,i+1,x,.cons _ t,e=>by
  obtain⟨u,h1,h2⟩:=Vals.get (i:=i) (x:=x) t (by simpa using e)
  exact⟨u,by simpa using h1,h2⟩
theorem Vals.set{x:V}{u:Value}(r:RelV x u):∀{xs:List V} {us:List Value} (i:Nat),Vals xs us→Vals (xs.set i x) (us.set i u)
 |_,_,_,.nil=> .nil
 |_,_,0,.cons _ t=> .cons r t
 |_,_,i+1,.cons q t=> .cons q (Vals.set r i t)
theorem Vals.append:∀{xs ys:List V} {us ws:List Value},Vals xs us→Vals ys ws→Vals (xs++ys) (us++ws)
 |_,_,_,_,.nil,s=>s
 |_,_,_,_,.cons r t,s=> .cons r (Vals.append t s)
theorem Vals.take:∀{xs:List V} {us:List Value} (n:Nat),Vals xs us→Vals (xs.take n) (us.take n)
 |_,_,0,_=> .nil
 |_,_,_+1,.nil=> .nil
 |_,_,n+1,.cons r t=> .cons r (Vals.take n t)
theorem Vals.drop:∀{xs:List V} {us:List Value} (n:Nat),Vals xs us→Vals (xs.drop n) (us.drop n)
 |_,_,0,r=>r
 |_,_,_+1,.nil=> .nil
 |_,_,n+1,.cons _ t=>Vals.drop n t
def OZ:Option V→Option Value→Prop
 |some v,some u=>RelV v u
 |none,none=>True
 |_,_=>False
def KV{κ:Type}:List (κ×V)→List (κ×Value)→Prop:=Paired fun(p:κ×V) (q:κ×Value)=>p.1=q.1∧RelV p.2 q.2
def kV:JO→V
 | .inl i=> .int i
 | .inr x=> .str x
inductive HO where
 /-- a list -/
 | lst (xs:List V)
 /-- a tuple (never changes) -/
 | tup (xs:List V)
 /-- a dict whose keys are ints and texts; one whose keys are tuples of ints and texts (the empty one is both) -/
 | dK (kvs:List (JO × V)) | dT (kvs:List (List JO × V))
 /-- a set of ints: its members,its size -/
 | set (S:Int→Bool) (n:Nat)
 /-- an instance of the class at C,its dict at dx,its attributes -/
 | ins (C dx:Addr) (fs:List (Str × V))
 /-- the dict of the instance at x -/
 | own (x:Addr)
 /-- the dict of an exception -/
 | xd (fs:List (Str × V))
 /-- a bound method,f of x -/
 | met (f x:Addr)
 /-- a range object lo,lo + 1,.. below hi -/
 | rng (lo hi:Int)
 /-- a thing that is known to the object (the script; a dict while a loop walks it): read,never written while it is so -/
 | frz (o:Obj) (u:HO)
 /-- a code object's table -/
 | tbl (ps:Array Value)
 /-- any other thing,by what is true of its one object (a def of one's own: SetO a S n:=HO.ext fun h => ..) -/
 | ext (φ:Heap→Prop)
abbrev Hp:=Addr→Option HO
def upd(H:Hp)(a:Addr)(o:HO):Hp:=fun b=>if b=a then some o else H b
theorem AF{H:Hp}{a:Addr}{o:HO}:upd H a o a=some o:=by unfold upd;rw[if_pos rfl]
theorem AG{H:Hp}{a b:Addr}{o:HO}(h:b≠a):upd H a o b=H b:=by unfold upd;rw[if_neg h]
theorem SF{H:Hp}{a:Addr}{o u:HO}:upd (upd H a o) a u=upd H a u:=by
 funext b;unfold upd;split<;>rfl
theorem AL{H:Hp}{a b:Addr}{o:HO}(h:H a=some o)(h':H b=none):a≠b:=by
 intro e;subst e;rw[h] at h';cases h'
section
variable(P:Program)(w:World)
def ObjOk(H:Hp)(h:Heap)(a:Addr):HO→Prop
 | .lst xs=>xs.length≤sizeLine∧∃(its:List Value) (n:Nat),Vals xs its∧h.get? a=some {cls:=.type "list",data:=.seq its.toArray n}
 | .tup xs=>xs.length≤sizeLine∧∃its:List Value,Vals xs its∧IsTup h a its.toArray
 | .dK kvs=>kvs.length≤sizeLine∧(a==sysModules)=false∧∃vs,KV kvs vs∧h.DictOf (II P w) a vs
 | .dT kvs=>kvs.length≤sizeLine∧(a==sysModules)=false∧∃xs:List (List JO×Addr×Value),
   Paired (fun(p:List JO×V) (q:List JO×Addr×Value)=>p.1=q.1∧H q.2.1=some (.tup (p.1.map kV))∧RelV p.2 q.2.2) kvs xs∧
   ∃o es ep,h.get? a=some o∧o.ExactDict∧o.data=.dict es ep∧es.toList=xs.map (entryOfKey (tupleKind (II P w)))∧(xs.map (·.1)).Nodup
 | .set S n=>h.SetOf (intKind P w) a S n
 | .ins C dx fs=>H dx=some (.own a)∧fs.length≤1000∧dx≠a∧h.get? a=some (PySem.W.instObj C dx)∧
   ∃mA,h.Ns1 dx mA∧(∀f,OZ (fs.lookup f) (mA f))∧PySem.Within mA (fs.map (·.1))
 | .own _=>∃o,h.get? a=some o
 | .xd fs=>∃mA,h.Ns1 a mA∧∀f,OZ (fs.lookup f) (mA f)
 | .rng lo hi=>∃t u v,h.get? a=some {cls:=.type "range",data:=.fields #[.int lo t,.int hi u,.int 1 v]}
 | .frz o u=>h.get? a=some o∧ObjOk H h a u
 | .tbl ps=>h.get? a=some {cls:=.none,data:=.fields ps}
 | .met f x=>h.get? a=some (PySem.W.methodObj (.ref f) (.ref x))
 | .ext φ=>φ h∧(∃o,h.get? a=some o)∧∀h1 h2:Heap,φ h1→(∀o,h1.get? a=some o→h2.get? a=some o)→φ h2
def HOk(H:Hp)(h:Heap):Prop:=∀a o,H a=some o→ObjOk P w H h a o
end
section
variable{P:Program}{w:World}{H H':Hp}{h h':Heap}{a:Addr}{o:HO}
theorem ObjOk.lt(x:ObjOk P w H h a o):a<h.objs.size:=by
 cases o with
 |lst xs=>obtain⟨_,_,_,_,e⟩:=x;exact Heap.lt_size e
 |tup xs=>obtain⟨_,_,_,p⟩:=x;exact p.lt
 |dK kvs=>obtain⟨_,_,_,_,o,_,_,e,_⟩:=x;exact Heap.lt_size e
 |dT kvs=>obtain⟨_,_,_,_,o,_,_,e,_⟩:=x;exact Heap.lt_size e
 |set S n=>obtain⟨o,_,_,_,e,_⟩:=x;exact Heap.lt_size e
 |ins C dx fs=>obtain⟨_,_,_,e,_⟩:=x;exact Heap.lt_size e
 |own y=>obtain⟨_,e⟩:=x;exact Heap.lt_size e
 |xd fs=>obtain⟨_,⟨_,_,_,e,_⟩,_⟩:=x;exact Heap.lt_size e
 |rng lo hi=>obtain⟨_,_,_,e⟩:=x;exact Heap.lt_size e
 |frz ob u=>obtain⟨e,_⟩:=x;exact Heap.lt_size e
 |tbl ps=>exact Heap.lt_size (show h.get? a=some _ from x)
 |met f y=>exact Heap.lt_size (show h.get? a=some _ from x)
 |ext φ=>obtain⟨_,⟨_,e⟩,_⟩:=x;exact Heap.lt_size e
theorem Paired.mapP{α β:Type}{F G:α→β→Prop}:∀{l₁:List α} {l₂:List β},Paired F l₁ l₂→(∀a b,F a b→G a b)→Paired G l₁ l₂
 |_,_,.nil,_=> .nil
 |_,_,.cons r t,f=> .cons (f _ _ r) (Paired.mapP t f)
theorem ObjOk.stay(x:ObjOk P w H h a o)(k:∀b u,(b=a∨H b=some (.own a))→h.get? b=some u→h'.get? b=some u)
  (ho:∀b,H b=some (.own a)→H' b=some (.own a)) (ht:∀b xs,H b=some (.tup xs)→H' b=some (.tup xs)):ObjOk P w H' h' a o:=by
 induction o with
 |lst xs=>obtain⟨z,its,n,r,e⟩:=x;exact⟨z,its,n,r,k _ _ (.inl rfl) e⟩
 |tup xs=>obtain⟨z,its,r,ob,e,c⟩:=x;exact⟨z,its,r,ob,k _ _ (.inl rfl) e,c⟩
 |dK kvs=>obtain⟨z,y,vs,r,ob,es,ep,e,c⟩:=x;exact⟨z,y,vs,r,ob,es,ep,k _ _ (.inl rfl) e,c⟩
 |dT kvs=>
  obtain⟨z,y,xs,r,ob,es,ep,e,c⟩:=x
  exact⟨z,y,xs,Paired.mapP r fun p q z=> ⟨z.1,ht _ _ z.2.1,z.2.2⟩,ob,es,ep,k _ _ (.inl rfl) e,c⟩
 |set S n=>obtain⟨ob,es,ep,t,e,c⟩:=x;exact⟨ob,es,ep,t,k _ _ (.inl rfl) e,c⟩
 |ins C dx fs=>
  obtain⟨d,z,ne,e,mA,⟨od,es,ep,e2,c⟩,r⟩:=x
  exact⟨ho _ d,z,ne,k _ _ (.inl rfl) e,mA,⟨od,es,ep,k _ _ (.inr d) e2,c⟩,r⟩
 |own y=>obtain⟨ob,e⟩:=x;exact⟨ob,k _ _ (.inl rfl) e⟩
 |xd fs=>obtain⟨mA,⟨od,es,ep,e,c⟩,r⟩:=x;exact⟨mA,⟨od,es,ep,k _ _ (.inl rfl) e,c⟩,r⟩
 |rng lo hi=>obtain⟨t,u,v,e⟩:=x;exact⟨t,u,v,k _ _ (.inl rfl) e⟩
 |frz ob u ih=>obtain⟨e,q⟩:=x;exact⟨k _ _ (.inl rfl) e,ih q⟩
 |tbl ps=>
  have e:h.get? a=some {cls:=.none,data:=.fields ps}:=x
  show h'.get? a=some {cls:=.none,data:=.fields ps}
  exact k a _ (.inl rfl) e
 |met f y=>
  have e:h.get? a=some (PySem.W.methodObj (.ref f) (.ref y)):=x
  show h'.get? a=some (PySem.W.methodObj (.ref f) (.ref y))
  exact k a _ (.inl rfl) e
 |ext φ=>obtain⟨p,⟨o,e⟩,st⟩:=x;exact⟨st _ _ p fun o q=>k _ _ (.inl rfl) q,⟨o,k _ _ (.inl rfl) e⟩,st⟩
theorem HOk.lt(x:HOk P w H h)(e:H a=some o):a<h.objs.size:=(x a o e).lt
theorem HOk.fresh(x:HOk P w H h)(e:h.objs.size≤a):H a=none:=by
 cases q:H a with
 |none=>rfl
 |some u=>exact absurd (Nat.lt_of_lt_of_le (x.lt q) e) (Nat.lt_irrefl _)
theorem HOk.kept(x:HOk P w H h)(k:∀b u,h.get? b=some u→h'.get? b=some u):HOk P w H h':=fun a o e=>
 (x a o e).stay (fun b u _ q=>k b u q) (fun _ q=>q) fun _ _ q=>q
theorem HOk.laid(x:HOk P w H h)(k:∀b u,h.get? b=some u→h'.get? b=some u)(hp:h.objs.size≤a)(new:ObjOk P w (upd H a o) h' a o):HOk P w (upd H a o) h':=fun b u e=>by
 have hn:=x.fresh hp
 by_cases hb:b=a
 ·subst hb;rw[AF] at e;cases e;exact new
 ·rw[AG hb] at e
  exact(x b u e).stay (fun c v _ q=>k c v q) (fun c q=>by rw[AG (AL q hn)];exact q) fun c xs q=>by rw[AG (AL q hn)];exact q
end
def Rd(H:Hp)(a:Addr)(u:HO):Prop:=H a=some u∨∃o,H a=some (.frz o u)
theorem Rd.ok{P:Program}{w:World}{H:Hp}{h:Heap}{a:Addr}{u:HO}(r:Rd H a u)(x:HOk P w H h):ObjOk P w H h a u:=by
 rcases r with r| ⟨o,r⟩
 ·exact x a u r
 ·obtain⟨_,q⟩:=x a _ r
  exact q
def aA:Option HO→Prop
 |some (.lst _)=>True
 |some (.dK _)=>True
 |some (.dT _)=>True
 |some (.set _ _)=>True
 |some (.ins _ _ _)=>True
 |some (.ext _)=>True
 |_=>False
section
variable{P:Program}{w:World}{H:Hp}{h h':Heap}{x e:Addr}{o':HO}
theorem HOk.write(ok:HOk P w H h)(mu:aA (H x))(he:e=x∨H e=some (.own x))(k:∀b u,b≠e→h.get? b=some u→h'.get? b=some u)(heo:∃u,h'.get? e=some u)
  (new:ObjOk P w (upd H x o') h' x o'):HOk P w (upd H x o') h':=fun b u q=>by
 have nown:∀c y,H c=some (.own y)→c≠x:=fun c y r z=>by subst z;rw[r] at mu;exact mu
 have ntup:∀c xs,H c=some (.tup xs)→c≠x:=fun c xs r z=>by subst z;rw[r] at mu;exact mu
 by_cases hb:b=x
 ·subst hb;rw[AF] at q;cases q;exact new
 ·rw[AG hb] at q
  by_cases hbe:b=e
  ·have q':H b=some (.own x):=by
    rcases he with z|z
    ·exact absurd (hbe.trans z) hb
    ·rw[hbe];exact z
   rw[q] at q';cases q'
   obtain⟨v,hv⟩:=heo
   exact⟨v,by rw[hbe];exact hv⟩
  ·refine(ok b u q).stay (fun c v hc r=>k c v ?_ r) (fun c r=>by rw[AG (nown c b r)];exact r) fun c xs r=>by rw[AG (ntup c xs r)];exact r
   rcases hc with rfl|hc
   ·exact hbe
   ·rintro rfl
    rcases he with z|z
    ·exact nown c b hc z
    ·rw[hc] at z;cases z;exact hb rfl
end
structure Un(fs ex:List Addr)(H H':Hp)(h h':Heap):Prop where
 keep:∀b o,h.get? b=some o→H b=none→b∉fs→b∉ex→h'.get? b=some o
 slot:∀b o,h.get? b=some o→H b=none→b∈fs→b∉ex→∃sl,h'.get? b=some {o with slots:=sl}
 free:∀b o,h.get? b=some o→H b=none→b∉ex→H' b=none
 there:∀b o,h.get? b=some o→b∉ex→∃o',h'.get? b=some o'
 tups:∀b xs,H b=some (.tup xs)→H' b=some (.tup xs)
 frzs:∀b o u,H b=some (.frz o u)→H' b=some (.frz o u)
 tbls:∀b ps,H b=some (.tbl ps)→∃more,H' b=some (.tbl (ps++more))
section
variable{fs fs' ex ex':List Addr}{H H1 H2:Hp}{h h1 h2 h':Heap}{a x e:Addr}{o:HO}
theorem Un.any(u:Un fs ex H H1 h h1){b:Addr}{ob:Obj}(q:h.get? b=some ob)(n:H b=none)(hx:b∉ex):∃sl,h1.get? b=some {ob with slots:=sl}:=by
 by_cases hb:b∈fs
 ·exact u.slot b ob q n hb hx
 ·exact⟨ob.slots,u.keep b ob q n hb hx⟩
theorem Un.kept(k:∀b u,h.get? b=some u→h'.get? b=some u):Un fs ex H H h h':=
 ⟨fun b ob q _ _ _=>k b ob q,fun b ob q _ _ _=> ⟨ob.slots,k b ob q⟩,fun _ _ _ n _=>n,fun b ob q _=> ⟨ob,k b ob q⟩,fun _ _ q=>q,fun _ _ _ q=>q,fun _ ps q=> ⟨#[],by rw[q];simp⟩⟩
theorem Un.refl:Un fs ex H H h h:=Un.kept fun _ _ q=>q
theorem Un.laid(k:∀b u,h.get? b=some u→h'.get? b=some u)(hp:h.objs.size≤a)(hn:H a=none):Un fs ex H (upd H a o) h h' where
 keep:=fun b u q _ _ _=>k b u q
 slot:=fun b u q _ _ _=> ⟨u.slots,k b u q⟩
 free:=fun b u q n _=>by rw[AG (Nat.ne_of_lt (Nat.lt_of_lt_of_le (Heap.lt_size q) hp))];exact n
 there:=fun b u q _=> ⟨u,k b u q⟩
 tups:=fun b xs q=>by rw[AG (AL q hn)];exact q
 frzs:=fun b u xs q=>by rw[AG (AL q hn)];exact q
 tbls:=fun b ps q=> ⟨#[],by rw[AG (AL q hn),q];simp⟩
theorem Un.write(mu:aA (H x))(he:e=x∨H e=some (.own x))(k:∀b u,b≠e→h.get? b=some u→h'.get? b=some u)(heo:∃u,h'.get? e=some u):Un fs ex H (upd H x o) h h':=by
 have hx:∀b,H b=none→b≠x:=fun b n z=>by subst z;rw[n] at mu;exact mu
 have hb:∀b,H b=none→b≠e:=fun b n z=>by
  subst z
  rcases he with r|r
  ·exact hx b n r
  ·rw[n] at r;cases r
 have hm:∀b u,H b=some u→¬aA (some u)→b≠x:=fun b u q nm z=>by subst z;rw[q] at mu;exact nm mu
 refine⟨fun b u q n _ _=>k b u (hb b n) q,fun b u q n _ _=> ⟨u.slots,k b u (hb b n) q⟩,fun b u q n _=>by rw[AG (hx b n)];exact n,fun b u q _=>?_,
  fun b xs q=>by rw[AG (hm b _ q fun z=>z)];exact q,fun b u xs q=>by rw[AG (hm b _ q fun z=>z)];exact q,fun b ps q=> ⟨#[],by rw[AG (hm b _ q fun z=>z),q];simp⟩⟩
 by_cases hbe:b=e
 ·subst hbe;exact heo
 ·exact⟨u,k b u hbe q⟩
end
def aB(h:Heap)(H:Hp):List Addr:=(List.range h.objs.size).filter fun a=> (H a).isSome
def IJ(h:Heap)(H:Hp):Heap:=PySem.W.hideAll h (aB h H)
theorem Nb(h:Heap)(H:Hp):(IJ h H).objs.size=h.objs.size:=PySem.W.hideAll_size _ _
theorem Oa{h:Heap}{H:Hp}{b:Addr}{o:Obj}(e:h.get? b=some o)(n:H b=none):(IJ h H).get? b=some o:=
 PySem.W.hideAll_get _ e fun hm=>by
  have q:(H b).isSome=true:=(List.mem_filter.mp hm).2
  rw[n] at q;simp at q
theorem SG{h:Heap}{H:Hp}{b:Addr}{o:Obj}(e:(IJ h H).get? b=some o):h.get? b=some o∧H b=none:=by
 have e':h.get? b=some o:=PySem.W.of_hideAll (aB h H) e
 refine⟨e',?_⟩
 cases q:H b with
 |none=>rfl
 |some x=>
  have hm:b∈aB h H:=List.mem_filter.mpr ⟨List.mem_range.mpr (Heap.lt_size e'),by simp[q]⟩
  have z:(IJ h H).get? b=none:=PySem.W.hideAll_none (aB h H) hm
  rw[z] at e;cases e
structure Mod(K:PySem.W.Frag)(mg:Str→Option Value)(base:Heap):Prop where
 kin:K.In base
 glob:base.Ns mainGlobals mg
 blt:∃mb,base.Ns builtinsNs mb∧∀x:Str,x≠"__name__"→mb x=bootBuiltins x
 nolimit:base.NoLimit
structure Cx where
 prog:Program
 w:World
 K:PySem.W.Frag
 mg:Str→Option Value
 base:Heap
 A:Around
 N:List Str
 s₀:Shared
 H₀:Hp
 env:Env
 outer:List Env
 stack:List Env
 ex:List Addr
 fn:Str→Bool
 calm:Bool
 pn:List (Addr×Obj)
 xe:Value→Shared→Prop
def Ei(l:List Env):List Addr:=l.filterMap (·.frame)
abbrev Cx.fs(X:Cx):List Addr:=Ei X.outer
def UZ(sc:Scope)(x:Str):Prop:=sc.names.lookup x=some .local∨sc.names.lookup x=some .cell∨sc.names.lookup x=some .free
def SB(sc:Scope)(x:Str):Prop:=sc.names.lookup x=some .local∨sc.names.lookup x=some .cell
def aN(env:Env)(h:Heap)(m:Str→Option Value)(x:Str)(u:Value):Prop:=
 (env.kindOf x=some .local∧m x=some u)∨((env.kindOf x=some .cell∨env.kindOf x=some .free)∧∃c,env.cells.lookup x=some c∧h.IsCell c (some u))
structure Cx.Ok(X:Cx):Prop where
 mod:Mod X.K X.mg X.base
 kind:X.env.scope.kind=.function
 glob:X.env.globals=mainGlobals
 blt:X.env.builtins=builtinsNs
 above:X.s₀.heap.objs.size≤X.env.locals
 inj:∀x y c,X.env.cells.lookup x=some c→X.env.cells.lookup y=some c→x=y
 has:∀x,(X.env.kindOf x=some .cell∨X.env.kindOf x=some .free)→∃c,X.env.cells.lookup x=some c
 cab:∀x c,X.fn x=true→X.env.cells.lookup x=some c→X.s₀.heap.objs.size≤c
 hd:X.calm=true→X.A.handled=none
 frames:X.A.frames=some X.stack
 stk:X.stack=X.outer∨(X.stack=X.env::X.outer∧X.env.frame=some X.env.locals)
 exf:∀b∈X.ex,b≠X.env.locals∧∀x c,X.env.cells.lookup x=some c→c≠b
 bs:∀b o,X.base.get? b=some o→X.s₀.heap.get? b=some o∧X.H₀ b=none
 bsz:X.base.objs.size≤X.s₀.heap.objs.size
 noex:∀b o,X.base.get? b=some o→b∉X.ex
 exfs:∀b∈X.ex,b∉X.fs
 funs:X.s₀.heap.FunFrames X.base X.outer
 frf:∀b∈X.fs,X.H₀ b=none
structure Inv(X:Cx)(pins:List (Addr×Obj))(σ:List (Option V))(H:Hp)(s:Shared):Prop where
 ok:X.Ok
 os:s.os=X.s₀.os
 bare:AllBare s.gens
 base:Un X.fs X.ex X.H₀ H X.s₀.heap s.heap
 loc:∃m,s.heap.Ns X.env.locals m∧∀(i:Nat) (x:Str) (v:V),X.N[i]?=some x→σ[i]?=some (some v)→UZ X.env.scope x→∃u,RelV v u∧aN X.env s.heap m x u
 cell:∀x c,X.env.cells.lookup x=some c→∃v,s.heap.IsCell c v
 free:H X.env.locals=none
 freeC:∀x c,X.env.cells.lookup x=some c→H c=none
 pin:∀p∈X.pn++pins,s.heap.get? p.1=some p.2∧H p.1=none∧p.1≠X.env.locals∧p.1∉X.fs∧∀v,p.2.data≠.cell v
 hok:HOk X.prog X.w H s.heap
 len:σ.length=X.N.length
section
variable{X:Cx}{pins:List (Addr×Obj)}{σ:List (Option V)}{H H':Hp}{s:Shared}{h':Heap}
theorem Cx.Ok.nofr(ok:X.Ok){b:Addr}{o:Obj}(e:X.base.get? b=some o):b∉X.fs:=fun hb=>by
 have:=(ok.funs.mem hb).1
 rw[e] at this;cases this
theorem Inv.bs(I:Inv X pins σ H s):∀b o,X.base.get? b=some o→s.heap.get? b=some o∧H b=none:=fun b o e=>
 ⟨I.base.keep b o (I.ok.bs b o e).1 (I.ok.bs b o e).2 (I.ok.nofr e) (I.ok.noex b o e),I.base.free b o (I.ok.bs b o e).1 (I.ok.bs b o e).2 (I.ok.noex b o e)⟩
theorem Inv.bk(I:Inv X pins σ H s):∀b o,X.base.get? b=some o→s.heap.get? b=some o:=fun b o e=> (I.bs b o e).1
theorem Inv.mod(I:Inv X pins σ H s):Mod X.K X.mg X.base:=I.ok.mod
theorem Inv.kIn(I:Inv X pins σ H s):X.K.In s.heap:=I.ok.mod.kin.keeps I.bk
theorem Inv.lt(I:Inv X pins σ H s):X.env.locals<s.heap.objs.size:=let⟨_,hn,_⟩:=I.loc;hn.lt
theorem Inv.sz(I:Inv X pins σ H s):X.s₀.heap.objs.size≤s.heap.objs.size:=Nat.le_trans I.ok.above (Nat.le_of_lt I.lt)
theorem Inv.nofs(I:Inv X pins σ H s){a:Addr}(h:s.heap.objs.size≤a):a∉X.fs:=fun hb=>by
 obtain⟨_,o,ho,_⟩:=I.ok.funs.mem hb
 exact absurd (Nat.lt_of_lt_of_le (Heap.lt_size ho) (Nat.le_trans I.sz h)) (Nat.lt_irrefl _)
theorem Inv.cne(I:Inv X pins σ H s):∀x c,X.env.cells.lookup x=some c→c≠X.env.locals:=fun x c e z=>by
 obtain⟨v,o,ho,hd⟩:=I.cell x c e
 obtain⟨m,⟨o',es,ep,ho',hd',_⟩,_⟩:=I.loc
 rw[z,ho'] at ho;cases ho;rw[hd'] at hd;cases hd
theorem Inv.funs(I:Inv X pins σ H s):s.heap.FunFrames X.base X.outer:=by
 have all:∀(l:List Env),(∀b∈Ei l,b∈X.fs)→X.s₀.heap.FunFrames X.base l→s.heap.FunFrames X.base l:=by
  intro l
  induction l with
  |nil=>intro _ _;trivial
  |cons env r ih=>
   intro hs hl
   obtain⟨hk,⟨L,o,hf,hn,ho,hd⟩,hr⟩:=hl
   have hL:L∈X.fs:=hs L (by unfold Ei;rw[List.filterMap_cons,hf];exact List.mem_cons_self)
   obtain⟨sl,e⟩:=I.base.slot L o ho (I.ok.frf L hL) hL fun z=>I.ok.exfs L z hL
   exact⟨hk,⟨L,_,hf,hn,e,hd⟩,ih (fun b hb=>hs b (by unfold Ei;rw[List.filterMap_cons,hf];exact List.mem_cons_of_mem _ hb)) hr⟩
 exact all X.outer (fun _ hb=>hb) I.ok.funs
theorem Inv.stack(I:Inv X pins σ H s):s.heap.FunFrames X.base X.stack:=by
 rcases I.ok.stk with e| ⟨e,hf⟩
 ·rw[e];exact I.funs
 ·rw[e]
  obtain⟨m,hn,_⟩:=I.loc
  refine .cons (by rw[I.ok.kind];decide) hf hn ?_ I.funs
  exact Heap.get?_none_of_le (Nat.le_trans I.ok.bsz I.ok.above)
theorem Inv.stkSub(I:Inv X pins σ H s):∀b∈Ei X.stack,b∈X.env.locals::X.fs:=fun b hb=>by
 rcases I.ok.stk with e| ⟨e,hf⟩
 ·rw[e] at hb;exact List.mem_cons_of_mem _ hb
 ·rw[e] at hb
  unfold Ei at hb
  rw[List.filterMap_cons,hf] at hb
  exact hb
theorem Inv.stkFree(I:Inv X pins σ H s):∀b∈Ei X.stack,H b=none:=fun b hb=>by
 rcases List.mem_cons.mp (I.stkSub b hb) with e|hb
 ·rw[e];exact I.free
 ·obtain⟨_,o,ho,_⟩:=I.ok.funs.mem hb
  exact I.base.free b o ho (I.ok.frf b hb) fun z=>I.ok.exfs b z hb
theorem Inv.step{g':Array GenState}{t':Nat}{d':Drawn}{ch:List Addr}(I:Inv X pins σ H s)
  (hch:∀b∈ch,(b∈X.ex∨X.s₀.heap.objs.size≤b)∧b≠X.env.locals∧(∀x c,X.env.cells.lookup x=some c→c≠b)∧∀p∈X.pn++pins,p.1≠b)
  (keep:∀b o,b≠X.env.locals→b∉X.fs→b∉ch→s.heap.get? b=some o→H b=none→h'.get? b=some o)
  (slot:∀b o,b≠X.env.locals→b∈X.fs→b∉ch→s.heap.get? b=some o→H b=none→∃sl,h'.get? b=some {o with slots:=sl}) (free:∀b o,b∉ch→s.heap.get? b=some o→H b=none→H' b=none)
  (there:∀b o,b∉ch→s.heap.get? b=some o→∃o',h'.get? b=some o')
  (tups:∀b xs,H b=some (.tup xs)→H' b=some (.tup xs)) (frzs:∀b o u,H b=some (.frz o u)→H' b=some (.frz o u)) (tbls:∀b ps,H b=some (.tbl ps)→∃more,H' b=some (.tbl (ps++more)))
  (ns:∀m,s.heap.Ns X.env.locals m→h'.Ns X.env.locals m) (hok:HOk X.prog X.w H' h') (hg:AllBare g'):
  Inv X pins σ H' {s with heap:=h',gens:=g',drawn:=d',toks:=t'}:=by
 have neL:∀b o,X.s₀.heap.get? b=some o→b≠X.env.locals:=fun b o e=>Nat.ne_of_lt (Nat.lt_of_lt_of_le (Heap.lt_size e) I.ok.above)
 have neC:∀b o,X.s₀.heap.get? b=some o→b∉X.ex→b∉ch:=fun b o e hx hb=>by
  rcases(hch b hb).1 with z|z
  ·exact hx z
  ·exact absurd (Nat.lt_of_lt_of_le (Heap.lt_size e) z) (Nat.lt_irrefl _)
 have cellK:∀x c,X.env.cells.lookup x=some c→∀v,s.heap.IsCell c v→h'.IsCell c v:=fun x c e v ⟨o,ho,hd⟩=>by
  have nch:c∉ch:=fun z=> (hch c z).2.2.1 x c e rfl
  by_cases hc:c∈X.fs
  ·obtain⟨sl,q⟩:=slot c o (I.cne x c e) hc nch ho (I.freeC x c e)
   exact⟨_,q,hd⟩
  ·exact⟨o,keep c o (I.cne x c e) hc nch ho (I.freeC x c e),hd⟩
 refine⟨I.ok,I.os,hg,⟨fun b o e n hb hx=>?_,fun b o e n hb hx=>?_,fun b o e n hx=>?_,fun b o e hx=>?_,fun b xs e=>tups b xs (I.base.tups b xs e),fun b o xs e=>frzs b o xs (I.base.frzs b o xs e),fun b ps e=>?_⟩,?_,fun x c e=>?_,?_,fun x c e=>?_,fun p hp=>?_,hok,I.len⟩
 ·exact keep b o (neL b o e) hb (neC b o e hx) (I.base.keep b o e n hb hx) (I.base.free b o e n hx)
 ·obtain⟨sl,e1⟩:=I.base.slot b o e n hb hx
  obtain⟨sl',e2⟩:=slot b _ (neL b o e) hb (neC b o e hx) e1 (I.base.free b o e n hx)
  exact⟨sl',e2⟩
 ·obtain⟨o',e1⟩:=I.base.there b o e hx
  exact free b o' (neC b o e hx) e1 (I.base.free b o e n hx)
 ·obtain⟨o',e1⟩:=I.base.there b o e hx
  exact there b o' (neC b o e hx) e1
 ·obtain⟨m1,e1⟩:=I.base.tbls b ps e
  obtain⟨m2,e2⟩:=tbls b _ e1
  exact⟨m1++m2,by rw[e2,Array.append_assoc]⟩
 ·obtain⟨m,hn,hl⟩:=I.loc
  refine⟨m,ns m hn,fun i x v e1 e2 e3=>?_⟩
  obtain⟨u,r,l⟩:=hl i x v e1 e2 e3
  refine⟨u,r,?_⟩
  rcases l with l| ⟨k,c,e,z⟩
  ·exact .inl l
  ·exact .inr ⟨k,c,e,cellK x c e _ z⟩
 ·obtain⟨v,z⟩:=I.cell x c e
  exact⟨v,cellK x c e v z⟩
 ·obtain⟨m,⟨o,_,_,ho,_⟩,_⟩:=I.loc
  exact free _ o (fun z=> (hch _ z).2.1 rfl) ho I.free
 ·obtain⟨v,o,ho,hd⟩:=I.cell x c e
  exact free c o (fun z=> (hch c z).2.2.1 x c e rfl) ho (I.freeC x c e)
 ·obtain⟨e,n,ne,nf,d⟩:=I.pin p hp
  have nch:p.1∉ch:=fun z=> (hch p.1 z).2.2.2 p hp rfl
  exact⟨keep p.1 p.2 ne nf nch e n,free p.1 p.2 nch e n,ne,nf,d⟩
theorem Inv.un{t':Nat}(I:Inv X pins σ H s)(u:Un X.fs [] H H' s.heap h')(hok:HOk X.prog X.w H' h'):Inv X pins σ H' {s with heap:=h',toks:=t'}:=by
 obtain⟨m,⟨o,es,ep,ho,r⟩,_⟩:=id I.loc
 obtain⟨sl,hL⟩:=u.any ho I.free (by simp)
 exact I.step (g':=s.gens) (d':=s.drawn) (ch:=[]) (fun _ z=>nomatch z) (fun b o _ hb _ e n=>u.keep b o e n hb (by simp)) (fun b o _ hb _ e n=>u.slot b o e n hb (by simp)) (fun b o _ e n=>u.free b o e n (by simp)) (fun b o _ e=>u.there b o e (by simp)) u.tups u.frzs u.tbls (fun m' hm=>by
  obtain⟨o',es',ep',ho',r'⟩:=hm
  rw[ho] at ho';cases ho'
  exact⟨_,es',ep',hL,r'⟩) hok I.bare
theorem Inv.call{g':Array GenState}{t':Nat}{d':Drawn}{ch:List Addr}(I:Inv X pins σ H s)(u:Un (Ei X.stack) ch H H' s.heap h')(hok:HOk X.prog X.w H' h')(hg:AllBare g')
  (hch:∀b∈ch,(b∈X.ex∨X.s₀.heap.objs.size≤b)∧b≠X.env.locals∧(∀x c,X.env.cells.lookup x=some c→c≠b)∧∀p∈X.pn++pins,p.1≠b):
  Inv X pins σ H' {s with heap:=h',gens:=g',drawn:=d',toks:=t'}:=by
 obtain⟨m,⟨o,es,ep,ho,r⟩,_⟩:=id I.loc
 obtain⟨sl,hL⟩:=u.any ho I.free fun z=> (hch _ z).2.1 rfl
 exact I.step (ch:=ch) hch (fun b o hL hb hc e n=>u.keep b o e n (fun z=> (List.mem_cons.mp (I.stkSub b z)).elim hL hb) hc) (fun b o _ _ hc e n=>u.any e n hc) (fun b o hc e n=>u.free b o e n hc) (fun b o hc e=>u.there b o e hc) u.tups u.frzs u.tbls (fun m' hm=>by
  obtain⟨o',es',ep',ho',r'⟩:=hm
  rw[ho] at ho';cases ho'
  exact⟨_,es',ep',hL,r'⟩) hok hg
theorem Inv.turned{t':Nat}{it:Addr}(I:Inv X pins σ H s)(k:∀b o,b≠it→s.heap.get? b=some o→h'.get? b=some o)(hn:H it=none)(hL:it≠X.env.locals)
  (h1:it∈X.ex∨X.s₀.heap.objs.size≤it) (h2:∀x c,X.env.cells.lookup x=some c→c≠it) (h3:∀p∈X.pn++pins,p.1≠it):Inv X pins σ H {s with heap:=h',toks:=t'}:=by
 have nit:∀b u,H b=some u→b≠it:=fun b u e z=>by rw[z,hn] at e;cases e
 refine I.step (g':=s.gens) (d':=s.drawn) (ch:=[it]) (fun b hb=>?_) (fun b o _ _ hc e _=>k b o (fun z=>hc (by simp[z])) e) (fun b o _ _ hc e _=> ⟨o.slots,k b o (fun z=>hc (by simp[z])) e⟩) (fun _ _ _ _ n=>n)
  (fun b o hc e=> ⟨o,k b o (fun z=>hc (by simp[z])) e⟩) (fun _ _ e=>e) (fun _ _ _ e=>e) (fun b ps e=> ⟨#[],by rw[e];simp⟩) (fun m hm=>?_) (fun b u e=>?_) I.bare
 ·have e:b=it:=by simpa using hb
  subst e
  exact⟨h1,hL,h2,h3⟩
 ·obtain⟨o,es,ep,ho,r⟩:=hm
  exact⟨o,es,ep,k _ o (Ne.symm hL) ho,r⟩
 ·refine(I.hok b u e).stay (fun c v hc q=>k c v ?_ q) (fun _ q=>q) fun _ _ q=>q
  rcases hc with z|z
  ·rw[z];exact nit b u e
  ·exact nit c _ z
theorem Inv.tok(I:Inv X pins σ H s)(t:Nat):Inv X pins σ H {s with toks:=t}:=I.un (h':=s.heap) (t':=t) Un.refl I.hok
theorem Inv.kept{t':Nat}(I:Inv X pins σ H s)(k:∀b u,s.heap.get? b=some u→h'.get? b=some u):Inv X pins σ H {s with heap:=h',toks:=t'}:=I.un (Un.kept k) (I.hok.kept k)
theorem Inv.laid{a:Addr}{o:HO}{t':Nat}(I:Inv X pins σ H s)(k:∀b u,s.heap.get? b=some u→h'.get? b=some u)(hp:s.heap.objs.size≤a)(new:ObjOk X.prog X.w (upd H a o) h' a o):
  Inv X pins σ (upd H a o) {s with heap:=h',toks:=t'}:=I.un (Un.laid k hp (I.hok.fresh hp)) (I.hok.laid k hp new)
theorem Inv.write{x e:Addr}{o:HO}{t':Nat}(I:Inv X pins σ H s)(mu:aA (H x))(he:e=x∨H e=some (.own x))(k:∀b u,b≠e→s.heap.get? b=some u→h'.get? b=some u)(heo:∃u,h'.get? e=some u)
  (new:ObjOk X.prog X.w (upd H x o) h' x o):Inv X pins σ (upd H x o) {s with heap:=h',toks:=t'}:=I.un (Un.write mu he k heo) (I.hok.write mu he k heo new)
theorem Inv.weak{σ':List (Option V)}(I:Inv X pins σ H s)(hl:σ'.length=σ.length)(w:∀(i:Nat) v,σ'[i]?=some (some v)→σ[i]?=some (some v)):Inv X pins σ' H s:=
 ⟨I.ok,I.os,I.bare,I.base,let⟨m,hn,hl'⟩:=I.loc;⟨m,hn,fun i x v e1 e2 e3=>hl' i x v e1 (w i v e2) e3⟩,I.cell,I.free,I.freeC,I.pin,I.hok,hl.trans I.len⟩
theorem Inv.pins_of{pins':List (Addr×Obj)}(I:Inv X pins σ H s)(h:∀p∈pins',s.heap.get? p.1=some p.2∧H p.1=none∧p.1≠X.env.locals∧p.1∉X.fs∧∀v,p.2.data≠.cell v):Inv X pins' σ H s:=
 ⟨I.ok,I.os,I.bare,I.base,I.loc,I.cell,I.free,I.freeC,fun p hp=> (List.mem_append.mp hp).elim (fun z=>I.pin p (List.mem_append_left _ z)) (h p),I.hok,I.len⟩
theorem Fq{N:List Str}(hN:N.Nodup){i j:Nat}{x:Str}(a:N[i]?=some x)(b:N[j]?=some x):i=j:=by
 obtain⟨h1,e1⟩:=List.getElem?_eq_some_iff.mp a
 obtain⟨h2,e2⟩:=List.getElem?_eq_some_iff.mp b
 exact(List.getElem_inj hN).mp (e1.trans e2.symm)
theorem HV{M:Model}{A:Around}{E:Value→Shared→Prop}{i:Nat}{x:Str}{v:V}{u:Value}{Q:Unit→Shared→Prop}(I:Inv X pins σ H s)(hN:X.N.Nodup)(hi:X.N[i]?=some x)(hx:SB X.env.scope x)(r:RelV v u)
  (h:∀s',Inv X pins (σ.set i (some v)) H s'→(∃a,Heap.SameBut a s.heap s'.heap∧(a=X.env.locals∨X.env.cells.lookup x=some a))→Q () s') (hf:X.fn x=true∨X.env.scope.names.lookup x=some .local:=by first|exact .inl rfl|exact .inr rfl|assumption):wpAny M A (storeName X.env x u) Q E s:=by
 obtain⟨m,hn,hl⟩:=id I.loc
 have hcls:(X.env.scope.kind==.class|| (X.env.scope.kind==.module&&X.env.locals !=X.env.globals))=false:=by rw[I.ok.kind];rfl
 have hiσ:i<σ.length:=by rw[I.len];exact(List.getElem?_eq_some_iff.mp hi).1
 have cne:=I.cne
 have tracked:∀{a:Addr} {h':Heap},(∃o,s.heap.get? a=some o∧H a=none)→Heap.SameBut a s.heap h'→HOk X.prog X.w H h':=fun{a h'} ha hs b ob e=>by
  obtain⟨_,_,hfree⟩:=ha
  refine(I.hok b ob e).stay (fun c w' hc q=> (hs.2 c ?_).trans q) (fun _ q=>q) fun _ _ q=>q
  rintro rfl
  rcases hc with rfl|hc
  ·rw[hfree] at e;cases e
  ·rw[hfree] at hc;cases hc
 rcases hx with hk|hk
 ·refine wpAny_storeName_local hk hn (fun h' hn' hs=>?_) hcls
  obtain⟨oL,_,_,hoL,_⟩:=id hn
  refine h _ ⟨I.ok,I.os,I.bare,⟨fun b o e n hb hx=>?_,fun b o e n hb hx=>?_,I.base.free,fun b o e hx=>?_,I.base.tups,I.base.frzs,I.base.tbls⟩,⟨_,hn',fun j y v' e1 e2 e3=>?_⟩,fun y c e=>?_,I.free,I.freeC,fun p hp=>?_,tracked ⟨oL,hoL,I.free⟩ hs,by simpa using I.len⟩ ⟨_,hs,.inl rfl⟩
  ·exact(hs.2 b (Nat.ne_of_lt (Nat.lt_of_lt_of_le (Heap.lt_size e) I.ok.above))).trans (I.base.keep b o e n hb hx)
  ·obtain⟨sl,e1⟩:=I.base.slot b o e n hb hx
   exact⟨sl,(hs.2 b (Nat.ne_of_lt (Nat.lt_of_lt_of_le (Heap.lt_size e) I.ok.above))).trans e1⟩
  ·obtain⟨o',e1⟩:=I.base.there b o e hx
   exact⟨o',(hs.2 b (Nat.ne_of_lt (Nat.lt_of_lt_of_le (Heap.lt_size e) I.ok.above))).trans e1⟩
  ·by_cases hj:j=i
   ·subst hj
    rw[hi] at e1;cases e1
    rw[List.getElem?_set_self hiσ] at e2
    cases e2
    exact⟨u,r,.inl ⟨hk,by simp⟩⟩
   ·rw[List.getElem?_set_ne (Ne.symm hj)] at e2
    obtain⟨u',r',q⟩:=hl j y v' e1 e2 e3
    refine⟨u',r',?_⟩
    rcases q with⟨k,e⟩| ⟨k,c,e,z⟩
    ·refine .inl ⟨k,?_⟩
     have:y≠x:=fun e=>hj (Fq hN e1 (e▸hi))
     simp[this,e]
    ·exact .inr ⟨k,c,e,z.sameBut hs (cne y c e)⟩
  ·obtain⟨w',z⟩:=I.cell y c e
   exact⟨w',z.sameBut hs (cne y c e)⟩
  ·obtain⟨e,n,ne,nf,d⟩:=I.pin p hp
   exact⟨(hs.2 p.1 ne).trans e,n,ne,nf,d⟩
 ·have hfn:X.fn x=true:=by
   rcases hf with z|z
   ·exact z
   ·rw[z] at hk;cases hk
  obtain⟨c,hc⟩:=I.ok.has x (.inl hk)
  obtain⟨w',z⟩:=I.cell x c hc
  refine wpAny_storeName_cell I.ok.kind hk hc z (fun h' hc' hs=>?_)
  obtain⟨oc,hoc,hocd⟩:=id z
  refine h {s with heap:=h'} ⟨I.ok,I.os,I.bare,⟨fun b o e n hb hx=>?_,fun b o e n hb hx=>?_,I.base.free,fun b o e hx=>?_,I.base.tups,I.base.frzs,I.base.tbls⟩,⟨m,hn.sameBut hs (Ne.symm (cne x c hc)),fun j y v' e1 e2 e3=>?_⟩,fun y c' e=>?_,I.free,I.freeC,fun p hp=>?_,tracked ⟨oc,hoc,I.freeC x c hc⟩ hs,by simpa using I.len⟩ ⟨c,hs,.inr hc⟩
  ·exact(hs.2 b (Nat.ne_of_lt (Nat.lt_of_lt_of_le (Heap.lt_size e) (I.ok.cab x c hfn hc)))).trans (I.base.keep b o e n hb hx)
  ·obtain⟨sl,e1⟩:=I.base.slot b o e n hb hx
   exact⟨sl,(hs.2 b (Nat.ne_of_lt (Nat.lt_of_lt_of_le (Heap.lt_size e) (I.ok.cab x c hfn hc)))).trans e1⟩
  ·obtain⟨o',e1⟩:=I.base.there b o e hx
   exact⟨o',(hs.2 b (Nat.ne_of_lt (Nat.lt_of_lt_of_le (Heap.lt_size e) (I.ok.cab x c hfn hc)))).trans e1⟩
  ·by_cases hj:j=i
   ·subst hj
    rw[hi] at e1;cases e1
    rw[List.getElem?_set_self hiσ] at e2
    cases e2
    exact⟨u,r,.inr ⟨.inl hk,c,hc,hc'⟩⟩
   ·rw[List.getElem?_set_ne (Ne.symm hj)] at e2
    obtain⟨u',r',q⟩:=hl j y v' e1 e2 e3
    refine⟨u',r',?_⟩
    rcases q with q| ⟨k,c',e,z'⟩
    ·exact .inl q
    ·refine .inr ⟨k,c',e,z'.sameBut hs ?_⟩
     rintro rfl
     exact hj (Fq hN e1 (I.ok.inj _ _ _ e hc▸hi))
  ·by_cases hcc:c'=c
   ·subst hcc;exact⟨_,hc'⟩
   ·obtain⟨w2,z2⟩:=I.cell y c' e
    exact⟨w2,z2.sameBut hs hcc⟩
  ·obtain⟨e,n,ne,nf,d⟩:=I.pin p hp
   refine⟨(hs.2 p.1 ?_).trans e,n,ne,nf,d⟩
   intro q
   rw[q,hoc] at e
   have q':oc=p.2:=Option.some.inj e
   exact d w' (by rw[←q'];exact hocd)
theorem DJ{M:Model}{A:Around}{E:Value→Shared→Prop}{i:Nat}{x:Str}{v:V}{u:Value}{Q:Unit→Shared→Prop}(I:Inv X pins σ H s)(hN:X.N.Nodup)(hi:X.N[i]?=some x)(hx:SB X.env.scope x)(r:RelV v u)
  (h:∀s',Inv X pins (σ.set i (some v)) H s'→Q () s') (hf:X.fn x=true∨X.env.scope.names.lookup x=some .local:=by first|exact .inl rfl|exact .inr rfl|assumption):wpAny M A (storeName X.env x u) Q E s:=
 HV I hN hi hx r (fun s' I' _=>h s' I') hf
theorem Inv.call'{s':Shared}{ch:List Addr}(I:Inv X pins σ H s)(ho:s'.os=s.os)(u:Un (Ei X.stack) ch H H' s.heap s'.heap)(hok:HOk X.prog X.w H' s'.heap)(hg:AllBare s'.gens)
  (hch:∀b∈ch,(b∈X.ex∨X.s₀.heap.objs.size≤b)∧b≠X.env.locals∧(∀x c,X.env.cells.lookup x=some c→c≠b)∧∀p∈X.pn++pins,p.1≠b):Inv X pins σ H' s':=by
 obtain⟨h',g',d',t',o'⟩:=s'
 have e:o'=s.os:=ho
 subst e
 exact I.call (g':=g') (t':=t') (d':=d') u hok hg hch
end
abbrev XK:=Value→Option Addr→Hp→Prop
abbrev St:=List (Option V)
abbrev VK:=V→Hp→Prop
abbrev TE:=St→Hp→VK→Prop
abbrev TT:=St→Hp→(Bool→Hp→Prop)→Prop
abbrev TA:=St→Hp→(List V→Hp→Prop)→Prop
structure Ends where
 nx:St→Hp→Prop
 rt:VK
 bk:St→Hp→Prop:=fun _ _=>False
 ct:St→Hp→Prop:=fun _ _=>False
abbrev TS:=Ends→St→Hp→Prop
def EP(X:Cx)(pins:List (Addr×Obj))(σ:St)(Q:VK)(u:Value)(s':Shared):Prop:=∃v H',Inv X pins σ H' s'∧RelV v u∧Q v H'
def TP(X:Cx)(pins:List (Addr×Obj))(σ:St)(Q:Bool→Hp→Prop)(b:Bool)(s':Shared):Prop:=∃H',Inv X pins σ H' s'∧Q b H'
def AP(X:Cx)(pins:List (Addr×Obj))(σ:St)(Q:List V→Hp→Prop)(us:List Value)(s':Shared):Prop:=∃vs H',Inv X pins σ H' s'∧Vals vs us∧Q vs H'
def SP(X:Cx)(pins:List (Addr×Obj))(D:Ends)(f:Flow)(s':Shared):Prop:=
 match f with
 | .next=>∃σ' H',Inv X pins σ' H' s'∧D.nx σ' H'
 | .brk=>∃σ' H',Inv X pins σ' H' s'∧D.bk σ' H'
 | .cont=>∃σ' H',Inv X pins σ' H' s'∧D.ct σ' H'
 | .ret u=>∃v σ' H',Inv X pins σ' H' s'∧RelV v u∧D.rt v H'
def PE(X:Cx)(e:Expr)(t:TE):Prop:=
 ∀(pins:List (Addr×Obj)) (s:Shared) (σ:St) (H:Hp) (Q:VK),Inv X pins σ H s→t σ H Q→wpAny (model X.prog X.w) X.A (eval e X.env) (EP X pins σ Q) X.xe s
def PT(X:Cx)(e:Expr)(t:TT):Prop:=
 ∀(pins:List (Addr×Obj)) (s:Shared) (σ:St) (H:Hp) (Q:Bool→Hp→Prop),Inv X pins σ H s→t σ H Q→wpAny (model X.prog X.w) X.A (isTrue e X.env (eval e X.env)) (TP X pins σ Q) X.xe s
def PW(X:Cx)(e:Expr)(t:TT):Prop:=
 ∀(whole:Sem Value) (pins:List (Addr×Obj)) (s:Shared) (σ:St) (H:Hp) (Q:Bool→Hp→Prop),Inv X pins σ H s→t σ H Q→wpAny (model X.prog X.w) X.A (isTrue e X.env whole) (TP X pins σ Q) X.xe s
theorem PW.pt{X:Cx}{e:Expr}{t:TT}(h:PW X e t):PT X e t:=h _
def PA(X:Cx)(es:List Expr)(t:TA):Prop:=
 ∀(pos:Pos) (pins:List (Addr×Obj)) (s:Shared) (σ:St) (H:Hp) (Q:List V→Hp→Prop),Inv X pins σ H s→t σ H Q→wpAny (model X.prog X.w) X.A (spliced (backTo pos (starEach es X.env))) (AP X pins σ Q) X.xe s
def PS(X:Cx)(st:Stmt)(t:TS):Prop:=
 ∀(pins:List (Addr×Obj)) (s:Shared) (σ:St) (H:Hp) (D:Ends),Inv X pins σ H s→t D σ H→wpAny (model X.prog X.w) X.A (exec st X.env) (SP X pins D) X.xe s
def PSs(X:Cx)(st:List Stmt)(t:TS):Prop:=
 ∀(pins:List (Addr×Obj)) (s:Shared) (σ:St) (H:Hp) (D:Ends),Inv X pins σ H s→t D σ H→wpAny (model X.prog X.w) X.A (execs st X.env) (SP X pins D) X.xe s
theorem Ae{α:Type}{t:Sem α}{Q Q':α→Shared→Prop}{M:Model}{A:Around}{E:Value→Shared→Prop}{s:Shared}(h:wpAny M A t Q E s)(hQ:∀a s,Q a s→Q' a s):wpAny M A t Q' E s:=wpAny_mono h hQ fun _ _ x=>x
section
variable{X:Cx}
def Xz(i:Nat):TE:=fun σ H Q=>∃v,σ[i]?=some (some v)∧Q v H
def tC(v:V):TE:=fun _ H Q=>Q v H
theorem Ob{i:Nat}{x:Str}{pos:Pos}(hN:X.N[i]?=some x)(hv:UZ X.env.scope x)(hd:(x==("__debug__" :Str))=false:=by decide)(hcd:(x==("__classdict__" :Str))=false:=by decide):PE X (.Name x pos) (Xz i):=by
 intro pins s σ H Q I h
 obtain⟨v,e,h⟩:=h
 obtain⟨m,hn,hl⟩:=I.loc
 obtain⟨u,r,l⟩:=hl i x v hN e hv
 have fin:EP X pins σ Q u s:=⟨v,H,I,r,h⟩
 rcases l with⟨hk,hm⟩| ⟨hk,c,hc,hcell⟩
 ·exact wpAny_Name (wpAny_loadName_local I.ok.kind hk hn hm fin) hd
 ·rcases hk with hk|hk
  ·exact wpAny_Name (wpAny_loadName_cell I.ok.kind hk hc hcell fin) hd
  ·exact wpAny_Name (wpAny_loadName_free I.ok.kind hk hc hcell fin hcd) hd
theorem IL{i j pos}:PE X (.Constant (.int i) j pos) (tC (.int i)):=fun _ _ _ H _ I h=>wpAny_Constant_int ⟨.int i,H,I.tok _,⟨_,rfl⟩,h⟩
theorem Oc{b j pos}:PE X (.Constant (.bool b) j pos) (tC (.bl b)):=fun _ _ _ H _ I h=>Constant_bool ⟨.bl b,H,I,rfl,h⟩
theorem VQ{j pos}:PE X (.Constant .none j pos) (tC .non):=fun _ _ _ H _ I h=>Constant_none ⟨.non,H,I,rfl,h⟩
theorem CJ{x j pos}:PE X (.Constant (.str x) j pos) (tC (.str x)):=fun _ _ _ H _ I h=>Calls.Constant_str ⟨.str x,H,I.tok _,⟨_,rfl⟩,h⟩
def Gl(X:Cx)(x:Str):Prop:=X.env.kindOf x=some .globalImplicit
theorem DZ{E:Value→Shared→Prop}{pins:List (Addr×Obj)}{s:Shared}{σ:St}{H:Hp}{x:Str}{u:Value}{pos:Pos}{Q:Value→Shared→Prop}(I:Inv X pins σ H s)(hg:Gl X x)(hm:X.mg x=some u)(h:Q u s)
  (hd:(x==("__debug__" :Str))=false:=by decide):wpAny (model X.prog X.w) X.A (eval (.Name x pos) X.env) Q E s:=
 Calls.Name_function_global I.ok.kind hg (Calls.loadGlobal_global (by rw[I.ok.glob];exact I.mod.glob.keeps I.bk) hm h) hd
theorem Ej{E:Value→Shared→Prop}{pins:List (Addr×Obj)}{s:Shared}{σ:St}{H:Hp}{x:Str}{u:Value}{pos:Pos}{Q:Value→Shared→Prop}(I:Inv X pins σ H s)(hg:Gl X x)(hm:X.mg x=none)(hv:bootBuiltins x=some u)(h:Q u s)
  (hn:x≠"__name__":=by decide) (hd:(x==("__debug__" :Str))=false:=by decide):wpAny (model X.prog X.w) X.A (eval (.Name x pos) X.env) Q E s:=by
 obtain⟨mb,h1,h2⟩:=I.mod.blt
 exact Calls.Name_function_global I.ok.kind hg (Calls.loadGlobal_builtin (by rw[I.ok.glob];exact I.mod.glob.keeps I.bk) hm (by rw[I.ok.blt];exact h1.keeps I.bk) ((h2 x hn).trans hv) h) hd
theorem BO{x:Str}{v:V}{u:Value}{pos:Pos}(hg:Gl X x)(hm:X.mg x=some u)(r:RelV v u)(hd:(x==("__debug__" :Str))=false:=by decide):PE X (.Name x pos) (tC v):=
 fun _ _ _ H _ I h=>DZ I hg hm ⟨v,H,I,r,h⟩ hd
theorem ML{x:Str}{v:V}{u:Value}{pos:Pos}(hg:Gl X x)(hm:X.mg x=none)(hv:bootBuiltins x=some u)(r:RelV v u)(hn:x≠"__name__":=by decide)(hd:(x==("__debug__" :Str))=false:=by decide):PE X (.Name x pos) (tC v):=
 fun _ _ _ H _ I h=>Ej I hg hm hv ⟨v,H,I,r,h⟩ hn hd
variable{a b:Expr}{ta tb:TE}{pos:Pos}
variable{tA tB':TT}{rest:List Expr}
def aO(t u:TT):TT:=fun σ H Q=>t σ H fun c H1=>if c=true then u σ H1 Q else Q false H1
def cK(t u:TT):TT:=fun σ H Q=>t σ H fun c H1=>if c=true then Q true H1 else u σ H1 Q
def aP(t:TT):TT:=fun σ H Q=>t σ H fun c H1=>Q (!c) H1
theorem SH(ha:PT X a tA):PW X (.BoolOp .And [a] pos) tA:=by
 intro wh pins s σ H Q I h
 refine isTrue_and (Ae (ha pins s σ H Q I h) fun c s1 e=>?_)
 cases c with
 |true=>exact isTrue_and_nil e
 |false=>exact e
theorem Od(ha:PT X a tA):PW X (.BoolOp .Or [a] pos) tA:=by
 intro wh pins s σ H Q I h
 refine isTrue_or (Ae (ha pins s σ H Q I h) fun c s1 e=>?_)
 cases c with
 |false=>exact isTrue_or_nil e
 |true=>exact e
theorem VR(ha:PT X a tA)(hb:PW X (.BoolOp .And (b::rest) pos) tB'):PW X (.BoolOp .And (a::b::rest) pos) (aO tA tB'):=by
 intro wh pins s σ H Q I h
 refine isTrue_and (Ae (ha pins s σ H _ I h) fun c s1 ⟨H1,I1,q1⟩=>?_)
 cases c with
 |true=>exact hb wh pins s1 σ H1 Q I1 q1
 |false=>exact⟨H1,I1,q1⟩
theorem Ua(ha:PT X a tA)(hb:PW X (.BoolOp .Or (b::rest) pos) tB'):PW X (.BoolOp .Or (a::b::rest) pos) (cK tA tB'):=by
 intro wh pins s σ H Q I h
 refine isTrue_or (Ae (ha pins s σ H _ I h) fun c s1 ⟨H1,I1,q1⟩=>?_)
 cases c with
 |true=>exact⟨H1,I1,q1⟩
 |false=>exact hb wh pins s1 σ H1 Q I1 q1
theorem Of(ha:PT X a tA):PT X (.UnaryOp .Not a pos) (aP tA):=by
 intro pins s σ H Q I h
 exact isTrue_not (ha pins s σ H (fun c H1=>Q (!c) H1) I h)
def YA(ta tb:TE):TE:=fun σ H Q=>ta σ H fun x H1=>∃c,x=.bl c∧if c=true then tb σ H1 Q else Q (.bl false) H1
def aQ(ta tb:TE):TE:=fun σ H Q=>ta σ H fun x H1=>∃c,x=.bl c∧if c=true then Q (.bl true) H1 else tb σ H1 Q
def YB(ta:TE):TE:=fun σ H Q=>ta σ H fun x H1=>∃c,x=.bl c∧Q (.bl (!c)) H1
theorem VS{op}{t:TE}(h:PE X a t):PE X (.BoolOp op [a] pos) t:=fun pins s σ H Q I hw=>BoolOp_one (h pins s σ H Q I hw)
theorem VT(ha:PE X a ta)(hb:PE X (.BoolOp .And (b::rest) pos) tb):PE X (.BoolOp .And (a::b::rest) pos) (YA ta tb):=by
 intro pins s σ H Q I h
 refine BoolOp_and (Ae (ha pins s σ H _ I h) fun v s1 ⟨x,H1,I1,r1,q1⟩=>?_)
 obtain⟨c,rfl,q1⟩:=q1
 cases r1
 refine wpAny_truthy_bool ?_
 cases c with
 |true=>exact hb pins s1 σ H1 Q I1 q1
 |false=>exact⟨.bl false,H1,I1,rfl,q1⟩
theorem YC(ha:PE X a ta)(hb:PE X (.BoolOp .Or (b::rest) pos) tb):PE X (.BoolOp .Or (a::b::rest) pos) (aQ ta tb):=by
 intro pins s σ H Q I h
 refine BoolOp_or (Ae (ha pins s σ H _ I h) fun v s1 ⟨x,H1,I1,r1,q1⟩=>?_)
 obtain⟨c,rfl,q1⟩:=q1
 cases r1
 refine wpAny_truthy_bool ?_
 cases c with
 |false=>exact hb pins s1 σ H1 Q I1 q1
 |true=>exact⟨.bl true,H1,I1,rfl,q1⟩
theorem VU(ha:PE X a ta):PE X (.UnaryOp .Not a pos) (YB ta):=by
 intro pins s σ H Q I h
 refine UnaryOp_ (Ae (ha pins s σ H _ I h) fun v s1 ⟨x,H1,I1,r1,q1⟩=>?_)
 obtain⟨c,rfl,q1⟩:=q1
 cases r1
 exact not_of (wpAny_truthy_bool ⟨.bl (!c),H1,I1,rfl,q1⟩)
def cL(t:TT)(ta tb:TE):TE:=fun σ H Q=>t σ H fun c H1=>if c=true then ta σ H1 Q else tb σ H1 Q
theorem Og{c:Expr}(hc:PT X c tA)(ha:PE X a ta)(hb:PE X b tb):PE X (.IfExp c a b pos) (cL tA ta tb):=by
 intro pins s σ H Q I h
 refine wpAny_IfExp (Ae (hc pins s σ H _ I h) fun d s1 ⟨H1,I1,q1⟩=>?_)
 cases d with
 |true=>exact ha pins s1 σ H1 Q I1 q1
 |false=>exact hb pins s1 σ H1 Q I1 q1
end
def SqL(K:PySem.W.Frag)(H:Hp)(a:Addr)(xs:List V):Prop:=
 Rd H a (.lst xs)∨
  ∃(o:Obj) (its:Array Value) (n:Nat),K.lookup a=some o∧o.cls=.type "list"∧o.dict=none∧o.data=.seq its n∧its.size≤sizeLine∧Vals xs its.toList
def Fs(K:PySem.W.Frag)(H:Hp)(a:Addr)(xs:List V):Prop:=
 Rd H a (.tup xs)∨
  ∃(o:Obj) (its:Array Value) (n:Nat),K.lookup a=some o∧o.cls=.type "tuple"∧o.data=.seq its n∧its.size≤sizeLine∧Vals xs its.toList
def aT:Value→Option V
 | .none=>some .non
 | .bool b=>some (.bl b)
 | .int i _=>some (.int i)
 | .str x _=>some (.str x)
 | .bytes b _=>some (.byt b)
 | .float b _=>some (.flt b)
 | .ref a=>some (.ref a)
 | .type n=>some (.ty n)
 |_=>none
theorem RelV.abs{x:V}{u:Value}(r:RelV x u):aT u=some x:=by
 cases x with
 |non=>cases r;rfl
 |bl _=>cases r;rfl
 |int _=>obtain⟨t,rfl⟩:=r;rfl
 |str _=>obtain⟨t,rfl⟩:=r;rfl
 |byt _=>obtain⟨t,rfl⟩:=r;rfl
 |flt _=>obtain⟨t,rfl⟩:=r;rfl
 |ref _=>cases r;rfl
 |ty _=>cases r;rfl
theorem RelV.inj{x y:V}{u:Value}(r:RelV x u)(q:RelV y u):x=y:=Option.some.inj (r.abs.symm.trans q.abs)
theorem Vals.inj:∀{xs ys:List V} {us:List Value},Vals xs us→Vals ys us→xs=ys
 |_,_,_,.nil,.nil=>rfl
 |_,_,_,.cons r t,.cons r' t'=>by rw[r.inj r',Vals.inj t t']
section
variable{X:Cx}{pins:List (Addr×Obj)}{σ:St}{H:Hp}{s:Shared}{a:Addr}{xs ys:List V}
theorem SqL.of{K:PySem.W.Frag}(h:H a=some (.lst xs)):SqL K H a xs:=.inl (.inl h)
theorem Inv.list(I:Inv X pins σ H s)(h:SqL X.K H a xs):∃its:List Value,Vals xs its∧PlainL s.heap a its.toArray∧xs.length≤sizeLine:=by
 rcases h with h| ⟨o,its,n,hk,hc,hd,hs,hz,r⟩
 ·obtain⟨z,its,n,r,e⟩:=h.ok I.hok
  exact⟨its,r,⟨_,n,e,rfl,rfl,rfl⟩,z⟩
 ·refine⟨its.toList,r,⟨o,n,I.kIn a o hk,hc,hd,by simpa using hs⟩,?_⟩
  have e:=r.length
  simp only[Array.length_toList] at e
  omega
theorem Inv.tuple(I:Inv X pins σ H s)(h:Fs X.K H a xs):∃its:List Value,Vals xs its∧IsTup s.heap a its.toArray∧xs.length≤sizeLine:=by
 rcases h with h| ⟨o,its,n,hk,hc,hs,hz,r⟩
 ·obtain⟨z,its,r,p⟩:=h.ok I.hok
  exact⟨its,r,p,z⟩
 ·refine⟨its.toList,r,⟨o,I.kIn a o hk,hc,n,by simpa using hs⟩,?_⟩
  have e:=r.length
  simp only[Array.length_toList] at e
  omega
theorem Inv.list_inj(I:Inv X pins σ H s)(h:SqL X.K H a xs)(h':SqL X.K H a ys):xs=ys:=by
 obtain⟨its,r,⟨o,n,e,_,_,d⟩,_⟩:=I.list h
 obtain⟨its',r',⟨o',n',e',_,_,d'⟩,_⟩:=I.list h'
 rw[e] at e';cases e'
 rw[d] at d'
 injection d' with d1 _
 have:its=its':=by simpa using congrArg Array.toList d1
 subst this
 exact r.inj r'
theorem Inv.tuple_inj(I:Inv X pins σ H s)(h:Fs X.K H a xs)(h':Fs X.K H a ys):xs=ys:=by
 obtain⟨its,r,⟨o,e,_,n,d⟩,_⟩:=I.tuple h
 obtain⟨its',r',⟨o',e',_,n',d'⟩,_⟩:=I.tuple h'
 rw[e] at e';cases e'
 rw[d] at d'
 injection d' with d1 _
 have:its=its':=by simpa using congrArg Array.toList d1
 subst this
 exact r.inj r'
end
section
variable{X:Cx}{pins:List (Addr×Obj)}{σ:St}{H:Hp}{s:Shared}{E:Value→Shared→Prop}
end
section
variable{X:Cx}{st:Stmt}{rest:List Stmt}{t u:TS}{e:Expr}{te:TE}{pos:Pos}
def YD:TS:=fun D σ H=>D.nx σ H
def aV(t u:TS):TS:=fun D σ H=>t {D with nx:=u D} σ H
theorem IM:PSs X [] YD:=fun _ _ σ H _ I h=>wpAny_execs_nil ⟨σ,H,I,h⟩
theorem DL(h1:PS X st t)(h2:PSs X rest u):PSs X (st::rest) (aV t u):=by
 intro pins s σ H D I h
 refine wpAny_execs_cons (Ae (h1 pins s σ H {D with nx:=u D} I h) fun f s1 q=>?_)
 cases f with
 |next=>
  obtain⟨σ',H',I',q⟩:=q
  exact h2 pins s1 σ' H' D I' q
 |ret v=>exact q
 |brk=>exact q
 |cont=>exact q
theorem Da(h1:PS X st t):PSs X [st] t:=by
 intro pins s σ H D I h
 refine wpAny_execs_cons (Ae (h1 pins s σ H D I h) fun f s1 q=>?_)
 cases f with
 |next=>exact wpAny_execs_nil q
 |ret v=>exact q
 |brk=>exact q
 |cont=>exact q
theorem Inv.quiet{pins:List (Addr×Obj)}{σ:St}{H:Hp}{s:Shared}(I:Inv X pins σ H s):interactive X.env=false:=by simp[interactive,I.ok.kind]
def YE(te:TE):TS:=fun D σ H=>te σ H fun _ H1=>D.nx σ H1
theorem SI(he:PE X e te)(hs:swapsWith e none pos.line X.env=pure false:=by rfl):PS X (.Expr e pos) (YE te):=by
 intro pins s σ H D I h
 exact wpAny_Expr_any (Ae (he pins s σ H _ I h) fun v s1 ⟨x,H1,I1,r1,q1⟩=> ⟨σ,H1,I1,q1⟩) I.quiet hs
def aW(te:TE):TS:=fun D σ H=>te σ H D.rt
theorem Ek(he:PE X e te):PS X (.Return (some e) pos) (aW te):=by
 intro pins s σ H D I h
 exact wpAny_Return_some (Ae (he pins s σ H _ I h) fun v s1 ⟨x,H1,I1,r1,q1⟩=> ⟨x,σ,H1,I1,r1,q1⟩)
def aX(c:TT)(t u:TS):TS:=fun D σ H=>c σ H fun b H1=>if b=true then t D σ H1 else u D σ H1
theorem Oh{c:Expr}{a b:List Stmt}{tc:TT}(hc:PT X c tc)(ha:PSs X a t)(hb:PSs X b u):PS X (.If c a b pos) (aX tc t u):=by
 intro pins s σ H D I h
 refine wpAny_If (Ae (hc pins s σ H _ I h) fun d s1 ⟨H1,I1,q1⟩=>?_)
 cases d with
 |true=>exact ha pins s1 σ H1 D I1 q1
 |false=>exact hb pins s1 σ H1 D I1 q1
end
abbrev TG:=V→St→Hp→(St→Hp→Prop)→Prop
abbrev VV:=List V→St→Hp→(St→Hp→Prop)→Prop
def PG(X:Cx)(target:Expr)(t:TG):Prop:=
 ∀(pins:List (Addr×Obj)) (s:Shared) (σ:St) (H:Hp) (v:V) (u:Value) (Q:St→Hp→Prop),Inv X pins σ H s→RelV v u→t v σ H Q→
  wpAny (model X.prog X.w) X.A (assign target X.env u) (fun _ s'=>∃σ' H',Inv X pins σ' H' s'∧Q σ' H') X.xe s
def aC(X:Cx)(ts:List Expr)(t:VV):Prop:=
 ∀(pins:List (Addr×Obj)) (s:Shared) (σ:St) (H:Hp) (vs:List V) (us:List Value) (Q:St→Hp→Prop),Inv X pins σ H s→Vals vs us→t vs σ H Q→
  wpAny (model X.prog X.w) X.A (assignInOrder ((assignEach ts X.env).map (·.2)) us) (fun _ s'=>∃σ' H',Inv X pins σ' H' s'∧Q σ' H') X.xe s
abbrev VW:=V→V→V→Hp→(Hp→Prop)→Prop
def YF(X:Cx)(t:VW):Prop:=
 ∀(pins:List (Addr×Obj)) (s:Shared) (σ:St) (H:Hp) (o i v:V) (ov iv u:Value) (Q:Hp→Prop),Inv X pins σ H s→RelV o ov→RelV i iv→RelV v u→t o i v H Q→
  wpAny (model X.prog X.w) X.A (setItem ov iv u) (fun _ s'=>∃H',Inv X pins σ H' s'∧Q H') X.xe s
section
variable{X:Cx}{pos:Pos}
def Ub(i:Nat):TG:=fun v σ H Q=>Q (σ.set i (some v)) H
theorem IP{i:Nat}{x:Str}(hN:X.N.Nodup)(hi:X.N[i]?=some x)(hx:SB X.env.scope x)(hf:X.fn x=true∨X.env.scope.names.lookup x=some .local:=by first|exact .inl rfl|exact .inr rfl|assumption):PG X (.Name x pos) (Ub i):=by
 intro pins s σ H v u Q I r h
 exact wpAny_assign_Name (DJ I hN hi hx r (fun s' I'=> ⟨_,H,I',h⟩) hf)
def aY:VV:=fun vs σ H Q=>vs=[]∧Q σ H
def YG(t:TG)(u:VV):VV:=fun vs σ H Q=>∃v r,vs=v::r∧t v σ H fun σ' H'=>u r σ' H' Q
theorem MM:aC X [] aY:=by
 intro pins s σ H vs us Q I r h
 obtain⟨e,h⟩:=h
 subst e
 cases r
 exact assignInOrder_nil ⟨σ,H,I,h⟩
theorem Dz{e:Expr}{es:List Expr}{t:TG}{u:VV}(h1:PG X e t)(h2:aC X es u)
  (hs:(assignEach (e::es) X.env).map (·.2)=assign e X.env::(assignEach es X.env).map (·.2):=by rfl):aC X (e::es) (YG t u):=by
 intro pins s σ H vs us Q I r h
 obtain⟨v,vr,e1,h⟩:=h
 subst e1
 cases r with
 |cons r rr=>
  rw[hs]
  refine assignInOrder_cons (Ae (h1 pins s σ H _ _ _ I r h) fun _ s1 ⟨σ1,H1,I1,q1⟩=>?_)
  exact h2 pins s1 σ1 H1 _ _ Q I1 rr q1
def aZ(K:PySem.W.Frag)(n:Nat)(t:VV):TG:=fun v σ H Q=>∃a xs,v=.ref a∧Fs K H a xs∧xs.length=n∧t xs σ H Q
theorem Oi{es:List Expr}{k:Nat}{t:VV}{n:Nat}(hc:X.calm=true)(h:aC X es t)
  (hn:(assignEach es X.env).length=n:=by rfl) (hst:(assignEach es X.env).findIdx? (·.1)=none:=by rfl):PG X (.Tuple es k pos) (aZ X.K n t):=by
 intro pins s σ H v u Q I r hw
 obtain⟨a,xs,e1,hq,hl,hw⟩:=hw
 subst e1
 cases r
 obtain⟨its,rv,ht,hz⟩:=I.tuple hq
 refine assign_Tuple_tuple (I.ok.hd hc) ht (by simp[hn,←hl,rv.length]) hst fun h' hx=>?_
 have I1:Inv X pins σ H {s with heap:=h'}:=I.kept (t':=s.toks) fun b o e=>hx b o (Nat.ne_of_lt (Heap.lt_size e)) e
 exact h pins _ σ H xs _ Q I1 (by simpa using rv) hw
def aa(to ti:TE)(t:VW):TG:=fun v σ H Q=>to σ H fun o H1=>ti σ H1 fun i H2=>t o i v H2 fun H3=>Q σ H3
theorem Kg{o i:Expr}{to ti:TE}{t:VW}(ho:PE X o to)(hi:PE X i ti)(hs:YF X t)
  (ha:∀v,assign (.Subscript o i pos) X.env v=(do
   let ov←holding [v] (eval o X.env)
   let iv←holding [v,ov] (eval i X.env)
   standAt pos
   holding [v,ov,iv] (setItem ov iv v)
   release [v,ov,iv] []):=by intro _;rfl):PG X (.Subscript o i pos) (aa to ti t):=by
 intro pins s σ H v u Q I r h
 rw[ha]
 refine wpAny_bind (wpAny_holding (Ae (ho pins s σ H _ I h) fun ov s1 ⟨x,H1,I1,r1,q1⟩=>?_))
 refine wpAny_bind (wpAny_holding (Ae (hi pins s1 σ H1 _ I1 q1) fun iv s2 ⟨y,H2,I2,r2,q2⟩=>?_))
 refine wpAny_bind (wpAny_standAt (wpAny_bind (wpAny_holding (Ae (hs pins s2 σ H2 x y v ov iv u _ I2 r1 r2 r q2) fun _ s3 ⟨H3,I3,q3⟩=>?_))))
 exact wpAny_release ⟨σ,H3,I3,q3⟩
def YH(te:TE)(g:TG):TS:=fun D σ H=>te σ H fun x H1=>g x σ H1 D.nx
theorem Oj{tg e:Expr}{te:TE}{g:TG}(he:PE X e te)(hg:PG X tg g)(hs:swapsWithSole [tg] e pos.line X.env=pure false:=by rfl)(hw:swappedStores [tg] e X.env=pure none:=by rfl)
  (h1:(assignEach [tg] X.env).map (·.2)=[assign tg X.env]:=by rfl):PS X (.Assign [tg] e pos) (YH te g):=by
 intro pins s σ H D I h
 refine wpAny_Assign_stores (Ae (he pins s σ H _ I h) fun v s1 ⟨x,H1,I1,r1,q1⟩=>?_) hs hw
 rw[h1]
 exact Ae (hg pins s1 σ H1 x v _ I1 r1 q1) fun _ s2 q=>q
theorem Kh{i:Nat}{x:Str}{e:Expr}{te:TE}{pos':Pos}(hN:X.N.Nodup)(hi:X.N[i]?=some x)(hx:SB X.env.scope x)(he:PE X e te)(hs:swapsWith e (some (.Name x pos')) pos.line X.env=pure false:=by rfl)(hf:X.fn x=true∨X.env.scope.names.lookup x=some .local:=by first|exact .inl rfl|exact .inr rfl|assumption):
  PS X (.Assign [.Name x pos'] e pos) (YH te (Ub i)):=by
 intro pins s σ H D I h
 refine wpAny_Assign_Name (Ae (he pins s σ H _ I h) fun v s1 ⟨y,H1,I1,r1,q1⟩=>?_) hs
 exact DJ I1 hN hi hx r1 (fun s2 I2=> ⟨_,H1,I2,q1⟩) hf
def ae(i j:Nat)(ta:TA):TS:=fun D σ H=>ta σ H fun vs H1=>∃v w,vs=[v,w]∧D.nx ((σ.set i (some v)).set j (some w)) H1
theorem VX{i j:Nat}{x y:Str}{a b:Expr}{ta:TA}{px py pt:Pos}{kt k2 pt2}(hc:X.calm=true)(hN:X.N.Nodup)(hi:X.N[i]?=some x)(hj:X.N[j]?=some y)(hij:i≠j)
  (hx:X.env.scope.names.lookup x=some .local) (hy:X.env.scope.names.lookup y=some .local) (ha:PA X [a,b] ta)
  (hw:swappedStores [.Tuple [.Name x px,.Name y py] kt pt] (.Tuple [a,b] k2 pt2) X.env=pure (some [x,y]))
  (hs:swapsWithSole [.Tuple [.Name x px,.Name y py] kt pt] (.Tuple [a,b] k2 pt2) pos.line X.env=pure false:=by rfl):
  PS X (.Assign [.Tuple [.Name x px,.Name y py] kt pt] (.Tuple [a,b] k2 pt2) pos) (ae i j ta):=by
 intro pins s σ H D I h
 rw[exec_Assign_arm]
 refine wpAny_bind (wpAny_standAt ?_)
 rw[hs]
 refine wpAny_bind (wpAny_pure ?_)
 rw[if_neg (by decide)]
 refine wpAny_bind (Tuple_ (Ae (ha _ pins s σ H _ I h) fun us s1 ⟨vs,H1,I1,r1,q1⟩=>?_))
 obtain⟨v,w,e1,q1⟩:=q1
 subst e1
 obtain⟨u1,u2,rfl,rv,rw'⟩:∃u1 u2,us=[u1,u2]∧RelV v u1∧RelV w u2:=by
  cases r1 with
  |cons p q=>
   cases q with
   |cons p' q'=>
    cases q'
    exact⟨_,_,rfl,p,p'⟩
 refine wpAny_newObj_type ?_ (by show 2≤sizeLine;decide)
 have I2:Inv X pins σ H1 {s1 with heap:=s1.heap.push {cls:=.type "tuple",data:=.seq [u1,u2].toArray}}:=I1.kept (t':=s1.toks) fun b o e=>Heap.get?_push_of_some _ e
 rw[hw]
 refine wpAny_bind (wpAny_pure ?_)
 show wpAny (model X.prog X.w) X.A (do rule "assign.swapped-stores";let items←unpackItems (.ref s1.heap.objs.size) 2 none;assignInOrder [fun v=>bindName X.env y v,fun v=>bindName X.env x v] items.reverse;pure Flow.next) _ _ _
 refine wpAny_bind (wpAny_rule (wpAny_bind (unpackItems_tuple (items:=#[u1,u2]) (I.ok.hd hc) (IsTup.new s1.heap _) fun h' hx'=>?_)))
 have I3:=I2.kept (h':=h') (t':=s1.toks) fun b o e=>hx' b o (Nat.ne_of_lt (Heap.lt_size e)) e
 show wpAny _ _ (assignInOrder [fun v=>bindName X.env y v,fun v=>bindName X.env x v] [u2,u1]>>=fun _=>pure Flow.next) _ _ _
 refine wpAny_bind (assignInOrder_cons (wpAny_bindName (DJ I3 hN hj (.inl hy) rw' (fun s2 I4=>?_) (.inr hy))))
 refine assignInOrder_cons (wpAny_bindName (DJ I4 hN hi (.inl hx) rv (fun s3 I5=>assignInOrder_nil (wpAny_pure ?_)) (.inr hx)))
 rw[List.set_comm _ _ (Ne.symm hij)] at I5
 exact⟨_,H1,I5,q1⟩
end
section
variable{X:Cx}{pos:Pos}
end
structure It where
 go:Nat→Hp→Prop
 yld:Nat→Hp→V→Hp→Prop
 stop:Nat→Hp→Prop
def Ft(X:Cx)(pins:List (Addr×Obj))(H:Hp)(b:Addr):Prop:=
 H b=none∧b≠X.env.locals∧b∉X.fs∧(b∈X.ex∨X.s₀.heap.objs.size≤b)∧(∀x c,X.env.cells.lookup x=some c→c≠b)∧∀p∈X.pn++pins,p.1≠b
theorem Inv.fpOk{X:Cx}{pins:List (Addr×Obj)}{σ:St}{H H':Hp}{s:Shared}{b:Addr}(I:Inv X pins σ H s)(hb:s.heap.objs.size≤b)(hn:H' b=none):Ft X pins H' b:=by
 refine⟨hn,Nat.ne_of_gt (Nat.lt_of_lt_of_le I.lt hb),I.nofs hb,.inr (Nat.le_trans I.sz hb),fun x c e z=>?_,fun p hp z=>?_⟩
 ·obtain⟨v,q⟩:=I.cell x c e
  exact absurd (Nat.lt_of_lt_of_le q.lt (by rw[z];exact hb)) (Nat.lt_irrefl _)
 ·exact absurd (Nat.lt_of_lt_of_le (Heap.lt_size (I.pin p hp).1) (by rw[z];exact hb)) (Nat.lt_irrefl _)
structure Turn(P:Program)(w:World)(K:PySem.W.Frag)(tg:Expr)(J:It)(fp:List Addr)(it:Addr)(tn:Nat→Heap→Prop):Prop where
 mem:it∈fp
 obj:∀i h,tn i h→∀b∈fp,∃o,h.get? b=some o∧∀v,o.data≠.cell v
 keep:∀i h h',tn i h→(∀b∈fp,∀o,h.get? b=some o→h'.get? b=some o)→tn i h'
 item:∀(X:Cx),X.prog=P→X.w=w→X.K=K→X.calm=true→∀(i:Nat) (pins:List (Addr×Obj)) (s:Shared) (σ:St) (H:Hp) (E:Value→Shared→Prop),Inv X pins σ H s→(∀b∈fp,Ft X pins H b)→tn i s.heap→J.go i H→
  wpAny (model P w) X.A (pyNext (.ref it)) (fun r s1=>∃u,r=some u∧
   wpAny (model P w) X.A (letOwnedTupleGo tg (.ref it) u) (fun _ s2=>∃x H',Inv X pins σ H' s2∧RelV x u∧J.yld i H x H'∧tn (i+1) s2.heap∧∀b∈fp,H' b=none) E s1) E s
 done:∀(X:Cx),X.prog=P→X.w=w→X.K=K→X.calm=true→∀(i:Nat) (pins:List (Addr×Obj)) (s:Shared) (σ:St) (H:Hp) (E:Value→Shared→Prop),Inv X pins σ H s→(∀b∈fp,Ft X pins H b)→tn i s.heap→J.stop i H→
  wpAny (model P w) X.A (pyNext (.ref it)) (fun r s1=>r=none∧Inv X pins σ H s1) E s
 self:∀(A:Around) (i:Nat) (s:Shared) (Q:Value→Shared→Prop) (E:Value→Shared→Prop),tn i s.heap→Q (.ref it) s→wpAny (model P w) A (pyIter (.ref it)) Q E s
abbrev TI:=St→Hp→(It→Hp→Prop)→Prop
def bu(X:Cx)(pins:List (Addr×Obj))(σ:St)(tg:Expr)(R:It→Hp→Prop)(itv:Value)(s2:Shared):Prop:=
 ∃(it:Addr) (fp:List Addr) (tn:Nat→Heap→Prop) (J:It) (H':Hp),itv=.ref it∧Inv X pins σ H' s2∧Turn X.prog X.w X.K tg J fp it tn∧tn 0 s2.heap∧(∀b∈fp,Ft X pins H' b)∧R J H'
def PI(X:Cx)(tg iter:Expr)(wi:TI):Prop:=
 ∀(pins:List (Addr×Obj)) (s:Shared) (σ:St) (H:Hp) (R:It→Hp→Prop),Inv X pins σ H s→wi σ H R→
  wpAny (model X.prog X.w) X.A (eval iter X.env) (fun v s1=>wpAny (model X.prog X.w) X.A (pyIter v) (bu X pins σ tg R) X.xe s1) X.xe s
theorem MN{M:Model}{A:Around}{E:Value→Shared→Prop}{s:Shared}{tg:Expr}{it:Addr}{u:Value}{o:Obj}{n:String}{vs:Array Value}{Q:Unit→Shared→Prop}(ho:s.heap.get? it=some o)(hc:o.cls=.type n)(hd:o.data=.fields vs)
    (hn:["enumerate","zip","dict_itemiterator","dict_reverseitemiterator","odict_iterator","itertools.zip_longest","itertools.pairwise"].contains n=false) (hQ:Q () s):wpAny M A (letOwnedTupleGo tg (.ref it) u) Q E s:=by
  unfold letOwnedTupleGo
  cases tg<;>first
    |exact wpAny_pure hQ
    | (cases u<;>first
        |exact wpAny_pure hQ
        | (refine wpAny_bind (wpAny_load ho ?_)
           rw[hc,hd]
           show wpAny M A (if(["enumerate","zip","dict_itemiterator","dict_reverseitemiterator","odict_iterator","itertools.zip_longest","itertools.pairwise"].contains n&&vs[0]?==some (rawInt _))=true then _ else _) Q E s
           rw[if_neg (by intro h;rw[hn,Bool.false_and] at h;cases h)]
           exact wpAny_pure hQ))
def af(K:PySem.W.Frag)(a:Addr):It:=
 ⟨fun i H=>∃xs x,SqL K H a xs∧xs[i]?=some x,fun i H x H'=>H'=H∧∀xs,SqL K H a xs→xs[i]?=some x,fun i H=>∃xs,SqL K H a xs∧xs.length≤i⟩
def ah(K:PySem.W.Frag)(a:Addr):It:=
 ⟨fun i H=>∃xs x,Fs K H a xs∧xs[i]?=some x,fun i H x H'=>H'=H∧∀xs,Fs K H a xs→xs[i]?=some x,fun i H=>∃xs,Fs K H a xs∧xs.length≤i⟩
def YI(lo:Int)(n:Nat):It:=⟨fun i _=>i<n,fun i H x H'=>H'=H∧x=.int (lo+i),fun i _=>n≤i⟩
theorem Nc{P:Program}{w:World}{K:PySem.W.Frag}{tg:Expr}(a it:Addr):Turn P w K tg (af K a) [it] it (fun i h=>h.IsListIter it a i) where
 mem:=by simp
 obj:=fun i h st b hb=>by
  have e:b=it:=by simpa using hb
  subst e
  obtain⟨o,e,c,d⟩:=st
  exact⟨o,e,fun v z=>by rw[d] at z;cases z⟩
 keep:=fun i h h' st k=>st.at fun o e=>k it (by simp) o e
 item:=by
  intro X hP hw hK hc i pins s σ H E I hf st hg
  subst hP hw hK
  obtain⟨xs,x,hq,hx⟩:=hg
  obtain⟨its,rv,p,hz⟩:=I.list hq
  obtain⟨u,hu,ru⟩:=rv.get hx
  obtain⟨f0,f1,f2,f3,f4,f5⟩:=hf it (by simp)
  refine wpAny_pyNext_list_item st p.isList (x:=u) (by simpa using hu) fun h' st' sb=>?_
  have I1:Inv X pins σ H {s with heap:=h'}:=I.turned (t':=s.toks) (fun b o hb e=> (sb.2 b hb).trans e) f0 f1 f3 f4 f5
  obtain⟨o,e,c,d⟩:=id st'
  exact⟨u,rfl,MN (s:={s with heap:=h'}) e c d (by decide) ⟨x,H,I1,ru,⟨rfl,fun ys hy=>by rw[I.list_inj hy hq];exact hx⟩,st',fun b hb=> (hf b hb).1⟩⟩
 done:=by
  intro X hP hw hK hc i pins s σ H E I hf st hg
  subst hP hw hK
  obtain⟨xs,hq,hx⟩:=hg
  obtain⟨its,rv,p,hz⟩:=I.list hq
  obtain⟨f0,f1,f2,f3,f4,f5⟩:=hf it (by simp)
  have hl:=rv.length
  exact wpAny_pyNext_list_end (I.ok.hd hc) st p.isList (by simp;omega) fun h' eb=> ⟨rfl,I.turned (t':=s.toks) (fun b o hb e=>eb b o hb e) f0 f1 f3 f4 f5⟩
 self:=fun _ _ _ _ _ st h=>wpAny_pyIter_listiter st h
theorem Ki{P:Program}{w:World}{K:PySem.W.Frag}{tg:Expr}(a it:Addr):Turn P w K tg (ah K a) [it] it (fun i h=>h.IsTupleIter it a i) where
 mem:=by simp
 obj:=fun i h st b hb=>by
  have e:b=it:=by simpa using hb
  subst e
  obtain⟨o,e,c,d⟩:=st
  exact⟨o,e,fun v z=>by rw[d] at z;cases z⟩
 keep:=fun i h h' st k=>st.at fun o e=>k it (by simp) o e
 item:=by
  intro X hP hw hK hc i pins s σ H E I hf st hg
  subst hP hw hK
  obtain⟨xs,x,hq,hx⟩:=hg
  obtain⟨its,rv,p,hz⟩:=I.tuple hq
  obtain⟨u,hu,ru⟩:=rv.get hx
  obtain⟨f0,f1,f2,f3,f4,f5⟩:=hf it (by simp)
  refine wpAny_pyNext_tuple_item st (show s.heap.IsTuple a its.toArray from p) (x:=u) (by simpa using hu) fun h' st' sb=>?_
  have I1:Inv X pins σ H {s with heap:=h'}:=I.turned (t':=s.toks) (fun b o hb e=> (sb.2 b hb).trans e) f0 f1 f3 f4 f5
  obtain⟨o,e,c,d⟩:=id st'
  exact⟨u,rfl,MN (s:={s with heap:=h'}) e c d (by decide) ⟨x,H,I1,ru,⟨rfl,fun ys hy=>by rw[I.tuple_inj hy hq];exact hx⟩,st',fun b hb=> (hf b hb).1⟩⟩
 done:=by
  intro X hP hw hK hc i pins s σ H E I hf st hg
  subst hP hw hK
  obtain⟨xs,hq,hx⟩:=hg
  obtain⟨its,rv,p,hz⟩:=I.tuple hq
  obtain⟨f0,f1,f2,f3,f4,f5⟩:=hf it (by simp)
  have hl:=rv.length
  exact wpAny_pyNext_tuple_end (I.ok.hd hc) st (show s.heap.IsTuple a its.toArray from p) (by simp;omega) fun h' eb=> ⟨rfl,I.turned (t':=s.toks) (fun b o hb e=>eb b o hb e) f0 f1 f3 f4 f5⟩
 self:=fun _ _ _ _ _ st h=>wpAny_pyIter_tupleiter st h
theorem Kj{P:Program}{w:World}{K:PySem.W.Frag}{tg:Expr}(it:Addr)(lo:Int)(n:Nat):Turn P w K tg (YI lo n) [it] it (fun i h=>IsRangeIter h it (lo+(i:Nat)*1) ((n:Int)- (i:Nat)) 1) where
 mem:=by simp
 obj:=fun i h st b hb=>by
  have e:b=it:=by simpa using hb
  subst e
  exact⟨_,st,fun v z=>by
   have z':Data.fields _=Data.cell v:=z
   cases z'⟩
 keep:=fun i h h' st k=>k it (by simp) _ st
 item:=by
  intro X hP hw hK hc i pins s σ H E I hf st hg
  subst hP hw hK
  obtain⟨f0,f1,f2,f3,f4,f5⟩:=hf it (by simp)
  have W:=Walks.range (prog:=X.prog) (w:=X.w) (I.ok.hd hc) it lo 1 n
  refine W.item i s _ _ hg st fun v h' tk hv st' kk=>?_
  obtain⟨t,rfl⟩:=hv
  have I1:Inv X pins σ H {s with heap:=h',toks:=tk}:=I.turned (fun b o hb e=>kk b o (by simpa using hb) e) f0 f1 f3 f4 f5
  refine⟨_,rfl,MN (s:={s with heap:=h',toks:=tk}) (n:="range_iterator") st' rfl rfl (by decide) ⟨.int (lo+i),H,I1,⟨t,?_⟩,⟨rfl,rfl⟩,st',fun b hb=> (hf b hb).1⟩⟩
  rw[Int.mul_one]
 done:=by
  intro X hP hw hK hc i pins s σ H E I hf st hg
  subst hP hw hK
  obtain⟨f0,f1,f2,f3,f4,f5⟩:=hf it (by simp)
  exact wpAny_pyNext_range_end (I.ok.hd hc) st (by have:n≤i:=hg;omega) fun h' eb=> ⟨rfl,I.turned (t':=s.toks) (fun b o hb e=>eb b o hb e) f0 f1 f3 f4 f5⟩
 self:=fun _ _ _ _ _ st h=>wpAny_pyIter_rangeiter st h
section
variable{X:Cx}{tg:Expr}
def YJ(K:PySem.W.Frag)(tl:TE):TI:=fun σ H R=>tl σ H fun x H1=>∃a,x=.ref a∧(∃xs,SqL K H1 a xs)∧R (af K a) H1
def ai(K:PySem.W.Frag)(tl:TE):TI:=fun σ H R=>tl σ H fun x H1=>∃a,x=.ref a∧(∃xs,Fs K H1 a xs)∧R (ah K a) H1
theorem SJ{l:Expr}{tl:TE}(hl:PE X l tl):PI X tg l (YJ X.K tl):=by
 intro pins s σ H R I h
 refine Ae (hl pins s σ H _ I h) fun v s1 ⟨x,H1,I1,r1,q1⟩=>?_
 obtain⟨a,e,⟨xs,hq⟩,q⟩:=q1
 subst e
 cases r1
 obtain⟨its,rv,p,hz⟩:=I1.list hq
 refine wpAny_pyIter_list p.isList ?_
 refine⟨s1.heap.objs.size,[s1.heap.objs.size],_,_,H1,rfl,I1.kept (t':=s1.toks) fun b o e=>Heap.get?_push_of_some _ e,Nc a _,⟨_,Heap.get?_push_size _ rfl,rfl,rfl⟩,fun b hb=>?_,q⟩
 have e:b=s1.heap.objs.size:=by simpa using hb
 subst e
 exact I1.fpOk (Nat.le_refl _) (I1.hok.fresh (Nat.le_refl _))
theorem VY{l:Expr}{tl:TE}(hl:PE X l tl):PI X tg l (ai X.K tl):=by
 intro pins s σ H R I h
 refine Ae (hl pins s σ H _ I h) fun v s1 ⟨x,H1,I1,r1,q1⟩=>?_
 obtain⟨a,e,⟨xs,hq⟩,q⟩:=q1
 subst e
 cases r1
 obtain⟨its,rv,p,hz⟩:=I1.tuple hq
 refine wpAny_pyIter_tuple (show s1.heap.IsTuple a its.toArray from p) ?_
 refine⟨s1.heap.objs.size,[s1.heap.objs.size],_,_,H1,rfl,I1.kept (t':=s1.toks) fun b o e=>Heap.get?_push_of_some _ e,Ki a _,⟨_,Heap.get?_push_size _ rfl,rfl,rfl⟩,fun b hb=>?_,q⟩
 have e:b=s1.heap.objs.size:=by simpa using hb
 subst e
 exact I1.fpOk (Nat.le_refl _) (I1.hok.fresh (Nat.le_refl _))
theorem JQ{pins:List (Addr×Obj)}{σ:St}{H:Hp}{s:Shared}{R:It→Hp→Prop}{E:Value→Shared→Prop}{lo hi:Int}{t u v:Tok}{tk:Nat}(I:Inv X pins σ H s)(h1: -(2^62)≤lo)(h2:lo<2^62)(h3: -(2^62)≤hi)(h4:hi<2^62)
  (q:R (YI lo (hi-lo).toNat) H):wpAny (model X.prog X.w) X.A (pyIter (.ref s.heap.objs.size)) (bu X pins σ tg R) E {s with heap:=s.heap.push {cls:=.type "range",data:=.fields #[.int lo t,.int hi u,.int 1 v]},toks:=tk}:=by
 refine wpAny_pyIter_range (IsRange.new ..) (small_one h1 h2 h3 h4) ?_
 have I1:Inv X pins σ H {s with heap:=s.heap.push {cls:=.type "range",data:=.fields #[.int lo t,.int hi u,.int 1 v]},toks:=tk}:=I.kept fun b o e=>Heap.get?_push_of_some _ e
 refine⟨(s.heap.push {cls:=.type "range",data:=.fields #[.int lo t,.int hi u,.int 1 v]}).objs.size,[(s.heap.push {cls:=.type "range",data:=.fields #[.int lo t,.int hi u,.int 1 v]}).objs.size],_,_,H,rfl,
  I1.kept (t':=tk) fun b o e=>Heap.get?_push_of_some _ e,Kj _ lo (hi-lo).toNat,?_,fun b hb=>?_,q⟩
 ·have e1:lo+((0:Nat):Int)*1=lo:=by simp
  have e2:(((hi-lo).toNat:Nat):Int)- ((0:Nat):Int)=Builtin.Range.rangeSize lo hi 1:=by rw[rangeSize_one];split<;>omega
  show IsRangeIter _ _ (lo+((0:Nat):Int)*1) ((((hi-lo).toNat:Nat):Int)- ((0:Nat):Int)) 1
  rw[e1,e2]
  exact Heap.get?_push_size _ rfl
 ·have e:b=(s.heap.push {cls:=.type "range",data:=.fields #[.int lo t,.int hi u,.int 1 v]}).objs.size:=by simpa using hb
  subst e
  exact I1.fpOk (Nat.le_refl _) (I1.hok.fresh (Nat.le_refl _))
def YK(ta:TA):TI:=fun σ H R=>ta σ H fun vs H1=>∃j:Int,vs=[.int j]∧-(2^62)≤j∧j<2^62∧R (YI 0 j.toNat) H1
def YL(ta:TA):TI:=fun σ H R=>ta σ H fun vs H1=>∃i j:Int,vs=[.int i,.int j]∧(-(2^62)≤i∧i<2^62∧-(2^62)≤j∧j<2^62)∧R (YI i (j-i).toNat) H1
theorem Nd{a:Expr}{ta:TA}{p pos:Pos}(hg:Gl X "range")(hm:X.mg "range" =none)(ha:PA X [a] ta)(hs:starEach [a] X.env=[(false,eval a X.env)]:=by rfl):PI X tg (.Call (.Name "range" p) [a] [] pos) (YK ta):=by
 intro pins s σ H R I h
 refine Call_ (Ej I hg hm boot_range (PyProof.Rows.callWith_type1 (Ae (ha pos pins s σ H _ I h) fun us s1 ⟨vs,H1,I1,r1,q1⟩=>?_) hs rfl))
 obtain⟨j,e,q1,q2,q⟩:=q1
 subst e
 cases r1 with
 |cons r rr=>
  cases rr
  obtain⟨t,rfl⟩:=r
  exact call_range_1 (JQ I1 (by omega) (by omega) q1 q2 (by simpa using q))
theorem Nf{a b:Expr}{ta:TA}{p pos:Pos}(hg:Gl X "range")(hm:X.mg "range" =none)(ha:PA X [a,b] ta)(hs:starEach [a,b] X.env=[(false,eval a X.env),(false,eval b X.env)]:=by rfl)(hs2:starEach [b] X.env=[(false,eval b X.env)]:=by rfl):
  PI X tg (.Call (.Name "range" p) [a,b] [] pos) (YL ta):=by
 intro pins s σ H R I h
 refine Call_ (Ej I hg hm boot_range (PyProof.Rows.callWith_type1 (Ae (ha pos pins s σ H _ I h) fun us s1 ⟨vs,H1,I1,r1,q1⟩=>?_) (by rw[hs,hs2]) (by rw[hs2];rfl)))
 obtain⟨i,j,e,⟨q1,q2,q3,q4⟩,q⟩:=q1
 subst e
 cases r1 with
 |cons r rr=>
  cases rr with
  |cons r' rr=>
   cases rr
   obtain⟨t,rfl⟩:=r
   obtain⟨t',rfl⟩:=r'
   exact call_range_2 (JQ I1 q1 q2 q3 q4 q)
def ak(wi:TI)(g:TG)(tb:TS):TS:=fun D σ H=>wi σ H fun J H1=>∃W:Nat→Nat→St→Hp→Prop,(∃m,W 0 m σ H1)∧∀i m σ H,W i m σ H→
 (J.stop i H∧D.nx σ H)∨(J.go i H∧∃N:St→Hp→Prop,(∀σ' H',N σ' H'→∃m',m'<m∧W (i+1) m' σ' H')∧∀x H',J.yld i H x H'→g x σ H' fun σ2 H2=>tb {D with nx:=N,ct:=N,bk:=D.nx} σ2 H2)
def Fu(fp:List Addr)(h:Heap):List (Addr×Obj):=fp.filterMap fun b=> (h.get? b).map fun o=> (b,o)
theorem Cd{fp:List Addr}{h:Heap}{b:Addr}{o:Obj}(hb:b∈fp)(e:h.get? b=some o):(b,o)∈Fu fp h:=List.mem_filterMap.mpr ⟨b,hb,by rw[e];rfl⟩
theorem Ng{fp:List Addr}{h:Heap}{p:Addr×Obj}(hp:p∈Fu fp h):p.1∈fp∧h.get? p.1=some p.2:=by
 obtain⟨b,hb,e⟩:=List.mem_filterMap.mp hp
 cases q:h.get? b with
 |none=>rw[q] at e;cases e
 |some o=>
  rw[q] at e
  have e':(b,o)=p:=Option.some.inj e
  subst e'
  exact⟨hb,q⟩
theorem Inv.pinned{pins:List (Addr×Obj)}{σ:St}{H:Hp}{s:Shared}{fp:List Addr}(I:Inv X pins σ H s)(hf:∀b∈fp,Ft X pins H b)(ho:∀b∈fp,∃o,s.heap.get? b=some o∧∀v,o.data≠.cell v):Inv X (pins++Fu fp s.heap) σ H s:=
 I.pins_of fun p hp=> (List.mem_append.mp hp).elim (fun z=>I.pin p (List.mem_append_right _ z)) fun z=>by
  obtain⟨hb,e⟩:=Ng z
  obtain⟨f0,f1,f2,_⟩:=hf p.1 hb
  obtain⟨o,e',d⟩:=ho p.1 hb
  rw[e] at e';cases e'
  exact⟨e,f0,f1,f2,d⟩
theorem Inv.unpinned{pins pl:List (Addr×Obj)}{σ:St}{H:Hp}{s:Shared}(I:Inv X (pins++pl) σ H s):Inv X pins σ H s:=I.pins_of fun p hp=>I.pin p (List.mem_append_right _ (List.mem_append_left _ hp))
theorem VZ{iter:Expr}{body:List Stmt}{wi:TI}{g:TG}{tb:TS}{pos:Pos}(hp:PassesOwn (model X.prog X.w) X.A X.env X.xe)(hc:X.calm=true)(hi:PI X tg iter wi)(hg:PG X tg g)(hb:PSs X body tb)
  (hs:∀x,foldedSetIterable iter X.env x=pure x:=by intro _;rfl):PS X (.For tg iter body [] pos) (ak wi g tb):=by
 intro pins s σ H D I h
 refine wpAny_For (Ae (hi pins s σ H _ I h) fun v s1 h1=>Ae h1 fun itv s2 h2=>?_) hs
 obtain⟨it,fp,tn,J,H2,e,I2,T,st2,f2,W,⟨m0,w0⟩,turn⟩:=h2
 subst e
 have stat:∀{H':Hp},(∀b∈fp,H' b=none)→∀b∈fp,Ft X pins H' b:=fun hn b hb=> ⟨hn b hb,(f2 b hb).2⟩
 refine codeAny_forLoop_any (fun n s'=>∃i σ' H',Inv X pins σ' H' s'∧tn i s'.heap∧(∀b∈fp,H' b=none)∧W i n σ' H') ?_ m0 ⟨0,σ,H2,I2,st2,fun b hb=> (f2 b hb).1,w0⟩
 rintro n s3 ⟨i,σ3,H3,I3,st3,fr3,w3⟩
 rcases turn i n σ3 H3 w3 with⟨stop,qn⟩| ⟨go,N,hN,step⟩
 ·refine wpAny_passesOwn hp (Ae (T.done X rfl rfl rfl hc i pins s3 σ3 H3 X.xe I3 (stat fr3) st3 stop) fun r s4 ⟨hr,I4⟩=>?_)
  subst hr
  exact wpAny_execs_nil ⟨σ3,H3,I4,qn⟩
 ·refine wpAny_passesOwn hp (Ae (T.item X rfl rfl rfl hc i pins s3 σ3 H3 X.xe I3 (stat fr3) st3 go) fun r s4 ⟨u,hr,h4⟩=>?_)
  subst hr
  refine wpAny_passesOwn hp (Ae h4 fun _ s5 ⟨x,H5,I5,r5,y5,st5,fr5⟩=>?_)
  have I5':=I5.pinned (stat fr5) (T.obj _ _ st5)
  refine wpAny_passesOwn hp (Ae (hg _ s5 σ3 H5 x u _ I5' r5 (step x H5 y5)) fun _ s6 ⟨σ6,H6,I6,q6⟩=>?_)
  refine wpAny_passesOwn hp (Ae (hb _ s6 σ6 H6 _ I6 q6) fun f s7 q7=>?_)
  have again:∀{σ7:St} {H7:Hp},Inv X (pins++Fu fp s5.heap) σ7 H7 s7→N σ7 H7→∃m,m<n∧∃i σ' H',Inv X pins σ' H' s7∧tn i s7.heap∧(∀b∈fp,H' b=none)∧W i m σ' H':=fun{σ7 H7} I7 n7=>by
   obtain⟨m',hm,w7⟩:=hN σ7 H7 n7
   refine⟨m',hm,i+1,σ7,H7,I7.unpinned,T.keep _ _ _ st5 fun b hb o e=> (I7.pin (b,o) (List.mem_append_right _ (List.mem_append_right _ (Cd hb e)))).1,fun b hb=>?_,w7⟩
   obtain⟨o,e,d⟩:=T.obj _ _ st5 b hb
   exact(I7.pin (b,o) (List.mem_append_right _ (List.mem_append_right _ (Cd hb e)))).2.1
  cases f with
  |next=>obtain⟨σ7,H7,I7,n7⟩:=q7;exact again I7 n7
  |cont=>obtain⟨σ7,H7,I7,n7⟩:=q7;exact again I7 n7
  |brk=>obtain⟨σ7,H7,I7,q7⟩:=q7;exact⟨σ7,H7,I7.unpinned,q7⟩
  |ret v=>obtain⟨x7,σ7,H7,I7,r7,q7⟩:=q7;exact⟨x7,σ7,H7,I7.unpinned,r7,q7⟩
end
abbrev R2:=V→V→Hp→VK→Prop
def Bv(X:Cx)(f:Value→Value→Sem Value)(r:R2):Prop:=
 ∀(pins:List (Addr×Obj)) (s:Shared) (σ:St) (H:Hp) (x y:V) (v u:Value) (Q:VK),Inv X pins σ H s→RelV x v→RelV y u→r x y H Q→
  wpAny (model X.prog X.w) X.A (f v u) (EP X pins σ Q) X.xe s
def aD(X:Cx)(f:Value→Sem Value)(r:V→Hp→VK→Prop):Prop:=
 ∀(pins:List (Addr×Obj)) (s:Shared) (σ:St) (H:Hp) (x:V) (v:Value) (Q:VK),Inv X pins σ H s→RelV x v→r x H Q→
  wpAny (model X.prog X.w) X.A (f v) (EP X pins σ Q) X.xe s
def Aw(X:Cx)(f:Value)(r:List V→Hp→VK→Prop):Prop:=
 ∀(pins:List (Addr×Obj)) (s:Shared) (σ:St) (H:Hp) (xs:List V) (us:List Value) (Q:VK),Inv X pins σ H s→Vals xs us→r xs H Q→
  wpAny (model X.prog X.w) X.A (call f us) (EP X pins σ Q) X.xe s
def ao(X:Cx)(r:V→Hp→(Bool→Hp→Prop)→Prop):Prop:=
 ∀(pins:List (Addr×Obj)) (s:Shared) (σ:St) (H:Hp) (x:V) (v:Value) (Q:Bool→Hp→Prop),Inv X pins σ H s→RelV x v→r x H Q→
  wpAny (model X.prog X.w) X.A (truthy v) (TP X pins σ Q) X.xe s
def YM(r:R2)(ta tb:TE):TE:=fun σ H Q=>ta σ H fun x H1=>tb σ H1 fun y H2=>r x y H2 Q
def cM(r:V→Hp→VK→Prop)(ta:TE):TE:=fun σ H Q=>ta σ H fun x H1=>r x H1 Q
def rI(C:Int→Int→Prop)(g:Int→Int→V):R2:=fun x y H Q=>∃i j,x=.int i∧y=.int j∧C i j∧Q (g i j) H
def SD(g:Int→Int→V):R2:=fun x y H Q=>∃i j,x=.int i∧y=.int j∧Q (g i j) H
def rU(g:Int→V):V→Hp→VK→Prop:=fun x H Q=>∃i,x=.int i∧Q (g i) H
section
variable{X:Cx}{a b c:Expr}{ta tb tc:TE}{pos:Pos}
theorem Va(ha:PE X a ta)(hb:PE X b tb){pins:List (Addr×Obj)}{s:Shared}{σ:St}{H:Hp}{R:V→V→Hp→Prop}(I:Inv X pins σ H s)
  (h:ta σ H fun x H1=>tb σ H1 fun y H2=>R x y H2) {Q:Value→Shared→Prop} {f:Value→Value→Sem Value}
  (hf:∀v u s2 x y H2,Inv X pins σ H2 s2→RelV x v→RelV y u→R x y H2→wpAny (model X.prog X.w) X.A (f v u) Q X.xe s2):
  wpAny (model X.prog X.w) X.A (eval a X.env) (fun v s₁=>wpAny (model X.prog X.w) X.A (eval b X.env) (fun u s₂=>wpAny (model X.prog X.w) X.A (f v u) Q X.xe s₂) X.xe s₁) X.xe s:=by
 refine Ae (ha pins s σ H _ I h) fun v s1 ⟨x,H1,I1,r1,q1⟩=>?_
 refine Ae (hb pins s1 σ H1 _ I1 q1) fun u s2 ⟨y,H2,I2,r2,q2⟩=>?_
 exact hf v u s2 x y H2 I2 r1 r2 q2
theorem Uc{op:Operator}{r:R2}(ho:Bv X (binaryOp op) r)(ha:PE X a ta)(hb:PE X b tb):PE X (.BinOp a op b pos) (YM r ta tb):=by
 intro pins s σ H Q I h
 exact wpAny_BinOp (Va ha hb I h fun v u s2 x y H2 I2 rx ry q=>ho pins s2 σ H2 x y v u Q I2 rx ry q)
theorem YN{op:UnaryOp}{r:V→Hp→VK→Prop}(ho:aD X (unaryOp op) r)(ha:PE X a ta):PE X (.UnaryOp op a pos) (cM r ta):=by
 intro pins s σ H Q I h
 exact UnaryOp_ (Ae (ha pins s σ H _ I h) fun v s1 ⟨x,H1,I1,r1,q1⟩=>ho pins s1 σ H1 x v Q I1 r1 q1)
theorem aF{f:Value→Value→Sem Value}{C:Int→Int→Prop}{g:Int→Int→Int}
  (rule:∀(i j:Int) (t u:Tok) (s:Shared) (Q:Value→Shared→Prop) (E:Value→Shared→Prop),C i j→Q (.int (g i j) s.toks) {s with toks:=s.toks+1}→wpAny (model X.prog X.w) X.A (f (.int i t) (.int j u)) Q E s):
  Bv X f (rI C fun i j=> .int (g i j)):=by
 intro pins s σ H x y v u Q I rx ry h
 obtain⟨i,j,rfl,rfl,hc,q⟩:=h
 obtain⟨t,rfl⟩:=rx
 obtain⟨t',rfl⟩:=ry
 exact rule i j t t' s _ _ hc ⟨.int (g i j),H,I.tok _,⟨_,rfl⟩,q⟩
theorem YO{f:Value→Value→Sem Value}{g:Int→Int→Int}
  (rule:∀(i j:Int) (t u:Tok) (s:Shared) (Q:Value→Shared→Prop) (E:Value→Shared→Prop),Q (.int (g i j) s.toks) {s with toks:=s.toks+1}→wpAny (model X.prog X.w) X.A (f (.int i t) (.int j u)) Q E s):
  Bv X f (SD fun i j=> .int (g i j)):=by
 intro pins s σ H x y v u Q I rx ry h
 obtain⟨i,j,rfl,rfl,q⟩:=h
 obtain⟨t,rfl⟩:=rx
 obtain⟨t',rfl⟩:=ry
 exact rule i j t t' s _ _ ⟨.int (g i j),H,I.tok _,⟨_,rfl⟩,q⟩
theorem SK{f:Value→Value→Sem Value}{g:Int→Int→Bool}
  (rule:∀(i j:Int) (t u:Tok) (s:Shared) (Q:Value→Shared→Prop) (E:Value→Shared→Prop),Q (.bool (g i j)) s→wpAny (model X.prog X.w) X.A (f (.int i t) (.int j u)) Q E s):
  Bv X f (SD fun i j=> .bl (g i j)):=by
 intro pins s σ H x y v u Q I rx ry h
 obtain⟨i,j,rfl,rfl,q⟩:=h
 obtain⟨t,rfl⟩:=rx
 obtain⟨t',rfl⟩:=ry
 exact rule i j t t' s _ _ ⟨.bl (g i j),H,I,rfl,q⟩
def YQ(i j:Int):Prop:=0<j∧j<1073741824
def YR(i j:Int):Prop:=0≤j∧j≤1000000∧i.natAbs<2^64
def CMul(i j:Int):Prop:=(-(2^64)<i∧i<2^64)∨(-(2^64)<j∧j<2^64)
theorem CMul.ok{i j:Int}(h:CMul i j):IntMulOk i j:=by
 rcases h with⟨h1,h2⟩| ⟨h1,h2⟩
 ·exact .of_left (intBits_le_64 h1 h2)
 ·exact .of_right (intBits_le_64 h1 h2)
theorem El:Bv X (binaryOp .Add) (SD fun i j=> .int (i+j)):=YO fun _ _ _ _ _ _ _ q=>add_int q
theorem Vb:Bv X (binaryOp .Sub) (SD fun i j=> .int (i-j)):=YO fun _ _ _ _ _ _ _ q=>sub_int q
theorem Vc:Bv X (binaryOp .Mult) (rI CMul fun i j=> .int (i*j)):=aF fun _ _ _ _ _ _ _ hc q=>mul_int q hc.ok
theorem SL:Bv X (binaryOp .FloorDiv) (rI YQ fun i j=> .int (i/j)):=aF fun i j _ _ _ _ _ hc q=>by
 have h1:(0:Int)<j:=hc.1
 have h2:j<1073741824:=hc.2
 exact floordiv_int (by omega) (by rw[Int.fdiv_eq_ediv_of_nonneg i (by omega)];exact q) (.inl (PyProof.noPylong_small (by omega)))
theorem Vd:Bv X (binaryOp .Mod) (rI (fun _ j=>0<j) fun i j=> .int (i%j)):=aF fun i j _ _ _ _ _ hc q=>by
 have h1:(0:Int)<j:=hc
 exact mod_int' (by omega) (by rw[Int.fmod_eq_emod_of_nonneg i (by omega)];exact q)
theorem Ve:Bv X (binaryOp .Pow) (rI YR fun i j=> .int (i^j.toNat)):=aF fun _ _ _ _ _ _ _ hc q=>pow_int_small hc.1 hc.2.1 hc.2.2 q
theorem cN{f:Value→Sem Value}{g:Int→Int}
  (rule:∀(i:Int) (t:Tok) (s:Shared) (Q:Value→Shared→Prop) (E:Value→Shared→Prop),Q (.int (g i) s.toks) {s with toks:=s.toks+1}→wpAny (model X.prog X.w) X.A (f (.int i t)) Q E s):
  aD X f (rU fun i=> .int (g i)):=by
 intro pins s σ H x v Q I rx h
 obtain⟨i,rfl,q⟩:=h
 obtain⟨t,rfl⟩:=rx
 exact rule i t s _ _ ⟨.int (g i),H,I.tok _,⟨_,rfl⟩,q⟩
theorem Vf:aD X (unaryOp .USub) (rU fun i=> .int (-i)):=cN fun _ _ _ _ _ q=>neg_int q
end
def YS:V→V→Bool
 | .non,.non=>true| .non,.int _=>true| .int _,.non=>true| .non,.bl _=>true| .bl _,.non=>true| .non,.str _=>true| .str _,.non=>true
 | .int _,.int _=>true| .bl _,.bl _=>true| .str _,.str _=>true| .byt _,.byt _=>true
 | .int _,.str _=>true| .str _,.int _=>true| .bl _,.str _=>true| .str _,.bl _=>true
 |_,_=>false
def aq:R2:=fun x y H Q=>YS x y=true∧Q (.bl (decide (x=y))) H
def au:R2:=fun x y H Q=>YS x y=true∧Q (.bl (!decide (x=y))) H
theorem MO{i j:Int}:decide (V.int i=V.int j)=(i==j):=by
 rw[Bool.eq_iff_iff]
 simp
theorem Ol{i j:Bool}:decide (V.bl i=V.bl j)=(i==j):=by
 rw[Bool.eq_iff_iff]
 simp
theorem IQ{i j:Str}:decide (V.str i=V.str j)=(i==j):=by
 rw[Bool.eq_iff_iff]
 simp
theorem MP{i j:Array UInt8}:decide (V.byt i=V.byt j)=(i.toList==j.toList):=by
 rw[Bool.eq_iff_iff]
 cases i
 cases j
 simp
section
variable{X:Cx}{a b c:Expr}{ta tb tc:TE}{pos:Pos}
theorem AV{pins:List (Addr×Obj)}{σ:St}{H:Hp}{s:Shared}{Q:VK}{k k':Bool}(I:Inv X pins σ H s)(q:Q (.bl k) H)(e:k=k'):EP X pins σ Q (.bool k') s:=by
 subst e
 exact⟨.bl k,H,I,rfl,q⟩
theorem JR:Bv X (compareOp .Eq) aq:=by
 intro pins s σ H x y v u Q I rx ry h
 obtain⟨hs,q⟩:=h
 cases x with
 |non=>
  cases rx
  cases y with
  |non=>cases ry;exact PySem.EqNone.eq_none_none (AV I q (by simp))
  |bl j=>cases ry;exact PySem.EqNone.eq_none_bool (AV I q (by simp))
  |int j=>obtain⟨t',rfl⟩:=ry;exact PySem.EqNone.eq_none_int (AV I q (by simp))
  |str j=>obtain⟨t',rfl⟩:=ry;exact PySem.EqNone.eq_none_str (AV I q (by simp))
  |_=>exact absurd (show false=true from hs) Bool.false_ne_true
 |bl i=>
  cases rx
  cases y with
  |non=>cases ry;exact PySem.EqNone.eq_bool_none (AV I q (by simp))
  |bl j=>cases ry;exact eq_bool (AV I q Ol)
  |str j=>obtain⟨t',rfl⟩:=ry;exact PySem.EqMixed.eq_bool_str (AV I q (by simp))
  |_=>exact absurd (show false=true from hs) Bool.false_ne_true
 |int i=>
  obtain⟨t,rfl⟩:=rx
  cases y with
  |non=>cases ry;exact PySem.EqNone.eq_int_none (AV I q (by simp))
  |int j=>obtain⟨t',rfl⟩:=ry;exact eq_int (AV I q MO)
  |str j=>obtain⟨t',rfl⟩:=ry;exact PySem.EqMixed.eq_int_str (AV I q (by simp))
  |_=>exact absurd (show false=true from hs) Bool.false_ne_true
 |str i=>
  obtain⟨t,rfl⟩:=rx
  cases y with
  |non=>cases ry;exact PySem.EqNone.eq_str_none (AV I q (by simp))
  |bl j=>cases ry;exact PySem.EqMixed.eq_str_bool (AV I q (by simp))
  |int j=>obtain⟨t',rfl⟩:=ry;exact PySem.EqMixed.eq_str_int (AV I q (by simp))
  |str j=>obtain⟨t',rfl⟩:=ry;exact eq_str (AV I q IQ)
  |_=>exact absurd (show false=true from hs) Bool.false_ne_true
 |byt i=>
  obtain⟨t,rfl⟩:=rx
  cases y with
  |byt j=>obtain⟨t',rfl⟩:=ry;exact PySem.W.eq_bytes (AV I q MP)
  |_=>exact absurd (show false=true from hs) Bool.false_ne_true
 |_=>cases y<;>exact absurd (show false=true from hs) Bool.false_ne_true
theorem Om:Bv X (compareOp .NotEq) au:=by
 intro pins s σ H x y v u Q I rx ry h
 obtain⟨hs,q⟩:=h
 cases x with
 |non=>
  cases rx
  cases y with
  |non=>cases ry;exact PySem.EqNone.ne_none_none (AV I q (by simp))
  |bl j=>cases ry;exact PySem.EqNone.ne_none_bool (AV I q (by simp))
  |int j=>obtain⟨t',rfl⟩:=ry;exact PySem.EqNone.ne_none_int (AV I q (by simp))
  |str j=>obtain⟨t',rfl⟩:=ry;exact PySem.EqNone.ne_none_str (AV I q (by simp))
  |_=>exact absurd (show false=true from hs) Bool.false_ne_true
 |bl i=>
  cases rx
  cases y with
  |non=>cases ry;exact PySem.EqNone.ne_bool_none (AV I q (by simp))
  |bl j=>cases ry;exact ne_bool (AV I q (congrArg not Ol))
  |str j=>obtain⟨t',rfl⟩:=ry;exact PySem.EqMixed.ne_bool_str (AV I q (by simp))
  |_=>exact absurd (show false=true from hs) Bool.false_ne_true
 |int i=>
  obtain⟨t,rfl⟩:=rx
  cases y with
  |non=>cases ry;exact PySem.EqNone.ne_int_none (AV I q (by simp))
  |int j=>obtain⟨t',rfl⟩:=ry;exact ne_int (AV I q (congrArg not MO))
  |str j=>obtain⟨t',rfl⟩:=ry;exact PySem.EqMixed.ne_int_str (AV I q (by simp))
  |_=>exact absurd (show false=true from hs) Bool.false_ne_true
 |str i=>
  obtain⟨t,rfl⟩:=rx
  cases y with
  |non=>cases ry;exact PySem.EqNone.ne_str_none (AV I q (by simp))
  |bl j=>cases ry;exact PySem.EqMixed.ne_str_bool (AV I q (by simp))
  |int j=>obtain⟨t',rfl⟩:=ry;exact PySem.EqMixed.ne_str_int (AV I q (by simp))
  |str j=>obtain⟨t',rfl⟩:=ry;exact ne_str (AV I q (congrArg not IQ))
  |_=>exact absurd (show false=true from hs) Bool.false_ne_true
 |byt i=>
  obtain⟨t,rfl⟩:=rx
  cases y with
  |byt j=>obtain⟨t',rfl⟩:=ry;exact PySem.W.ne_bytes (AV I q (congrArg not MP))
  |_=>exact absurd (show false=true from hs) Bool.false_ne_true
 |_=>cases y<;>exact absurd (show false=true from hs) Bool.false_ne_true
theorem MQ:Bv X (compareOp .Lt) (SD fun i j=> .bl (decide (i<j))):=SK fun _ _ _ _ _ _ _ q=>lt_int q
theorem JS:Bv X (compareOp .LtE) (SD fun i j=> .bl (decide (i≤j))):=SK fun _ _ _ _ _ _ _ q=>le_int q
theorem YT:Bv X (compareOp .Gt) (SD fun i j=> .bl (decide (j<i))):=SK fun _ _ _ _ _ _ _ q=>gt_int q
theorem Ud:Bv X (compareOp .GtE) (SD fun i j=> .bl (decide (j≤i))):=SK fun _ _ _ _ _ _ _ q=>ge_int q
theorem Nh:Bv X (compareOp .In) (fun x y H Q=>∃i j,x=.str i∧y=.str j∧Q (.bl (!(Builtin.Str.occurrences j i 0 j.length 1).isEmpty)) H):=by
 intro pins s σ H x y v u Q I rx ry h
 obtain⟨i,j,rfl,rfl,q⟩:=h
 obtain⟨t,rfl⟩:=rx
 obtain⟨t',rfl⟩:=ry
 exact in_str (AV I q rfl)
theorem On:Bv X (compareOp .Is) (fun x y H Q=>y=.non∧Q (.bl (decide (x=.non))) H):=by
 intro pins s σ H x y v u Q I rx ry h
 obtain⟨rfl,q⟩:=h
 cases ry
 refine is_none_gen (AV I q ?_)
 cases x<;>first
  | (cases rx;rfl)
  | (obtain⟨t,rfl⟩:=rx;rfl)
theorem IR:Bv X (compareOp .NotIn) (fun x y H Q=>∃i j,x=.str i∧y=.str j∧Q (.bl (!(!(Builtin.Str.occurrences j i 0 j.length 1).isEmpty))) H):=by
 intro pins s σ H x y v u Q I rx ry h
 obtain⟨i,j,rfl,rfl,q⟩:=h
 obtain⟨t,rfl⟩:=rx
 obtain⟨t',rfl⟩:=ry
 exact notIn_str (AV I q rfl)
theorem Af(b:Expr){op:CmpOp}(h:op≠.In:=by decide)(h2:op≠.NotIn:=by decide):behindInMarks op b=false:=by
 have e1:(op==CmpOp.In)=false:=by cases op<;>first|rfl|exact absurd rfl h
 have e2:(op==CmpOp.NotIn)=false:=by cases op<;>first|rfl|exact absurd rfl h2
 cases b<;>simp[behindInMarks,e1,e2]
theorem SM{op:CmpOp}{r:R2}(ho:Bv X (compareOp op) r)(ha:PE X a ta)(hb:PE X b tb)(hm:behindInMarks op b=false):PE X (.Compare a [op] [b] pos) (YM r ta tb):=by
 intro pins s σ H Q I h
 exact wpAny_Compare1 (Va ha hb I h fun v u s2 x y H2 I2 rx ry q=>ho pins s2 σ H2 x y v u Q I2 rx ry q) hm
def Ue(t:TE):TT:=fun σ H Q=>t σ H fun x H'=>∃k,x=.bl k∧Q k H'
theorem FY{op:CmpOp}{r:R2}(ho:Bv X (compareOp op) r)(ha:PE X a ta)(hb:PE X b tb)(hm:behindInMarks op b=false):PT X (.Compare a [op] [b] pos) (Ue (YM r ta tb)):=by
 intro pins s σ H Q I h
 refine wpAny_isTrue_Compare1 (Ae (ha pins s σ H _ I h) fun v s1 ⟨x,H1,I1,r1,q1⟩=>Ae (hb pins s1 σ H1 _ I1 q1) fun u s2 ⟨y,H2,I2,r2,q2⟩=>
  Ae (ho pins s2 σ H2 x y v u _ I2 r1 r2 q2) fun c s3 ⟨z,H3,I3,r3,k,e,q3⟩=>?_) hm
 subst e
 cases r3
 exact wpAny_truthy_bool ⟨H3,I3,q3⟩
def Oo(r r':R2)(ta tb tc:TE):TE:=fun σ H Q=>ta σ H fun x H1=>tb σ H1 fun y H2=>r x y H2 fun z H3=>∃k,z=.bl k∧
 (if k=true then tc σ H3 fun w' H4=>r' y w' H4 Q else Q (.bl false) H3)
theorem Oq{op op':CmpOp}{r r':R2}(ho:Bv X (compareOp op) r)(ho':Bv X (compareOp op') r')(ha:PE X a ta)(hb:PE X b tb)(hc:PE X c tc)
  (hm:lastMarks [op,op'] [b,c]=false:=by with_unfolding_all rfl):PE X (.Compare a [op,op'] [b,c] pos) (Oo r r' ta tb tc):=by
 intro pins s σ H Q I h
 refine Compare_chain (Ae (ha pins s σ H _ I h) fun v s1 ⟨x,H1,I1,r1,q1⟩=>chain_link (Ae (hb pins s1 σ H1 _ I1 q1) fun u s2 ⟨y,H2,I2,r2,q2⟩=>
  Ae (ho pins s2 σ H2 x y v u _ I2 r1 r2 q2) fun d s3 ⟨z,H3,I3,r3,k,e,q3⟩=>?_)) hm
 subst e
 cases r3
 refine wpAny_truthy_bool ?_
 cases k with
 |false=>exact ite_ff ⟨.bl false,H3,I3,rfl,q3⟩
 |true=>exact ite_tt (chain_last (Ae (hc pins s3 σ H3 _ I3 q3) fun w' s4 ⟨z',H4,I4,r4,q4⟩=>ho' pins s4 σ H4 y z' u w' Q I4 r2 r4 q4))
theorem Os{op op':CmpOp}{r r':R2}(ho:Bv X (compareOp op) r)(ho':Bv X (compareOp op') r')(ha:PE X a ta)(hb:PE X b tb)(hc:PE X c tc)
  (hm:lastMarks [op,op'] [b,c]=false:=by with_unfolding_all rfl):PT X (.Compare a [op,op'] [b,c] pos) (Ue (Oo r r' ta tb tc)):=by
 intro pins s σ H Q I h
 refine isTrue_chain (Ae (ha pins s σ H _ I h) fun v s1 ⟨x,H1,I1,r1,q1⟩=>test_link (Ae (hb pins s1 σ H1 _ I1 q1) fun u s2 ⟨y,H2,I2,r2,q2⟩=>
  Ae (ho pins s2 σ H2 x y v u _ I2 r1 r2 q2) fun d s3 ⟨z,H3,I3,r3,k,e,q3⟩=>?_)) hm
 subst e
 cases r3
 refine wpAny_truthy_bool ?_
 cases k with
 |false=>
  obtain⟨k',e',q'⟩:=q3
  cases e'
  exact ite_ff ⟨H3,I3,q'⟩
 |true=>
  refine ite_tt (test_last (Ae (hc pins s3 σ H3 _ I3 q3) fun w' s4 ⟨z',H4,I4,r4,q4⟩=>Ae (ho' pins s4 σ H4 y z' u w' _ I4 r2 r4 q4) fun d' s5 ⟨z2,H5,I5,r5,k2,e2,q5⟩=>?_))
  subst e2
  cases r5
  exact wpAny_truthy_bool ⟨H5,I5,q5⟩
def SN(K:PySem.W.Frag)(x:V)(H:Hp)(k:Bool):Prop:=
 match x with
 | .non=>k=false
 | .bl b=>k=b
 | .int i=>k=(i !=0)
 | .str y=>y.length≤sizeLine∧k=((y.length:Int) !=0)
 | .byt y=>y.size≤sizeLine∧k=((y.size:Int) !=0)
 | .ref p=> (∃xs,SqL K H p xs∧k=!xs.isEmpty)∨(∃xs,Fs K H p xs∧k=!xs.isEmpty)∨∃kvs,H p=some (.dK kvs)∧k=!kvs.isEmpty
 |_=>False
theorem Kl{κ:Type}{kvs:List (κ×V)}{vs:List (κ×Value)}(r:KV kvs vs):(!vs.isEmpty)=!kvs.isEmpty:=by
 cases r<;>rfl
theorem Fv{xs:List V}{its:List Value}(r:Vals xs its):(!its.toArray.isEmpty)=!xs.isEmpty:=by
 cases r<;>simp
theorem DM:(sizeLine:Nat)<2^63:=by rw[sizeLine_eq];decide
theorem Ot:ao X (fun x H Q=>∃k,SN X.K x H k∧Q k H):=by
 intro pins s σ H x v Q I rx h
 obtain⟨k,e,q⟩:=h
 have hl:=DM
 have hs:sizeLine=16777216:=sizeLine_eq
 cases x with
 |non=>
  cases rx
  have e':k=false:=e
  subst e'
  exact truthy_none ⟨H,I,q⟩
 |bl b=>
  cases rx
  have e':k=b:=e
  subst e'
  exact wpAny_truthy_bool ⟨H,I,q⟩
 |int i=>
  obtain⟨t,rfl⟩:=rx
  have e':k=(i !=0):=e
  subst e'
  exact PySem.P.truthy_int ⟨H,I,q⟩
 |str y=>
  obtain⟨t,rfl⟩:=rx
  obtain⟨hy,e'⟩:y.length≤sizeLine∧k=((y.length:Int) !=0):=e
  subst e'
  exact PySem.P.truthy_str (by omega) ⟨H,I.tok _,q⟩
 |byt y=>
  obtain⟨t,rfl⟩:=rx
  obtain⟨hy,e'⟩:y.size≤sizeLine∧k=((y.size:Int) !=0):=e
  subst e'
  exact PySem.W.truthy_bytes (by omega) ⟨H,I.tok _,q⟩
 |ref p=>
  cases rx
  have e':(∃xs,SqL X.K H p xs∧k=!xs.isEmpty)∨(∃xs,Fs X.K H p xs∧k=!xs.isEmpty)∨∃kvs,H p=some (.dK kvs)∧k=!kvs.isEmpty:=e
  rcases e' with⟨xs,hx,e'⟩| ⟨xs,hx,e'⟩| ⟨kvs,hx,e'⟩
  ·subst e'
   obtain⟨its,r,pl,hz⟩:=I.list hx
   have hlen:=r.length
   exact wpAny_truthy_list pl.isList (by simp only[List.size_toArray];omega) ⟨H,I.tok _,by rw[Fv r];exact q⟩
  ·subst e'
   obtain⟨its,r,pl,hz⟩:=I.tuple hx
   have hlen:=r.length
   exact truthy_tuple pl (by simp only[List.size_toArray];omega) ⟨H,I.tok _,by rw[Fv r];exact q⟩
  ·subst e'
   obtain⟨hz,hS,vs,r,m⟩:kvs.length≤sizeLine∧(p==sysModules)=false∧∃vs,KV kvs vs∧s.heap.DictOf (II X.prog X.w) p vs:=I.hok p _ hx
   have hlen:kvs.length=vs.length:=Paired.length r
   exact wpAny_truthy_dict hS m (by omega) ⟨H,I.tok _,by rw[Kl r];exact q⟩
 |_=>exact(show False from e).elim
theorem JT(ha:PE X a ta)(he:∀whole,isTrue a X.env whole=(do let v←whole;standAt a.pos;holding [v] (truthy v))):
  PT X a (fun σ H Q=>ta σ H fun x H'=>∃k,SN X.K x H' k∧Q k H'):=by
 intro pins s σ H Q I h
 exact isTrue_plain (Ae (ha pins s σ H _ I h) fun v s1 ⟨x,H1,I1,r1,q1⟩=>Ot pins s1 σ H1 x v Q I1 r1 q1) (he _)
theorem Km:Bv X (binaryOp .Add) (fun x y H Q=>∃i j,x=.str i∧y=.str j∧i.length+j.length≤sizeLine∧Q (.str (i++j)) H):=by
 intro pins s σ H x y v u Q I rx ry h
 obtain⟨i,j,rfl,rfl,hz,q⟩:=h
 obtain⟨t,rfl⟩:=rx
 obtain⟨t',rfl⟩:=ry
 exact add_str (fun t' tk=> ⟨.str (i++j),H,I.tok _,⟨_,rfl⟩,q⟩) hz
theorem DC{x:V}{us:List Value}(r:Vals [x] us):∃u,us=[u]∧RelV x u:=by
 cases r with
 |cons r1 r2=>cases r2;exact⟨_,rfl,r1⟩
theorem MR{x y:V}{us:List Value}(r:Vals [x,y] us):∃u w',us=[u,w']∧RelV x u∧RelV y w':=by
 cases r with
 |cons r1 r2=>
  cases r2 with
  |cons r3 r4=>cases r4;exact⟨_,_,rfl,r1,r3⟩
theorem Ni(hc:X.calm=true):Aw X (.builtin "max") (fun xs H Q=>∃i j,xs=[.int i,.int j]∧Q (.int (if j>i then j else i)) H):=by
 intro pins s σ H xs us Q I r h
 obtain⟨i,j,rfl,q⟩:=h
 obtain⟨u,w',rfl,⟨t,rfl⟩,⟨t',rfl⟩⟩:=MR r
 refine max_two_ints (I.ok.hd hc) fun h' tk k=> ⟨_,H,I.kept k,?_,q⟩
 by_cases hj:j>i
 ·rw[if_pos hj,if_pos hj];exact⟨_,rfl⟩
 ·rw[if_neg hj,if_neg hj];exact⟨_,rfl⟩
theorem Nj(hc:X.calm=true):Aw X (.builtin "min") (fun xs H Q=>∃i j,xs=[.int i,.int j]∧Q (.int (if j<i then j else i)) H):=by
 intro pins s σ H xs us Q I r h
 obtain⟨i,j,rfl,q⟩:=h
 obtain⟨u,w',rfl,⟨t,rfl⟩,⟨t',rfl⟩⟩:=MR r
 refine min_two_ints (I.ok.hd hc) fun h' tk k=> ⟨_,H,I.kept k,?_,q⟩
 by_cases hj:j<i
 ·rw[if_pos hj,if_pos hj];exact⟨_,rfl⟩
 ·rw[if_neg hj,if_neg hj];exact⟨_,rfl⟩
theorem Nk:Aw X (.type "int") (fun xs H Q=> (∃i,xs=[.int i]∧Q (.int i) H)∨∃k,xs=[.bl k]∧Q (.int (if k then 1 else 0)) H):=by
 intro pins s σ H xs us Q I r h
 rcases h with⟨i,rfl,q⟩| ⟨k,rfl,q⟩
 ·obtain⟨u,rfl,t,rfl⟩:=DC r
  exact call_int_int ⟨.int i,H,I,⟨_,rfl⟩,q⟩
 ·obtain⟨u,rfl,r1⟩:=DC r
  cases r1
  exact call_int_bool ⟨.int (if k then 1 else 0),H,I.tok _,⟨_,rfl⟩,q⟩
theorem IS:Aw X (.type "str") (fun xs H Q=>∃i,xs=[.int i]∧i.natAbs.log2<1920∧Q (.str (toString i)) H):=by
 intro pins s σ H xs us Q I r h
 obtain⟨i,rfl,hz,q⟩:=h
 obtain⟨u,rfl,t,rfl⟩:=DC r
 exact PySem.P.str_of_int hz ⟨.str _,H,I.tok _,⟨_,rfl⟩,q⟩
def av(K:PySem.W.Frag)(x:V)(H:Hp)(n:Nat):Prop:=
 match x with
 | .str y=>y.length≤sizeLine∧n=y.length
 | .byt y=>y.size≤sizeLine∧n=y.size
 | .ref p=> (∃xs,SqL K H p xs∧n=xs.length)∨∃xs,Fs K H p xs∧n=xs.length
 |_=>False
theorem Ou:Aw X (.builtin "len") (fun xs H Q=>∃x n,xs=[x]∧av X.K x H n∧Q (.int n) H):=by
 intro pins s σ H xs us Q I r h
 obtain⟨x,n,rfl,e,q⟩:=h
 obtain⟨u,rfl,rx⟩:=DC r
 have hl:=DM
 have hs:sizeLine=16777216:=sizeLine_eq
 cases x with
 |str y=>
  obtain⟨t,rfl⟩:=rx
  obtain⟨hy,e'⟩:y.length≤sizeLine∧n=y.length:=e
  subst e'
  exact len_str (by omega) ⟨.int _,H,I.tok _,⟨_,rfl⟩,q⟩
 |byt y=>
  obtain⟨t,rfl⟩:=rx
  obtain⟨hy,e'⟩:y.size≤sizeLine∧n=y.size:=e
  subst e'
  exact PySem.W.len_bytes (by omega) ⟨.int _,H,I.tok _,⟨_,rfl⟩,q⟩
 |ref p=>
  cases rx
  have e':(∃xs,SqL X.K H p xs∧n=xs.length)∨∃xs,Fs X.K H p xs∧n=xs.length:=e
  rcases e' with⟨xs,hx,e'⟩| ⟨xs,hx,e'⟩
  ·subst e'
   obtain⟨its,r',pl,hz⟩:=I.list hx
   have hlen:=r'.length
   exact Calls.call_len_list pl.isList (by simp only[List.size_toArray];omega) ⟨.int xs.length,H,I.tok _,⟨_,by simp only[List.size_toArray];rw[hlen]⟩,q⟩
  ·subst e'
   obtain⟨its,r',pl,hz⟩:=I.tuple hx
   have hlen:=r'.length
   exact len_tuple pl (by simp only[List.size_toArray];omega) ⟨.int xs.length,H,I.tok _,⟨_,by simp only[List.size_toArray];rw[hlen]⟩,q⟩
 |_=>exact(show False from e).elim
end
structure ObjM(h:Heap)(x dx C:Addr)(mA:Str→Option Value):Prop where
 obj:h.get? x=some (PySem.W.instObj C dx)
 ns:h.Ns1 dx mA
 ne:dx≠x
theorem HW{h:Heap}{dx:Addr}{mA:Str→Option Value}(n:h.Ns1 dx mA):∃od,h.get? dx=some od∧∀name,PySem.W.lookIn name od=some (mA name):=by
 obtain⟨o,es,ep,ho,hd,hk,_,hm⟩:=n
 refine⟨o,ho,fun name=>?_⟩
 have e:=hm name
 unfold nsFind findBy at e
 rw[←Array.find?_toList] at e
 unfold PySem.W.lookIn
 rw[hd]
 dsimp only
 split
 ·rename_i y q
  rw[q] at e
  exact congrArg some e
 ·rename_i q
  rw[q] at e
  have a:es.toList.any (·.refKey)=false:=by
   rw[List.any_eq_false]
   intro y hy
   obtain⟨z,t,hkey⟩:=hk y (Array.mem_toList_iff.mp hy)
   simp[DictEntry.refKey,hkey]
  have a':¬es.toList.any (·.refKey)=true:=by rw[a];exact Bool.false_ne_true
  rw[if_neg a']
  exact congrArg some e
theorem ObjM.look{h:Heap}{x dx C:Addr}{mA:Str→Option Value}(I:ObjM h x dx C mA):∃od,PySem.W.InstAt h x (PySem.W.instObj C dx) C (some od)∧∀name,PySem.W.lookIn name od=some (mA name):=
 let⟨od,ho,hl⟩:=HW I.ns
 ⟨od,⟨I.obj,rfl,rfl,ho⟩,hl⟩
section
variable{prog:Program}{w:World}{A:Around}{E:Value→Shared→Prop}{s:Shared}{K:PySem.W.Frag}{x dx C f:Addr}{mA:Str→Option Value}{name:Str}{v:Value}
end
section
variable{P:Program}{w:World}{H H':Hp}{h h':Heap}{a C dx:Addr}{fs fs':List (Str×V)}
theorem SO(hok:HOk P w H h)(e:H a=some (.ins C dx fs)):∃mA,ObjM h a dx C mA∧(∀f,OZ (fs.lookup f) (mA f))∧PySem.Within mA (fs.map (·.1))∧fs.length≤1000∧H dx=some (.own a):=by
 obtain⟨d,z,ne,ob,mA,n,r,q⟩:=(show ObjOk P w H h a (.ins C dx fs) from hok a _ e)
 exact⟨mA,⟨ob,n,ne⟩,r,q,z,d⟩
end
structure Cls(K:PySem.W.Frag)(C:Addr):Prop where
 pg:PySem.W.plainGet K C Str.empty=true
 hd:PySem.W.hasDictIn K C=true
 po:PySem.W.plainOver K C=true
 sa:PySem.W.findIn K (.ref C) "__setattr__" =some (some (.builtin "object.__setattr__"))
theorem Cls.get{K:PySem.W.Frag}{C:Addr}(c:Cls K C)(f:Str):PySem.W.plainGet K C f=true:=c.pg
section
variable{X:Cx}{pins:List (Addr×Obj)}{σ:St}{H:Hp}{s:Shared}{a C dx:Addr}{fs:List (Str×V)}{f:Str}{v:V}{A:Around}{E:Value→Shared→Prop}
theorem SQ{prog:Program}{w:World}{env:Env}{e:Expr}{f:Str}{pos:Pos}{s:Shared}{Q:Value→Shared→Prop}(hb:attributeBase e f env (eval e env)=eval e env)
  (h:wpAny (model prog w) A (eval e env) (fun o s₁=>wpAny (model prog w) A (getAttr o f true) Q E s₁) E s):wpAny (model prog w) A (eval (.Attribute e f pos) env) Q E s:=
 Attribute_any_ h (by rw[arm_eval_Attribute,hb])
end
section
variable{X:Cx}{o e value:Expr}{f:Str}{pos pos' tpos:Pos}{ta tv:TE}
end
section
variable{X:Cx}{pins:List (Addr×Obj)}{σ:St}{H:Hp}{s:Shared}{A:Around}{E:Value→Shared→Prop}{Q:Value→Shared→Prop}{c:Value}{b:Bool}
inductive TyOf(K:PySem.W.Frag)(H:Hp):V→Value→Prop where
 |non:TyOf K H .non (.type "NoneType")
 |bl (x:Bool):TyOf K H (.bl x) (.type "bool")
 |int (i:Int):TyOf K H (.int i) (.type "int")
 |str (x:Str):TyOf K H (.str x) (.type "str")
 |flt (x:UInt64):TyOf K H (.flt x) (.type "float")
 |lst {a:Addr} {xs:List V} (e:H a=some (.lst xs)):TyOf K H (.ref a) (.type "list")
 |frz {a:Addr} {o:Obj} {xs:List V} (e:H a=some (.frz o (.lst xs))):TyOf K H (.ref a) (.type "list")
 |tup {a:Addr} {xs:List V} (e:H a=some (.tup xs)):TyOf K H (.ref a) (.type "tuple")
 |dK {a:Addr} {kvs:List (JO×V)} (e:H a=some (.dK kvs)):TyOf K H (.ref a) (.type "dict")
 |dT {a:Addr} {kvs:List (List JO×V)} (e:H a=some (.dT kvs)):TyOf K H (.ref a) (.type "dict")
 |ins {a C dx:Addr} {fs:List (Str×V)} (e:H a=some (.ins C dx fs)) (cl:Cls K C) (ha:PySem.W.findIn K (.ref C) "__class__" =some (some (.builtin "object.__class__")))
   (hn:PySem.W.specialIn K (.builtin "object.__class__") "__get__" =some (some (.builtin "getset_descriptor.__get__"))) (htk:PySem.W.takesIn K (.builtin "object.__class__")=some true)
   (hm:PySem.W.mroIn K C (.type "object")=some true):TyOf K H (.ref a) (.ref C)
theorem Nl{x:V}{u t:Value}(I:Inv X pins σ H s)(rx:RelV x u)(ty:TyOf X.K H x t)(e:PySem.W.kitOne X.K t c=some b)(h:∀tk,Q (.bool b) {s with toks:=tk}):
  wpAny (model X.prog X.w) A (call (.builtin "isinstance") [u,c]) Q E s:=by
 cases ty with
 |non=>cases(show u=Value.none from rx);exact PySem.W.kia_one PySem.W.kitx_none I.kIn True.intro e (fun z=>nomatch z) h
 |bl y=>cases(show u=Value.bool y from rx);exact PySem.W.kia_one PySem.W.kitx_bool I.kIn True.intro e (fun z=>nomatch z) h
 |int i=>obtain⟨t,q⟩:=(show∃t,u=Value.int i t from rx);cases q;exact PySem.W.kia_one PySem.W.kitx_int I.kIn True.intro e (fun z=>nomatch z) h
 |str y=>obtain⟨t,q⟩:=(show∃t,u=Value.str y t from rx);cases q;exact PySem.W.kia_one PySem.W.kitx_str I.kIn True.intro e (fun z=>nomatch z) h
 |flt y=>obtain⟨t,q⟩:=(show∃t,u=Value.float y t from rx);cases q;exact PySem.W.kia_one PySem.W.kitx_float I.kIn True.intro e (fun z=>nomatch z) h
 | @lst a xs ea=>
  cases(show u=Value.ref a from rx)
  obtain⟨_,_,n,_,h1⟩:=(show ObjOk X.prog X.w H s.heap a (.lst xs) from I.hok a _ ea)
  exact PySem.W.kia_one PySem.W.kitx_list I.kIn ⟨_,h1,rfl⟩ e (fun z=>nomatch z) h
 | @frz a ob xs ea=>
  cases(show u=Value.ref a from rx)
  obtain⟨_,_,_,n,_,h1⟩:=(show ObjOk X.prog X.w H s.heap a (.frz ob (.lst xs)) from I.hok a _ ea)
  exact PySem.W.kia_one PySem.W.kitx_list I.kIn ⟨_,h1,rfl⟩ e (fun z=>nomatch z) h
 | @tup a xs ea=>
  cases(show u=Value.ref a from rx)
  obtain⟨_,_,_,p⟩:=(show ObjOk X.prog X.w H s.heap a (.tup xs) from I.hok a _ ea)
  obtain⟨o,h1,h2,_⟩:=p
  exact PySem.W.kia_one PySem.W.kitx_tuple I.kIn ⟨o,h1,h2⟩ e (fun z=>nomatch z) h
 | @dK a kvs ea=>
  cases(show u=Value.ref a from rx)
  obtain⟨_,_,vs,_,p⟩:=(show ObjOk X.prog X.w H s.heap a (.dK kvs) from I.hok a _ ea)
  obtain⟨o,es,ep,h1,h2,_⟩:=p
  exact PySem.W.kia_one PySem.W.kitx_dict I.kIn ⟨o,h1,h2.1⟩ e (fun z=>nomatch z) h
 | @dT a kvs ea=>
  cases(show u=Value.ref a from rx)
  obtain⟨_,_,xs,_,o,es,ep,h1,h2,_⟩:=(show ObjOk X.prog X.w H s.heap a (.dT kvs) from I.hok a _ ea)
  exact PySem.W.kia_one PySem.W.kitx_dict I.kIn ⟨o,h1,h2.1⟩ e (fun z=>nomatch z) h
 | @ins a C dx fs ea cl ha hn htk hm=>
  cases(show u=Value.ref a from rx)
  obtain⟨mA,O,_⟩:=SO I.hok ea
  obtain⟨od,J,_⟩:=O.look
  exact PySem.W.kia_one (PySem.W.kitx_own (cl.get _) cl.hd ha hn htk hm) I.kIn J e (fun z=>nomatch z) h
end
structure Room(k:Nat)(A:Around):Prop where
 hd:A.handled=none
 dp:A.depth+3*k+5<recursionLimit
 un:A.units+16*k+200<cLine
 gd:A.guards=some []
theorem Room.mono{j k:Nat}{A:Around}(r:Room k A)(h:j≤k):Room j A:=⟨r.hd,by have:=r.dp;omega,by have:=r.un;omega,r.gd⟩
theorem Room.deeper{k:Nat}{A:Around}(r:Room (k+1) A)(env:Env):Room k (A.deeper env):=
 ⟨r.hd,by have:=r.dp;show A.depth+1+3*k+5<_;omega,by have:=r.un;show A.units+3+16*k+200<_;omega,r.gd⟩
theorem Kn{A:Around}{C:Addr}{us:List Value}{kw:List (Str×Value)}:(A.under (.builtin "type.__call__" ⟨.ref C::us,kw⟩)).depth=A.depth+1:=by
 first|rfl|simp[Around.under,Code.weight,Code.isCreation,Code.isGuard,Code.isCaller,Code.frames,Code.isFrame,guardIds]
theorem Ko{A:Around}{C:Addr}{us:List Value}{kw:List (Str×Value)}:(A.under (.builtin "type.__call__" ⟨.ref C::us,kw⟩)).units=A.units+1:=by
 first|rfl|simp[Around.under,Code.cUnits,Code.frames,Code.isFrame]
theorem JU{A:Around}{C:Addr}{us:List Value}{kw:List (Str×Value)}:(A.under (.builtin "type.__call__" ⟨.ref C::us,kw⟩)).guards=A.guards:=by
 have h:(Code.builtin "type.__call__" ⟨.ref C::us,kw⟩).isGuard=false:=by
  show guardIds.contains "type.__call__" =false
  decide+kernel
 simp only[Around.under,Code.guards,h]
 cases A.guards<;>rfl
theorem Room.make{k:Nat}{A:Around}(r:Room (k+1) A)(C:Addr)(us:List Value)(kw:List (Str×Value)):Room k (A.under (.builtin "type.__call__" ⟨.ref C::us,kw⟩)):=
 ⟨r.hd,by have:=r.dp;rw[Kn];omega,by have:=r.un;rw[Ko];omega,by rw[JU];exact r.gd⟩
theorem Room.depth{k:Nat}{A:Around}(r:Room k A):A.depth<recursionLimit:=by have:=r.dp;omega
def YU:TA:=fun _ H Q=>Q [] H
def YV(ta:TE)(tr:TA):TA:=fun σ H Q=>ta σ H fun x H1=>tr σ H1 fun xs H2=>Q (x::xs) H2
section
variable{X:Cx}{e:Expr}{es:List Expr}{te:TE}{t:TA}{pos:Pos}
theorem Ax:PA X [] YU:=fun _ _ _ _ H Q I h=>Calls.spliced_nil ⟨[],H,I,.nil,h⟩
theorem AM(ha:PE X e te)(hr:PA X es t)(hs:starEach (e::es) X.env=(false,eval e X.env)::starEach es X.env:=by rfl):PA X (e::es) (YV te t):=by
 intro pos pins s σ H Q I h
 rw[hs]
 show wpAny _ _ (spliced ((false,eval e X.env)::backTo pos (starEach es X.env))) _ _ s
 refine Calls.spliced_cons (Ae (ha pins s σ H _ I h) fun u s1 ⟨x,H1,I1,r1,q1⟩=>?_)
 exact Ae (hr pos pins s1 σ H1 _ I1 q1) fun us s2 ⟨xs,H2,I2,r2,q2⟩=> ⟨x::xs,H2,I2,.cons r1 r2,q2⟩
def ax(t:TA):TE:=fun σ H Q=>t σ H fun xs H1=>xs.length≤sizeLine∧∀p,H1 p=none→Q (.ref p) (upd H1 p (.tup xs))
def ay(t:TA):TE:=fun σ H Q=>t σ H fun xs H1=>xs.length≤sizeLine∧∀p,H1 p=none→Q (.ref p) (upd H1 p (.lst xs))
theorem Vg{x1}(h:PA X es t):PE X (.Tuple es x1 pos) (ax t):=by
 intro pins s σ H Q I hq
 refine wpAny_Tuple_spliced (Ae (h pos pins s σ H _ I hq) fun us s1 ⟨xs,H1,I1,r,z,q⟩=> ⟨by rw[←r.length];exact z,?_⟩)
 have hf:H1 s1.heap.objs.size=none:=I1.hok.fresh (Nat.le_refl _)
 refine⟨.ref s1.heap.objs.size,upd H1 s1.heap.objs.size (.tup xs),I1.laid (t':=s1.toks) (fun b u e=>Heap.get?_push_of_some _ e) (Nat.le_refl _) ?_,rfl,q _ hf⟩
 exact⟨z,us,r,⟨_,Heap.get?_push_size _ rfl,rfl,_,rfl⟩⟩
theorem Fw(h:PA X es t):PE X (.List es pos) (ay t):=by
 intro pins s σ H Q I hq
 refine wpAny_List_spliced (Ae (h pos pins s σ H _ I hq) fun us s1 ⟨xs,H1,I1,r,z,q⟩=> ⟨by rw[←r.length];exact z,?_⟩)
 have hf:H1 s1.heap.objs.size=none:=I1.hok.fresh (Nat.le_refl _)
 refine⟨.ref s1.heap.objs.size,upd H1 s1.heap.objs.size (.lst xs),I1.laid (t':=s1.toks) (fun b u e=>Heap.get?_push_of_some _ e) (Nat.le_refl _) ?_,rfl,q _ hf⟩
 exact⟨z,us,0,r,Heap.get?_push_size _ rfl⟩
end
abbrev Sp:=List V→Hp→VK→XK→Prop
abbrev OX:=List Env→Hp→Shared→XK→Value→Shared→Prop
structure Env0(P:Program)(w:World)(K:PySem.W.Frag)(mg:Str→Option Value)(base:Heap)(A:Around)(outer:List Env)(s:Shared)(H:Hp):Prop where
 frames:A.frames=some outer
 mod:Mod K mg base
 bs:∀b o,base.get? b=some o→s.heap.get? b=some o∧H b=none
 bsz:base.objs.size≤s.heap.objs.size
 funs:s.heap.FunFrames base outer
 frf:∀b∈Ei outer,H b=none
 hok:HOk P w H s.heap
 bare:AllBare s.gens
def CE(outer:List Env)(P:Program)(w:World)(H:Hp)(s:Shared)(Q:VK)(u:Value)(s':Shared):Prop:=
 ∃v H',s'.os=s.os∧AllBare s'.gens∧Un (Ei outer) [] H H' s.heap s'.heap∧HOk P w H' s'.heap∧RelV v u∧Q v H'
def CR(CX:OX)(outer:List Env)(P:Program)(w:World)(H:Hp)(s:Shared)(Q:VK)(E:XK)(r:Result)(s':Shared):Prop:=
 match r with
 | .ok (.ret u)=>CE outer P w H s Q u s'
 | .ok _=>False
 | .error e=>CX outer H s E e s'
structure FnOk(P:Program)(w:World)(K:PySem.W.Frag)(mg:Str→Option Value)(base:Heap)(CX:OX)(k:Nat)(f:Addr)(fd:FuncData)(ps:List Str)(sp:Sp):Prop where
 len:∀vs H Q E,sp vs H Q E→vs.length=ps.length
 run:∀(A:Around) (outer:List Env) (s:Shared) (H:Hp) (args:Args) (us:List Value) (vs:List V) (Q:VK) (E:XK),Room k A→Env0 P w K mg base A outer s H→BindsTo s fd args (ps.zip us)→Vals vs us→sp vs H Q E→
  codeAny (model P w) A (.call (.ref f) args) (CR CX outer P w H s Q E) s
theorem FnOk.mono{P:Program}{w:World}{K:PySem.W.Frag}{mg:Str→Option Value}{base:Heap}{CX:OX}{j k:Nat}{f:Addr}{fd:FuncData}{ps:List Str}{sp:Sp}(F:FnOk P w K mg base CX j f fd ps sp)(h:j≤k):
  FnOk P w K mg base CX k f fd ps sp:=⟨F.len,fun A outer s H args us vs Q E hr=>F.run A outer s H args us vs Q E (hr.mono h)⟩
theorem Env0.make{P:Program}{w:World}{K:PySem.W.Frag}{mg:Str→Option Value}{base:Heap}{A:Around}{outer:List Env}{s:Shared}{H:Hp}(e:Env0 P w K mg base A outer s H)(C:Addr)(us:List Value)(kw:List (Str×Value)):
  Env0 P w K mg base (A.under (.builtin "type.__call__" ⟨.ref C::us,kw⟩)) outer s H:=⟨by first|exact e.frames| (simpa[Around.under,Code.envs,Code.isFrame,pushEnvs] using e.frames),e.mod,e.bs,e.bsz,e.funs,e.frf,e.hok,e.bare⟩
section
variable{X:Cx}{pins:List (Addr×Obj)}{σ:St}{H:Hp}{s s':Shared}
theorem Inv.env0(I:Inv X pins σ H s):Env0 X.prog X.w X.K X.mg X.base X.A X.stack s H:=
 ⟨I.ok.frames,I.ok.mod,I.bs,Nat.le_trans I.ok.bsz I.sz,I.stack,I.stkFree,I.hok,I.bare⟩
theorem Inv.after{Q:VK}{u:Value}(I:Inv X pins σ H s)(h:CE X.stack X.prog X.w H s Q u s'):EP X pins σ Q u s':=by
 obtain⟨v,H',os,bare,un,hok,r,q⟩:=h
 obtain⟨hh,g,d,t,os'⟩:=s'
 obtain rfl:os'=s.os:=os
 exact⟨v,H',I.call (h':=hh) (g':=g) (d':=d) (t':=t) (ch:=[]) un hok bare (fun b z=>absurd z (by simp)),r,q⟩
end
def Binds(K:PySem.W.Frag)(fd:FuncData)(ps:List Str)(ds:List Value):Prop:=
 ∀(s:Shared) (us:List Value),K.In s.heap→(us++ds).length=ps.length→BindsTo s fd ⟨us,[]⟩ (ps.zip (us++ds))
theorem Binds.all{K:PySem.W.Frag}{fd:FuncData}{ps:List Str}(h:∀us:List Value,us.length=ps.length→bindArgs fd ⟨us,[]⟩=pure (ps.zip us)):Binds K fd ps []:=fun s us _ hl=>by
 rw[List.append_nil] at hl ⊢
 exact .of_eq (h us hl)
section
variable{X:Cx}{CX:OX}{k:Nat}{f C:Addr}{fd:FuncData}{ps:List Str}{sp:Sp}{dvs:List V}{ds:List Value}{E:XK}{x m:Str}{p pos apos:Pos}{e o:Expr}{es:List Expr}{ta:TE}{t:TA}
end
section
variable{X:Cx}{CX:OX}{k:Nat}{f C:Addr}{fd:FuncData}{ps ks:List Str}{sp:Sp}{E:XK}{x m:Str}{p pos apos kpos:Pos}{e o:Expr}{es:List Expr}{kws:List Keyword}{te ta:TE}{t tk:TA}{nm:Option Str}
variable{g:List Value→List Value→List Value}{gV:List V→List V→List V}
end
structure FnScope(N P:List Str)(sc:Scope):Prop where
 kind:sc.kind=.function
 co:sc.isCoroutine=false
 gen:sc.isGenerator=false
 nd:N.Nodup
 pre:N.take P.length=P
 par:∀x∈P,sc.names.lookup x=some .local∨sc.names.lookup x=some .cell
 nofree:∀y∈sc.names,y.2≠.free
theorem HX{kindOf:Str→Option NameKind}{x:Str}:∀{binds:List (Str×Value)} {m:Str→Option Value},(∀v,(x,v)∉binds)→bindL kindOf binds m x=m x
 | [],_,_=>rfl
 | (n,v)::r,m,h=>by
  unfold bindL
  rw[HX fun w hw=>h w (List.mem_cons_of_mem _ hw)]
  split
  ·have:x≠n:=by rintro rfl;exact h v List.mem_cons_self
   simp[this]
  ·rfl
theorem HY{kindOf:Str→Option NameKind}{x:Str}:∀{binds:List (Str×Value)} {m:Str→Option Value},(∀v,(x,v)∉binds)→bindC kindOf binds m x=m x
 | [],_,_=>rfl
 | (n,v)::r,m,h=>by
  unfold bindC
  rw[HY fun w hw=>h w (List.mem_cons_of_mem _ hw)]
  split
  ·rfl
  ·have:x≠n:=by rintro rfl;exact h v List.mem_cons_self
   simp[this]
theorem HZ{kindOf:Str→Option NameKind}{x:Str}{v:Value}:∀{P:List Str} {vs:List Value} {i:Nat} {m:Str→Option Value},P.Nodup→P[i]?=some x→vs[i]?=some v→kindOf x=some .local→
  bindL kindOf (P.zip vs) m x=some v
 | [],_,_,_,_,h,_,_=>by simp at h
 |_::_,[],_,_,_,_,h,_=>by simp at h
 |p::P,w::vs,0,m,nd,h1,h2,hk=>by
  simp at h1 h2;subst h1;subst h2
  show bindL kindOf ((p,w)::P.zip vs) m p=_
  unfold bindL
  rw[HX fun v hv=> (List.nodup_cons.mp nd).1 (List.of_mem_zip hv).1,if_pos hk]
  simp
 |p::P,w::vs,i+1,m,nd,h1,h2,hk=>by
  show bindL kindOf ((p,w)::P.zip vs) m x=_
  unfold bindL
  exact HZ (i:=i) (List.nodup_cons.mp nd).2 (by simpa using h1) (by simpa using h2) hk
theorem Ha{kindOf:Str→Option NameKind}{x:Str}{v:Value}:∀{P:List Str} {vs:List Value} {i:Nat} {m:Str→Option Value},P.Nodup→P[i]?=some x→vs[i]?=some v→kindOf x≠some .local→
  bindC kindOf (P.zip vs) m x=some v
 | [],_,_,_,_,h,_,_=>by simp at h
 |_::_,[],_,_,_,_,h,_=>by simp at h
 |p::P,w::vs,0,m,nd,h1,h2,hk=>by
  simp at h1 h2;subst h1;subst h2
  show bindC kindOf ((p,w)::P.zip vs) m p=_
  unfold bindC
  rw[HY fun v hv=> (List.nodup_cons.mp nd).1 (List.of_mem_zip hv).1,if_neg hk]
  simp
 |p::P,w::vs,i+1,m,nd,h1,h2,hk=>by
  show bindC kindOf ((p,w)::P.zip vs) m x=_
  unfold bindC
  exact Ha (i:=i) (List.nodup_cons.mp nd).2 (by simpa using h1) (by simpa using h2) hk
def start(N:List Str)(vs:List V):St:=vs.map some++List.replicate (N.length-vs.length) none
def Be(CX:OX)(P:Program)(w:World)(K:PySem.W.Frag)(mg:Str→Option Value)(base:Heap)(N:List Str)(qual:Str)(scope:Scope)(f:Addr)(cd:Value)(A:Around)(outer:List Env)(s:Shared)(H:Hp)(E:XK):Cx where
 prog:=P
 w:=w
 K:=K
 mg:=mg
 base:=base
 A:=A.deeper (envOfC qual scope s.heap.objs.size f cd)
 N:=N
 s₀:=s
 H₀:=H
 env:=envOfC qual scope s.heap.objs.size f cd
 outer:=outer
 stack:=envOfC qual scope s.heap.objs.size f cd::outer
 ex:=[]
 calm:=true
 fn:=fun _=>true
 pn:=[]
 xe:=fun e s'=>wpAny (model P w) (A.deeper (envOfC qual scope s.heap.objs.size f cd)) (leaving (envOfC qual scope s.heap.objs.size f cd) e) (fun _ s''=>CX outer H s E e s'') (fun e' s''=>CX outer H s E e' s'') s'
theorem JV{sc:Scope}{n:Nat}{x:Str}(h:sc.names.lookup x=some .cell):∃c,(cellsFrom n sc.names []).lookup x=some c:=by
 have q:=PySem.W.cellsFrom_some sc.names n [] (.inl h)
 exact Option.isSome_iff_exists.mp q
theorem Hb{CX:OX}{P:Program}{w:World}{K:PySem.W.Frag}{mg:Str→Option Value}{base:Heap}{N ps:List Str}{qual:Str}{scope:Scope}{f:Addr}{cd:Value}{A:Around}{outer:List Env}{s s1:Shared}{H:Hp}{E:XK}{us:List Value}{vs:List V}
  (S:FnScope N ps scope) (hd:A.handled=none) (e0:Env0 P w K mg base A outer s H) (hl:vs.length=ps.length) (r:Vals vs us)
  (x:InCallC s s.heap.objs.size (bindL (envOfC qual scope s.heap.objs.size f cd).kindOf (ps.zip us) fun _=>none) (cellsFrom (s.heap.objs.size+1) scope.names []) (bindC (envOfC qual scope s.heap.objs.size f cd).kindOf (ps.zip us) fun _=>none) s1):
  Inv (Be CX P w K mg base N qual scope f cd A outer s H E) [] (start N vs) H s1:=by
 have hpl:ps.length≤N.length:=by have:=congrArg List.length S.pre;rw[List.length_take] at this;omega
 obtain⟨h1,tk,rfl,hk⟩:=x.done
 have noA:∀b:Addr,b∉(Be CX P w K mg base N qual scope f cd A outer s H E).ex:=fun b z=>absurd (show b∈([]:List Addr) from z) (by simp)
 refine⟨⟨e0.mod,S.kind,rfl,rfl,Nat.le_refl _,fun y z c h1 h2=>?_,fun y hy=>?_,fun y c _ h=>?_,fun _=>hd,Around.frames_deeper e0.frames,.inr ⟨rfl,rfl⟩,fun b z=>absurd z (noA b),e0.bs,e0.bsz,fun b _ _=>noA b,fun b z=>absurd z (noA b),e0.funs,e0.frf⟩,
  rfl,e0.bare,Un.kept hk,⟨_,x.toInCall.ns,fun i y v h1 h2 h3=>?_⟩,fun y c h=> ⟨_,x.cell y c h⟩,e0.hok.fresh (Nat.le_refl _),fun y c h=>?_,fun p hp=>absurd (show p∈([]:List (Addr×Obj)) from hp) (by simp),e0.hok.kept hk,?_⟩
 ·exact name_of_addr x.apart (PySem.mem_of_lookup h1) (PySem.mem_of_lookup h2)
 ·have hy:scope.names.lookup y=some .cell∨scope.names.lookup y=some .free:=hy
  rcases hy with hy|hy
  ·exact JV hy
  ·exact absurd rfl (S.nofree _ (PySem.mem_of_lookup hy))
 ·exact Nat.le_of_lt (x.above y c (PySem.mem_of_lookup h))
 ·have hi:i<vs.length:=by
   unfold start at h2
   by_cases hi:i<vs.length
   ·exact hi
   ·rw[List.getElem?_append_right (by simpa using hi)] at h2
    rw[List.getElem?_replicate] at h2
    split at h2<;>cases h2
  have ha:vs[i]?=some v:=by
   unfold start at h2
   rw[List.getElem?_append_left (by simpa using hi),List.getElem?_map] at h2
   cases e:vs[i]? with
   |none=>rw[e] at h2;cases h2
   |some a=>rw[e] at h2;cases h2;rfl
  obtain⟨u,hu,rv⟩:=r.get ha
  have hp:ps[i]?=some y:=by
   rw[←S.pre,List.getElem?_take_of_lt (by omega)];exact h1
  have ndP:ps.Nodup:=by rw[←S.pre];exact S.nd.sublist (List.take_sublist _ _)
  refine⟨u,rv,?_⟩
  rcases S.par y (List.mem_of_getElem? hp) with k|k
  ·exact .inl ⟨k,HZ ndP hp hu k⟩
  ·obtain⟨c,e⟩:=JV (n:=s.heap.objs.size+1) k
   refine .inr ⟨.inl k,c,e,?_⟩
   have q:=x.cell y c e
   rw[Ha ndP hp hu (by show scope.names.lookup y≠_;rw[k];decide)] at q
   exact q
 ·exact e0.hok.fresh (Nat.le_of_lt (x.above y c (PySem.mem_of_lookup h)))
 ·unfold start
  show _=N.length
  rw[List.length_append,List.length_map,List.length_replicate]
  omega
theorem YW{CX:OX}{P:Program}{w:World}{K:PySem.W.Frag}{mg:Str→Option Value}{base:Heap}{k:Nat}{f:Addr}{name qual:Str}{params:Arguments}{body:List Stmt}{scope:Scope}{dV kV doc pm cdv ct oc:Value}{an od:Option Addr}
  {osl:Array (Option Value)} {N ps:List Str} {sp:Sp} (lk:K.lookup f=some ⟨oc,od,.func (PySem.W.fnOf name qual params body scope dV kV doc pm an cdv ct),osl⟩) (hcd:PySem.W.codeIn K cdv qual=true) (S:FnScope N ps scope)
  (len:∀vs H Q E,sp vs H Q E→vs.length=ps.length)
  (hbody:∀(A:Around) (outer:List Env) (s:Shared) (H:Hp) (vs:List V) (Q:VK) (E:XK),Room k (A.deeper (envOfC qual scope s.heap.objs.size f cdv))→sp vs H Q E→
   ∃t,PSs (Be CX P w K mg base N qual scope f cdv A outer s H E) body t∧t {nx:=fun _ H'=>Q .non H',rt:=Q} (start N vs) H):
  FnOk P w K mg base CX (k+1) f (PySem.W.fnOf name qual params body scope dV kV doc pm an cdv ct) ps sp:=by
 refine⟨len,fun A outer s H args us vs Q E hr e0 hb r hsp=>?_⟩
 have hl:=len _ _ _ _ hsp
 have KX:K.In s.heap:=e0.mod.kin.keeps fun b o e=> (e0.bs b o e).1
 have lim:s.heap.NoLimit:=e0.mod.nolimit.keeps fun b o e=> (e0.bs b o e).1
 have hkind:∀y∈ps.zip us,scope.names.lookup y.1=some .local∨(scope.names.lookup y.1=some .cell∧((cellsFrom (s.heap.objs.size+1) scope.names []).lookup y.1).isSome=true):=fun⟨n,v⟩ hy=>by
  rcases S.par n (List.of_mem_zip hy).1 with q|q
  ·exact .inl q
  ·exact .inr ⟨q,PySem.W.cellsFrom_some _ _ _ (.inl q)⟩
 refine codeAny_call_function hr.depth (KX _ _ lk) rfl S.co S.gen rfl (PySem.W.codeRec_of KX hcd) (hb _ _ _ _ ?_)
 refine wpAny_newFunctionEnv_cells S.kind hkind fun env he s1 x=>?_
 subst he
 refine⟨lim.keeps x.toInCall.keep,codeAny_func ?_⟩
 obtain⟨t,ht,hq⟩:=hbody A outer s H vs Q E (hr.deeper _) hsp
 have I:Inv (Be CX P w K mg base N qual scope f cdv A outer s H E) [] (start N vs) H s1:=Hb S hr.hd e0 hl r x
 refine wpAny_mono (ht [] s1 (start N vs) H _ I hq) (fun fl s' hs=>?_) fun e s' hs=>hs
 have fin:∀{σ':St} {H':Hp} {v:V} {u:Value},Inv (Be CX P w K mg base N qual scope f cdv A outer s H E) [] σ' H' s'→RelV v u→Q v H'→CE outer P w H s Q u s':=
  fun{σ' H' v u} J rv q=> ⟨v,H',J.os,J.bare,J.base,J.hok,rv,q⟩
 cases fl with
 |ret u=>
  obtain⟨v,σ',H',J,rv,q⟩:=hs
  exact fin J rv q
 |next=>
  obtain⟨σ',H',J,q⟩:=hs
  exact fin (v:=V.non) (u:=Value.none) J rfl q
 |brk=>
  obtain⟨_,_,_,q⟩:=hs
  exact False.elim q
 |cont=>
  obtain⟨_,_,_,q⟩:=hs
  exact False.elim q
section
variable{X:Cx}{x:Str}{p pos:Pos}{e:Expr}{es:List Expr}{t:TA}{id T:String}{r:List V→Hp→VK→Prop}
def bw(r:List V→Hp→VK→Prop)(t:TA):TE:=fun σ H Q=>t σ H fun vs H1=>r vs H1 Q
theorem Ar(hc:Aw X (.builtin id) r)(hg:Gl X x)(hm:X.mg x=none)(hv:bootBuiltins x=some (.builtin id))(ha:PA X (e::es) t)(hn:x≠"__name__":=by decide)(hdb:(x==("__debug__" :Str))=false:=by decide)
  (he:starEach (e::es) X.env=(false,eval e X.env)::starEach es X.env:=by rfl) (hpl:(backTo pos (starEach es X.env)).any (·.1)=false:=by rfl):PE X (.Call (.Name x p) (e::es) [] pos) (bw r t):=by
 intro pins s σ H Q I h
 refine wpAny_Call_Name_kw (Ej I hg hm hv ?_ hn hdb)
 exact PyProof.Rows.callWith_builtin1 (Ae (ha pos pins s σ H _ I h) fun us s1 ⟨vs,H1,I1,r1,q1⟩=>hc pins s1 σ H1 vs us Q I1 r1 q1) he hpl
theorem Em(hc:Aw X (.type T) r)(hg:Gl X x)(hm:X.mg x=none)(hv:bootBuiltins x=some (.type T))(ha:PA X (e::es) t)(hn:x≠"__name__":=by decide)(hdb:(x==("__debug__" :Str))=false:=by decide)
  (he:starEach (e::es) X.env=(false,eval e X.env)::starEach es X.env:=by rfl) (hpl:(backTo pos (starEach es X.env)).any (·.1)=false:=by rfl):PE X (.Call (.Name x p) (e::es) [] pos) (bw r t):=by
 intro pins s σ H Q I h
 refine wpAny_Call_Name_kw (Ej I hg hm hv ?_ hn hdb)
 exact PyProof.Rows.callWith_type1 (Ae (ha pos pins s σ H _ I h) fun us s1 ⟨vs,H1,I1,r1,q1⟩=>hc pins s1 σ H1 vs us Q I1 r1 q1) he hpl
end
end L2
namespace HT
open PySem PyProof.Rows
def BE:List Int→List Int→Bool
 | [],[]=>false
 | [],_::_=>true
 |_::_,[]=>false
 |x::xs,y::ys=>if x=y then BE xs ys else decide (x<y)
theorem Bf(x y:Int)(xs ys:List Int):BE (x::xs) (y::ys)=if x=y then BE xs ys else decide (x<y):=rfl
theorem HD:BE [] []=false:=rfl
theorem Fy(y:Int)(ys:List Int):BE [] (y::ys)=true:=rfl
theorem Fz(x:Int)(xs:List Int):BE (x::xs) []=false:=rfl
theorem JW(A:Around)(s:Shared)(a:Int)(t:Tok)(c:Int)(u:Tok):∃e,SeqAt.EqAt A s (.int a t) (.int c u) e∧(e=true↔a=c):=
 ⟨(a==c),SeqAt.EqAt.int_int a t c u,by simp⟩
theorem Ov(A:Around)(s:Shared)(a:Int)(t:Tok)(c:Int)(u:Tok)(prog:Program)(w:World)(E:Value→Shared→Prop)(Q:Value→Shared→Prop)(h:Q (.bool (decide (a<c))) s):
  wpAny (model prog w) A (richCompare .Lt (.int a t) (.int c u)) Q E s:=
 (PyProof.Rows.lt_int h:wpAny (model prog w) A (compareOp .Lt (.int a t) (.int c u)) Q E s)
section
open PySem.SeqAt
open PySem.AutoSeq1 (wpAny_loadPart')
open PySem.MeetsSeq PySem.MeetsSeq2 PySem.MeetsSeq3
theorem HE(l b:Addr)(items items2:Array Value)(n n2:Nat)(dd dd2:Option Addr)(sl sl2:Array (Option Value))(ns ms:List Int)(hi:IntsAre items.toList ns)(hj:IntsAre items2.toList ms):
  Meets (Builtin.«tuple.__lt__» ⟨[.ref l,.ref b],[]⟩)
   (fun _ R s=>s.heap.get? l=some {cls:=.type "tuple",dict:=dd,data:=.seq items n,slots:=sl}∧s.heap.get? b=some {cls:=.type "tuple",dict:=dd2,data:=.seq items2 n2,slots:=sl2}∧
    R (.ok (.ret (.bool (BE ns ms)))) s):=
 .of_wp fun prog w A R s h=>by
  obtain⟨hp,g,d,tk,os⟩:=s;obtain⟨hl,hb,h⟩:=h
  have f2:=AutoSeq1.sub_tuple_tuple
  have z1:items.size=ns.length:=by rw[←hi.length];simp
  have z2:items2.size=ms.length:=by rw[←hj.length];simp
  wp_walk using wpAny_loadPart' hl,wpAny_loadPart' hb,wpAny_forIn_list _ (fun rest b s'=>b.1=none∧s'=⟨hp,g,d,tk,os⟩∧∃(vs ws:List Value) (ns' ms':List Int),rest=vs.zip ws∧
   IntsAre vs ns'∧IntsAre ws ms'∧ns'.length+items2.size=ms'.length+items.size∧R (.ok (.ret (.bool (BE ns' ms')))) ⟨hp,g,d,tk,os⟩) _
  case turn=>
   rintro⟨y,x⟩ rest b s' ⟨hb',rfl,vs,ws,ns',ms',hz,hvi,hwi,hlen,hR⟩
   cases hvi with
   |nil=>rw[List.zip_nil_left] at hz;cases hz
   |cons a t hvi'=>
    cases hwi with
    |nil=>rw[List.zip_nil_right] at hz;cases hz
    |cons c u hwi'=>
     rw[List.zip_cons_cons] at hz
     injection hz with hyx hrest
     injection hyx with hy hx
     subst hy hx
     rw[Bf] at hR
     simp only[List.length_cons] at hlen
     obtain⟨e,he,hiff⟩:=JW A.in1 ⟨hp,g,d,tk,os⟩ a t c u
     refine wpAny_bind (he prog w _ _ ?_)
     cases e with
     |true=>
      rw[if_pos (hiff.mp rfl)] at hR
      wp_walk
      exact⟨rfl,rfl,_,_,_,_,hrest,hvi',hwi',by omega,hR⟩
     |false=>
      rw[if_neg (fun q=>absurd (hiff.mpr q) Bool.false_ne_true)] at hR
      have hri:=Ov A.in1 ⟨hp,g,d,tk,os⟩ a t c u prog w
      wp_walk using hri
      exact⟨_,rfl,by simpa using hR⟩
  case fin=>
   rintro⟨b1,b2⟩ s' ⟨hb',rfl,vs,ws,ns',ms',hz,hvi,hwi,hlen,hR⟩
   simp only at hb'
   subst hb'
   have hv:BE ns' ms'=decide (items.size<items2.size):=by
    cases hvi with
    |nil=>
     cases hwi with
     |nil=>
      simp only[List.length_nil] at hlen
      rw[HD]
      exact(decide_eq_false (by omega)).symm
     |cons c u hw=>
      simp only[List.length_nil,List.length_cons] at hlen
      rw[Fy]
      exact(decide_eq_true (by omega)).symm
    |cons a t hv=>
     cases hwi with
     |nil=>
      simp only[List.length_nil,List.length_cons] at hlen
      rw[Fz]
      exact(decide_eq_false (by omega)).symm
     |cons c u hw=>
      rw[List.zip_cons_cons] at hz
      cases hz
   rw[hv] at hR
   wp_walk
   exact⟨_,rfl,by simpa[Builtin.Tuple.tupleCompareSizes] using hR⟩
  case h=>
   exact⟨rfl,rfl,items.toList,items2.toList,ns,ms,rfl,hi,hj,by omega,h⟩
end
section
variable{prog:Program}{w:World}{A:Around}{E:Value→Shared→Prop}{s:Shared}
theorem Kq{l b:Addr}{items items2:Array Value}{ns ms:List Int}{Q:Value→Shared→Prop}(hl:IsTup s.heap l items)(hb:IsTup s.heap b items2)(hi:IntsAre items.toList ns)(hj:IntsAre items2.toList ms)
  (hu:A.units<cLine) (h:Q (.bool (BE ns ms)) s):wpAny (model prog w) A (compareOp .Lt (.ref l) (.ref b)) Q E s:=by
 obtain⟨⟨cls,dd,data,sl⟩,ho,hc,n,hd⟩:=id hl
 obtain⟨⟨cls2,dd2,data2,sl2⟩,ho2,hc2,n2,hd2⟩:=id hb
 simp only at hc hd hc2 hd2
 subst hc hd hc2 hd2
 exact richCompare_meets_room (op:=.Lt) ⟨_,ho,rfl⟩ ⟨_,ho2,rfl⟩ PySem.F.slot_tuple_lt PySem.F.entry_tuple_lt (PySem.F.args_tuple_lt_2 _ _) (HE l b items items2 n n2 dd dd2 sl sl2 ns ms hi hj)
  ⟨ho,ho2,show Value.bool (BE ns ms)≠Value.notImplemented∧Q (.bool (BE ns ms)) s from⟨(fun x=>nomatch x),h⟩⟩ hu
def En(n d:Nat):Option Int→Nat
 |none=>d
 |some v=>if v<0 then(v+(n:Int)).toNat else min v.toNat n
theorem JX(n d:Nat):En n d none=d:=rfl
theorem SR(n d k:Nat):En n d (some (k:Int))=min k n:=by
 show(if(k:Int)<0 then((k:Int)+(n:Int)).toNat else min (k:Int).toNat n)=min k n
 rw[if_neg (by omega),Int.toNat_natCast]
end
end HT
namespace L2
open PySem PySem.Spec PyProof.Rows
abbrev TO:=St→Hp→(Option Int→Hp→Prop)→Prop
def PO(X:Cx)(e:Option Expr)(t:TO):Prop:=
 ∀(pins:List (Addr×Obj)) (s:Shared) (σ:St) (H:Hp) (Q:Option Int→Hp→Prop),Inv X pins σ H s→t σ H Q→
  wpAny (model X.prog X.w) X.A (evalPart e X.env) (fun u s'=>∃o H',Inv X pins σ H' s'∧IsPart u o∧Q o H') X.xe s
def SS:TO:=fun _ H Q=>Q none H
def YX(t:TE):TO:=fun σ H Q=>t σ H fun x H1=>∃i,x=.int i∧Q (some i) H1
theorem Bg{ns:List Int}:∀{us:List Value},Vals (ns.map V.int) us→IntsAre us ns:=by
 induction ns with
 |nil=>intro us r;rw[List.map_nil] at r;cases r;exact .nil
 |cons n ns ih=>
  intro us r
  rw[List.map_cons] at r
  cases r with
  |cons r1 r2=>
   obtain⟨t,e⟩:=r1
   subst e
   exact .cons n t (ih r2)
section
variable{X:Cx}{e:Expr}{te:TE}{lo hi:Option Expr}{tl th:TO}{pos p2:Pos}
theorem Dc:PO X none SS:=by
 intro pins s σ H Q I h
 rw[evalPart_none]
 exact wpAny_pure ⟨none,H,I,.none,h⟩
theorem Bw(h:PE X e te):PO X (some e) (YX te):=by
 intro pins s σ H Q I hw
 rw[evalPart_some]
 refine Ae (h pins s σ H _ I hw) fun u s1 ⟨x,H1,I1,r1,q1⟩=>?_
 obtain⟨i,rfl,q⟩:=q1
 obtain⟨t,rfl⟩:=r1
 exact⟨some i,H1,I1,.int i t,q⟩
def az(X:Cx)(r:V→Option Int→Option Int→Hp→VK→Prop):Prop:=
 ∀(pins:List (Addr×Obj)) (s:Shared) (σ:St) (H:Hp) (x:V) (v vl vu:Value) (lo hi:Option Int) (sl:Addr) (Q:VK),Inv X pins σ H s→RelV x v→s.heap.IsSliceOf sl vl vu .none→IsPart vl lo→IsPart vu hi→r x lo hi H Q→
  ∃T id,typeLookup (.type T) "__getitem__" =pure (some (.builtin id))∧s.TypeIs v T∧wpAny (model X.prog X.w) X.A (getItem v (.ref sl)) (EP X pins σ Q) X.xe s
def cO(r:V→Option Int→Option Int→Hp→VK→Prop)(te:TE)(tl th:TO):TE:=fun σ H Q=>te σ H fun x H1=>tl σ H1 fun l H2=>th σ H2 fun u H3=>r x l u H3 Q
theorem Bh{r:V→Option Int→Option Int→Hp→VK→Prop}(hr:az X r)(he:PE X e te)(hl:PO X lo tl)(hu:PO X hi th):PE X (.Subscript e (.Slice lo hi none p2) pos) (cO r te tl th):=by
 intro pins s σ H Q I h
 refine Subscript_ (Ae (he pins s σ H _ I h) fun v s1 ⟨x,H1,I1,r1,q1⟩=>?_)
 refine wpAny_Slice (Ae (hl pins s1 σ H1 _ I1 q1) fun vl s2 ⟨l,H2,I2,pl,q2⟩=>Ae (hu pins s2 σ H2 _ I2 q2) fun vu s3 ⟨u,H3,I3,pu,q3⟩=>?_)
 rw[evalPart_none]
 refine wpAny_pure ?_
 have I4:Inv X pins σ H3 {s3 with heap:=s3.heap.push {cls:=.type "slice",data:=.fields #[vl,vu,.none]}}:=I3.kept (t':=s3.toks) fun b ob q=>Heap.get?_push_of_some _ q
 obtain⟨T,id,hT,ht,hg⟩:=hr pins {s3 with heap:=s3.heap.push {cls:=.type "slice",data:=.fields #[vl,vu,.none]}} σ H3 x v vl vu l u s3.heap.objs.size Q I4 r1 (Heap.IsSliceOf.new ..) pl pu q3
 show wpAny (model X.prog X.w) X.A (subscriptTail e (.Slice lo hi none p2) v (.ref s3.heap.objs.size)) (EP X pins σ Q) X.xe {s3 with heap:=s3.heap.push {cls:=.type "slice",data:=.fields #[vl,vu,.none]}}
 exact tail_any (ops:=[.ref s3.heap.objs.size,v]) ht hT hg (by with_unfolding_all rfl)
def JY(xs:List V)(lo hi:Option Int):List V:=(xs.drop (HT.En xs.length 0 lo)).take (HT.En xs.length xs.length hi-HT.En xs.length 0 lo)
theorem JZ(xs:List V)(lo hi:Option Int):(JY xs lo hi).length≤xs.length:=by
 unfold JY
 rw[List.length_take,List.length_drop]
 omega
def YY(K:PySem.W.Frag):R2:=fun x y H Q=>∃a b ns ms,x=.ref a∧y=.ref b∧Fs K H a (ns.map V.int)∧Fs K H b (ms.map V.int)∧Q (.bl (HT.BE ns ms)) H
theorem Vh(hu:X.A.units<cLine):Bv X (compareOp .Lt) (YY X.K):=by
 intro pins s σ H x y v u Q I rx ry h
 obtain⟨a,b,ns,ms,rfl,rfl,ha,hb,q⟩:=h
 cases rx
 cases ry
 obtain⟨its,r1,p1,_⟩:=I.tuple ha
 obtain⟨its2,r2,p2,_⟩:=I.tuple hb
 have i1:IntsAre its.toArray.toList ns:=Bg r1
 have i2:IntsAre its2.toArray.toList ms:=Bg r2
 exact HT.Kq p1 p2 i1 i2 hu ⟨.bl (HT.BE ns ms),H,I,rfl,q⟩
end
def Kr(n:Nat)(i:Int):Option Nat:=if 0≤i then(if i<n then some i.toNat else none) else if-(n:Int)≤i then some (i+n).toNat else none
def atI{α:Type}(xs:List α)(i:Int):Option α:=(Kr xs.length i).bind fun j=>xs[j]?
theorem MS{n:Nat}{i:Int}{j:Nat}(h:Kr n i=some j):seqIndex? i n=some j∧j<n∧-(n:Int)≤i∧i<n:=by
 unfold Kr at h
 by_cases h0:0≤i
 ·rw[if_pos h0] at h
  by_cases h1:i<n
  ·rw[if_pos h1] at h
   have e:i.toNat=j:=Option.some.inj h
   exact⟨by rw[seqIndex_of h0 h1,e],by omega,by omega,h1⟩
  ·rw[if_neg h1] at h;cases h
 ·rw[if_neg h0] at h
  by_cases h1: -(n:Int)≤i
  ·rw[if_pos h1] at h
   have e:(i+n).toNat=j:=Option.some.inj h
   exact⟨by rw[seqIndex_neg (by omega) h1,e],by omega,h1,by omega⟩
  ·rw[if_neg h1] at h;cases h
theorem IT{α:Type}{xs:List α}{i:Int}{v:α}(h:atI xs i=some v):∃j,seqIndex? i xs.length=some j∧xs[j]?=some v∧j<xs.length∧-(xs.length:Int)≤i∧i<xs.length:=by
 unfold atI at h
 cases e:Kr xs.length i with
 |none=>rw[e] at h;cases h
 |some j=>
  rw[e] at h
  obtain⟨h1,h2,h3,h4⟩:=MS e
  exact⟨j,h1,h,h2,h3,h4⟩
theorem BP{α:Type}{xs:List α}{j:Nat}{v:α}(h:xs[j]?=some v):atI xs (j:Int)=some v:=by
 have hj:j<xs.length:=(List.getElem?_eq_some_iff.mp h).1
 have e:Kr xs.length (j:Int)=some j:=by
  unfold Kr
  rw[if_pos (by omega),if_pos (by omega)];simp
 unfold atI;rw[e];exact h
theorem Ow{α:Type}(xs:List α)(v:α):atI (xs++[v]) (-1)=some v:=by
 have hl:(xs++[v]).length=xs.length+1:=by simp
 have e:Kr (xs++[v]).length (-1)=some xs.length:=by
  unfold Kr
  rw[hl,if_neg (by decide),if_pos (by omega)]
  congr 1
  omega
 unfold atI
 rw[e]
 show(xs++[v])[xs.length]?=some v
 simp
def Ce(b:Expr):Prop:=∀o i,subscripted b false o i=operate [o,i] (getItem o i)
def Xs(X:Cx)(r:R2):Prop:=
 ∀(value slice:Expr) (pins:List (Addr×Obj)) (s:Shared) (σ:St) (H:Hp) (x y:V) (v u:Value) (Q:VK),Inv X pins σ H s→RelV x v→RelV y u→r x y H Q→
  subscripted slice false v u=operate [v,u] (getItem v u)→wpAny (model X.prog X.w) X.A (subscriptTail value slice v u) (EP X pins σ Q) X.xe s
def bA(X:Cx)(id:String)(r:V→List V→Hp→VK→Prop):Prop:=
 ∀(pins:List (Addr×Obj)) (s:Shared) (σ:St) (H:Hp) (x:V) (xs:List V) (v:Value) (us:List Value) (Q:VK),Inv X pins σ H s→RelV x v→Vals xs us→r x xs H Q→
  wpAny (model X.prog X.w) X.A (call (.builtin id) (v::us)) (EP X pins σ Q) X.xe s
section
variable{X:Cx}{a b:Expr}{ta tb:TE}{pos:Pos}
theorem Ox{r:R2}(hr:Xs X r)(ha:PE X a ta)(hb:PE X b tb)(hs:Ce b):PE X (.Subscript a b pos) (YM r ta tb):=by
 intro pins s σ H Q I h
 exact Subscript_ (Va ha hb I h fun v u s2 x y H2 I2 rx ry q=>hr a b pins s2 σ H2 x y v u Q I2 rx ry q (hs _ _))
def Vi(K:PySem.W.Frag):R2:=fun x y H Q=>∃p xs i v,x=.ref p∧y=.int i∧SqL K H p xs∧atI xs i=some v∧Q v H
def YZ(K:PySem.W.Frag):R2:=fun x y H Q=>∃p xs i v,x=.ref p∧y=.int i∧Fs K H p xs∧atI xs i=some v∧Q v H
def bB:R2:=fun x y H Q=>∃z i c,x=.str z∧y=.int i∧z.length≤sizeLine∧atI z.cps.toList i=some c∧Q (.str ⟨#[c]⟩) H
theorem Bx:Xs X (Vi X.K):=by
 intro value slice pins s σ H x y v u Q I rx ry h hs
 obtain⟨p,xs,i,z,rfl,rfl,hq,he,q⟩:=h
 cases rx
 obtain⟨t,rfl⟩:=ry
 obtain⟨its,r,pl,hz⟩:=I.list hq
 obtain⟨j,h1,h2,h3,h4,h5⟩:=IT he
 obtain⟨w,ew,rw'⟩:=r.get h2
 have hl:=r.length
 have hn:=DM
 have fin:EP X pins σ Q w s:=⟨z,H,I,rw',q⟩
 by_cases h0:0≤i
 ·have hj:i.toNat=j:=by
   rw[seqIndex_of h0 h5] at h1
   exact Option.some.inj h1
  exact item_listR pl.isList h0 (by omega) (by rw[hj];simpa using ew) fin hs
 ·have hj:(i+(its.toArray.size:Int)).toNat=j:=by
   rw[seqIndex_neg (by omega) h4] at h1
   rw[List.size_toArray,←hl]
   exact Option.some.inj h1
  exact subscriptTail_builtinR (x:=w) pl.isList.typeIs slot_list_getitem.lookup
   (wpAny_getItem_list_neg (Q:=fun r s'=>r=w∧EP X pins σ Q r s') pl.isList (by omega) (by rw[List.size_toArray]<;>omega) (by omega) (by rw[hj];simpa using ew) ⟨rfl,fin⟩) hs
theorem Vj:Xs X (YZ X.K):=by
 intro value slice pins s σ H x y v u Q I rx ry h hs
 obtain⟨p,xs,i,z,rfl,rfl,hq,he,q⟩:=h
 cases rx
 obtain⟨t,rfl⟩:=ry
 obtain⟨its,r,pl,hz⟩:=I.tuple hq
 obtain⟨j,h1,h2,h3,h4,h5⟩:=IT he
 obtain⟨w,ew,rw'⟩:=r.get h2
 have hl:=r.length
 have hn:=DM
 have fin:EP X pins σ Q w s:=⟨z,H,I,rw',q⟩
 exact subscriptTail_builtinR (x:=w) pl.typeIs slot_tuple_getitem.lookup
  (getItem_tuple (j:=j) (Q:=fun r s'=>r=w∧EP X pins σ Q r s') pl (by omega) (by omega) (by rw[List.size_toArray,←hl];exact h1) (by simpa using ew) ⟨rfl,fin⟩) hs
theorem Vk:Xs X bB:=by
 intro value slice pins s σ H x y v u Q I rx ry h hs
 obtain⟨z,i,c,rfl,rfl,hz,he,q⟩:=h
 obtain⟨t,rfl⟩:=rx
 obtain⟨t',rfl⟩:=ry
 obtain⟨j,h1,h2,h3,h4,h5⟩:=IT he
 have hl:z.cps.toList.length=z.length:=by simp[Str.length]
 rw[hl] at h1 h4 h5
 have hn:=DM
 exact tail_any (typeIs_str s z t) slot_str_getitem.lookup (getItem_str (c:=c) (by
  have e1:decide (i< -(2^63:Int))=false:=decide_eq_false (by omega)
  have e2:decide (i≥2^63)=false:=decide_eq_false (by omega)
  rw[e1,e2,Bool.or_false]) (by rw[h1];simpa using h2) ⟨.str ⟨#[c]⟩,H,I.tok _,⟨_,rfl⟩,q⟩) hs
theorem Ks(its:List Value)(n j:Nat)(u:Value):Obj.mapSeq (·.setIfInBounds j u) {cls:=.type "list",data:=.seq its.toArray n}={cls:=.type "list",data:=.seq (its.set j u).toArray n}:=by
 simp[Obj.mapSeq]
theorem Inv.lst{pins:List (Addr×Obj)}{σ:St}{H:Hp}{s:Shared}{p:Addr}{xs:List V}(I:Inv X pins σ H s)(h:H p=some (.lst xs)):
  ∃(its:List Value) (n:Nat),Vals xs its∧s.heap.get? p=some {cls:=.type "list",data:=.seq its.toArray n}∧xs.length≤sizeLine:=by
 obtain⟨z,its,n,r,e⟩:=I.hok p _ h
 exact⟨its,n,r,e,z⟩
theorem Inv.lstUpd{pins:List (Addr×Obj)}{σ:St}{H:Hp}{s:Shared}{p:Addr}{xs ys:List V}{its its':List Value}{n n':Nat}{f:Obj→Obj}(I:Inv X pins σ H s)(h:H p=some (.lst xs))
  (ho:s.heap.get? p=some {cls:=.type "list",data:=.seq its.toArray n}) (hf:f {cls:=.type "list",data:=.seq its.toArray n}={cls:=.type "list",data:=.seq its'.toArray n'}) (r:Vals ys its') (hz:ys.length≤sizeLine) (t:Nat):
  Inv X pins σ (upd H p (.lst ys)) {s with heap:=s.heap.update p f,toks:=t}:=by
 have e:(s.heap.update p f).get? p=some {cls:=.type "list",data:=.seq its'.toArray n'}:=by
  rw[Heap.get?_update_self f ho (by rw[hf]<;>rfl),hf]
 refine I.write (x:=p) (e:=p) (by rw[h];trivial) (.inl rfl) (fun b u hb q=> (Heap.get?_update_other _ _ (Ne.symm hb)).trans q) ⟨_,e⟩ ?_
 exact⟨hz,its',n',r,e⟩
def Yb:V→V→V→Hp→(Hp→Prop)→Prop:=fun o i v H Q=>∃p xs k j,o=.ref p∧i=.int k∧H p=some (.lst xs)∧Kr xs.length k=some j∧Q (upd H p (.lst (xs.set j v)))
theorem GA:YF X Yb:=by
 intro pins s σ H o i v ov iv u Q I ro ri rv h
 obtain⟨p,xs,k,j,rfl,rfl,hp,hj,q⟩:=h
 cases ro
 obtain⟨t,rfl⟩:=ri
 obtain⟨its,n,r,ho,hz⟩:=I.lst hp
 obtain⟨h1,h2,h3,h4⟩:=MS hj
 have hl:=r.length
 have hn:=DM
 have I':Inv X pins σ (upd H p (.lst (xs.set j v))) {s with heap:=s.heap.update p (Obj.mapSeq (·.setIfInBounds j u))}:=
  I.lstUpd hp ho (Ks its n j u) (r.set rv j) (by rw[List.length_set];exact hz) s.toks
 by_cases h0:0≤k
 ·have hk:k.toNat=j:=by
   rw[seqIndex_of h0 h4] at h1
   exact Option.some.inj h1
  exact PySem.W.ki_setAt ho h0 (by omega) (by rw[List.size_toArray,←hl];exact h4) (by rw[hk];exact⟨_,I',q⟩)
 ·have hk:(k+(its.toArray.size:Int)).toNat=j:=by
   rw[seqIndex_neg (by omega) h3] at h1
   rw[List.size_toArray,←hl]
   exact Option.some.inj h1
  exact PySem.W.ki_setBack ho (by omega) (by rw[List.size_toArray,←hl];exact h3) (by omega) (by rw[hk];exact⟨_,I',q⟩)
theorem IU(lo hi:Option Int)(n:Nat):(sliceBounds lo hi none n).1=((HT.En n 0 lo:Nat):Int)∧(sliceBounds lo hi none n).2.1=((HT.En n n hi:Nat):Int)∧(sliceBounds lo hi none n).2.2=1:=by
 refine⟨?_,?_,rfl⟩
 ·cases lo with
  |none=>simp[sliceBounds,HT.En]
  |some i=>
   simp only[sliceBounds,HT.En,Option.getD_none,show(1:Int)>0 by decide,if_true]
   by_cases h:i<0
   ·simp only[h,if_true]<;>omega
   ·simp only[h,if_false]<;>omega
 ·cases hi with
  |none=>simp[sliceBounds,HT.En]
  |some i=>
   simp only[sliceBounds,HT.En,Option.getD_none,show(1:Int)>0 by decide,if_true]
   by_cases h:i<0
   ·simp only[h,if_true]<;>omega
   ·simp only[h,if_false]<;>omega
theorem HF(its:List Value)(lo hi:Option Int):slicePick its.toArray lo hi none=((its.drop (HT.En its.length 0 lo)).take (HT.En its.length its.length hi-HT.En its.length 0 lo)).toArray:=by
 obtain⟨h1,h2,h3⟩:=IU lo hi its.toArray.size
 unfold slicePick
 rw[h1,h2,h3]
 simp only[sliceRange_one,pick_run,List.size_toArray]<;>rfl
def bD(K:PySem.W.Frag):V→Option Int→Option Int→Hp→VK→Prop:=fun x lo hi H Q=>∃a xs,x=.ref a∧SqL K H a xs∧∀p,H p=none→Q (.ref p) (upd H p (.lst (JY xs lo hi)))
theorem EC:az X (bD X.K):=by
 intro pins s σ H x v vl vu lo hi sl Q I rx hs pl pu h
 obtain⟨a,xs,rfl,hx,q⟩:=h
 cases rx
 obtain⟨its,r,ht,hz⟩:=I.list hx
 have hlen:=r.length
 refine⟨"list",_,slot_list_getitem.lookup,ht.isList.typeIs,?_⟩
 refine wpAny_getItem_list_slice ht.isList hs pl pu .none (by simp) ?_ (by rw[List.size_toArray]<;>omega)
 rw[HF,←hlen]
 refine⟨.ref s.heap.objs.size,_,I.laid (t':=s.toks) (o:=.lst (JY xs lo hi)) (fun b ob q=>Heap.get?_push_of_some _ q) (Nat.le_refl _) ?_,rfl,q _ (I.hok.fresh (Nat.le_refl _))⟩
 exact⟨Nat.le_trans (JZ xs lo hi) hz,_,0,(r.drop (HT.En xs.length 0 lo)).take (HT.En xs.length xs.length hi-HT.En xs.length 0 lo),Heap.get?_push_size _ rfl⟩
def Bj:V→Bool
 | .non=>true
 | .bl _=>true
 | .int _=>true
 | .str _=>true
 |_=>false
def FS:V→V→Bool
 | .non,.non=>true
 | .bl a,.bl b=>a==b
 | .bl a,.int b=> (if a then 1 else 0)==b
 | .int a,.bl b=>a==(if b then 1 else 0)
 | .int a,.int b=>a==b
 | .str a,.str b=>a==b
 |_,_=>false
theorem Oy{A:Around}{s:Shared}{y x:V}{u v:Value}(ry:RelV y u)(rx:RelV x v)(fy:Bj y=true)(fx:Bj x=true):SeqAt.EqAt A s u v (FS y x):=by
 cases y with
 |non=>
  cases ry
  cases x with
  |non=>cases rx;exact SeqAt.EqAt.same _
  |bl b=>cases rx;exact SeqAt.EqAt.none_bool b
  |int b=>obtain⟨t,rfl⟩:=rx;exact SeqAt.EqAt.none_int b t
  |str b=>obtain⟨t,rfl⟩:=rx;exact SeqAt.EqAt.none_str b t
  |_=>exact absurd (show false=true from fx) Bool.false_ne_true
 |bl a=>
  cases ry
  cases x with
  |non=>cases rx;exact SeqAt.EqAt.bool_none a
  |bl b=>cases rx;exact SeqAt.EqAt.bool_bool a b
  |int b=>obtain⟨t,rfl⟩:=rx;exact SeqAt.EqAt.bool_int a b t
  |str b=>obtain⟨t,rfl⟩:=rx;exact SeqAt.EqAt.bool_str a b t
  |_=>exact absurd (show false=true from fx) Bool.false_ne_true
 |int a=>
  obtain⟨t',rfl⟩:=ry
  cases x with
  |non=>cases rx;exact SeqAt.EqAt.int_none a t'
  |bl b=>cases rx;exact SeqAt.EqAt.int_bool a t' b
  |int b=>obtain⟨t,rfl⟩:=rx;exact SeqAt.EqAt.int_int a t' b t
  |str b=>obtain⟨t,rfl⟩:=rx;exact SeqAt.EqAt.int_str a t' b t
  |_=>exact absurd (show false=true from fx) Bool.false_ne_true
 |str a=>
  obtain⟨t',rfl⟩:=ry
  cases x with
  |non=>cases rx;exact SeqAt.EqAt.str_none a t'
  |bl b=>cases rx;exact SeqAt.EqAt.str_bool a t' b
  |int b=>obtain⟨t,rfl⟩:=rx;exact SeqAt.EqAt.str_int a t' b t
  |str b=>obtain⟨t,rfl⟩:=rx;exact SeqAt.EqAt.str_str a t' b t
  |_=>exact absurd (show false=true from fx) Bool.false_ne_true
 |_=>exact absurd (show false=true from fy) Bool.false_ne_true
def Xu(x:V)(u:Value):Bool:=match u with
 | .none=>FS .non x
 | .bool b=>FS (.bl b) x
 | .int i _=>FS (.int i) x
 | .str z _=>FS (.str z) x
 |_=>false
theorem Kt{x y:V}{u:Value}(r:RelV y u)(f:Bj y=true):Xu x u=FS y x:=by
 cases y with
 |non=>cases r;rfl
 |bl b=>cases r;rfl
 |int i=>obtain⟨t,rfl⟩:=r;rfl
 |str z=>obtain⟨t,rfl⟩:=r;rfl
 |_=>exact absurd (show false=true from f) Bool.false_ne_true
theorem GB{A:Around}{s:Shared}{x:V}{v:Value}(rx:RelV x v)(fx:Bj x=true):∀{xs:List V} {us:List Value},Vals xs us→xs.all Bj=true→∀u∈us,SeqAt.EqAt A s u v (Xu x u)
 |_,_,.nil,_=>fun u hu=>by cases hu
 |y::xs,u::us,.cons r t,f=>fun u' hu=>by
  rw[List.all_cons,Bool.and_eq_true] at f
  rcases List.mem_cons.mp hu with rfl|hu
  ·rw[Kt r f.1];exact Oy r rx f.1 fx
  ·exact GB rx fx t f.2 u' hu
theorem Ba:Aw X (.builtin "len") (fun xs H Q=>∃p ys,xs=[.ref p]∧(SqL X.K H p ys∨Fs X.K H p ys)∧Q (.int ys.length) H):=by
 intro pins s σ H xs us Q I r h
 obtain⟨p,ys,rfl,hq,q⟩:=h
 obtain⟨u,rfl,rx⟩:=DC r
 cases rx
 have hn:=DM
 rcases hq with hq|hq
 ·obtain⟨its,r',pl,hz⟩:=I.list hq
  have hlen:=r'.length
  exact Calls.call_len_list pl.isList (by simp only[List.size_toArray]<;>omega) ⟨.int ys.length,H,I.tok _,⟨s.toks+1,by rw[List.size_toArray,hlen]⟩,q⟩
 ·obtain⟨its,r',pl,hz⟩:=I.tuple hq
  have hlen:=r'.length
  exact len_tuple pl (by simp only[List.size_toArray]<;>omega) ⟨.int ys.length,H,I.tok _,⟨s.toks+1,by rw[List.size_toArray,hlen]⟩,q⟩
def aG(K:PySem.W.Frag)(T:String)(x:V)(H:Hp):Prop:=match x with
 | .str _=>T= "str"
 | .int _=>T= "int"
 | .ref p=> (T= "list"∧∃xs,SqL K H p xs)∨(T= "tuple"∧∃o,K.lookup p=some o∧o.cls=.type "tuple"∧o.dict=none)∨
   (T= "dict"∧((∃kvs,H p=some (.dK kvs))∨∃kvs,H p=some (.dT kvs)))∨(T= "set"∧∃S n,H p=some (.set S n))
 |_=>False
theorem Oz{pins:List (Addr×Obj)}{σ:St}{H:Hp}{s:Shared}{T:String}{x:V}{v:Value}(I:Inv X pins σ H s)(r:RelV x v)(ty:aG X.K T x H):
  s.TypeIs v T∧∀a,v=.ref a→∃ob,s.heap.get? a=some ob∧ob.dict=none:=by
 cases x with
 |str z=>
  obtain⟨t,rfl⟩:=r
  cases(show T= "str" from ty)
  exact⟨typeIs_str s z t,fun _ e=>nomatch e⟩
 |int i=>
  obtain⟨t,rfl⟩:=r
  cases(show T= "int" from ty)
  exact⟨typeIs_int s i t,fun _ e=>nomatch e⟩
 |ref p=>
  cases r
  rcases ty with⟨rfl,xs,hq⟩| ⟨rfl,o,hk,hc,hd⟩| ⟨rfl,hk⟩| ⟨rfl,S,n,hk⟩
  ·obtain⟨its,_,pl,_⟩:=I.list hq
   refine⟨pl.isList.typeIs,fun a e=>?_⟩
   cases e
   obtain⟨o,n,e,c,hd,_⟩:=pl
   exact⟨o,e,hd⟩
  ·refine⟨⟨o,I.kIn p o hk,hc⟩,fun a e=>?_⟩
   cases e
   exact⟨o,I.kIn _ o hk,hd⟩
  ·have z:∃o,s.heap.get? p=some o∧o.ExactDict:=by
    rcases hk with⟨kvs,hk⟩| ⟨kvs,hk⟩
    ·obtain⟨_,_,_,_,o,_,_,e,ex,_⟩:=I.hok p _ hk
     exact⟨o,e,ex⟩
    ·obtain⟨_,_,_,_,o,_,_,e,ex,_⟩:=I.hok p _ hk
     exact⟨o,e,ex⟩
   obtain⟨o,e,ex⟩:=z
   refine⟨⟨o,e,ex.1⟩,fun a e2=>?_⟩
   cases e2
   exact⟨o,e,ex.2.1⟩
  ·obtain⟨o,_,_,_,e,ex,_⟩:=I.hok p _ hk
   refine⟨⟨o,e,ex.1⟩,fun a e2=>?_⟩
   cases e2
   exact⟨o,e,ex.2.1⟩
 |_=>exact False.elim ty
def bE(K:PySem.W.Frag)(T:String)(r:V→List V→Hp→VK→Prop)(to:TE):TE:=fun σ H Q=>to σ H fun x H1=>aG K T x H1∧r x [] H1 Q
def cP(K:PySem.W.Frag)(T:String)(r:V→List V→Hp→VK→Prop)(to:TE)(t:TA):TE:=fun σ H Q=>to σ H fun x H1=>aG K T x H1∧t σ H1 fun xs H2=>r x xs H2 Q
variable{o e:Expr}{es:List Expr}{to:TE}{t:TA}{name:Str}{apos cpos:Pos}{T id:String}{r:V→List V→Hp→VK→Prop}
theorem Vl(pa:PlainAttrs T)(slot:Slot T name id)(hty:typeOf (.builtin id)=pure (.type "method_descriptor"))(hm:bA X id r)(ho:PE X o to)
  (hbase:attributeBase o name X.env (eval o X.env)=eval o X.env:=by rfl) (hline:(apos.endLine==cpos.line)=true:=by rfl):PE X (.Call (.Attribute o name apos) [] [] cpos) (bE X.K T r to):=by
 intro pins s σ H Q I h
 refine wpAny_Call_method0_late hbase hline (Ae (ho pins s σ H _ I h) fun v s1 ⟨x,H1,I1,r1,ty,q1⟩=>?_)
 obtain⟨h1,h2⟩:=Oz I1 r1 ty
 exact⟨T,id,pa,slot,hty,h1,h2,Calls.callWith_builtin rfl (PySem.evalArgs_none (hm pins s1 σ H1 x [] v [] Q I1 r1 .nil q1))⟩
theorem PB(pa:PlainAttrs T)(slot:Slot T name id)(hty:typeOf (.builtin id)=pure (.type "method_descriptor"))(hm:bA X id r)(ho:PE X o to)(ha:PA X (e::es) t)
  (hbase:attributeBase o name X.env (eval o X.env)=eval o X.env:=by rfl)
  (hfew:((backTo cpos (starEach (e::es) X.env)).all (fun x=>!x.1)&&(backToKw cpos (keywordEach [] X.env)).all (fun x=>x.1.isSome)
   &&decide ((e::es).length+([]:List Keyword).length+(if([]:List Keyword).isEmpty then 0 else 1)<30))=true:=by rfl)
  (hline:(apos.endLine==cpos.line)=true:=by rfl) (hs:starEach (e::es) X.env=(false,eval e X.env)::starEach es X.env:=by rfl) (hplain:(backTo cpos (starEach es X.env)).any (·.1)=false:=by rfl):
  PE X (.Call (.Attribute o name apos) (e::es) [] cpos) (cP X.K T r to t):=by
 intro pins s σ H Q I h
 refine wpAny_Call_method_late hbase hfew hline rfl (Ae (ho pins s σ H _ I h) fun v s1 ⟨x,H1,I1,r1,ty,q1⟩=>?_)
 obtain⟨h1,h2⟩:=Oz I1 r1 ty
 refine⟨T,id,pa,slot,hty,h1,h2,?_⟩
 have hA:=ha cpos pins s1 σ H1 _ I1 q1
 rw[hs] at hA ⊢
 refine Calls.callWith_builtin (by show(false|| (backTo cpos (starEach es X.env)).any (·.1))=false;rw[hplain]<;>rfl) (Calls.evalArgs_plain ?_)
 exact Ae hA fun us s2 ⟨vs,H2,I2,r2,q2⟩=>hm pins s2 σ H2 x vs v us Q I2 r1 r2 q2
end
def Vm(X:Cx)(id:String)(r:V→List V→Hp→VK→Prop):Prop:=
 ∀(pins:List (Addr×Obj)) (s:Shared) (σ:St) (H:Hp) (x:V) (xs:List V) (v:Value) (us:List Value) (Q:VK),Inv X pins σ H s→RelV x v→Vals xs us→r x xs H Q→
  wpAny (model X.prog X.w) X.A (call (.builtin id) (v::us)) (EP X pins σ Q) X.xe s
theorem Vals.one:∀{x:V} {us:List Value},Vals [x] us→∃u,us=[u]∧RelV x u
 |_,_,.cons r .nil=> ⟨_,rfl,r⟩
section
variable{X:Cx}{pins:List (Addr×Obj)}{σ:St}{H:Hp}{s:Shared}{l b:Addr}{xs ys zs:List V}
theorem Inv.lset{its its':List Value}{n:Nat}{f:Array Value→Array Value}{t':Nat}(I:Inv X pins σ H s)(hH:H l=some (.lst xs))
  (e:s.heap.get? l=some {cls:=.type "list",data:=.seq its.toArray n}) (hf:f its.toArray=its'.toArray) (hv:Vals ys its') (hz:ys.length≤sizeLine):
  Inv X pins σ (upd H l (.lst ys)) {s with heap:=s.heap.update l (Obj.mapSeq f),toks:=t'}:=by
 have q:=PySem.IsL.update e f
 rw[hf] at q
 refine I.write (x:=l) (e:=l) (by rw[hH];exact trivial) (.inl rfl) (fun b' u hb hu=> (Heap.get?_update_other s.heap (Obj.mapSeq f) (Ne.symm hb)).trans hu) ⟨_,q⟩ ?_
 exact⟨hz,its',_,hv,q⟩
theorem Inv.lnew{its:List Value}{t':Nat}(I:Inv X pins σ H s)(hv:Vals ys its)(hz:ys.length≤sizeLine):
  Inv X pins σ (upd H s.heap.objs.size (.lst ys)) {s with heap:=s.heap.push {cls:=.type "list",data:=.seq its.toArray},toks:=t'}:=
 I.laid (fun _ _ q=>Heap.get?_push_of_some _ q) (Nat.le_refl _) ⟨hz,its,0,hv,Heap.get?_push_size _ rfl⟩
theorem Inv.fresh(I:Inv X pins σ H s):H s.heap.objs.size=none:=I.hok.fresh (Nat.le_refl _)
theorem Inv.lstM(I:Inv X pins σ H s)(hH:H l=some (.lst xs)):xs.length≤sizeLine∧∃(its:List Value) (n:Nat),Vals xs its∧xs.length=its.length∧s.heap.get? l=some {cls:=.type "list",data:=.seq its.toArray n}:=by
 obtain⟨z,its,n,r,e⟩:=I.hok l _ hH
 exact⟨z,its,n,r,r.length,e⟩
theorem PC{n:Nat}(h:n≤sizeLine):Builtin.List.listTooLong n=false:=by
 unfold Builtin.List.listTooLong
 exact decide_eq_false (by omega)
end
section
variable{X:Cx}
def MU:V→List V→Hp→VK→Prop:=fun x vs H Q=>∃l xs y,x=.ref l∧vs=[y]∧H l=some (.lst xs)∧xs.length<sizeLine∧Q .non (upd H l (.lst (xs++[y])))
theorem Hc:Vm X "list.append" MU:=by
 intro pins s σ H x vs v us Q I rx rv h
 obtain⟨l,xs,y,rfl,rfl,hH,hz,q⟩:=h
 cases rx
 obtain⟨u,rfl,ru⟩:=rv.one
 obtain⟨z,its,n,r,hl,e⟩:=I.lstM hH
 refine call_meets F.slot_list_append ⟨_,e,rfl⟩ F.entry_list_append (F.args_list_append_2 _ _) (PySem.list_append l its.toArray n u (by rw[List.size_toArray];omega)) ⟨e,?_⟩
 refine⟨.non,_,I.lset (its':=its++[u]) hH e (by simp) (r.append (.cons ru .nil)) ?_,rfl,q⟩
 rw[List.length_append,List.length_singleton]
 omega
def SU:V→List V→Hp→VK→Prop:=fun x vs H Q=>∃l b xs zs,x=.ref l∧vs=[.ref b]∧H l=some (.lst xs)∧H b=some (.lst zs)∧xs.length+zs.length≤sizeLine∧Q .non (upd H l (.lst (xs++zs)))
theorem Nm:Vm X "list.extend" SU:=by
 intro pins s σ H x vs v us Q I rx rv h
 obtain⟨l,b,xs,zs,rfl,rfl,hH,hB,hz,q⟩:=h
 cases rx
 obtain⟨u,rfl,ru⟩:=rv.one
 cases ru
 obtain⟨z,its,n,r,hl,e⟩:=I.lstM hH
 obtain⟨z2,its2,n2,r2,hl2,e2⟩:=I.lstM hB
 have hsz:its.toArray.size+its2.toArray.size≤sizeLine:=by rw[List.size_toArray,List.size_toArray];omega
 have hlong:¬(!its.toArray.isEmpty&&Builtin.List.listTooLong (its.toArray.size+its2.toArray.size))=true:=by
  rw[PC hsz,Bool.and_false]
  exact Bool.false_ne_true
 refine call_meets F.slot_list_extend ⟨_,e,rfl⟩ F.entry_list_extend (F.args_list_extend_2 _ _)
  (AutoSeq1.list_extend_list_list_0 l its.toArray n b its2.toArray n2 hlong (by rw[List.size_toArray];omega) (by omega)) ⟨e,e2,?_⟩
 refine⟨.non,_,I.lset (its':=its++its2) hH e (by simp) (r.append r2) ?_,rfl,q⟩
 rw[List.length_append]
 omega
def Vn:R2:=fun x y H Q=>∃l b xs zs,x=.ref l∧y=.ref b∧H l=some (.lst xs)∧H b=some (.lst zs)∧xs.length+zs.length≤sizeLine∧∀p,H p=none→Q (.ref p) (upd H p (.lst (xs++zs)))
theorem Cf:Bv X (binaryOp .Add) Vn:=by
 intro pins s σ H x y v u Q I rx ry h
 obtain⟨l,b,xs,zs,rfl,rfl,hH,hB,hz,q⟩:=h
 cases rx
 cases ry
 obtain⟨z,its,n,r,hl,e⟩:=I.lstM hH
 obtain⟨z2,its2,n2,r2,hl2,e2⟩:=I.lstM hB
 refine PySem.P.add_list e e2 ?_ (by rw[List.size_toArray,List.size_toArray];omega)
 have ea:its.toArray++its2.toArray=(its++its2).toArray:=by simp
 rw[ea]
 exact⟨.ref _,_,I.lnew (t':=s.toks) (r.append r2) (by rw[List.length_append];omega),rfl,q _ I.fresh⟩
end
section
variable{prog:Program}{w:World}{A:Around}{E:Value→Shared→Prop}{s:Shared}
end
section
variable{X:Cx}
end
end L2
namespace Att
open PySem PySem.W PySem.Calls PyProof.Rows
theorem FT{P:Params}{h:Heap}:∀(ns:List Int) (vs:List Value),WellAll P h vs (ns.map WData.int)→IntsAre vs ns:=by
 intro ns
 induction ns with
 |nil=>
  intro vs w
  rw[List.map_nil] at w
  cases w
  exact .nil
 |cons n ns ih=>
  intro vs w
  rw[List.map_cons] at w
  cases w with
  |cons a b=>
   cases a
   exact .cons _ _ (ih _ b)
theorem Nn{l:OpenLaw}{n:Nat}(hn:l.most=some n){P:Params}{h:Heap}{args:List WData}{vals:List Value}
  (hpre:l.row.toRowW.claim.pre args=true) (hwl:WellAll P h vals args):
  ∃a vs ns,vals=[Value.ref a]∧args=[WData.list (ns.map WData.int)]∧h.get? a=some {cls:=.type "list",data:=.seq vs.toArray}∧IntsAre vs ns∧ns.length≤n:=by
 have hsh:WShape.hasAll [] args [.list .int]=true:=(pre_splitW hpre).1
 have hc:l.pre.holds [] {args:=args}=true:=(pre_splitW hpre).2
 obtain⟨d,r,rfl,h1,h2⟩:=hasAllW_cons hsh
 obtain rfl:=hasAllW_nil h2
 obtain⟨xs,rfl,h3⟩:=hasW_list h1
 obtain⟨ns,rfl⟩:=items_int h3
 have hlen:ns.length≤n:=by
  unfold OpenLaw.pre at hc
  have h4:(WTm.not (.lt (.lit (.int (n:Int))) (.len (.arg 0)))).holds [] {args:=[.list (ns.map .int)]}=true:=by
   have h4:=(holds_andW hc).1
   rw[hn] at h4
   exact h4
  have h5:=condW_of h4 (w_not (w_lt w_lit (w_len_list (w_arg rfl))))
  rw[List.length_map] at h5
  refine Nat.le_of_not_lt fun q=>?_
  have q':(n:Int)< ((ns.length:Nat):Int):=by omega
  first
   | (rw[decide_eq_true q'] at h5;exact absurd h5 (by decide))
   | (simp at h5;omega)
 cases hwl with
 |cons w1 w2=>
  cases w2
  cases w1 with
  |list ho hall=>exact⟨_,_,ns,rfl,rfl,ho,FT ns _ hall,hlen⟩
theorem Np(l:OpenLaw)(args:List WData):l.row.toRowW.claim.post args (.bool true) args=true:=
 postW_of (r:=l.row.toRowW) (X:=(true==true))
  (show WShape.has [] (.bool true) .bool=true by first|rfl|decide|simp[WShape.has,WShape.arms,WShape.armsAll])
  (show(WTm.eq .res (.lit (.bool true))).value [] {args:=args,res:=some (.bool true),after:=args}=some (.bool (true==true)) from w_eq_bool (w_res rfl) w_lit) rfl
theorem Ja{l:OpenLaw}{n:Nat}{q:Program}{loose:List Str}{XP:(Str→Option Value)→Heap→Prop}{YP:World→Heap→Prop}{d:DefRec}
  (hn:l.most=some n) (hdf:d.params.defaults=[])
  (call:∀(w:World) (s₀ s₁:Shared) (mg mb:Str→Option Value) (fa:Addr) (o:Obj) (pm cd doc:Value) (a:Addr) (vs:List Value) (ns:List Int),
   Ground q loose [] XP w s₀ mg mb s₁.heap→YP w s₁.heap→
   s₁.heap.get? fa=some o→o.data=.func (docDef d.name d.params d.body d.scope pm cd doc)→s₁.heap.CodeRec cd d.name→mg d.name=some (.ref fa)→
   s₁.heap.get? a=some {cls:=.type "list",data:=.seq vs.toArray}→IntsAre vs ns→ns.length≤n→s₁.gens= #[]→
   codeAny (model l.prog w) callerA (.call (.ref fa) ⟨[.ref a],[]⟩) (fun r s'=>r=.ok (.ret (.bool true))∧OldK s₁.heap s'.heap∧s'.os=s₁.os∧AllBare s'.gens) s₁):
  WalkO q loose XP YP l.row.toRowW d [] (fun f vs=>PySem.call f vs):=by
 intro w s₀ s₁ mg mb G Y fa o pm cd doc dV kV ho hd hcd hD hmg hg args vals as hpre hlay hrd hwl hlo
 obtain rfl:dV=.none:=Dflts.none hD hdf
 obtain rfl:kV=.none:=Dflts.noKw hD
 obtain⟨a,vs,ns,rfl,rfl,hobj,hints,hlen⟩:=Nn hn hpre hwl
 refine enter_call (codeAny_mono (call w s₀ s₁ mg mb fa o pm cd doc a vs ns G Y ho (fd_plain hd) hcd hmg hobj hints hlen hg) fun r s' hq=>?_)
 obtain⟨rfl,h2,h3,h4⟩:=hq
 exact⟨.inl ⟨.bool true,.bool true,[],rfl,fun _=>rfl,.bool true,Np l _,fun _=> ⟨List.Pairwise.nil,fun _ hm=> (nomatch hm)⟩⟩,h2,h3,h4⟩
section
variable{prog:Program}{w:World}{A:Around}{E:Value→Shared→Prop}{s:Shared}{K:Frag}
end
end Att
namespace L2
open PySem PySem.Spec PyProof.Rows
theorem Eo:∀{vs:List Value} {ns:List Int},IntsAre vs ns→Vals (ns.map V.int) vs
 |_,_,.nil=> .nil
 |_,_,.cons n t h=> .cons ⟨t,rfl⟩ (Eo h)
def Vo(H:Hp):Prop:=∀b,H b=none∨∃o xs,H b=some (.frz o (.lst xs))
theorem PD{P:Program}{w:World}{K:PySem.W.Frag}{mg mb:Str→Option Value}{CX:OX}{k:Nat}{fa a:Addr}{fd:FuncData}{x:Str}{sp:Sp}{s₁:Shared}{vs:List Value}{ns:List Int}
  (KX:K.In s₁.heap) (hns:s₁.heap.Ns mainGlobals mg) (hb:s₁.heap.Ns builtinsNs mb) (hbb:∀x:Str,x≠"__name__"→mb x=bootBuiltins x) (hlim:s₁.heap.NoLimit) (hg:s₁.gens= #[])
  (ha:s₁.heap.get? a=some {cls:=.type "list",data:=.seq vs.toArray}) (hi:IntsAre vs ns) (hl:ns.length≤sizeLine) (hr:Room k callerA)
  (F:∀base:Heap,K.In base→base.Ns mainGlobals mg→FnOk P w K mg base CX k fa fd [x] sp) (hbind:∀(s:Shared) (u:Value),BindsTo s fd ⟨[u],[]⟩ [(x,u)])
  (hsp:∀H:Hp,Vo H→SqL K H a (ns.map V.int)→sp [.ref a] H (fun v _=>v=.bl true) fun _ _ _=>False)
  (hCX:∀H e s',CX [] H s₁ (fun _ _ _=>False) e s'→False):
  codeAny (model P w) callerA (.call (.ref fa) ⟨[.ref a],[]⟩) (fun r s'=>r=.ok (.ret (.bool true))∧OldK s₁.heap s'.heap∧s'.os=s₁.os∧AllBare s'.gens) s₁:=by
 have rv:=Eo hi
 have lenV:=hi.length
 have core:∀H:Hp,Vo H→SqL K H a (ns.map V.int)→HOk P w H s₁.heap→(∀b,H b≠none→b=a)→(H a≠none→K.lookup a=none)→
   codeAny (model P w) callerA (.call (.ref fa) ⟨[.ref a],[]⟩) (fun r s'=>r=.ok (.ret (.bool true))∧OldK s₁.heap s'.heap∧s'.os=s₁.os∧AllBare s'.gens) s₁:=by
  intro H hO hS hok hA hK
  have base_of:∀{b:Addr} {o:Obj},s₁.heap.get? b=some o→H b=none→(IJ s₁.heap H).get? b=some o:=fun e n=>Oa e n
  have noA:∀{b:Addr} {o:Obj} {es:Array DictEntry} {ep:Nat},s₁.heap.get? b=some o→o.data=.dict es ep→H b=none:=fun{b o es ep} e d=>by
   cases q:H b with
   |none=>rfl
   |some u=>
    have e':b=a:=hA b (by rw[q];simp)
    subst e'
    rw[ha] at e;cases e
    have d':Data.seq vs.toArray _=Data.dict es ep:=d
    cases d'
  have nsK:∀{b:Addr} {m:Str→Option Value},s₁.heap.Ns b m→(IJ s₁.heap H).Ns b m:=fun{b m} ⟨o,es,ep,e,d,r⟩=> ⟨o,es,ep,base_of e (noA e d),d,r⟩
  have hKb:K.In (IJ s₁.heap H):=fun b o e=>base_of (KX b o e) (by
   cases q:H b with
   |none=>rfl
   |some u=>
    have e':b=a:=hA b (by rw[q];simp)
    subst e'
    rw[hK (by rw[q];simp)] at e;cases e)
  have hM:Mod K mg (IJ s₁.heap H):=⟨hKb,nsK hns,⟨mb,nsK hb,hbb⟩,let⟨mc,h1,h2⟩:=hlim;⟨mc,nsK h1,h2⟩⟩
  have e0:Env0 P w K mg (IJ s₁.heap H) callerA [] s₁ H:=⟨rfl,hM,fun b o e=>SG e,Nat.le_of_eq (Nb _ _),trivial,fun b hb=>absurd (show b∈([]:List Addr) from hb) (by simp),hok,.of_eq hg⟩
  refine codeAny_mono ((F _ hKb (nsK hns)).run callerA [] s₁ H ⟨[.ref a],[]⟩ [.ref a] [.ref a] _ _ hr e0 (hbind s₁ (.ref a)) (.cons rfl .nil) (hsp H hO hS)) fun r s' h=>?_
  cases r with
  |error e=>exact(hCX H e s' h).elim
  |ok fl=>
   cases fl with
   |next=>exact False.elim h
   |brk=>exact False.elim h
   |cont=>exact False.elim h
   |ret u=>
    obtain⟨v,H',os,bare,un,hok',r',q⟩:=h
    have q':v=.bl true:=q
    subst q'
    obtain rfl:u=Value.bool true:=r'
    refine⟨rfl,OldK.of_keep fun b o e=>?_,os,bare⟩
    cases q:H b with
    |none=>exact un.keep b o e q (by intro z;exact absurd (show b∈([]:List Addr) from z) (by simp)) (by simp)
    |some u=>
     rcases hO b with z| ⟨ob,xs,z⟩
     ·rw[q] at z;cases z
     ·have z2:=un.frzs b ob _ z
      obtain⟨e1,_⟩:=hok b _ z
      obtain⟨e2,_⟩:=hok' b _ z2
      rw[e] at e1;cases e1
      exact e2
 cases hk:K.lookup a with
 |some o=>
  have e:=KX a o hk
  rw[ha] at e
  cases e
  refine core (fun _=>none) (fun _=> .inl rfl) (.inr ⟨_,vs.toArray,_,hk,rfl,rfl,rfl,by rw[List.size_toArray,lenV];exact hl,by simpa using rv⟩) (fun b u z=>by have z':(none:Option HO)=some u:=z;cases z') (fun b z=>absurd rfl z) fun z=>absurd rfl z
 |none=>
  refine core (fun b=>if b=a then some (.frz {cls:=.type "list",data:=.seq vs.toArray} (.lst (ns.map V.int))) else none) (fun b=>?_) (.inl (.inr ⟨{cls:=.type "list",data:=.seq vs.toArray},if_pos rfl⟩)) (fun b u z=>?_) (fun b z=>?_) fun _=>hk
  ·by_cases hb:b=a
   ·exact .inr ⟨_,_,if_pos hb⟩
   ·exact .inl (if_neg hb)
  ·by_cases hb:b=a
   ·have z':=(if_pos hb).symm.trans z
    cases z'
    subst hb
    exact⟨ha,by rw[List.length_map];exact hl,vs,_,rv,ha⟩
   ·have z':=(if_neg hb).symm.trans z
    cases z'
  ·by_cases hb:b=a
   ·exact hb
   ·exact absurd (if_neg hb) z
theorem SV{l:PySem.W.OpenLaw}{n k:Nat}{q:Program}{loose:List Str}{XP:(Str→Option Value)→Heap→Prop}{YP:World→Heap→Prop}{d:DefRec}{K:Params→PySem.W.Frag}{CX:World→OX}{sp:World→Sp}{x:Str}
  (hn:l.most=some n) (hn2:n≤sizeLine) (hdf:d.params.defaults=[]) (hr:Room k callerA)
  (hY:∀(w:World) (h:Heap),YP w h→(K w.params).In h)
  (F:∀(w:World) (mg:Str→Option Value) (fa:Addr) (h:Heap),(K w.params).In h→h.Ns mainGlobals mg→mg d.name=some (.ref fa)→
   ∃fd:FuncData,(∀(s:Shared) (u:Value),BindsTo s fd ⟨[u],[]⟩ [(x,u)])∧
    ∀base:Heap,(K w.params).In base→base.Ns mainGlobals mg→FnOk l.prog w (K w.params) mg base (CX w) k fa fd [x] (sp w))
  (hsp:∀(w:World) (H:Hp) (a:Addr) (ns:List Int),ns.length≤n→Vo H→SqL (K w.params) H a (ns.map V.int)→sp w [.ref a] H (fun v _=>v=.bl true) fun _ _ _=>False)
  (hCX:∀(w:World) (H:Hp) (s:Shared) (e:Value) (s':Shared),CX w [] H s (fun _ _ _=>False) e s'→False):
  PySem.W.WalkO q loose XP YP l.row.toRowW d [] (fun f vs=>PySem.call f vs):=by
 refine Att.Ja hn hdf fun w s₀ s₁ mg mb fa o pm cd doc a vs ns G Y ho hd hcd hmg hobj hints hlen hg=>?_
 have KX:=hY w _ Y
 obtain⟨fd,hb,hF⟩:=F w mg fa _ KX G.T.g hmg
 exact PD KX G.T.g G.T.b G.T.builtins G.T.nolimit hg hobj hints (Nat.le_trans hlen hn2) hr hF hb (fun H hO hS=>hsp w H a ns hlen hO hS) fun H e s'=>hCX w H s₁ e s'
def Cg(s:Stmt):Arguments:=match s with
 | .FunctionDef _ a _ _ _ _ _ _ _ _=>a
 |_=> {posonlyargs:=[],args:=[],vararg:=none,kwonlyargs:=[],kw_defaults:=[],kwarg:=none,defaults:=[]}
def Aa(s:Stmt):List Stmt:=match s with
 | .FunctionDef _ _ b _ _ _ _ _ _ _=>b
 |_=> []
def AA(s:Stmt):Scope:=match s with
 | .FunctionDef _ _ _ _ _ _ sc _ _ _=>sc
 |_=> {kind:=.function,names:=[],isGenerator:=false,isCoroutine:=false}
abbrev bF:OX:=fun _ _ _ _ _ _=>False
abbrev E0:XK:=fun _ _ _=>False
structure Fun(K:PySem.W.Frag)(x qual:Str)(st:Stmt)(f:Addr)(fd:FuncData):Prop where
 ex:∃(oc:Value) (od:Option Addr) (kV doc pm:Value) (an:Option Addr) (cdv ct:Value) (osl:Array (Option Value)),
  fd=PySem.W.fnOf x qual (Cg st) (Aa st) (AA st) .none kV doc pm an cdv ct∧K.lookup f=some ⟨oc,od,.func fd,osl⟩∧PySem.W.codeIn K cdv qual=true
 kp:PySem.W.keepIn K (.ref f)=true
section
variable{P:Program}{w:World}{K:PySem.W.Frag}{mg:Str→Option Value}{base:Heap}
theorem Fun.binds{x qual:Str}{st:Stmt}{f:Addr}{fd:FuncData}{ps:List Str}(F:Fun K x qual st f fd)
  (h:∀(kV doc pm:Value) (an:Option Addr) (cdv ct:Value) (us:List Value),us.length=ps.length→bindArgs (PySem.W.fnOf x qual (Cg st) (Aa st) (AA st) .none kV doc pm an cdv ct) ⟨us,[]⟩=pure (ps.zip us)):Binds K fd ps []:=by
 obtain⟨oc,od,kV,doc,pm,an,cdv,ct,osl,rfl,lk,hcd⟩:=F.ex
 exact .all (h kV doc pm an cdv ct)
end
section
variable{X:Cx}
theorem pv(i:Nat){x:Str}{pos:Pos}(hN:X.N[i]?=some x:=by rfl)(hv:UZ X.env.scope x:=by first|exact Or.inl rfl|exact Or.inr (Or.inl rfl)|exact Or.inr (Or.inr rfl))(hd:(x==("__debug__" :Str))=false:=by decide)
  (hcd:(x==("__classdict__" :Str))=false:=by decide):PE X (.Name x pos) (Xz i):=Ob hN hv hd hcd
end
theorem Ku{A B:Prop}(h:B):if false=true then A else B:=by
 rw[if_neg Bool.false_ne_true]
 exact h
theorem Nq{A B:Prop}(h:A):if true=true then A else B:=by
 rw[if_pos rfl]
 exact h
theorem Vp{c A B:Prop} [Decidable c](h1:c→A)(h2:¬c→B):if c then A else B:=by
 by_cases h:c
 ·rw[if_pos h]
  exact h1 h
 ·rw[if_neg h]
  exact h2 h
def Same(H H':Hp):Prop:=∀b o,H b=some o→H' b=some o
theorem Same.refl(H:Hp):Same H H:=fun _ _ h=>h
end L2
set_option maxHeartbeats 4000000
namespace L2
open PySem PySem.Spec PyProof.Rows
theorem IV{env:Env}:∀(l:List (Str×NameKind)) (acc:List (Str×Addr)),(∀y∈l,y.2=.free→∃c,env.cells.lookup y.1=some c)→
  (∀x c,acc.lookup x=some c→env.cells.lookup x=some c)→
  ∃cl,(forIn l acc (fun(x:Str×NameKind) (r:List (Str×Addr))=> (match x with
   | (name,kind)=>if(kind==NameKind.free)=true then(do let a←cellOf env name;pure (ForInStep.yield ((name,a)::r))) else pure (ForInStep.yield r):Sem (ForInStep (List (Str×Addr))))))=(pure cl:Sem _)∧
   (∀x c,cl.lookup x=some c→env.cells.lookup x=some c)∧(∀x,(acc.lookup x).isSome=true→(cl.lookup x).isSome=true)∧∀y∈l,y.2=.free→(cl.lookup y.1).isSome=true
 | [],acc,_,ha=> ⟨acc,rfl,ha,fun _ h=>h,fun _ h=>nomatch h⟩
 | (n,k)::r,acc,h,ha=>by
  have hr:∀y∈r,y.2=.free→∃c,env.cells.lookup y.1=some c:=fun y hy=>h y (List.mem_cons_of_mem _ hy)
  by_cases hk:k=.free
  ·subst hk
   obtain⟨c,hc⟩:=h (n,.free) List.mem_cons_self rfl
   have hc:env.cells.lookup n=some c:=hc
   have ha':∀x c',((n,c)::acc).lookup x=some c'→env.cells.lookup x=some c':=fun x c' e=>by
    rw[List.lookup_cons] at e
    cases hx:x==n with
    |true=>rw[hx] at e;cases e;rw[beq_iff_eq.mp hx];exact hc
    |false=>rw[hx] at e;exact ha x c' e
   obtain⟨cl,e,h1,h2,h3⟩:=IV r ((n,c)::acc) hr ha'
   refine⟨cl,?_,h1,fun x hx=>h2 x ?_,fun y hy hf=>?_⟩
   ·rw[List.forIn_cons]
    simp only[cellOf,hc,beq_self_eq_true,if_true]
    exact e
   ·rw[List.lookup_cons]
    cases x==n with
    |true=>rfl
    |false=>exact hx
   ·rcases List.mem_cons.mp hy with rfl|hy
    ·exact h2 n (by rw[List.lookup_cons,beq_self_eq_true];rfl)
    ·exact h3 y hy hf
  ·have hb:(k==NameKind.free)=false:=by simpa using hk
   obtain⟨cl,e,h1,h2,h3⟩:=IV r acc hr ha
   refine⟨cl,?_,h1,h2,fun y hy hf=>?_⟩
   ·rw[List.forIn_cons]
    simp only[hb,Bool.false_eq_true,if_false]
    exact e
   ·rcases List.mem_cons.mp hy with rfl|hy
    ·exact absurd hf hk
    ·exact h3 y hy hf
theorem SW{env:Env}{csc:Scope}(h:∀y∈csc.names,y.2=.free→∃c,env.cells.lookup y.1=some c):
  ∃cl,closureFor csc env=pure cl∧(∀x c,cl.lookup x=some c→env.cells.lookup x=some c)∧∀y∈csc.names,y.2=.free→(cl.lookup y.1).isSome=true:=by
 obtain⟨cl,e,h1,_,h3⟩:=IV csc.names [] h (fun x c e=>by cases e)
 refine⟨cl,?_,h1,h3⟩
 unfold closureFor
 have e':=congrArg (fun m:Sem (List (Str×Addr))=>m>>=fun r=>pure r) e
 exact e'
theorem ED{env:Env}:∀{names:List (Str×NameKind)} {x:Str},names.lookup x=some .free→
  (names.map fun(n,k)=>if(k==NameKind.free&&env.scope.kind==.function&&env.kindOf n==some .cell) then(n,NameKind.cell) else(n,k)).lookup x=some .cell∨
  (names.map fun(n,k)=>if(k==NameKind.free&&env.scope.kind==.function&&env.kindOf n==some .cell) then(n,NameKind.cell) else(n,k)).lookup x=some .free
 | [],_,h=>by simp at h
 | (n,k)::r,x,h=>by
  have ih:=@ED env r x
  rw[List.map_cons]
  show List.lookup x ((if(k==NameKind.free&&env.scope.kind==.function&&env.kindOf n==some .cell)=true then(n,NameKind.cell) else(n,k))::_)=_∨List.lookup x ((if(k==NameKind.free&&env.scope.kind==.function&&env.kindOf n==some .cell)=true then(n,NameKind.cell) else(n,k))::_)=_
  cases hx:x==n with
  |true=>
   simp only[List.lookup_cons,hx] at h
   cases h
   split
   ·exact .inl (by rw[List.lookup_cons,hx])
   ·exact .inr (by rw[List.lookup_cons,hx])
  |false=>
   simp only[List.lookup_cons,hx] at h
   split
   ·simp only[List.lookup_cons,hx];exact ih h
   ·simp only[List.lookup_cons,hx];exact ih h
def MV:Option NameKind→Bool
 |some .cell=>true
 |_=>false
theorem Jb{k:Option NameKind}(h:MV k=true):k=some .cell:=by
 cases k with
 |none=>cases h
 |some k=>cases k<;>first|rfl|cases h
def SX(X:Cx)(csc:Scope)(cl:List (Str×Addr))(N':List Str)(s:Shared)(H:Hp)(fp:List Addr):Cx:=
 {X with N:=N',s₀:=s,H₀:=H,env:=compEnvC csc cl s.heap.objs.size X.env,outer:=X.stack,ex:=fp,fn:=fun x=>MV (csc.names.lookup x),pn:=[],xe:=fun _ _=>False}
structure LcCx(X:Cx)(csc:Scope)(N':List Str)(X':Cx):Prop where
 is:∃cl s H fp,X'=SX X csc cl N' s H fp
def By(σ:St)(cap:List (Str×Nat)):St:=cap.map fun p=> (σ[p.2]?).join
structure LcOk(X:Cx)(csc:Scope)(nc:List Str)(cap:List (Str×Nat)):Prop where
 kind:csc.kind=.function
 cells:∀y∈csc.names,y.2=.cell→csc.names.lookup y.1=some .cell
 locals:∀y∈csc.names,y.2=.local→csc.names.lookup y.1=some .local
 free:∀y∈csc.names,y.2=.free→X.env.scope.names.lookup y.1=some .cell∨X.env.scope.names.lookup y.1=some .free
 caps:∀p∈cap,X.N[p.2]?=some p.1∧csc.names.lookup p.1=some .free
abbrev Ao(nc:List Str)(cap:List (Str×Nat)):List Str:=nc++cap.map (·.1)
abbrev HG(nc:List Str)(σ:St)(cap:List (Str×Nat)):St:=List.replicate nc.length none++By σ cap
theorem Am{α:Type}:∀{l:List (Str×α)} {x:Str} {v:α},l.lookup x=some v→(x,v)∈l
 | [],_,_,h=>by simp at h
 | (n,k)::r,x,v,h=>by
  rw[List.lookup_cons] at h
  cases hx:x==n with
  |true=>rw[hx] at h;cases h;rw[beq_iff_eq.mp hx];exact List.mem_cons_self
  |false=>rw[hx] at h;exact List.mem_cons_of_mem _ (Am h)
theorem Kv:∀(names:List (Str×NameKind)) (L:Nat) (a acc:List (Str×Addr)),cellsFrom L names (a++acc)=cellsFrom L names a++acc
 | [],_,_,_=>rfl
 | (n,k)::r,L,a,acc=>by
  unfold cellsFrom
  split
  ·exact Kv r (L+1) ((n,L)::a) acc
  ·exact Kv r L a acc
theorem Vq(names:List (Str×NameKind))(L:Nat)(acc:List (Str×Addr)):cellsFrom L names acc=cellsFrom L names []++acc:=Kv names L [] acc
theorem Kw:∀(names:List (Str×NameKind)) (L:Nat) (acc:List (Str×Addr)) (x:Str) (c:Addr),(x,c)∈cellsFrom L names acc→(x,.cell)∈names∨(x,c)∈acc
 | [],_,_,_,_,h=> .inr h
 | (n,k)::r,L,acc,x,c,h=>by
  unfold cellsFrom at h
  split at h
  ·rename_i hk
   rcases Kw r (L+1) _ x c h with h|h
   ·exact .inl (List.mem_cons_of_mem _ h)
   ·rcases List.mem_cons.mp h with h|h
    ·cases h
     rw[eq_of_beq hk]
     exact .inl List.mem_cons_self
    ·exact .inr h
  ·rcases Kw r L _ x c h with h|h
   ·exact .inl (List.mem_cons_of_mem _ h)
   ·exact .inr h
theorem IW:∀(names:List (Str×NameKind)) (L:Nat) (acc:List (Str×Addr)) (x:Str),((x,.cell)∈names∨(acc.lookup x).isSome=true)→((cellsFrom L names acc).lookup x).isSome=true
 | [],_,_,_,h=>h.elim (fun z=>by cases z) id
 | (n,k)::r,L,acc,x,h=>by
  unfold cellsFrom
  split
  ·refine IW r (L+1) _ x ?_
   rcases h with h|h
   ·rcases List.mem_cons.mp h with h|h
    ·cases h
     exact .inr (by rw[List.lookup_cons,beq_self_eq_true];rfl)
    ·exact .inl h
   ·refine .inr ?_
    rw[List.lookup_cons]
    cases x==n with
    |true=>rfl
    |false=>exact h
  ·rename_i hk
   refine IW r L acc x ?_
   rcases h with h|h
   ·rcases List.mem_cons.mp h with h|h
    ·cases h;exact absurd rfl hk
    ·exact .inl h
   ·exact .inr h
theorem Do{α:Type}:∀{l m:List (Str×α)} {x:Str},(l++m).lookup x=match l.lookup x with|some v=>some v|none=>m.lookup x
 | [],_,_=>rfl
 | (n,k)::r,m,x=>by
  rw[List.cons_append,List.lookup_cons,List.lookup_cons]
  cases x==n with
  |true=>rfl
  |false=>exact Do
structure LcCells(X:Cx)(csc:Scope)(cs:List (Str×Addr))(s:Shared)(h1:Heap):Prop where
 at_:∀x c,cs.lookup x=some c→(csc.names.lookup x=some .cell∧s.heap.objs.size≤c∧h1.IsCell c none)∨(csc.names.lookup x≠some .cell∧X.env.cells.lookup x=some c)
 has:∀x,csc.names.lookup x=some .free∨csc.names.lookup x=some .cell→∃c,cs.lookup x=some c
 inj:∀x y c,cs.lookup x=some c→cs.lookup y=some c→x=y
theorem SY{X:Cx}{csc:Scope}{cl:List (Str×Addr)}{nc:List Str}{cap:List (Str×Nat)}{pins:List (Addr×Obj)}{σ:St}{H:Hp}{s:Shared}{o:Obj}
  (ok:LcOk X csc nc cap) (I:Inv X pins σ H s) (hc1:∀x c,cl.lookup x=some c→X.env.cells.lookup x=some c) (hc2:∀y∈csc.names,y.2=.free→(cl.lookup y.1).isSome=true):
  LcCells X csc (cellsFrom (s.heap.objs.size+1) csc.names cl) s (pushCells (s.heap.push o) csc.names):=by
 have nk:=cellsFrom_ok csc.names (s.heap.push o) (s.heap.objs.size+1) [] ⟨fun _ _ hm=> (nomatch hm),List.Pairwise.nil⟩ (by rw[Heap.size_push];exact Nat.le_refl _)
 rw[Heap.size_push] at nk
 rw[Vq]
 have split:∀x c,(cellsFrom (s.heap.objs.size+1) csc.names []++cl).lookup x=some c→((x,c)∈cellsFrom (s.heap.objs.size+1) csc.names []∧csc.names.lookup x=some .cell)∨(csc.names.lookup x≠some .cell∧cl.lookup x=some c):=fun x c e=>by
  rw[Do] at e
  cases hx:(cellsFrom (s.heap.objs.size+1) csc.names []).lookup x with
  |some v=>
   rw[hx] at e
   cases e
   have m:=Am hx
   refine .inl ⟨m,?_⟩
   rcases Kw _ _ _ _ _ m with z|z
   ·exact ok.cells _ z rfl
   ·cases z
  |none=>
   rw[hx] at e
   refine .inr ⟨fun z=>?_,e⟩
   have:=IW csc.names (s.heap.objs.size+1) [] x (.inl (Am z))
   rw[hx] at this
   cases this
 refine⟨fun x c e=>?_,fun x hx=>?_,fun x y c e1 e2=>?_⟩
 ·rcases split x c e with⟨m,k⟩| ⟨k,e⟩
  ·exact .inl ⟨k,Nat.le_of_succ_le (nk.empty x c m).2,(nk.empty x c m).1⟩
  ·exact .inr ⟨k,hc1 x c e⟩
 ·refine Option.isSome_iff_exists.mp ?_
  rw[Do]
  cases hn:(cellsFrom (s.heap.objs.size+1) csc.names []).lookup x with
  |some v=>rfl
  |none=>
   rcases hx with hx|hx
   ·exact hc2 _ (Am hx) rfl
   ·have:=IW csc.names (s.heap.objs.size+1) [] x (.inl (Am hx))
    rw[hn] at this
    cases this
 ·have old:∀z,cl.lookup z=some c→c<s.heap.objs.size:=fun z e=>by
   obtain⟨v,hv⟩:=I.cell z c (hc1 z c e)
   exact hv.lt
  rcases split x c e1 with⟨m1,_⟩| ⟨_,g1⟩<;>rcases split y c e2 with⟨m2,_⟩| ⟨_,g2⟩
  ·exact name_of_addr nk.apart m1 m2
  ·exact absurd (Nat.lt_of_lt_of_le (old y g2) (Nat.le_of_succ_le (nk.empty x c m1).2)) (Nat.lt_irrefl _)
  ·exact absurd (Nat.lt_of_lt_of_le (old x g1) (Nat.le_of_succ_le (nk.empty y c m2).2)) (Nat.lt_irrefl _)
  ·exact I.ok.inj x y c (hc1 x c g1) (hc1 y c g2)
section
variable{M:Model}{A:Around}{E:Value→Shared→Prop}{s:Shared}
theorem PF{scope:Scope}{globals:Addr}{closure:List (Str×Addr)}{qual:Str}{env:Env}{Q:Env→Shared→Prop}
  (hQ:Q (newEnv scope s.heap.objs.size globals (cellsFrom (s.heap.objs.size+1) scope.names closure) qual none .none (some env) builtinsNs) {s with heap:=pushCells (s.heap.push {cls:=.type "dict",data:=.dict #[]}) scope.names}):
  wpAny M A (newFunctionEnv scope globals closure [] qual none .none (some env)) Q E s:=by
 simp only[newFunctionEnv,Option.isSome_some,if_true]
 refine wpAny_bind (wpAny_alloc ?_)
 refine wpAny_bind (wpAny_layCells _ (fun name kind cells=>by cases hkc:kind==NameKind.cell<;>simp[hkc]) _ _ _ _ ?_)
 rw[show({s with heap:=s.heap.push {cls:=.type "dict",data:=.dict #[]}}:Shared).heap.objs.size=s.heap.objs.size+1 from Heap.size_push ..]
 refine wpAny_bind ?_
 rw[List.forIn_nil]
 exact wpAny_pure (wpAny_pure hQ)
end
theorem Vr{X:Cx}{csc:Scope}{cl:List (Str×Addr)}{nc:List Str}{cap:List (Str×Nat)}{pins:List (Addr×Obj)}{σ:St}{H:Hp}{s:Shared}{h1:Heap}{fp:List Addr}
  (ok:LcOk X csc nc cap) (I:Inv X pins σ H s) (C:LcCells X csc cl s h1)
  (hf:∀b∈fp,Ft X pins H b) (ho:∀b∈fp,∃o,s.heap.get? b=some o)
  (hn:h1.Ns s.heap.objs.size (fun _=>none)) (kept:∀b o,s.heap.get? b=some o→h1.get? b=some o):
  Inv (SX X csc cl (Ao nc cap) s H fp) [] (HG nc σ cap) H {s with heap:=h1}:=by
 have frel:∀x,csc.names.lookup x=some .free→(compEnvC csc cl s.heap.objs.size X.env).kindOf x=some .cell∨(compEnvC csc cl s.heap.objs.size X.env).kindOf x=some .free:=fun x h=>ED h
 have back:∀{names:List (Str×NameKind)} {x:Str},((names.map fun(n,k)=>if(k==NameKind.free&&X.env.scope.kind==.function&&X.env.kindOf n==some .cell) then(n,NameKind.cell) else(n,k)).lookup x=some .cell∨
   (names.map fun(n,k)=>if(k==NameKind.free&&X.env.scope.kind==.function&&X.env.kindOf n==some .cell) then(n,NameKind.cell) else(n,k)).lookup x=some .free)→
   names.lookup x=some .free∨names.lookup x=some .cell:=by
  intro names
  induction names with
  |nil=>intro x h;simp at h
  |cons p r ih=>
   obtain⟨n,k⟩:=p
   intro x h
   rw[List.map_cons] at h
   cases hx:x==n with
   |true=>
    rw[List.lookup_cons,hx]
    have e:∀(kk:NameKind) (l:List (Str×NameKind)),((n,kk)::l).lookup x=some kk:=fun kk l=>by rw[List.lookup_cons,hx]
    by_cases hcnd:(k==NameKind.free&&X.env.scope.kind==.function&&X.env.kindOf n==some .cell)=true
    ·left
     have:(k==NameKind.free)=true:=by
      revert hcnd;cases(k==NameKind.free)<;>simp
     show some k=some .free
     rw[eq_of_beq this]
    ·simp only[if_neg hcnd] at h
     rw[e,] at h
     exact h.symm
   |false=>
    have e:∀(kk:NameKind) (l:List (Str×NameKind)),((n,kk)::l).lookup x=l.lookup x:=fun kk l=>by rw[List.lookup_cons,hx]
    by_cases hcnd:(k==NameKind.free&&X.env.scope.kind==.function&&X.env.kindOf n==some .cell)=true
    ·simp only[if_pos hcnd] at h
     rw[e] at h
     rw[e]
     exact ih h
    ·simp only[if_neg hcnd] at h
     rw[e] at h
     rw[e]
     exact ih h
 refine⟨⟨I.ok.mod,ok.kind,I.ok.glob,I.ok.blt,Nat.le_refl _,C.inj,fun x hx=>C.has x (back hx),fun x c e1 e2=>?_,I.ok.hd,I.ok.frames,.inl rfl,fun b hb=> ⟨?_,fun x c e=>?_⟩,
  I.bs,Nat.le_trans I.ok.bsz I.sz,fun b o e hb=>?_,fun b hb z=>?_,I.stack,I.stkFree⟩,rfl,I.bare,⟨fun b o e _ _ _=>kept b o e,fun b o e _ _ _=> ⟨o.slots,kept b o e⟩,fun b o e n _=>n,fun b o e _=> ⟨o,kept b o e⟩,fun _ _ e=>e,fun _ _ _ e=>e,fun b ps e=> ⟨#[],by rw[show H b=some (HO.tbl ps) from e];simp⟩⟩,
  ⟨_,hn,fun i x v e1 e2 e3=>?_⟩,fun x c e=>?_,I.hok.fresh (Nat.le_refl _),fun x c e=> (C.at_ x c e).elim (fun z=>I.hok.fresh z.2.1) (fun z=>I.freeC x c z.2),fun p hp=>absurd (show p∈([]:List (Addr×Obj)) from hp) (by simp),I.hok.kept kept,?_⟩
 ·rcases C.at_ x c e2 with z|z
  ·exact z.2.1
  ·exact absurd (Jb e1) z.1
 ·obtain⟨o,e⟩:=ho b hb
  exact Nat.ne_of_lt (Heap.lt_size e)
 ·rcases C.at_ x c e with z|z
  ·obtain⟨o,e⟩:=ho b hb
   exact Nat.ne_of_gt (Nat.lt_of_lt_of_le (Heap.lt_size e) z.2.1)
  ·exact(hf b hb).2.2.2.2.1 x c z.2
 ·have h1:=(hf b hb).2.2.2.1
  rcases h1 with z|z
  ·exact I.ok.noex b o e z
  ·exact absurd (Nat.lt_of_lt_of_le (Heap.lt_size e) (Nat.le_trans I.ok.bsz z)) (Nat.lt_irrefl _)
 ·have h1:=(hf b hb).2.1
  have h2:=(hf b hb).2.2.1
  exact(List.mem_cons.mp (I.stkSub b z)).elim h1 h2
 ·--the names
  have hlen:nc.length≤i:=by
   by_cases hi:i<nc.length
   ·have e2':(List.replicate nc.length (none:Option V)++By σ cap)[i]?=some (some v):=e2
    rw[List.getElem?_append_left (by simpa using hi),List.getElem?_replicate] at e2'
    split at e2'<;>cases e2'
   ·omega
  have e1':(nc++cap.map (·.1))[i]?=some x:=e1
  have e2':(List.replicate nc.length (none:Option V)++By σ cap)[i]?=some (some v):=e2
  rw[List.getElem?_append_right hlen,List.getElem?_map] at e1'
  rw[List.getElem?_append_right (by simpa using hlen)] at e2'
  simp only[List.length_replicate] at e2'
  unfold By at e2'
  rw[List.getElem?_map] at e2'
  cases hp:cap[i-nc.length]? with
  |none=>rw[hp] at e1';cases e1'
  |some p=>
   rw[hp] at e1' e2'
   have e1'':p.1=x:=Option.some.inj e1'
   have e2'':(σ[p.2]?).join=some v:=Option.some.inj e2'
   subst e1''
   obtain⟨c1,c2⟩:=ok.caps p (List.mem_of_getElem? hp)
   have hσ:σ[p.2]?=some (some v):=by
    cases q:σ[p.2]? with
    |none=>rw[q] at e2'';cases e2''
    |some w'=>rw[q] at e2'';exact congrArg some e2''
   have vis:X.env.scope.names.lookup p.1=some .cell∨X.env.scope.names.lookup p.1=some .free:=ok.free _ (Am c2) rfl
   obtain⟨m,_,hl⟩:=I.loc
   obtain⟨u,r,l⟩:=hl p.2 p.1 v c1 hσ (vis.elim (fun z=> .inr (.inl z)) fun z=> .inr (.inr z))
   refine⟨u,r,.inr ⟨frel p.1 c2,?_⟩⟩
   rcases l with⟨k,_⟩| ⟨_,c,e,z⟩
   ·have k:X.env.scope.names.lookup p.1=some .local:=k
    rcases vis with q|q<;> (rw[q] at k;cases k)
   ·obtain⟨c',e''⟩:=C.has p.1 (.inl c2)
    have q:X.env.cells.lookup p.1=some c':=by
     rcases C.at_ _ _ e'' with z|z
     ·rw[c2] at z;cases z.1
     ·exact z.2
    rw[e] at q;cases q
    obtain⟨o,z1,z2⟩:=z
    exact⟨c,e'',o,kept c o z1,z2⟩
 ·rcases C.at_ x c e with z|z
  ·exact⟨none,z.2.2⟩
  ·obtain⟨v,o,z1,z2⟩:=I.cell x c z.2
   exact⟨v,o,kept c o z1,z2⟩
 ·show(List.replicate nc.length (none:Option V)++By σ cap).length=(nc++cap.map (·.1)).length
  unfold By
  simp
section
variable{prog:Program}{w:World}{A:Around}{R:Result→Shared→Prop}{s:Shared}
abbrev SZ:Value→Shared→Prop:=fun _ _=>False
theorem DN{elt target iter:Expr}{ifs:List Expr}{scope:Scope}{pos:Pos}{it acc:Value}{env:Env}(I:Nat→Shared→Prop)
  (turn:∀n s,I n s→wpAny (model prog w) A (pyNext it) (fun r s₁=>match r with
   |none=>R (.ok .next) s₁
   |some v=>wpAny (model prog w) A (letOwnedTupleGo target it v) (fun _ s₂=>wpAny (model prog w) A (assign target env v) (fun _ s₃=>
     wpAny (model prog w) A (forIn ifs true fun c r=>if r=true then do let ok←isTrue c env (eval c env);pure (ForInStep.yield ok) else pure (ForInStep.yield r)) (fun ok s₄=>
      if ok=true then wpAny (model prog w) A (eval elt env) (fun x s₅=>
       wpAny (model prog w) A (call (.builtin "list.append") [acc,x]) (fun _ s₆=>∃m,m<n∧I m s₆) SZ s₅) SZ s₄
      else∃m,m<n∧I m s₄) SZ s₃) SZ s₂) SZ s₁) SZ s)
  (n:Nat) (h:I n s):
  codeAny (model prog w) A (.compLoop (.ListComp elt [⟨target,iter,ifs,0⟩] scope pos) 0 it acc env) R s:=by
 refine codeAny_loop rfl I (fun n s hI=>?_) n h
 show wpAny _ A ((compTurn (.ListComp elt [⟨target,iter,ifs,0⟩] scope pos) 0 it acc env).onRaise (fun x=>do noteFrame x env;theTreesLotGoes x)) _ _ s
 refine wpAny_noted (wpAny_noRaise ?_)
 rw[compTurn_list]
 refine wpAny_bind (wpAny_standAt (wpAny_bind (Ae (turn n s hI) fun r s₁ h₁=>?_)))
 cases r with
 |none=>exact wpAny_pure h₁
 |some v=>
  refine wpAny_bind (Ae h₁ fun _ s₂ h₂=>wpAny_bind (Ae h₂ fun _ s₃ h₃=>wpAny_bind (Ae h₃ fun ok s₄ h₄=>?_)))
  cases ok with
  |true=>
   rw[if_pos rfl] at h₄ ⊢
   exact wpAny_bind (wpAny_bind (Ae h₄ fun x s₅ h₅=>wpAny_bind (Ae h₅ fun _ s₆ h₆=>wpAny_pure (wpAny_pure ⟨rfl,h₆⟩))))
  |false=>
   rw[if_neg Bool.false_ne_true] at h₄ ⊢
   exact wpAny_bind (wpAny_pure (wpAny_pure ⟨rfl,h₄⟩))
end
def Vs(X:Cx)(ifs:List Expr)(t:TT):Prop:=
 ∀(pins:List (Addr×Obj)) (s:Shared) (σ:St) (H:Hp) (Q:Bool→Hp→Prop),Inv X pins σ H s→t σ H Q→
  wpAny (model X.prog X.w) X.A (forIn ifs true fun c r=>if r=true then do let ok←isTrue c X.env (eval c X.env);pure (ForInStep.yield ok) else pure (ForInStep.yield r)) (TP X pins σ Q) X.xe s
def Yc:TT:=fun _ H Q=>Q true H
theorem Sa{X:Cx}:Vs X [] Yc:=fun _ _ _ H _ I h=>wpAny_tests_nil ⟨H,I,h⟩
theorem Sb{X:Cx}{c:Expr}{t:TT}(h:PT X c t):Vs X [c] t:=fun pins s σ H Q I q=>wpAny_tests_one (h pins s σ H Q I q)
def Ug(nc:List Str)(cap:List (Str×Nat))(g:TG)(tt:TT)(te:TE)(σ:St)(J:It)(p:Addr)(H:Hp)(Q:Hp→Prop):Prop:=
 ∃W:Nat→Nat→Hp→Prop,(∃m,W 0 m (upd H p (.lst [])))∧∀i m H2,W i m H2→
  (J.stop i H2∧Q H2)∨(J.go i H2∧∃N:Hp→Prop,(∀H',N H'→∃m',m'<m∧W (i+1) m' H')∧∀x H3,J.yld i H2 x H3→g x (HG nc σ cap) H3 fun σ4 H4=> (∃pre:St,pre.length=nc.length∧σ4=pre++By σ cap)∧tt σ4 H4 fun b H5=>
   if b=true then te σ4 H5 fun y H6=>∃ys,H6 p=some (.lst ys)∧ys.length<sizeLine∧N (upd H6 p (.lst (ys++[y])))
   else N H5)
def aH(wi:TI)(nc:List Str)(cap:List (Str×Nat))(g:TG)(tt:TT)(te:TE):TE:=fun σ H Q=>wi σ H fun J H1=>∀p,H1 p=none→Ug nc cap g tt te σ J p H1 (Q (.ref p))
section
variable{X:Cx}{elt tg iter:Expr}{ifs:List Expr}{csc:Scope}{nc:List Str}{cap:List (Str×Nat)}{wi:TI}{g:TG}{tt:TT}{te:TE}{pos:Pos}
theorem Jc{pins:List (Addr×Obj)}{σ:St}{s2:Shared}{H2:Hp}{it:Addr}{fp:List Addr}{tn:Nat→Heap→Prop}{J:It}{cl:List (Str×Addr)}{Q:Hp→Prop}{RR:Value→Addr→Result→Shared→Prop}{E:Value→Shared→Prop}
  (hc:X.calm=true) (ok:LcOk X csc nc cap) (hg:∀X',LcCx X csc (Ao nc cap) X'→PG X' tg g) (ht:∀X',LcCx X csc (Ao nc cap) X'→Vs X' ifs tt) (he:∀X',LcCx X csc (Ao nc cap) X'→PE X' elt te)
  (hc1:∀x c,cl.lookup x=some c→X.env.cells.lookup x=some c) (hc2:∀y∈csc.names,y.2=.free→(cl.lookup y.1).isSome=true)
  (I2:Inv X pins σ H2 s2) (T:Turn X.prog X.w X.K tg J fp it tn) (st2:tn 0 s2.heap) (f2:∀b∈fp,Ft X pins H2 b) (run:Ug nc cap g tt te σ J s2.heap.objs.size H2 Q)
  (out:∀(C:Addr) (H':Hp) (s':Shared),Inv X pins σ H' s'→(∃m,s'.heap.Ns C m)→H' C=none→C≠X.env.locals→X.s₀.heap.objs.size≤C→(∀x c,X.env.cells.lookup x=some c→c≠C)→(∀p∈X.pn++pins,p.1≠C)→Q H'→RR (.ref s2.heap.objs.size) C (.ok .next) s'):
  wpAny (model X.prog X.w) X.A (newList []) (fun acc s₃=>wpAny (model X.prog X.w) X.A (newFunctionEnv csc X.env.globals cl [] X.env.qual none .none (some X.env)) (fun cenv s₄=>
   codeAny (model X.prog X.w) X.A (.compStart (.ListComp elt [⟨tg,iter,ifs,0⟩] csc pos) 0 (.ref it) acc {cenv with scope:=relabel csc X.env}) (RR acc cenv.locals) s₄) E s₃) E s2:=by
 refine wpAny_newObj_type ?_
 have hp:H2 s2.heap.objs.size=none:=I2.hok.fresh (Nat.le_refl _)
 have I3:Inv X pins σ (upd H2 s2.heap.objs.size (.lst [])) {s2 with heap:=s2.heap.push {cls:=.type "list",dict:=none,data:=.seq ([]:List Value).toArray}}:=
  I2.laid (t':=s2.toks) (fun b u e=>Heap.get?_push_of_some _ e) (Nat.le_refl _) ⟨Nat.zero_le _,[],0,.nil,Heap.get?_push_size _ rfl⟩
 generalize hs3:({s2 with heap:=s2.heap.push {cls:=.type "list",dict:=none,data:=.seq ([]:List Value).toArray}}:Shared)=s3 at I3
 have hk3:∀b o,s2.heap.get? b=some o→s3.heap.get? b=some o:=fun b o e=>by rw[←hs3];exact Heap.get?_push_of_some _ e
 generalize hp0:s2.heap.objs.size=p at*
 have hlt:∀b∈fp,b<p:=fun b hb=>by
  obtain⟨o,e,_⟩:=T.obj 0 _ st2 b hb
  rw[←hp0];exact Heap.lt_size e
 have f3:∀b∈fp,Ft X pins (upd H2 p (.lst [])) b:=fun b hb=> ⟨by rw[AG (Nat.ne_of_lt (hlt b hb))];exact(f2 b hb).1,(f2 b hb).2⟩
 have st3:tn 0 s3.heap:=T.keep 0 _ _ st2 fun b _ o e=>hk3 b o e
 refine PF ?_
 have LC:=SY (o:={cls:=.type "dict",data:=.dict #[]}) ok I3 hc1 hc2
 have hns:(pushCells (s3.heap.push {cls:=.type "dict",data:=.dict #[]}) csc.names).Ns s3.heap.objs.size (fun _=>none):=(Heap.Ns.new s3.heap (.type "dict")).keeps (pushCells_keeps _ _)
 have kept4:∀b o,s3.heap.get? b=some o→(pushCells (s3.heap.push {cls:=.type "dict",data:=.dict #[]}) csc.names).get? b=some o:=fun b o e=>pushCells_keeps _ _ b o (Heap.get?_push_of_some _ e)
 generalize hcs:cellsFrom (s3.heap.objs.size+1) csc.names cl=cs at LC ⊢
 generalize hh1:pushCells (s3.heap.push {cls:=.type "dict",data:=.dict #[]}) csc.names=h₁ at LC hns kept4 ⊢
 have hcc:∀x c,cs.lookup x=some c→X.env.cells.lookup x=some c∨s3.heap.objs.size≤c:=fun x c e=> (LC.at_ x c e).elim (fun z=> .inr z.2.1) (fun z=> .inl z.2)
 have I4:Inv (SX X csc cs (Ao nc cap) s3 (upd H2 p (.lst [])) fp) [] (HG nc σ cap) (upd H2 p (.lst [])) {s3 with heap:=h₁}:=
  Vr ok I3 LC f3 (fun b hb=> (T.obj 0 _ st3 b hb).imp fun o q=>q.1) hns kept4
 have st4:tn 0 h₁:=T.keep 0 _ _ st3 fun b _ o e=>kept4 b o e
 generalize hX':SX X csc cs (Ao nc cap) s3 (upd H2 p (.lst [])) fp=X' at I4
 have is':LcCx X csc (Ao nc cap) X':=⟨_,_,_,_,hX'.symm⟩
 have hP:X'.prog=X.prog:=by rw[←hX'];rfl
 have hw:X'.w=X.w:=by rw[←hX'];rfl
 have hK:X'.K=X.K:=by rw[←hX'];rfl
 have hA:X'.A=X.A:=by rw[←hX'];rfl
 have hcal:X'.calm=true:=by rw[←hX'];exact hc
 have hE:X'.env=compEnvC csc cs s3.heap.objs.size X.env:=by rw[←hX'];rfl
 have hxe:X'.xe=SZ:=by rw[←hX'];rfl
 have hfs:X'.fs=Ei X.stack:=by rw[←hX'];rfl
 have hex:X'.ex=fp:=by rw[←hX'];rfl
 have hs0:X'.s₀=s3:=by rw[←hX'];rfl
 have hH0:X'.H₀=upd H2 p (.lst []):=by rw[←hX'];rfl
 have hpn:X'.pn=[]:=by rw[←hX'];rfl
 have stat:∀{H':Hp},(∀b∈fp,H' b=none)→∀b∈fp,Ft X' [] H' b:=fun{H'} hn b hb=>by
  obtain⟨_,q2,q3,q4,q5,q6⟩:=f3 b hb
  obtain⟨o,e,_⟩:=T.obj 0 _ st3 b hb
  refine⟨hn b hb,?_,?_,?_,?_,?_⟩
  ·rw[hE];exact Nat.ne_of_lt (Heap.lt_size e)
  ·rw[hfs];exact fun z=> (List.mem_cons.mp (I3.stkSub b z)).elim q2 q3
  ·rw[hex];exact .inl hb
  ·rw[hE];exact fun x c e'=> (hcc x c e').elim (fun z=>q5 x c z) fun z=>Nat.ne_of_gt (Nat.lt_of_lt_of_le (Heap.lt_size e) z)
  ·rw[hpn];intro p hp;simp at hp
 obtain⟨W,⟨m0,w0⟩,turn⟩:=run
 have loop:∀s4:Shared,s4={s3 with heap:=h₁}→codeAny (model X.prog X.w) X.A (.compLoop (.ListComp elt [⟨tg,iter,ifs,0⟩] csc pos) 0 (.ref it) (.ref p) (compEnvC csc cs s3.heap.objs.size X.env)) (RR (.ref p) s3.heap.objs.size) s4:=by
  rintro s4 rfl
  refine DN (fun n s'=>∃i H',Inv X' [] (HG nc σ cap) H' s'∧tn i s'.heap∧(∀b∈fp,H' b=none)∧W i n H') ?_ m0 ⟨0,_,I4,st4,fun b hb=> (f3 b hb).1,w0⟩
  rintro n s5 ⟨i,H5,I5,st5,fr5,w5⟩
  rcases turn i n H5 w5 with⟨stop,qn⟩| ⟨go,N,hN,step⟩
  ·have q:=T.done X' hP hw hK hcal i [] s5 (HG nc σ cap) H5 SZ I5 (stat fr5) st5 stop
   rw[hA] at q
   refine Ae q fun r s6 ⟨hr,I6⟩=>?_
   subst hr
   have B:=I6.base
   rw[hfs,hex,hs0,hH0] at B
   have I7:Inv X pins σ H5 s6:=by
    refine I3.call' (ch:=fp) (by rw[I6.os,hs0]) B (by have:=I6.hok;rw[hP,hw] at this;exact this) I6.bare fun b hb=>?_
    obtain⟨_,q2,q3,q4,q5,q6⟩:=f3 b hb
    exact⟨q4,q2,q5,q6⟩
   obtain⟨m,hm,_⟩:=I6.loc
   have hCf:=I6.free
   rw[hE] at hm hCf
   refine out _ H5 s6 I7 ⟨m,hm⟩ hCf (Nat.ne_of_gt I3.lt) I3.sz (fun x c e z=>?_) (fun p hp z=>?_) qn
   ·obtain⟨v,hv⟩:=I3.cell x c e
    exact absurd hv.lt (by rw[z];exact Nat.lt_irrefl _)
   ·exact absurd (Heap.lt_size (I3.pin p hp).1) (by rw[z];exact Nat.lt_irrefl _)
  ·have q:=T.item X' hP hw hK hcal i [] s5 (HG nc σ cap) H5 SZ I5 (stat fr5) st5 go
   rw[hA] at q
   refine Ae q fun r s6 ⟨u,hr,h6⟩=>?_
   subst hr
   refine Ae h6 fun _ s7 ⟨x,H7,I7,r7,y7,st7,fr7⟩=>?_
   have I7':=I7.pinned (stat fr7) (T.obj _ _ st7)
   have q8:=hg X' is' _ s7 _ H7 x u _ I7' r7 (step x H7 y7)
   rw[hP,hw,hA,hE,hxe] at q8
   refine Ae q8 fun _ s8 ⟨σ8,H8,I8,⟨pre,hpl,hσ8⟩,q8⟩=>?_
   have q9:=ht X' is' _ s8 σ8 H8 _ I8 q8
   rw[hP,hw,hA,hE,hxe] at q9
   have wk:∀{s':Shared} {H':Hp} {pl:List (Addr×Obj)},Inv X' pl σ8 H' s'→Inv X' pl (HG nc σ cap) H' s':=fun{s' H' pl} J'=>by
    refine J'.weak (by rw[J'.len,I4.len]) fun j v e=>?_
    rw[hσ8]
    by_cases hj:j<nc.length
    ·have e:(List.replicate nc.length (none:Option V)++By σ cap)[j]?=some (some v):=e
     rw[List.getElem?_append_left (by simpa using hj),List.getElem?_replicate] at e
     split at e<;>cases e
    ·have e:(List.replicate nc.length (none:Option V)++By σ cap)[j]?=some (some v):=e
     rw[List.getElem?_append_right (by simpa using hj)] at e
     rw[List.getElem?_append_right (by omega),hpl]
     simpa using e
   have again:∀{s':Shared} {H':Hp} {m':Nat},Inv X' ([]++Fu fp s7.heap) σ8 H' s'→m'<n→W (i+1) m' H'→
     ∃m,m<n∧∃i H',Inv X' [] (HG nc σ cap) H' s'∧tn i s'.heap∧(∀b∈fp,H' b=none)∧W i m H':=fun{s' H' m'} J' hm hW=>by
    refine⟨m',hm,i+1,H',wk J'.unpinned,T.keep _ _ _ st7 fun b hb o e=> (J'.pin (b,o) (List.mem_append_right _ (List.mem_append_right _ (Cd hb e)))).1,fun b hb=>?_,hW⟩
    obtain⟨o,e,d⟩:=T.obj _ _ st7 b hb
    exact(J'.pin (b,o) (List.mem_append_right _ (List.mem_append_right _ (Cd hb e)))).2.1
   refine Ae q9 fun b s9 ⟨H9,I9,q9⟩=>?_
   cases b with
   |false=>
    rw[if_neg Bool.false_ne_true] at q9 ⊢
    obtain⟨m',hm,hW⟩:=hN _ q9
    exact again I9 hm hW
   |true=>
    rw[if_pos rfl] at q9 ⊢
    have qe:=he X' is' _ s9 σ8 H9 _ I9 q9
    rw[hP,hw,hA,hE,hxe] at qe
    refine Ae qe fun u s10 ⟨y,H10,I10,ry,ys,hys,hlen,hNn⟩=>?_
    obtain⟨m',hm,hW⟩:=hN _ hNn
    have qa:=Hc (X:=X') _ s10 σ8 H10 (.ref p) [y] (.ref p) [u] (fun _ H'=>H'=upd H10 p (.lst (ys++[y]))) I10 rfl (.cons ry .nil) ⟨p,ys,y,rfl,rfl,hys,hlen,rfl⟩
    rw[hP,hw,hA,hxe] at qa
    refine Ae qa fun _ s11 ⟨_,H11,I11,_,e11⟩=>?_
    subst e11
    exact again I11 hm hW
 have st5:=loop _ rfl
 exact codeAny_compStart_list (loop _ rfl) (T.self X.A 0 _ _ _ st4 (loop _ rfl))
end
section
variable{X:Cx}{elt tg iter:Expr}{ifs:List Expr}{csc:Scope}{nc:List Str}{cap:List (Str×Nat)}{wi:TI}{g:TG}{tt:TT}{te:TE}{pos:Pos}
theorem LcOk.clos{pins:List (Addr×Obj)}{σ:St}{H:Hp}{s:Shared}(ok:LcOk X csc nc cap)(I:Inv X pins σ H s):
  ∃cl,closureFor csc X.env=pure cl∧(∀x c,cl.lookup x=some c→X.env.cells.lookup x=some c)∧∀y∈csc.names,y.2=.free→(cl.lookup y.1).isSome=true:=
 SW fun y hy hf=>I.ok.has y.1 (ok.free y hy hf)
theorem Yd(hc:X.calm=true)(ok:LcOk X csc nc cap)(hi:PI X tg iter wi)(hg:∀X',LcCx X csc (Ao nc cap) X'→PG X' tg g)(ht:∀X',LcCx X csc (Ao nc cap) X'→Vs X' ifs tt)(he:∀X',LcCx X csc (Ao nc cap) X'→PE X' elt te)
  (hs:∀x,foldedSetIterable iter X.env x=pure x:=by intro _;rfl):PE X (.ListComp elt [⟨tg,iter,ifs,0⟩] csc pos) (aH wi nc cap g tt te):=by
 intro pins s σ H Q I h
 obtain⟨cl,hcl,hc1,hc2⟩:=ok.clos I
 rw[eval_ListComp]
 refine wpAny_comprehension_free (use:=none) rfl hs hcl ok.kind ok.locals (Ae (hi pins s σ H _ I h) fun v s1 h1=>Ae h1 fun itv s2 h2=>?_)
 obtain⟨it,fp,tn,J,H2,e,I2,T,st2,f2,run⟩:=h2
 subst e
 refine Jc (RR:=fun acc C=>compPost (model X.prog X.w) X.A X.xe none (EP X pins σ Q) acc C) hc ok hg ht he hc1 hc2 I2 T st2 f2 (run _ (I2.hok.fresh (Nat.le_refl _))) ?_
 intro C H' s' I' hn h1 h2 h3 h4 h5 q
 obtain⟨m,hn⟩:=hn
 refine⟨m,hn,fun h' sb=> ⟨.ref s2.heap.objs.size,H',?_,rfl,q⟩⟩
 exact I'.turned (t':=s'.toks) (fun b o hb e=> (sb.2 b hb).trans e) h1 h2 (.inr h3) h4 h5
def Vt(i:Nat)(te:TE):TS:=fun D σ H=>te σ H fun v H1=>D.nx (σ.set i (some v)) H1
theorem PH{i:Nat}{x:Str}{px spos:Pos}(hN:X.N.Nodup)(hx:X.N[i]?=some x)(hk:X.env.scope.names.lookup x=some .local)(hsw:swapsWith (.ListComp elt [⟨tg,iter,ifs,0⟩] csc pos) (some (.Name x px)) spos.line X.env=pure true)
  (hc:X.calm=true) (ok:LcOk X csc nc cap) (hi:PI X tg iter wi) (hg:∀X',LcCx X csc (Ao nc cap) X'→PG X' tg g) (ht:∀X',LcCx X csc (Ao nc cap) X'→Vs X' ifs tt) (he:∀X',LcCx X csc (Ao nc cap) X'→PE X' elt te)
  (hs:∀x,foldedSetIterable iter X.env x=pure x:=by intro _;rfl):PS X (.Assign [.Name x px] (.ListComp elt [⟨tg,iter,ifs,0⟩] csc pos) spos) (Vt i (aH wi nc cap g tt te)):=by
 intro pins s σ H D I h
 obtain⟨cl,hcl,hc1,hc2⟩:=ok.clos I
 rw[exec_Assign_Name_used _ _ _ _ hsw]
 refine wpAny_bind (wpAny_standAt (wpAny_bind ?_))
 show wpAny _ X.A (do let _←comprehension (.ListComp elt [⟨tg,iter,ifs,0⟩] csc pos) csc X.env _ (newList []) false (eval iter X.env) (some (assign (.Name x px) X.env))) _ _ s
 refine wpAny_bind (Ae (wpAny_comprehension_free (use:=some (assign (.Name x px) X.env)) (Q:=fun _ s'=>SP X pins D .next s') rfl hs hcl ok.kind ok.locals
  (Ae (hi pins s σ H _ I h) fun v s1 h1=>Ae h1 fun itv s2 h2=>?_)) fun _ s' hq=>wpAny_pure (wpAny_pure hq))
 obtain⟨it,fp,tn,J,H2,e,I2,T,st2,f2,run⟩:=h2
 subst e
 refine Jc (RR:=fun acc C=>compPost (model X.prog X.w) X.A X.xe (some (assign (.Name x px) X.env)) (fun _ s'=>SP X pins D .next s') acc C) hc ok hg ht he hc1 hc2 I2 T st2 f2 (run _ (I2.hok.fresh (Nat.le_refl _))) ?_
 intro C H' s' I' hn h1 h2 h3 h4 h5 q
 obtain⟨m,hn⟩:=hn
 show wpAny _ X.A (assign (.Name x px) X.env (.ref s2.heap.objs.size)) _ _ _
 refine wpAny_assign_Name (HV I' hN hx (.inl hk) (v:=.ref s2.heap.objs.size) rfl (fun s'' I'' ha=>?_) (.inr hk))
 obtain⟨a,sb,ha⟩:=ha
 have hCa:C≠a:=by
  rcases ha with ha|ha
  ·rw[ha];exact h2
  ·exact fun z=>h4 x a ha z.symm
 refine⟨m,hn.sameBut sb hCa,fun h' sb'=> ⟨_,H',?_,q⟩⟩
 exact I''.turned (t':=s''.toks) (fun b o hb e=> (sb'.2 b hb).trans e) h1 h2 (.inr h3) h4 h5
end
section
variable{K:PySem.W.Frag}{nc:List Str}{cap:List (Str×Nat)}{g:TG}{tt:TT}{te:TE}{σ:St}{p a:Addr}{H:Hp}{Q:Hp→Prop}
end
def DK(h h':Heap):Prop:=h.objs.size≤h'.objs.size∧∀e,e<h.objs.size→(h'.objs[e]?).map (·.dict)=(h.objs[e]?).map (·.dict)
theorem DK.refl(h:Heap):DK h h:=⟨Nat.le_refl _,fun _ _=>rfl⟩
theorem DK.trans{a b c:Heap}(x:DK a b)(y:DK b c):DK a c:=⟨Nat.le_trans x.1 y.1,fun e he=> (y.2 e (Nat.lt_of_lt_of_le he x.1)).trans (x.2 e he)⟩
theorem DK.push{h:Heap}{o:Obj}:DK h (h.push o):=by
 refine⟨by rw[Heap.size_push];omega,fun e he=>?_⟩
 show((h.objs.push o)[e]?).map _=_
 rw[Array.getElem?_push,if_neg (by omega)]
theorem DK.upd{h:Heap}{a:Addr}{f:Obj→Obj}(hf:∀o,(f o).dict=o.dict):DK h (h.update a f):=by
 obtain⟨objs,l⟩:=h
 refine⟨by show objs.size≤(objs.modify a f).size;simp,fun e he=>?_⟩
 show((objs.modify a f)[e]?).map _=_
 rw[Array.getElem?_modify]
 split
 ·cases objs[e]? with
  |none=>rfl
  |some o=>exact congrArg some (hf o)
 ·rfl
theorem MW{h:Heap}{e:Addr}{o:Obj}(q:h.get? e=some o):h.objs[e]?=some o:=by
 unfold Heap.get? at q
 split at q
 ·cases q
 ·exact q
theorem DK.at_{h h':Heap}{e:Addr}{o o':Obj}(x:DK h h')(q:h.get? e=some o)(q':h'.get? e=some o'):o'.dict=o.dict:=by
 have z:=x.2 e (Heap.lt_size q)
 rw[MW q,MW q'] at z
 exact Option.some.inj z
inductive KD{α:Type}:Sem α→Prop
 |pure (a:α):KD (.pure a)
 |raise (e:Value):KD (.raise e)
 |unsup (x:String):KD (.unsupported x)
 |load {a:Addr} {p:Option Value} {k:Obj→Sem α}:(∀o,KD (k o))→KD (.load a p k)
 |upd {a:Addr} {p:Option Value} {f:Obj→Obj} {k:Unit→Sem α}:(∀o,(f o).dict=o.dict)→KD (k ())→KD (.update a p f k)
 |alloc {o:Obj} {k:Addr→Sem α}:(∀a,KD (k a))→KD (.alloc o k)
 |stack {k:List (Code×Pos)→Sem α}:(∀l,KD (k l))→KD (.stack k)
theorem KD.bind{α β:Type}{m:Sem α}{f:α→Sem β}(h:KD m)(hf:∀a,KD (f a)):KD (m>>=f):=by
 show KD (Sem.bind m f)
 induction h with
 |pure a=>exact hf a
 |raise e=>exact .raise e
 |unsup x=>exact .unsup x
 |load _ ih=>exact .load ih
 |upd q _ ih=>exact .upd q ih
 |alloc _ ih=>exact .alloc ih
 |stack _ ih=>exact .stack ih
theorem KD.wp{α:Type}{M:Model}{Γ:PySem.Ctx}{Q:α→Pos→Shared→Prop}{E:Value→Pos→Shared→Prop}{h0:Heap}{t:Sem α}(h:KD t):∀{p:Pos} {s:Shared},DK h0 s.heap→Sem.wp M Γ t Q E p s→Sem.wp M Γ t (fun a p' s'=>Q a p' s'∧DK h0 s'.heap) E p s:=by
 induction h with
 |pure a=>intro p s d q;exact⟨q,d⟩
 |raise e=>intro p s d q;exact q
 |unsup x=>intro p s d q;exact q
 |load _ ih=>intro p s d q;obtain⟨o,e,q⟩:=q;exact⟨o,e,ih o d q⟩
 |upd hf _ ih=>intro p s d q;exact⟨q.1,ih (d.trans (.upd hf)) q.2⟩
 |alloc _ ih=>intro p s d q;exact ih _ (d.trans .push) q
 |stack _ ih=>intro p s d q;exact ih _ d q
theorem KD.any{α:Type}{M:Model}{A:Around}{Q:α→Shared→Prop}{E:Value→Shared→Prop}{s:Shared}{t:Sem α}(h:KD t)(q:wpAny M A t Q E s):wpAny M A t (fun a s'=>Q a s'∧DK s.heap s'.heap) E s:=
 fun Γ p g=>h.wp (.refl _) (q Γ p g)
theorem KD.ite{α:Type}{c:Prop} [Decidable c]{a b:Sem α}(ha:KD a)(hb:KD b):KD (if c then a else b):=by split<;>assumption
theorem Jd(v:Value):KD (fieldsOf v):=by
 unfold fieldsOf
 split
 ·refine KD.bind (.load fun o=> .pure o) fun o=>?_
  split
  ·exact .pure _
  ·exact .unsup _
 ·exact .unsup _
theorem EE(v:Value)(i:Nat):KD (field v i):=by
 unfold field
 refine(Jd v).bind fun vs=>?_
 split
 ·exact .pure _
 ·exact .unsup _
theorem GC(f:Array Value→Array Value)(o:Obj):(Obj.mapFields f o).dict=o.dict:=by
 unfold Obj.mapFields;split<;>rfl
theorem DO(v:Value)(i:Nat)(x:Value):KD (setField v i x):=by
 unfold setField
 split
 ·unfold updateField
  refine KD.bind (.load fun o=> .pure o) fun o=>?_
  split
  ·exact .ite (.upd (GC _) (.pure _)) (.unsup _)
  ·exact .unsup _
 ·exact .unsup _
theorem Ci(e:Value)(f:Option Addr):KD (setFlight e f):=by
 unfold setFlight
 exact(EE e 1).bind fun tb=> .ite (DO _ _ _) (.pure _)
theorem Je:∀(l:List Env),KD (readyFrames l)
 | []=> .pure _
 |env::outer=>by
  unfold readyFrames
  split
  ·refine KD.bind (.load fun o=> .pure o) fun o=>?_
   refine .ite (.pure _) ?_
   refine KD.bind ?_ fun im=>?_
   ·unfold behindIsImport
    exact .ite (.pure _) (.ite (.pure _) ((EE _ _).bind fun _=> .pure _))
   refine KD.bind ?_ fun bk=>?_
   ·unfold keptBack
    split
    ·refine .ite (.pure _) (KD.bind ?_ fun _=> .pure _)
     unfold underTheClaimsCaller
     exact KD.bind (.stack fun _=> .pure _) fun _=> .pure _
    ·exact .pure _
   exact KD.bind (.upd (fun _=>rfl) (.pure _)) fun _=>Je outer
  ·exact .unsup _
theorem Kx(env:Env):KD (PySem.frameOf env):=by
 unfold PySem.frameOf
 refine KD.bind ?_ fun es=>?_
 ·unfold frameEnvs
  exact KD.bind (.stack fun _=> .pure _) fun _=> .pure _
 refine KD.bind ?_ fun r=>?_
 ·cases es.dropWhile (·.frame !=env.frame) with
  |nil=>exact .pure _
  |cons a b=>unfold frameObject;exact(Je _).bind fun _=> .pure _
 split
 ·exact .pure _
 ·exact .unsup _
theorem PJ(f:Addr)(b:Bool):KD (entryPlaceOf f b):=by
 unfold entryPlaceOf
 refine KD.bind (.stack fun _=> .pure _) fun _=>?_
 split<;>exact .pure _
theorem PK(h a l f i:Value)(pl:List Value):KD (EntryCells.newEntry h a l f i pl):=by
 have z:∀d,KD (newObjAsIs (.type "traceback") d):=fun d=> .alloc fun a=> .pure _
 unfold EntryCells.newEntry newFields newObj
 dsimp only
 exact .ite (KD.bind (.unsup _) fun _=>z _) (z _)
theorem MX(e:Value)(env:Env):KD (noteFrame e env):=by
 unfold noteFrame
 split
 ·rename_i f hf
  refine(EE e 1).bind fun head=>?_
  have fin:KD (do setField e 1 (←EntryCells.newEntry head (←PySem.frameOf env) .none (rawInt f) .none (←entryPlaceOf f (head !=.none)))):=
   (Kx env).bind fun a=> (PJ _ _).bind fun pl=> (PK _ _ _ _ _ _).bind fun b=>DO _ _ _
  refine .ite ?_ fin
  exact(EE _ _).bind fun x=> .ite (.pure _) ((DO _ _ _).bind fun _=>fin)
 ·exact .unsup _
theorem GD(env:Env)(e:Value):KD (leaving env e):=(MX e env).bind fun _=>Ci e none
theorem ObjOk.obj{P:Program}{w:World}{H:Hp}{h:Heap}{a:Addr}{o:HO}(x:ObjOk P w H h a o):∃ob,h.get? a=some ob:=by
 cases o with
 |lst xs=>obtain⟨_,_,_,_,e⟩:=x;exact⟨_,e⟩
 |tup xs=>obtain⟨_,_,_,o,e,_⟩:=x;exact⟨_,e⟩
 |dK kvs=>obtain⟨_,_,_,_,o,_,_,e,_⟩:=x;exact⟨_,e⟩
 |dT kvs=>obtain⟨_,_,_,_,o,_,_,e,_⟩:=x;exact⟨_,e⟩
 |set S n=>obtain⟨o,_,_,_,e,_⟩:=x;exact⟨_,e⟩
 |ins C dx fs=>obtain⟨_,_,_,e,_⟩:=x;exact⟨_,e⟩
 |own y=>obtain⟨_,e⟩:=x;exact⟨_,e⟩
 |xd fs=>obtain⟨_,⟨_,_,_,e,_⟩,_⟩:=x;exact⟨_,e⟩
 |rng lo hi=>obtain⟨_,_,_,e⟩:=x;exact⟨_,e⟩
 |frz ob u=>obtain⟨e,_⟩:=x;exact⟨_,e⟩
 |tbl ps=>exact⟨_,(show h.get? a=some _ from x)⟩
 |met f y=>exact⟨_,(show h.get? a=some _ from x)⟩
 |ext φ=>obtain⟨_,⟨_,e⟩,_⟩:=x;exact⟨_,e⟩
theorem HOk.none_of{P:Program}{w:World}{H:Hp}{h:Heap}{a:Addr}(x:HOk P w H h)(e:h.get? a=none):H a=none:=by
 cases q:H a with
 |none=>rfl
 |some u=>
  obtain⟨ob,e'⟩:=(x a u q).obj
  rw[e] at e';cases e'
def Ye(i:Int):Nat:=if 0≤i then 2*i.toNat else 2*(-i).toNat+1
def Vu(n:Nat):Int:=if n%2=0 then((n/2:Nat):Int) else-((n/2:Nat):Int)
theorem Sd(i:Int):Vu (Ye i)=i:=by unfold Vu Ye;split<;>split<;>omega
def cQ:List Nat→List (Str×V)
 |0::n::_=> [("number",.int (Vu n))]
 |1::n::_=> [("row",.int (Vu n))]
 |2::n::m::_=> [("many",.int (Vu n)),("most",.int (Vu m))]
 |_=> []
def Uh(x:Str):List (Str×V):=cQ x.cps.toList
def Hf:Value→Value
 | .str _ C=> .ref C
 |v=>v
def Vv(dx:Addr)(fs:List (Str×V))(h:Heap):Prop:=∃mA,h.Ns1 dx mA∧(∀f,OZ (fs.lookup f) (mA f))∧PySem.Within mA (fs.map (·.1))
def JP(dx:Addr)(fs:List (Str×V)):HO:=.ext (Vv dx fs)
theorem Vw{P:Program}{w:World}{H:Hp}{h:Heap}{dx:Addr}{fs:List (Str×V)}(q:Vv dx fs h):ObjOk P w H h dx (JP dx fs):=by
 refine⟨q,?_,fun h1 h2 r k=>?_⟩
 ·obtain⟨_,⟨o,_,_,e,_⟩,_⟩:=q
  exact⟨o,e⟩
 ·obtain⟨mA,⟨o,es,ep,e,c⟩,z⟩:=r
  exact⟨mA,⟨o,es,ep,k o e,c⟩,z⟩
def DicX(cls:Value)(x:Addr)(H:Hp)(h:Heap):Prop:=∀fs C,cls=.str fs C→∃ox dx,h.get? x=some ox∧ox.dict=some dx∧H dx=some (JP dx (Uh fs))
theorem DicX.ref{C x:Addr}{H:Hp}{h:Heap}:DicX (.ref C) x H h:=fun _ _ e=>nomatch e
theorem DicX.dk{cls:Value}{x:Addr}{H:Hp}{h h':Heap}(q:DicX cls x H h)(d:DK h h')(e:∃o',h'.get? x=some o'):DicX cls x H h':=fun fs C z=>by
 obtain⟨ox,dx,e1,e2,e3⟩:=q fs C z
 obtain⟨o',e'⟩:=e
 exact⟨o',dx,e',(d.at_ e1 e').trans e2,e3⟩
structure Fly(P:Program)(w:World)(outer:List Env)(H:Hp)(s:Shared)(H':Hp)(x:Addr)(cls:Value)(s':Shared):Prop where
 os:s'.os=s.os
 bare:AllBare s'.gens
 un:Un (Ei outer) [] H H' s.heap s'.heap
 hok:HOk P w H' s'.heap
 fr:H' x=none
 fly:∃B t,(∀b,H' b≠none→∃o,B.get? b=some o)∧(∀b o,s.heap.get? b=some o→b∉Ei outer→∃o',B.get? b=some o')∧Heap.FlyingW B outer x (Hf cls) (.ref t) s'.heap
 dic:DicX cls x H' s'.heap
def CXe(P:Program)(w:World):OX:=fun outer H s E e s'=>∃x cls H',e=.ref x∧Fly P w outer H s H' x cls s'∧E cls none H'
theorem CXe.never{P:Program}{w:World}{outer:List Env}{H:Hp}{s s':Shared}{e:Value}(h:CXe P w outer H s E0 e s'):False:=by
 obtain⟨_,_,_,_,_,q⟩:=h
 exact q
structure XFly(X:Cx)(W:St→XK):Prop where
 fly:∀(pins:List (Addr×Obj)) (σ:St) (H:Hp) (s:Shared) (e:Value) (s':Shared),Inv X pins σ H s→CXe X.prog X.w X.stack H s (W σ) e s'→X.xe e s'
structure XOk(X:Cx)(W:St→XK):Prop where
 made:∀(pins:List (Addr×Obj)) (σ:St) (H:Hp) (s:Shared) (h':Heap) (x C:Addr),Inv X pins σ H s→Heap.MadeExcOf s.heap h' x (.ref C) []→W σ (.ref C) none H→X.xe (.ref x) {s with heap:=h'}
 fly:∀(pins:List (Addr×Obj)) (σ:St) (H:Hp) (s:Shared) (e:Value) (s':Shared),Inv X pins σ H s→CXe X.prog X.w X.stack H s (W σ) e s'→X.xe e s'
 own:PassesOwn (model X.prog X.w) X.A X.env X.xe
 madeF:∀(pins:List (Addr×Obj)) (σ:St) (H:Hp) (s:Shared) (x C t dx:Addr) (fs:Str),Inv X pins σ H s→H x=none→X.s₀.heap.get? x=none→s.heap.get? x=some ⟨.ref C,some dx,.fields #[.ref t,.none,.none,.none,.bool false,.none],#[]⟩→H dx=some (JP dx (Uh fs))→W σ (.str fs C) none H→X.xe (.ref x) s
theorem HOk.by_keep{P:Program}{w:World}{H:Hp}{h h':Heap}(x:HOk P w H h)(k:∀b o,H b≠none→h.get? b=some o→h'.get? b=some o):HOk P w H h':=fun a o e=>
 (x a o e).stay (fun b u hb q=>k b u (by
  rcases hb with rfl|hb
  ·rw[e];exact fun z=>nomatch z
  ·rw[hb];exact fun z=>nomatch z) q) (fun _ q=>q) fun _ _ q=>q
section
variable{P:Program}{w:World}{K:PySem.W.Frag}{mg:Str→Option Value}{base:Heap}{N:List Str}{qual:Str}{scope:Scope}{f:Addr}{cd:Value}{A:Around}{outer:List Env}{s:Shared}{H:Hp}{E:XK}
theorem IX{X:Cx}{pins:List (Addr×Obj)}{σ:St}{H1:Hp}{s2:Shared}{h':Heap}{x:Addr}{cls:Value}{B:Heap}{t:Addr}(hst:X.stack=X.env::X.outer)(hex:X.ex=[])(hfr:X.env.frame=some X.env.locals)(I:Inv X pins σ H1 s2)
  (hB1:∀b,H1 b≠none→∃o,B.get? b=some o) (hB2:∀b o,X.s₀.heap.get? b=some o→b∉Ei X.outer→∃o',B.get? b=some o') (hx:H1 x=none) (hs2:B.StaysIn s2.heap) (fl:Heap.FlyingW B X.outer x (Hf cls) (.ref t) h') (up:s2.heap.UpToSlots h') (dq:DicX cls x H1 h'):
  Fly X.prog X.w X.outer X.H₀ X.s₀ H1 x cls {s2 with heap:=h'}:=by
 have fsm:∀b o,b∈X.fs→s2.heap.get? b=some o→∃sl,h'.get? b=some {o with slots:=sl}:=fun b o hb e=>by
  obtain⟨_,o',e',hd⟩:=I.funs.mem hb
  rw[e] at e';cases e'
  exact up b o e hd
 have same:∀b o o',B.get? b=some o'→s2.heap.get? b=some o→h'.get? b=some o:=fun b o o' e1 e2=>by
  have q:=hs2 b o' e1
  rw[e2] at q;cases q
  exact fl.1 b o e1
 refine⟨I.os,I.bare,⟨fun b o e n hb _=>?_,fun b o e n hb _=>?_,fun b o e n _=>?_,fun b o e _=>?_,I.base.tups,I.base.frzs,I.base.tbls⟩,I.hok.by_keep fun b o hb e=>?_,hx,⟨B,t,hB1,hB2,fl⟩,dq⟩
 ·obtain⟨o',e'⟩:=hB2 b o e hb
  exact same b o o' e' (I.base.keep b o e n hb (by rw[hex];simp))
 ·obtain⟨sl,e1⟩:=I.base.slot b o e n hb (by rw[hex];simp)
  obtain⟨sl',e2⟩:=fsm b _ hb e1
  exact⟨sl',e2⟩
 ·exact I.base.free b o e n (by rw[hex];simp)
 ·obtain⟨o1,e1⟩:=I.base.there b o e (by rw[hex];simp)
  by_cases hb:b∈X.fs
  ·obtain⟨sl,e2⟩:=fsm b o1 hb e1
   exact⟨_,e2⟩
  ·obtain⟨o',e'⟩:=hB2 b o e hb
   exact⟨o',fl.1 b o' e'⟩
 ·obtain⟨o',e'⟩:=hB1 b hb
  exact same b o o' e' e
theorem BQ:XOk (Be (CXe P w) P w K mg base N qual scope f cd A outer s H E) (fun _=>E) where
 made:=by
  intro pins σ H1 s1 h' x C I hx q
  have hin:∀env∈(Be (CXe P w) P w K mg base N qual scope f cd A outer s H E).stack,∀b,env.frame=some b→b∈Ei (Be (CXe P w) P w K mg base N qual scope f cd A outer s H E).stack:=fun env he b hb=>List.mem_filterMap.mpr ⟨env,he,hb⟩
  have hxn:H1 x=none:=I.hok.none_of hx.new
  have I':Inv (Be (CXe P w) P w K mg base N qual scope f cd A outer s H E) pins σ H1 {s1 with heap:=h'}:=I.kept (t':=s1.toks) hx.keeps
  refine wpAny_leaves_madeW (base:=PySem.W.hideAll s1.heap (Ei (Be (CXe P w) P w K mg base N qual scope f cd A outer s H E).stack)) (h:=s1.heap) I.ok.frames rfl (fun b o q=>PySem.W.of_hideAll _ q) (PySem.W.funFrames_hide I.stack hin) hx fun h2 t x1 x2 x3 x4=>?_
  refine⟨x,.ref C,H1,rfl,?_,q⟩
  refine IX (X:=Be (CXe P w) P w K mg base N qual scope f cd A outer s H E) rfl rfl rfl I' (fun b hb=>?_) (fun b o e hb=>?_) hxn (fun b o e=>hx.keeps b o (PySem.W.of_hideAll _ e)) x1 x4 .ref
  ·cases e:H1 b with
   |none=>exact absurd e hb
   |some u=>
    obtain⟨o,eo⟩:=(I.hok b u e).obj
    exact⟨o,PySem.W.hideAll_get _ eo fun z=>hb (I.stkFree b z)⟩
  ·obtain⟨o1,e1⟩:=I.base.there b o e (fun z=>nomatch z)
   refine⟨o1,PySem.W.hideAll_get _ e1 fun z=>?_⟩
   rcases List.mem_cons.mp (I.stkSub b z) with z|z
   ·exact absurd z (Nat.ne_of_lt (Nat.lt_of_lt_of_le (Heap.lt_size e) I.ok.above))
   ·exact hb z
 fly:=by
  rintro pins σ H1 s1 e s2 I ⟨x,cls,H2,rfl,F,q⟩
  obtain⟨B,t,b1,b2,fl⟩:=F.fly
  have I2:Inv (Be (CXe P w) P w K mg base N qual scope f cd A outer s H E) pins σ H2 s2:=I.call' (ch:=[]) F.os F.un F.hok F.bare (fun b z=>absurd z (by simp))
  refine wpAny_mono (KD.any (GD _ _) (wpAny_leaves_onW (E:=fun _ _=>False) (Q:=fun _ s3=>Heap.FlyingW B outer x (Hf cls) (.ref t) s3.heap∧s2.heap.UpToSlots s3.heap∧s3={s2 with heap:=s3.heap}) I.ok.frames rfl fl fun h' x1 x2=> ⟨x1,x2,rfl⟩)) ?_ fun _ _ z=>False.elim z
  rintro _ s3 ⟨⟨x1,x2,e3⟩,dk⟩
  refine⟨x,cls,H2,rfl,?_,q⟩
  rw[e3]
  refine IX (X:=Be (CXe P w) P w K mg base N qual scope f cd A outer s H E) rfl rfl rfl I2 b1 (fun b o e hb=>?_) F.fr fl.1 x1 x2 (F.dic.dk dk (let⟨o,e,_⟩:=x1.there;⟨o,e⟩))
  obtain⟨o1,e1⟩:=I.base.there b o e (fun z=>nomatch z)
  refine b2 b o1 e1 fun z=>?_
  rcases List.mem_cons.mp (I.stkSub b z) with z|z
  ·exact absurd z (Nat.ne_of_lt (Nat.lt_of_lt_of_le (Heap.lt_size e) I.ok.above))
  ·exact hb z
 own:=PassesOwn.leaving
 madeF:=by
  intro pins σ H1 s1 x C t dx fs I hxn hs0 ex hdx q
  have hin:∀env∈(Be (CXe P w) P w K mg base N qual scope f cd A outer s H E).stack,∀b,env.frame=some b→b∈x::Ei (Be (CXe P w) P w K mg base N qual scope f cd A outer s H E).stack:=fun env he b hb=>List.mem_cons_of_mem _ (List.mem_filterMap.mpr ⟨env,he,hb⟩)
  have hkb:Heap.StaysIn (PySem.W.hideAll s1.heap (x::Ei (Be (CXe P w) P w K mg base N qual scope f cd A outer s H E).stack)) s1.heap:=fun b o q=>PySem.W.of_hideAll _ q
  have hen:(PySem.W.hideAll s1.heap (x::Ei (Be (CXe P w) P w K mg base N qual scope f cd A outer s H E).stack)).get? x=none:=by
   exact PySem.W.hideAll_none _ (List.mem_cons_self ..)
  refine wpAny_mono (KD.any (GD _ _) (wpAny_leaving_firstW (E:=fun _ _=>False) (Q:=fun _ s3=>Heap.LeftW (PySem.W.hideAll s1.heap (x::Ei (Be (CXe P w) P w K mg base N qual scope f cd A outer s H E).stack)) _ x (.ref C) (.ref t) s1.heap s3.heap∧s3={s1 with heap:=s3.heap}) I.ok.frames (PySem.W.funFrames_hide I.stack hin) rfl ex hkb hen rfl rfl rfl fun h' hL=> ⟨hL,rfl⟩)) ?_ fun _ _ z=>False.elim z
  rintro _ s3 ⟨⟨⟨x1,⟨_,_,x2⟩,x3,x4⟩,e3⟩,dk⟩
  refine⟨x,.str fs C,H1,rfl,?_,q⟩
  rw[e3]
  have hth:∃o,s3.heap.get? x=some o:=by
   obtain⟨oe,_,_,_,_,he,_⟩:=x3
   exact⟨oe,he⟩
  refine IX (X:=Be (CXe P w) P w K mg base N qual scope f cd A outer s H E) rfl rfl rfl I (fun b hb=>?_) (fun b o e hb=>?_) hxn hkb ⟨x1,hen,x2,x3⟩ x4 ?_
  ·cases e:H1 b with
   |none=>exact absurd e hb
   |some u=>
    obtain⟨o,eo⟩:=(I.hok b u e).obj
    refine⟨o,PySem.W.hideAll_get _ eo fun z=>?_⟩
    rcases List.mem_cons.mp z with z|z
    ·rw[z] at e;rw[hxn] at e;cases e
    ·exact hb (I.stkFree b z)
  ·obtain⟨o1,e1⟩:=I.base.there b o e (fun z=>nomatch z)
   refine⟨o1,PySem.W.hideAll_get _ e1 fun z=>?_⟩
   rcases List.mem_cons.mp z with z|z
   ·rw[z] at e;rw[hs0] at e;cases e
   rcases List.mem_cons.mp (I.stkSub b z) with z|z
   ·exact absurd z (Nat.ne_of_lt (Nat.lt_of_lt_of_le (Heap.lt_size e) I.ok.above))
   ·exact hb z
  ·exact DicX.dk (h:=s1.heap) (fun fs' C' z=>by cases z;exact⟨_,dx,ex,rfl,hdx⟩) dk hth
end
section
variable{X:Cx}{W:St→XK}
def Ky(sp:Sp)(W:St→XK)(t:TA):TE:=fun σ H Q=>t σ H fun vs H1=>sp vs H1 Q (W σ)
theorem XOk.f(x:XOk X W):XFly X W:=⟨x.fly⟩
theorem GE{k:Nat}{f:Addr}{fd:FuncData}{ps:List Str}{sp:Sp}{x:Str}{p pos:Pos}{e:Expr}{es:List Expr}{t:TA}(xo:XFly X W)(F:FnOk X.prog X.w X.K X.mg X.base (CXe X.prog X.w) k f fd ps sp)(hr:Room k X.A)(hg:Gl X x)(hm:X.mg x=some (.ref f))(hk:PySem.W.keepIn X.K (.ref f)=true)(hb:Binds X.K fd ps [])
  (ha:PA X (e::es) t) (hdb:(x==("__debug__" :Str))=false:=by decide) (he:starEach (e::es) X.env=(false,eval e X.env)::starEach es X.env:=by rfl) (hpl:(backTo pos (starEach es X.env)).any (·.1)=false:=by rfl):
  PE X (.Call (.Name x p) (e::es) [] pos) (Ky sp W t):=by
 intro pins s σ H Q I h
 refine wpAny_Call_Name_kw (DZ I hg hm ?_ hdb)
 refine PySem.W.callWith_K (h₀:=X.base) I.ok.mod.kin hk (Ae (ha pos pins s σ H _ I h) fun us s1 ⟨vs,H1,I1,r,q⟩=> ⟨I1.kIn,?_⟩) he hpl
 have r2:Vals vs (us++[]):=by rw[List.append_nil];exact r
 have hl:(us++[]).length=ps.length:=by rw[←r2.length];exact F.len _ _ _ _ q
 refine wpAny_call (codeAny_mono (F.run X.A X.stack s1 H1 ⟨us,[]⟩ (us++[]) vs Q (W σ) hr I1.env0 (hb s1 us I1.kIn hl) r2 q) fun r s' hq=>?_)
 cases r with
 |error e=>exact xo.fly pins σ H1 s1 e s' I1 hq
 |ok fl=>
  cases fl with
  |ret u=>exact I1.after hq
  |next=>exact False.elim hq
  |brk=>exact False.elim hq
  |cont=>exact False.elim hq
end
open PySem.Calls
section
variable{prog:Program}{w:World}{A:Around}{E:Value→Shared→Prop}{s:Shared}{K:PySem.W.Frag}{x D:Addr}{ox:Obj}{od:Option Obj}{name:Str}
structure ExcCls(K:PySem.W.Frag)(D:Addr):Prop where
 ga:PySem.W.findIn K (.ref D) "__getattribute__" =some (some (.builtin "BaseException.__getattribute__"))
 gn:PySem.W.findIn K (.ref D) "__getattr__" =some none
 be:PySem.W.mroIn K D (.type "BaseException")=some true
 ob:PySem.W.mroIn K D (.type "object")=some true
 cl:PySem.W.findIn K (.ref D) "__class__" =some (some (.builtin "object.__class__"))
 gt:PySem.W.specialIn K (.builtin "object.__class__") "__get__" =some (some (.builtin "getset_descriptor.__get__"))
 tk:PySem.W.takesIn K (.builtin "object.__class__")=some true
def TyAt(D x:Addr)(h:Heap):Prop:=∃ox,h.get? x=some ox∧ox.cls=.ref D
theorem TyAt.looks{M:Model}{h:Heap}(p:TyAt D x h):PySem.W.Looks M h (typeOf (.ref x)) (.ref D):=by
 obtain⟨o,h1,h2⟩:=p
 exact h2▸(PySem.W.Looks.ld h1).andThen .now
open PySem.W Builtin Builtin.ObjectAttr Builtin.Getset_descriptor in
theorem Kz {R:Result→Shared→Prop} {tp:Value} (X:K.In s.heap) (I:TyAt D x s.heap) (hm:PySem.W.mroIn K D (.type "object")=some true) (h:R (.ok (.ret (.ref D))) s):
  codeAny (model prog w) A (.call (.builtin "getset_descriptor.__get__") ⟨[.builtin "object.__class__",.ref x,tp],[]⟩) R s:=by
 obtain⟨hh,gg,dd,tt,oo⟩:=s
 have L0:=I.looks (M:=model prog w)
 have L1:=PySem.W.looks_mroIn (M:=model prog w) X hm
 refine codeAny_call_builtin
  KF.slot_gs.plain KF.entry_gs (KF.slot_gs.check _ _ _ _ _ _ _ _
   KF.type_class (KF.args_gs _ _ _) ?_)
 unfold Builtin.«getset_descriptor.__get__»
  descrGet
 rw[dga_obj]
 refine wpAny_bind (wpAny_pure ?_)
 unfold descrGetter descrCheckInstance
  descrNameAndClass isInstance
 simp only[KF.owner_class]
 repeat lk
 refine⟨Code.quiet_builtin _
  (by decide+kernel),codeAny_builtin KF.entry_class ?_⟩
 unfold Builtin.«object.__class__» shownTypeOf
 repeat lk
 exact h
theorem ExcCls.find{M:Model}{h:Heap}(c:ExcCls K D)(X:K.In h):PySem.W.Looks M h (Builtin.ObjectAttr.find (.ref x) (.ref D) "__class__") (.bind (.builtin "getset_descriptor.__get__") (.builtin "object.__class__")):=by
 have L1:=PySem.W.looks_findIn (M:=M) X c.cl
 have L2:PySem.W.Looks M h (Builtin.ObjectAttr.getOf (some (.builtin "object.__class__"))) (some (.builtin "getset_descriptor.__get__")):=PySem.W.looks_specialIn X c.gt
 have L3:=PySem.W.looks_takesIn (M:=M) X c.tk
 refine L1.andThen (L2.andThen ?_)
 exact(show PySem.W.Looks M h (Builtin.ObjectAttr.dataDescriptor? (some (.builtin "object.__class__")) (some (.builtin "getset_descriptor.__get__"))) (some (.builtin "getset_descriptor.__get__",.builtin "object.__class__"))
  from L3.andThen .now).andThen (PySem.W.Looks.tag .now)
theorem Nr{Q:Option Value→Shared→Prop}(c:ExcCls K D)(X:K.In s.heap)(I:TyAt D x s.heap)(h:Q (some (.ref D)) {s with toks:=s.toks+1}):wpAny (model prog w) A (getAttr? (.ref x) "__class__") Q E s:=by
 obtain⟨hh,g,d,t,os⟩:=s
 have L0:=I.looks (M:=model prog w)
 have L1:=PySem.W.looks_findIn (M:=model prog w) X c.ga
 have L2:=PySem.W.looks_findIn (M:=model prog w) X c.gn
 have L3:=PySem.W.looks_mroIn (M:=model prog w) X c.be
 have L4:=c.find (x:=x) (M:=model prog w) X
 have hb:bindSpecial (.builtin "BaseException.__getattribute__") (.ref x)=pure (.builtin "BaseException.__getattribute__",[.ref x]):=PySem.F.excAttr_ValueError.ga.bind _
 have hk:builtinKind "BaseException.__getattribute__" =some .slot:=by decide+kernel
 have hsplit:splitId "BaseException.__getattribute__" =some ("BaseException","__getattribute__"):=by decide+kernel
 have hx2:(Value.builtin "BaseException.__getattribute__" ==Value.builtin "object.__getattribute__")=false:=by decide+kernel
 unfold getAttr? getAttrBy? getAttrBy
 refine wpAny_bind (wpAny_mkText (wpAny_bind (wpAny_attempt (wpAny_holding (wpAny_bind (L0.at (wpAny_bind (L1.at ?_))))))))
 dsimp only
 rw[hx2,Bool.and_false,if_neg Bool.false_ne_true]
 unfold getAttrByItsOwn hookBefore
 refine wpAny_bind (L2.at ?_)
 refine wpAny_bind (wpAny_attempt (wpAny_holding ?_))
 unfold callGetattribute boundAndCalled
 rw[hb]
 show wpAny _ _ (call (.builtin "BaseException.__getattribute__") [.ref x,.str "__class__" t]) _ _ _
 refine wpAny_call (codeAny_call_builtin PySem.F.excAttr_ValueError.ga.plain PySem.F.entry_bexc_ga ?_)
 have ha:=PySem.F.args_bexc_ga (.ref x) (.str "__class__" t)
 simp only[checkBuiltinCall,hk,hsplit]
 refine wpAny_bind ?_
 unfold isInstance
 refine wpAny_bind (L0.at (L3.at ?_))
 rw[if_neg (by decide)]
 refine wpAny_of_eq ha ?_
 show wpAny _ _ (typeOf (.ref x)>>=fun tp=>Builtin.ObjectAttr.find (.ref x) tp "__class__" >>=_) _ _ _
 refine wpAny_bind (L0.at (wpAny_bind (L4.at ?_)))
 show wpAny _ _ ((holding [.builtin "object.__class__"] (call (.builtin "getset_descriptor.__get__") [.builtin "object.__class__",.ref x,.ref D]))>>=ret) _ _ _
 refine wpAny_bind (wpAny_holding (wpAny_call (Kz (s:=⟨hh,g,d,t+1,os⟩) X I c.ob ?_)))
 exact wpAny_pure (wpAny_pure (wpAny_pure h))
theorem ExcCls.isTy{M:Model}{h:Heap}(c:ExcCls K D)(X:K.In h):PySem.W.Looks M h (isType (.ref D)) true:=by
 obtain⟨cd,hc,_⟩:=Option.bind_eq_some_iff.mp (show(PySem.W.clsIn K D).bind _=some true from c.be)
 unfold PySem.W.clsIn at hc
 split at hc
 ·rename_i c' d' cd' sl' ho
  intro A' Q' E' s' k q
  unfold isType loadHead
  exact wpAny_bind (wpAny_loadPart (k _ _ (X _ _ ho)) (wpAny_pure q))
 ·cases hc
theorem PL(c:ExcCls K D):PySem.W.KitX K (.ref x) (.ref D) (TyAt D x) where
 ty:=fun _ _ _ I=>I.looks
 it:=fun _ _ X _=>c.isTy X
 ne:=fun h tp dd its n sl X htp=>by
  refine Bool.eq_false_iff.mpr fun q=>?_
  have e:D=tp:=Value.ref.inj (beq_iff_eq.mp q)
  subst e
  obtain⟨cd,hc,_⟩:=Option.bind_eq_some_iff.mp (show(PySem.W.clsIn K D).bind _=some true from c.be)
  unfold PySem.W.clsIn at hc
  split at hc
  ·rename_i c' d' cd' sl' ho
   have z:=(X _ _ ho).symm.trans htp
   cases z
  ·cases hc
 ca:=fun X I k=>Nr c X I k
end
def Dp(D x:Addr):HO:=.ext (TyAt D x)
theorem MY{P:Program}{w:World}{H:Hp}{h:Heap}{D x:Addr}(p:TyAt D x h):ObjOk P w H h x (Dp D x):=by
 refine⟨p,?_,fun h1 h2 q k=>?_⟩
 ·obtain⟨o,e,_⟩:=p
  exact⟨o,e⟩
 ·obtain⟨o,e,c⟩:=q
  exact⟨o,k o e,c⟩
theorem LA{X:Cx}{pins:List (Addr×Obj)}{σ:St}{H:Hp}{s:Shared}{A:Around}{E:Value→Shared→Prop}{Q:Value→Shared→Prop}{c:Value}{b:Bool}{D x:Addr}(I:Inv X pins σ H s)(hx:Rd H x (Dp D x))(k:ExcCls X.K D)
  (e:PySem.W.kitOne X.K (.ref D) c=some b) (h:∀tk,Q (.bool b) {s with toks:=tk}):wpAny (model X.prog X.w) A (call (.builtin "isinstance") [.ref x,c]) Q E s:=by
 obtain⟨p,_,_⟩:=(show ObjOk X.prog X.w H s.heap x (Dp D x) from hx.ok I.hok)
 exact PySem.W.kia_one (PL k) I.kIn p e (fun z=>nomatch z) h
abbrev FU:List Value:=[.type "ValueError",.type "Exception",.type "BaseException",.type "object"]
theorem Se{K:PySem.W.Frag}{h:Heap}{C:Addr}{bmB:List Value}{newId:String}(X:K.In h)(q:PySem.W.excIn K C bmB newId=true):
  ∃bm N nm qn bs hdct sn sub ab col dd k0 k1 k2 k3 k5 mN,h.get? C=some (excClassObj nm qn C N bs bm hdct sn sub ab col dd k0 k1 k2 k3 k5 newId)∧h.Ns N mN∧mN "__init__" =none∧OwnTail h bmB bm:=by
 unfold PySem.W.excIn at q
 split at q
 ·rename_i dd cd sl ho
  split at q
  ·rename_i C' bm k0 k1 k2 k3 n k5 hm hs
   simp only[Bool.and_eq_true,beq_iff_eq,
    Bool.not_eq_true'] at q
   obtain⟨⟨⟨⟨⟨e1,e2⟩,hdel⟩,ht⟩,hok⟩,hni⟩:=q
   subst e1 e2
   obtain⟨nm,bs,mro,ns,qn,hd,sn,sub,ab,col,del⟩:=cd
   dsimp only at hm hdel hok hni
   subst hm hdel
   have hsl:sl= #[k0,k1,k2,k3,some (.builtin n),k5]:=by
    obtain⟨l⟩:=sl
    simp only at hs
    rw[hs]
   subst hsl
   exact⟨bm,ns,nm,qn,bs,hd,sn,sub,ab,col,dd,k0,k1,k2,k3,k5,_,X _ _ ho,
    .of_isNs (PySem.W.isNs_of_in X hok),PySem.W.nsMap_none_of_in X hok hni,PySem.W.tail_of_in X ht⟩
  ·cases q
 ·cases q
theorem Jf{M:Model}{A:Around}{E:Value→Shared→Prop}{s:Shared}{K:PySem.W.Frag}{C B x:Addr}{b:Bool}{Q:Bool→Shared→Prop}(X:K.In s.heap)(p:TyAt C x s.heap)(k:PySem.W.kitCls K (.ref C) (.ref B)=some b)
  (hb:PySem.W.mroIn K B (.type "BaseException")=some true) (h:Q b s):wpAny M A (excMatches (.ref x) (.ref B)) Q E s:=by
 obtain⟨L1,L2,L3⟩:=PySem.W.kit_cls (M:=M) X k
 have L4:=PySem.W.looks_mroIn (M:=M) X hb
 have L0:=p.looks (M:=M)
 have f:=tc_notTuple
 obtain⟨hh,g,d,t,os⟩:=s
 unfold excMatches isInstance isExcClass
 refine wpAny_bind (wpAny_bind (L1.at ?_))
 rw[f]
 refine wpAny_pure ?_
 rw[if_neg Bool.false_ne_true]
 refine wpAny_bind (wpAny_pure ?_)
 simp only[List.forIn_cons,List.forIn_nil]
 refine wpAny_bind (wpAny_bind (wpAny_bind (wpAny_bind (L2.at ?_))))
 rw[if_pos rfl]
 refine L4.at ?_
 rw[if_neg (by decide)]
 refine wpAny_pure (wpAny_pure (wpAny_bind (L0.at (wpAny_bind (wpAny_bind (wpAny_bind (L3.at ?_)))))))
 cases b with
 |true=>
  rw[if_pos rfl]
  exact wpAny_pure (wpAny_pure (wpAny_pure h))
 |false=>
  rw[if_neg Bool.false_ne_true]
  exact wpAny_pure (wpAny_pure (wpAny_pure h))
section
variable{X:Cx}{pins:List (Addr×Obj)}{σ:St}{H:Hp}{s:Shared}
theorem Inv.track{x:Addr}{o:HO}{vs:Array Value}(I:Inv X pins σ H s)(hx:H x=none)(hf:∃ob,s.heap.get? x=some ob∧ob.data=.fields vs)(hs0:X.s₀.heap.get? x=none)(hp:∀p∈X.pn++pins,p.1≠x)
  (ok:ObjOk X.prog X.w (upd H x o) s.heap x o):Inv X pins σ (upd H x o) s:=by
 obtain⟨ob,eob,dob⟩:=hf
 have ne:∀b u,H b=some u→b≠x:=fun b u e z=>by rw[z,hx] at e;cases e
 have hL:X.env.locals≠x:=fun z=>by
  obtain⟨m,⟨o',es,ep,ho',hd',_⟩,_⟩:=I.loc
  rw[z,eob] at ho';cases ho';rw[dob] at hd';cases hd'
 have hC:∀y c,X.env.cells.lookup y=some c→c≠x:=fun y c e z=>by
  obtain⟨v,o',ho',hd'⟩:=I.cell y c e
  rw[z,eob] at ho';cases ho';rw[dob] at hd';cases hd'
 refine⟨I.ok,I.os,I.bare,⟨I.base.keep,I.base.slot,fun b o e n hb=>?_,I.base.there,fun b xs e=>?_,fun b o u e=>?_,fun b ps e=>?_⟩,I.loc,I.cell,?_,fun y c e=>?_,fun p hp'=>?_,fun b u e=>?_,I.len⟩
 ·have nb:b≠x:=fun z=>by rw[z,hs0] at e;cases e
  rw[AG nb]
  exact I.base.free b o e n hb
 ·have q:=I.base.tups b xs e
  rw[AG (ne b _ q)]
  exact q
 ·have q:=I.base.frzs b o u e
  rw[AG (ne b _ q)]
  exact q
 ·obtain⟨more,q⟩:=I.base.tbls b ps e
  exact⟨more,by rw[AG (ne b _ q)];exact q⟩
 ·rw[AG hL];exact I.free
 ·rw[AG (hC y c e)];exact I.freeC y c e
 ·obtain⟨e,n,r⟩:=I.pin p hp'
  exact⟨e,by rw[AG (hp p hp')];exact n,r⟩
 ·by_cases hb:b=x
  ·subst hb
   rw[AF] at e;cases e
   exact ok
  ·rw[AG hb] at e
   exact(I.hok b u e).stay (fun _ _ _ q=>q) (fun c q=>by rw[AG (ne c _ q)];exact q) fun c xs q=>by rw[AG (ne c _ q)];exact q
theorem Inv.gone{i:Nat}{n:Str}{pos:Pos}{M:Model}{A:Around}{E:Value→Shared→Prop}{Q:Unit→Shared→Prop}(I:Inv X pins σ H s)(hN:X.N.Nodup)(hi:X.N[i]?=some n)(hk:X.env.scope.names.lookup n=some .local)
  (h:∀s',Inv X pins (σ.set i none) H s'→Q () s'):wpAny M A (do bindName X.env n .none;unbindBehindTheSuite X.env n pos) Q E s:=by
 obtain⟨m,hn,hl⟩:=id I.loc
 have hcls:(X.env.scope.kind==.class|| (X.env.scope.kind==.module&&X.env.locals !=X.env.globals))=false:=by rw[I.ok.kind];rfl
 have cne:=I.cne
 refine wpAny_nameGoes_keeps hk hn hcls fun h' v hn' hs=>?_
 obtain⟨oL,_,_,hoL,_⟩:=id hn
 have old:∀b o,X.s₀.heap.get? b=some o→b≠X.env.locals:=fun b o e=>Nat.ne_of_lt (Nat.lt_of_lt_of_le (Heap.lt_size e) I.ok.above)
 refine h _ ⟨I.ok,I.os,I.bare,⟨fun b o e n hb hx=>?_,fun b o e n hb hx=>?_,I.base.free,fun b o e hx=>?_,I.base.tups,I.base.frzs,I.base.tbls⟩,⟨_,hn',fun j y v' e1 e2 e3=>?_⟩,fun y c e=>?_,I.free,I.freeC,fun p hp=>?_,fun b u e=>?_,by simpa using I.len⟩
 ·exact(hs.2 b (old b o e)).trans (I.base.keep b o e n hb hx)
 ·obtain⟨sl,e1⟩:=I.base.slot b o e n hb hx
  exact⟨sl,(hs.2 b (old b o e)).trans e1⟩
 ·obtain⟨o',e1⟩:=I.base.there b o e hx
  exact⟨o',(hs.2 b (old b o e)).trans e1⟩
 ·by_cases hj:j=i
  ·subst hj
   have hiσ:j<σ.length:=by rw[I.len];exact(List.getElem?_eq_some_iff.mp hi).1
   rw[List.getElem?_set_self hiσ] at e2
   cases e2
  ·rw[List.getElem?_set_ne (Ne.symm hj)] at e2
   obtain⟨u',r',q⟩:=hl j y v' e1 e2 e3
   refine⟨u',r',?_⟩
   rcases q with⟨k,e⟩| ⟨k,c,e,z⟩
   ·refine .inl ⟨k,?_⟩
    have:y≠n:=fun e=>hj (Fq hN e1 (e▸hi))
    simp[this,e]
   ·exact .inr ⟨k,c,e,z.sameBut hs (cne y c e)⟩
 ·obtain⟨w',z⟩:=I.cell y c e
  exact⟨w',z.sameBut hs (cne y c e)⟩
 ·obtain⟨e,n,ne,nf,d⟩:=I.pin p hp
  exact⟨(hs.2 p.1 ne).trans e,n,ne,nf,d⟩
 ·refine(I.hok b u e).stay (fun c w' hc q=> (hs.2 c ?_).trans q) (fun _ q=>q) fun _ _ q=>q
  rintro rfl
  rcases hc with rfl|hc
  ·rw[I.free] at e;cases e
  ·rw[I.free] at hc;cases hc
end
theorem Fly.un'{P:Program}{w:World}{outer:List Env}{H H':Hp}{s s':Shared}{x t:Addr}{cls:Value}{B h':Heap}(F:Fly P w outer H s H' x cls s')(b1:∀b,H' b≠none→∃o,B.get? b=some o)(b2:∀b o,s.heap.get? b=some o→b∉Ei outer→∃o',B.get? b=some o')
  (fl:Heap.FlyingW B outer x (Hf cls) (.ref t) s'.heap) (st:B.StaysIn h') (up:s'.heap.UpToSlots h'):Un (Ei outer) [] H H' s.heap h'∧HOk P w H' h':=by
 have same:∀b o o',B.get? b=some o'→s'.heap.get? b=some o→h'.get? b=some o:=fun b o o' e1 e2=>by
  have q:=fl.1 b o' e1
  rw[e2] at q;cases q
  exact st b o e1
 have fsm:∀b o,b∈Ei outer→s'.heap.get? b=some o→∃sl,h'.get? b=some {o with slots:=sl}:=fun b o hb e=>by
  obtain⟨_,o',e',hd⟩:=fl.2.2.1.mem hb
  rw[e] at e';cases e'
  exact up b o e hd
 refine⟨⟨fun b o e n hb hx=>?_,fun b o e n hb hx=>?_,F.un.free,fun b o e hx=>?_,F.un.tups,F.un.frzs,F.un.tbls⟩,F.hok.by_keep fun b o hb e=>?_⟩
 ·obtain⟨o',e'⟩:=b2 b o e hb
  exact same b o o' e' (F.un.keep b o e n hb hx)
 ·obtain⟨sl,e1⟩:=F.un.slot b o e n hb hx
  obtain⟨sl',e2⟩:=fsm b _ hb e1
  exact⟨sl',e2⟩
 ·obtain⟨o1,e1⟩:=F.un.there b o e hx
  by_cases hb:b∈Ei outer
  ·obtain⟨sl,e2⟩:=fsm b o1 hb e1
   exact⟨_,e2⟩
  ·obtain⟨o',e'⟩:=b2 b o e hb
   exact⟨o',st b o' e'⟩
 ·obtain⟨o',e'⟩:=b1 b hb
  exact same b o o' e' e
def Bz(X:Cx)(pins:List (Addr×Obj))(E':Value→Shared→Prop):Cx:={X with pn:=X.pn++pins,xe:=E'}
structure TryIs(X X':Cx):Prop where
 is:∃pins E',X'=Bz X pins E'
def Ui(X:Cx)(x:Addr):Cx:={X with A:=X.A.mark (some (.ref x)),calm:=false,xe:=fun _ _=>False}
section
variable{X:Cx}{pins pins':List (Addr×Obj)}{σ:St}{H:Hp}{s:Shared}{E':Value→Shared→Prop}{x:Addr}
theorem Cx.Ok.toTry(ok:X.Ok):(Bz X pins E').Ok:=
 ⟨ok.mod,ok.kind,ok.glob,ok.blt,ok.above,ok.inj,ok.has,ok.cab,ok.hd,ok.frames,ok.stk,ok.exf,ok.bs,ok.bsz,ok.noex,ok.exfs,ok.funs,ok.frf⟩
theorem Cx.Ok.ofTry(ok:(Bz X pins E').Ok):X.Ok:=
 ⟨ok.mod,ok.kind,ok.glob,ok.blt,ok.above,ok.inj,ok.has,ok.cab,ok.hd,ok.frames,ok.stk,ok.exf,ok.bs,ok.bsz,ok.noex,ok.exfs,ok.funs,ok.frf⟩
theorem Cx.Ok.toH(ok:X.Ok):(Ui X x).Ok:=
 ⟨ok.mod,ok.kind,ok.glob,ok.blt,ok.above,ok.inj,ok.has,ok.cab,fun(e:false=true)=> (Bool.false_ne_true e).elim,ok.frames,ok.stk,ok.exf,ok.bs,ok.bsz,ok.noex,ok.exfs,ok.funs,ok.frf⟩
theorem Inv.toTry(I:Inv X pins σ H s):Inv (Bz X pins E') [] σ H s:=
 ⟨I.ok.toTry,I.os,I.bare,I.base,I.loc,I.cell,I.free,I.freeC,fun p hp=>I.pin p (by rw[List.append_nil] at hp;exact hp),I.hok,I.len⟩
theorem Inv.ofTry(I:Inv (Bz X pins E') pins' σ H s):Inv X pins σ H s:=
 ⟨I.ok.ofTry,I.os,I.bare,I.base,I.loc,I.cell,I.free,I.freeC,fun p hp=>I.pin p (List.mem_append_left _ hp),I.hok,I.len⟩
theorem Inv.toH(I:Inv X pins σ H s):Inv (Ui X x) pins σ H s:=⟨I.ok.toH,I.os,I.bare,I.base,I.loc,I.cell,I.free,I.freeC,I.pin,I.hok,I.len⟩
theorem Inv.ofH(ok:X.Ok)(I:Inv (Ui X x) pins σ H s):Inv X pins σ H s:=⟨ok,I.os,I.bare,I.base,I.loc,I.cell,I.free,I.freeC,I.pin,I.hok,I.len⟩
theorem SP.ofTry{D:Ends}{f:Flow}{s':Shared}(h:SP (Bz X pins E') [] D f s'):SP X pins D f s':=by
 cases f with
 |next=>obtain⟨σ',H',I,q⟩:=h;exact⟨σ',H',I.ofTry,q⟩
 |brk=>obtain⟨σ',H',I,q⟩:=h;exact⟨σ',H',I.ofTry,q⟩
 |cont=>obtain⟨σ',H',I,q⟩:=h;exact⟨σ',H',I.ofTry,q⟩
 |ret u=>obtain⟨v,σ',H',I,r,q⟩:=h;exact⟨v,σ',H',I.ofTry,r,q⟩
end
def Uj(i:Nat)(D:Ends):Ends:={nx:=fun σ H=>D.nx (σ.set i none) H,rt:=D.rt,bk:=fun σ H=>D.bk (σ.set i none) H,ct:=fun σ H=>D.ct (σ.set i none) H}
theorem KD.heap{M:Model}{A:Around}{Q:Unit→Shared→Prop}{E:Value→Shared→Prop}{s:Shared}{t:Sem Unit}{R:Heap→Prop}(h:KD t)(q:wpAny M A t (fun _ s'=>R s'.heap∧s'={s with heap:=s'.heap}) E s)(k:∀h',R h'→DK s.heap h'→Q () {s with heap:=h'}):wpAny M A t Q E s:=
 wpAny_mono (h.any q) (fun _ s' ⟨⟨r,e⟩,d⟩=>by rw[e];exact k _ r d) fun _ _ z=>z
def HK(cls:Value)(C x:Addr)(H:Hp)(o:HO):Prop:=(cls=.ref C∧o=Dp C x)∨∃fs ox dx vs,cls=.str fs C∧o=.frz ox (Dp C x)∧ox=⟨.ref C,some dx,.fields vs,ox.slots⟩∧H dx=some (JP dx (Uh fs))
def WT(K:PySem.W.Frag)(B:Addr)(i:Nat)(th:TS)(D:Ends):St→XK:=fun σ cls _ H=>∃C,(cls=.ref C∨∃fs,cls=.str fs C)∧PySem.W.kitCls K (.ref C) (.ref B)=some true∧∀x o,H x=none→HK cls C x H o→th (Uj i D) (σ.set i (some (.ref x))) (upd H x o)
def bG(tb:(St→XK)→TS)(K:PySem.W.Frag)(B:Addr)(i:Nat)(th:TS):TS:=fun D σ H=>tb (WT K B i th D) D σ H
theorem PM{X:Cx}{body suite:List Stmt}{b₀:Stmt}{n x:Str}{i:Nat}{B:Addr}{np hpos pos:Pos}{tb:(St→XK)→TS}{th:TS}(hst:X.stack=X.env::X.outer)(hex:X.ex=[])(hfr:X.env.frame=some X.env.locals)(hN:X.N.Nodup)(hi:X.N[i]?=some n)
  (hk:X.env.scope.names.lookup n=some .local) (hg:Gl X x) (hm:X.mg x=some (.ref B)) (hbe:PySem.W.mroIn X.K B (.type "BaseException")=some true)
  (hb:∀(W:St→XK) (X':Cx),TryIs X X'→XFly X' W→PSs X' body (tb W)) (hh:∀y,PSs (Ui X y) (b₀::suite) th) (hd:(x==("__debug__" :Str))=false:=by decide):
  PS X (.Try body [.ExceptHandler (some (.Name x np)) (some n) (b₀::suite) hpos] [] [] pos) (bG tb X.K B i th):=by
 intro pins s σ H D I h
 refine wpAny_Try_except ?_
 generalize hXE:(fun(e:Value) (s₁:Shared)=>wpAny (model X.prog X.w) X.A (noteFrame e X.env) (fun _ s₂=>wpAny (model X.prog X.w) X.A (setFlight e none) (fun _ s₃=>wpAny (model X.prog X.w) X.A (handleBy e X.env [.ExceptHandler (some (.Name x np)) (some n) (b₀::suite) hpos]) (SP X pins D) X.xe s₃) X.xe s₂) X.xe s₁)=XE
 have xf:XFly (Bz X pins XE) (WT X.K B i th D):=by
  refine⟨fun pins' σ1 H1 s1 e s2 I1 c=>?_⟩
  obtain⟨y,cls,H2,rfl,F,C,hcls,kc,hq⟩:=c
  have hco:Hf cls=.ref C:=by rcases hcls with rfl| ⟨fs,rfl⟩<;>rfl
  obtain⟨B',t,b1,b2,fl⟩:=F.fly
  rw[hco] at fl
  have flx:Heap.FlyingW B' (Bz X pins XE).stack y (Hf cls) (.ref t) s2.heap:=by rw[hco];exact fl
  have fl':Heap.FlyingW B' (X.env::X.outer) y (.ref C) (.ref t) s2.heap:=hst▸(show Heap.FlyingW B' X.stack y (.ref C) (.ref t) s2.heap from fl)
  have frA:X.A.frames=some (X.env::X.outer):=hst▸I.ok.frames
  have inv_at:∀hp:Heap,B'.StaysIn hp→s2.heap.UpToSlots hp→Inv X pins σ1 H2 {s2 with heap:=hp}:=fun hp st up=>by
   obtain⟨u,ho⟩:=F.un' b1 b2 flx st up
   exact Inv.ofTry (I1.call' (s':={s2 with heap:=hp}) (ch:=[]) F.os u ho F.bare fun b z=>absurd z (by simp))
  show XE (.ref y) s2
  rw[←hXE]
  refine KD.heap (MX _ _) (R:=fun h4=>Heap.HeldW B' (X.env::X.outer) y (.ref C) (.ref t) X.env.locals h4∧s2.heap.UpToSlots h4) (wpAny_looks_onW frA hfr fl' fun h4 a b=> ⟨⟨a,b⟩,rfl⟩) fun h4 ⟨held4,up4⟩ dk4=>?_
  refine KD.heap (Ci _ _) (R:=fun h5=>Heap.FlyingW B' (X.env::X.outer) y (.ref C) (.ref t) h5∧h4.UpToSlots h5) (wpAny_landsW held4 fun h5 a b=> ⟨⟨a,b⟩,rfl⟩) fun h5 ⟨fl5,up5⟩ dk5=>?_
  have up5':=up4.trans up5
  have I5:=inv_at h5 fl5.1 up5'
  refine wpAny_handleBy_cons (codeAny_handlers_test ?_) (by intro q;cases q)
  refine DZ (X:=Ui X y) I5.toH hg hm ?_ hd
  refine Jf (K:=X.K) I5.kIn fl5.there kc hbe ?_
  refine codeAny_handlers_suite_as ?_
  refine KD.heap (Ci _ _) (R:=fun h6=>Heap.FlyingW B' (X.env::X.outer) y (.ref C) (.ref t) h6∧h5.UpToSlots h6) (lands_againW fl5 fun h6 a b=> ⟨⟨a,b⟩,rfl⟩) fun h6 ⟨fl6,up6⟩ dk6=>?_
  have I6:=inv_at h6 fl6.1 (up5'.trans up6)
  have hyB:B'.get? y=none:=fl.2.1
  have nofr:∀b o,s1.heap.get? b=some o→b∉Ei X.stack→b≠y:=fun b o e hb z=>by
   obtain⟨o',e'⟩:=b2 b o e hb
   rw[z,hyB] at e';cases e'
  obtain⟨oe,vs,eoe,_,doe,_⟩:=fl.first
  have yfr:y∉Ei X.stack:=fun z=>by
   obtain⟨_,o',e',hd'⟩:=fl.2.2.1.mem (show y∈(Bz X pins XE).stack.filterMap (·.frame) from z)
   rw[eoe] at e';cases e'
   exact hd' vs doe
  have hs0:X.s₀.heap.get? y=none:=by
   cases e:X.s₀.heap.get? y with
   |none=>rfl
   |some o=>
    have exf:y∉X.ex:=by rw[hex];simp
    obtain⟨o1,e1⟩:=I1.base.there y o e exf
    exact absurd rfl (nofr y o1 e1 yfr)
  obtain⟨oe6,vs6,eoe6,coe6,doe6,_⟩:=fl6.first
  have hk:∃o,HK cls C y H2 o∧ObjOk X.prog X.w (upd H2 y o) h6 y o:=by
   rcases hcls with rfl| ⟨fs,rfl⟩
   ·exact⟨_,.inl ⟨rfl,rfl⟩,MY fl6.there⟩
   ·obtain⟨ox,dx,e1,e2,e3⟩:=F.dic fs C rfl
    have z:=(DK.trans dk4 (DK.trans dk5 dk6)).at_ e1 eoe6
    refine⟨.frz oe6 (Dp C y),.inr ⟨fs,oe6,dx,vs6,rfl,rfl,?_,e3⟩,eoe6,MY fl6.there⟩
    obtain⟨c6,d6,da6,sl6⟩:=oe6
    rw[show d6=some dx from z.trans e2,show c6=.ref C from coe6,show da6=.fields vs6 from doe6]
  obtain⟨o,hk1,hk2⟩:=hk
  have I7:Inv X pins σ1 (upd H2 y o) {s2 with heap:=h6}:=I6.track F.fr ⟨oe6,eoe6,doe6⟩ hs0 (fun p hp=>by
   obtain⟨e,_,nl,nf,_⟩:=I1.pin p (List.mem_append_left _ hp)
   exact nofr p.1 p.2 e fun z=> (List.mem_cons.mp (I1.stkSub p.1 z)).elim nl nf) hk2
  refine DJ (X:=Ui X y) I7.toH hN hi (.inl hk) (v:=.ref y) rfl (fun s8 I8=>?_) (.inr hk)
  refine wpAny_mono (hh y _ s8 _ _ (Uj i D) I8 (hq y o F.fr hk1)) (fun f s9 hf=>?_) fun _ _ z=>False.elim z
  cases f with
  |next=>obtain⟨σ9,H9,I9,q9⟩:=hf;exact(I9.ofH I.ok).gone hN hi hk fun s10 I10=> ⟨_,_,I10,q9⟩
  |brk=>obtain⟨σ9,H9,I9,q9⟩:=hf;exact(I9.ofH I.ok).gone hN hi hk fun s10 I10=> ⟨_,_,I10,q9⟩
  |cont=>obtain⟨σ9,H9,I9,q9⟩:=hf;exact(I9.ofH I.ok).gone hN hi hk fun s10 I10=> ⟨_,_,I10,q9⟩
  |ret u=>obtain⟨v,σ9,H9,I9,r,q9⟩:=hf;exact(I9.ofH I.ok).gone hN hi hk fun s10 I10=> ⟨v,_,_,I10,r,q9⟩
 have q:=hb _ (Bz X pins XE) ⟨_,_,rfl⟩ xf [] s σ H D I.toTry h
 refine wpAny_mono q (fun f s1 hf=>?_) fun e s1 he=>he
 cases f with
 |next=>exact wpAny_execs_nil (SP.ofTry (f:=.next) hf)
 |brk=>exact SP.ofTry (f:=.brk) hf
 |cont=>exact SP.ofTry (f:=.cont) hf
 |ret u=>exact SP.ofTry (f:=.ret u) hf
structure RoomH(k:Nat)(A:Around):Prop where
 dp:A.depth+3*k+5<recursionLimit
 un:A.units+16*k+200<cLine
theorem Room.toH{k:Nat}{A:Around}{x:Value}(r:Room k A):RoomH k (A.mark (some x)):=⟨r.dp,r.un⟩
structure FnH(P:Program)(w:World)(K:PySem.W.Frag)(mg:Str→Option Value)(base:Heap)(k:Nat)(f:Addr)(fd:FuncData)(ps:List Str)(sp:Sp):Prop where
 len:∀vs H Q E,sp vs H Q E→vs.length=ps.length
 run:∀(A:Around) (outer:List Env) (s:Shared) (H:Hp) (args:Args) (us:List Value) (vs:List V) (Q:VK),RoomH k A→Env0 P w K mg base A outer s H→BindsTo s fd args (ps.zip us)→Vals vs us→sp vs H Q E0→
  codeAny (model P w) A (.call (.ref f) args) (CR bF outer P w H s Q E0) s
def Sf(P:Program)(w:World)(K:PySem.W.Frag)(mg:Str→Option Value)(base:Heap)(N:List Str)(qual:Str)(scope:Scope)(f:Addr)(cd:Value)(A:Around)(outer:List Env)(s:Shared)(H:Hp):Cx:=
 {Be bF P w K mg base N qual scope f cd A outer s H E0 with calm:=false,xe:=fun _ _=>False}
theorem Fun.okH{P:Program}{w:World}{K:PySem.W.Frag}{mg:Str→Option Value}{base:Heap}{x qual:Str}{st:Stmt}{f:Addr}{fd:FuncData}{N ps:List Str}{k:Nat}{sp:Sp}(F:Fun K x qual st f fd)(S:FnScope N ps (AA st))
  (len:∀vs H Q E,sp vs H Q E→vs.length=ps.length)
  (hbody:∀(cdv:Value) (A:Around) (outer:List Env) (s:Shared) (H:Hp) (vs:List V) (Q:VK),RoomH k (A.deeper (envOfC qual (AA st) s.heap.objs.size f cdv))→sp vs H Q E0→
   ∃t,PSs (Sf P w K mg base N qual (AA st) f cdv A outer s H) (Aa st) t∧t {nx:=fun _ H'=>Q .non H',rt:=Q} (start N vs) H):FnH P w K mg base (k+1) f fd ps sp:=by
 obtain⟨oc,od,kV,doc,pm,an,cdv,ct,osl,rfl,lk,hcd⟩:=F.ex
 refine⟨len,fun A outer s H args us vs Q hr e0 hb r hsp=>?_⟩
 have hl:=len _ _ _ _ hsp
 have KX:K.In s.heap:=e0.mod.kin.keeps fun b o e=> (e0.bs b o e).1
 have lim:s.heap.NoLimit:=e0.mod.nolimit.keeps fun b o e=> (e0.bs b o e).1
 have hkind:∀y∈ps.zip us,(AA st).names.lookup y.1=some .local∨((AA st).names.lookup y.1=some .cell∧((cellsFrom (s.heap.objs.size+1) (AA st).names []).lookup y.1).isSome=true):=fun⟨n,v⟩ hy=>by
  rcases S.par n (List.of_mem_zip hy).1 with q|q
  ·exact .inl q
  ·exact .inr ⟨q,PySem.W.cellsFrom_some _ _ _ (.inl q)⟩
 refine codeAny_call_function (by have:=hr.dp;omega) (KX _ _ lk) rfl S.co S.gen rfl (PySem.W.codeRec_of KX hcd) (hb _ _ _ _ ?_)
 refine wpAny_newFunctionEnv_cells S.kind hkind fun env he s1 x=>?_
 subst he
 refine⟨lim.keeps x.toInCall.keep,codeAny_func ?_⟩
 obtain⟨t,ht,hq⟩:=hbody cdv A outer s H vs Q ⟨by have:=hr.dp;show A.depth+1+3*k+5<_;omega,by have:=hr.un;show A.units+3+16*k+200<_;omega⟩ hsp
 have I0:Inv (Be bF P w K mg base N qual (AA st) f cdv {A with handled:=none} outer s H E0) [] (start N vs) H s1:=
  Hb S rfl (⟨e0.frames,e0.mod,e0.bs,e0.bsz,e0.funs,e0.frf,e0.hok,e0.bare⟩:Env0 P w K mg base {A with handled:=none} outer s H) hl r x
 have I:Inv (Sf P w K mg base N qual (AA st) f cdv A outer s H) [] (start N vs) H s1:=by
  have ok:=I0.ok
  exact⟨⟨ok.mod,ok.kind,ok.glob,ok.blt,ok.above,ok.inj,ok.has,ok.cab,fun(e:false=true)=> (Bool.false_ne_true e).elim,ok.frames,ok.stk,ok.exf,ok.bs,ok.bsz,ok.noex,ok.exfs,ok.funs,ok.frf⟩,I0.os,I0.bare,I0.base,I0.loc,I0.cell,I0.free,I0.freeC,I0.pin,I0.hok,I0.len⟩
 refine wpAny_mono (ht [] s1 (start N vs) H _ I hq) (fun fl s' hs=>?_) fun e s' hs=>False.elim hs
 have fin:∀{σ':St} {H':Hp} {v:V} {u:Value},Inv (Sf P w K mg base N qual (AA st) f cdv A outer s H) [] σ' H' s'→RelV v u→Q v H'→CE outer P w H s Q u s':=
  fun{σ' H' v u} J rv q=> ⟨v,H',J.os,J.bare,J.base,J.hok,rv,q⟩
 cases fl with
 |ret u=>
  obtain⟨v,σ',H',J,rv,q⟩:=hs
  exact fin J rv q
 |next=>
  obtain⟨σ',H',J,q⟩:=hs
  exact fin (v:=V.non) (u:=Value.none) J rfl q
 |brk=>
  obtain⟨_,_,_,q⟩:=hs
  exact False.elim q
 |cont=>
  obtain⟨_,_,_,q⟩:=hs
  exact False.elim q
theorem PN{X:Cx}{k:Nat}{f:Addr}{fd:FuncData}{ps:List Str}{sp:Sp}{x:Str}{p pos:Pos}{e:Expr}{es:List Expr}{t:TA}(F:FnH X.prog X.w X.K X.mg X.base k f fd ps sp)(hr:RoomH k X.A)(hg:Gl X x)(hm:X.mg x=some (.ref f))(hk:PySem.W.keepIn X.K (.ref f)=true)(hb:Binds X.K fd ps [])
  (ha:PA X (e::es) t) (hdb:(x==("__debug__" :Str))=false:=by decide) (he:starEach (e::es) X.env=(false,eval e X.env)::starEach es X.env:=by rfl) (hpl:(backTo pos (starEach es X.env)).any (·.1)=false:=by rfl):
  PE X (.Call (.Name x p) (e::es) [] pos) (Ky sp (fun _=>E0) t):=by
 intro pins s σ H Q I h
 refine wpAny_Call_Name_kw (DZ I hg hm ?_ hdb)
 refine PySem.W.callWith_K (h₀:=X.base) I.ok.mod.kin hk (Ae (ha pos pins s σ H _ I h) fun us s1 ⟨vs,H1,I1,r,q⟩=> ⟨I1.kIn,?_⟩) he hpl
 have r2:Vals vs (us++[]):=by rw[List.append_nil];exact r
 have hl:(us++[]).length=ps.length:=by rw[←r2.length];exact F.len _ _ _ _ q
 refine wpAny_call (codeAny_mono (F.run X.A X.stack s1 H1 ⟨us,[]⟩ (us++[]) vs Q hr I1.env0 (hb s1 us I1.kIn hl) r2 q) fun r s' hq=>?_)
 cases r with
 |error e=>exact False.elim hq
 |ok fl=>
  cases fl with
  |ret u=>exact I1.after hq
  |next=>exact False.elim hq
  |brk=>exact False.elim hq
  |cont=>exact False.elim hq
theorem Fun.okX{P:Program}{w:World}{K:PySem.W.Frag}{mg:Str→Option Value}{base:Heap}{x qual:Str}{st:Stmt}{f:Addr}{fd:FuncData}{N ps:List Str}{k:Nat}{sp:Sp}(F:Fun K x qual st f fd)(S:FnScope N ps (AA st))(len:∀vs H Q E,sp vs H Q E→vs.length=ps.length)
  (hbody:∀(cdv:Value) (A:Around) (outer:List Env) (s:Shared) (H:Hp) (vs:List V) (Q:VK) (E:XK),Room k (A.deeper (envOfC qual (AA st) s.heap.objs.size f cdv))→sp vs H Q E→
   ∃t,PSs (Be (CXe P w) P w K mg base N qual (AA st) f cdv A outer s H E) (Aa st) t∧t {nx:=fun _ H'=>Q .non H',rt:=Q} (start N vs) H):FnOk P w K mg base (CXe P w) (k+1) f fd ps sp:=by
 obtain⟨oc,od,kV,doc,pm,an,cdv,ct,osl,rfl,lk,hcd⟩:=F.ex
 exact YW lk hcd S len fun A outer s H vs Q E hr hsp=>hbody cdv A outer s H vs Q E hr hsp
section
variable{X:Cx}
def cR(K:PySem.W.Frag)(H:Hp)(x:V)(t:Value):Prop:=TyOf K H x t∨∃a D,x=.ref a∧t=.ref D∧Rd H a (Dp D a)∧ExcCls K D
def Yg(K:PySem.W.Frag):List V→Hp→VK→Prop:=fun vs H Q=>∃x c t cv b,vs=[x,c]∧RelV c cv∧cR K H x t∧PySem.W.kitOne K t cv=some b∧Q (.bl b) H
theorem BF:Aw X (.builtin "isinstance") (Yg X.K):=by
 intro pins s σ H xs us Q I r h
 obtain⟨x,c,t,cv,b,rfl,rc,ty,e,q⟩:=h
 obtain⟨u,w',rfl,rx,rw'⟩:=MR r
 have e2:w'=cv:=by
  cases c with
  |ty n=>exact(show w'=Value.type n from rw').trans (show cv=Value.type n from rc).symm
  |ref a=>exact(show w'=Value.ref a from rw').trans (show cv=Value.ref a from rc).symm
  |non=>exact(show w'=Value.none from rw').trans (show cv=Value.none from rc).symm
  |bl b=>exact(show w'=Value.bool b from rw').trans (show cv=Value.bool b from rc).symm
  |int i=>exact absurd e (by obtain⟨k,rfl⟩:=rc;unfold PySem.W.kitOne;rcases ty with ty| ⟨_,_,_,rfl,_⟩<;>first| (cases ty<;> (intro z;simp[PySem.W.kitCls] at z))| (intro z;simp[PySem.W.kitCls] at z))
  |str i=>exact absurd e (by obtain⟨k,rfl⟩:=rc;unfold PySem.W.kitOne;rcases ty with ty| ⟨_,_,_,rfl,_⟩<;>first| (cases ty<;> (intro z;simp[PySem.W.kitCls] at z))| (intro z;simp[PySem.W.kitCls] at z))
  |byt i=>exact absurd e (by obtain⟨k,rfl⟩:=rc;unfold PySem.W.kitOne;rcases ty with ty| ⟨_,_,_,rfl,_⟩<;>first| (cases ty<;> (intro z;simp[PySem.W.kitCls] at z))| (intro z;simp[PySem.W.kitCls] at z))
  |flt i=>exact absurd e (by obtain⟨k,rfl⟩:=rc;unfold PySem.W.kitOne;rcases ty with ty| ⟨_,_,_,rfl,_⟩<;>first| (cases ty<;> (intro z;simp[PySem.W.kitCls] at z))| (intro z;simp[PySem.W.kitCls] at z))
 subst e2
 rcases ty with ty| ⟨a,D,rfl,rfl,hx,k⟩
 ·exact Nl I rx ty e fun tk=> ⟨.bl b,H,I.tok tk,rfl,q⟩
 ·cases(show u=Value.ref a from rx)
  exact LA I hx k e fun tk=> ⟨.bl b,H,I.tok tk,rfl,q⟩
theorem HH:Aw X (.builtin "repr") (fun xs H Q=>∃i,xs=[.int i]∧i.natAbs.log2<1920∧Q (.str (toString i)) H):=by
 intro pins s σ H xs us Q I r h
 obtain⟨i,rfl,hz,q⟩:=h
 obtain⟨u,rfl,t,rfl⟩:=DC r
 exact PySem.P.repr_of_int hz ⟨.str _,H,I.tok _,⟨_,rfl⟩,q⟩
def LB:List V→List V→Bool
 | [],[]=>true
 |x::xs,y::ys=>FS x y&&LB xs ys
 |_,_=>false
theorem GF:∀{xs ys:List V},xs.length=ys.length→(List.range xs.length).all (fun j=>FS (xs.getD j .non) (ys.getD j .non))=LB xs ys
 | [],[],_=>rfl
 |x::xs,y::ys,h=>by
  have ih:=GF (xs:=xs) (ys:=ys) (by simpa using h)
  rw[List.length_cons,List.range_succ_eq_map,List.all_cons,List.all_map]
  show(FS x y&&_)=(FS x y&&LB xs ys)
  rw[←ih]
  rfl
 | [],_::_,h=>by simp at h
 |_::_,[],h=>by simp at h
def bH(K:PySem.W.Frag):R2:=fun x y H Q=>∃a b xs ys,x=.ref a∧y=.ref b∧SqL K H a xs∧SqL K H b ys∧xs.all Bj=true∧ys.all Bj=true∧xs.length=ys.length∧Q (.bl (!LB xs ys)) H
theorem Vx(hu:X.A.units<cLine):Bv X (compareOp .NotEq) (bH X.K):=by
 intro pins s σ H x y v u Q I rx ry h
 obtain⟨a,b,xs,ys,rfl,rfl,ha,hb,fx,fy,hl,q⟩:=h
 cases rx;cases ry
 obtain⟨its,r1,p1,z1⟩:=I.list ha
 obtain⟨its2,r2,p2,z2⟩:=I.list hb
 have l1:=r1.length
 have l2:=r2.length
 refine SeqAt.RcNeAt.lists (e:=fun j=>FS (xs.getD j .non) (ys.getD j .non)) p1.isList p2.isList (by simp only[List.size_toArray];omega) hu (fun j h1 h2=>?_) _ _ _ _ ?_
 ·have j1:j<xs.length:=by simp only[List.size_toArray] at h1;omega
  have j2:j<ys.length:=by omega
  obtain⟨u1,e1,q1⟩:=r1.get (i:=j) (x:=xs[j]) (by simp[j1])
  obtain⟨u2,e2,q2⟩:=r2.get (i:=j) (x:=ys[j]) (by simp[j2])
  have f1:Bj xs[j]=true:=List.all_eq_true.mp fx _ (List.getElem_mem _)
  have f2:Bj ys[j]=true:=List.all_eq_true.mp fy _ (List.getElem_mem _)
  have d1:xs.getD j .non=xs[j]:=by simp[List.getD,j1]
  have d2:ys.getD j .non=ys[j]:=by simp[List.getD,j2]
  show SeqAt.EqAt _ _ its.toArray[j] its2.toArray[j] (FS (xs.getD j .non) (ys.getD j .non))
  rw[d1,d2]
  have g1:its.toArray[j]=u1:=by
   have:its[j]'(by omega)=u1:=Option.some.inj (by rw[←e1];simp)
   simpa using this
  have g2:its2.toArray[j]=u2:=by
   have:its2[j]'(by omega)=u2:=Option.some.inj (by rw[←e2];simp)
   simpa using this
  rw[g1,g2]
  exact Oy q1 q2 f1 f2
 ·refine⟨.bl _,H,I,rfl,?_⟩
  have e:(List.range its.toArray.size).all (fun j=>FS (xs.getD j .non) (ys.getD j .non))=LB xs ys:=by
   rw[List.size_toArray,←l1];exact GF hl
  rw[e]
  exact q
def Vy(K:PySem.W.Frag):V→List V→Hp→VK→Prop:=fun x vs H Q=>∃l xs y,x=.ref l∧vs=[y]∧SqL K H l xs∧Bj y=true∧xs.all Bj=true∧Q (.int (xs.countP fun z=>FS z y)) H
theorem GG{x:V}:∀{xs:List V} {us:List Value},Vals xs us→xs.all Bj=true→us.countP (Xu x)=xs.countP fun y=>FS y x
 |_,_,.nil,_=>rfl
 |y::xs,u::us,.cons r t,f=>by
  rw[List.all_cons,Bool.and_eq_true] at f
  rw[List.countP_cons,List.countP_cons,Kt r f.1,GG t f.2]
theorem PP:Vm X "list.count" (Vy X.K):=by
 intro pins s σ H x vs v us Q I rx rv h
 obtain⟨l,xs,y,rfl,rfl,hl,fy,fx,q⟩:=h
 cases rx
 obtain⟨u,rfl,ru⟩:=rv.one
 obtain⟨its,r,p,hz⟩:=I.list hl
 obtain⟨⟨cls,dd,data,sl⟩,n,ho,hc,hdd,hd⟩:=id p
 simp only at hc hd
 subst hc hd
 refine call_meets F.slot_list_count ⟨_,ho,rfl⟩ F.entry_list_count (F.args_list_count_2 _ _) (SeqAt.list_countAt l its.toArray n dd sl u (Xu y)) ⟨ho,fun z hz=>GB ru fy r fx z (by simpa using hz),?_⟩
 rw[show its.toArray.toList=its from rfl,GG r fx]
 exact⟨.int _,H,I.tok _,⟨_,rfl⟩,q⟩
def Vz(K:PySem.W.Frag):V→List V→Hp→VK→Prop:=fun x vs H Q=>∃l xs y j,x=.ref l∧vs=[y]∧SqL K H l xs∧Bj y=true∧xs.all Bj=true∧(∃z,xs[j]?=some z∧FS z y=true)∧(∀m z,m<j→xs[m]?=some z→FS z y=false)∧Q (.int (j:Nat)) H
theorem PQ:Vm X "list.index" (Vz X.K):=by
 intro pins s σ H x vs v us Q I rx rv h
 obtain⟨l,xs,y,j,rfl,rfl,hl,fy,fx,⟨z,ez,hit⟩,hno,q⟩:=h
 cases rx
 obtain⟨u,rfl,ru⟩:=rv.one
 obtain⟨its,r,p,hz⟩:=I.list hl
 obtain⟨⟨cls,dd,data,sl⟩,n,ho,hc,hdd,hd⟩:=id p
 simp only at hc hd
 subst hc hd
 have hlen:=r.length
 have hj:j<xs.length:=(List.getElem?_eq_some_iff.mp ez).1
 have at_:∀m (hm:m<its.toArray.size) z,xs[m]?=some z→Xu y its.toArray[m]=FS z y:=fun m hm z e=>by
  obtain⟨w',e',rw'⟩:=r.get e
  have:its.toArray[m]=w':=by
   have:its[m]'(by simpa using hm)=w':=Option.some.inj (by rw[←e'];simp)
   simpa using this
  rw[this]
  exact Kt rw' (List.all_eq_true.mp fx z (List.mem_of_getElem? e))
 refine call_meets F.slot_list_index ⟨_,ho,rfl⟩ F.entry_list_index (F.args_list_index_2 _ _)
  (SeqAt.list_indexAt l its.toArray n dd sl u (Xu y) j (by simpa[←hlen] using hj) (by have:=DM;omega) ?_ ?_) ⟨ho,fun z hz=>GB ru fy r fx z (by simpa using hz),⟨.int _,H,I.tok _,⟨_,rfl⟩,q⟩⟩
 ·rw[at_ j _ z ez];exact hit
 ·intro m hm hlt
  have hmx:m<xs.length:=by omega
  rw[at_ m hm xs[m] (by simp[hmx])]
  exact hno m _ hlt (by simp[hmx])
end
end L2
namespace StT
local macro_rules | `(tactic| omega) => `(tactic| first | lia | omega)
open PySem PySem.SetTable
theorem LD:∀(m:Nat) (l:List Nat),(∀e,e<m→e∈l)→m≤l.length
 |0,_,_=>Nat.zero_le _
 |m+1,l,h=>by
  have hm:m∈l:=h m (Nat.lt_succ_self m)
  have ih:=LD m (l.erase m) fun e he=>by
   rw[List.mem_erase_of_ne (Nat.ne_of_lt he)]
   exact h e (Nat.lt_succ_of_lt he)
  rw[List.length_erase_of_mem hm] at ih
  have:0<l.length:=List.length_pos_of_mem hm
  omega
theorem Ep:∀(n:Nat) (l:List Nat),l.Nodup→(∀x∈l,x<n)→l.length≤n
 |0,[],_,_=>Nat.le_refl _
 |0,x::_,_,h=>absurd (h x List.mem_cons_self) (Nat.not_lt_zero _)
 |n+1,l,nd,h=>by
  have ih:=Ep n (l.erase n) (nd.erase n) fun x hx=>by
   have h1:=h x (List.mem_of_mem_erase hx)
   have h2:x≠n:=fun e=>by
    subst e
    exact absurd hx (List.Nodup.not_mem_erase nd)
   omega
  by_cases hn:n∈l
  ·rw[List.length_erase_of_mem hn] at ih
   omega
  ·rw[List.erase_of_not_mem hn] at ih
   omega
def PR(xs:Array Nat):Prop:=xs.toList.Pairwise (· < ·)
theorem GH{xs:Array Nat}(r:PR xs){i j:Nat}{x y:Nat}(hi:xs[i]?=some x)(hj:xs[j]?=some y)(h:i<j):x<y:=by
 obtain⟨h1,rfl⟩:=Array.getElem?_eq_some_iff.mp hi
 obtain⟨h2,rfl⟩:=Array.getElem?_eq_some_iff.mp hj
 have:=List.pairwise_iff_getElem.mp r i j (by simpa using h1) (by simpa using h2) h
 simpa using this
theorem IY{xs:Array Nat}{j:Nat}:∀(fuel lo hi:Nat),hi-lo≤fuel→lo≤hi→hi≤xs.size→(∀i x,i<lo→xs[i]?=some x→x<j)→(∀i x,hi≤i→xs[i]?=some x→j≤x)→PR xs→
  (below.go xs j fuel lo hi≤xs.size)∧(∀i x,i<below.go xs j fuel lo hi→xs[i]?=some x→x<j)∧∀i x,below.go xs j fuel lo hi≤i→xs[i]?=some x→j≤x
 |0,lo,hi,hf,hlo,hhi,h1,h2,r=>by
  have:lo=hi:=by omega
  subst this
  exact⟨hhi,h1,h2⟩
 |fuel+1,lo,hi,hf,hlo,hhi,h1,h2,r=>by
  unfold below.go
  by_cases hl:lo<hi
  ·rw[if_pos hl]
   have hm:(lo+hi)/2<xs.size:=by omega
   have em:xs[(lo+hi)/2]?=some xs[(lo+hi)/2]:=by simp[hm]
   have eg:xs.getD ((lo+hi)/2) j=xs[(lo+hi)/2]:=by simp[Array.getD,hm]
   dsimp only
   rw[eg]
   by_cases hc:xs[(lo+hi)/2]<j
   ·rw[if_pos hc]
    refine IY fuel _ _ (by omega) (by omega) hhi (fun i x hi' e=>?_) h2 r
    by_cases hx:i=(lo+hi)/2
    ·subst hx
     rw[em] at e;cases e
     exact hc
    ·exact Nat.lt_trans (GH r e em (by omega)) hc
   ·rw[if_neg hc]
    refine IY fuel _ _ (by omega) (by omega) (by omega) h1 (fun i x hi' e=>?_) r
    by_cases hx:i=(lo+hi)/2
    ·subst hx
     rw[em] at e;cases e
     omega
    ·have:=GH r em e (by omega)
     omega
  ·rw[if_neg hl]
   have:lo=hi:=by omega
   subst this
   exact⟨hhi,h1,h2⟩
theorem Cj{xs:Array Nat}{j:Nat}(r:PR xs):(below xs j≤xs.size)∧(∀i x,i<below xs j→xs[i]?=some x→x<j)∧∀i x,below xs j≤i→xs[i]?=some x→j≤x:=
 IY _ _ _ (by omega) (by omega) (Nat.le_refl _) (fun i x h=>absurd h (Nat.not_lt_zero _)) (fun i x h e=>by
  have:=(Array.getElem?_eq_some_iff.mp e).1
  omega) r
theorem Bl{xs:Array Nat}{i j:Nat}(r:PR xs)(h:xs[i]?=some j):below xs j=i:=by
 obtain⟨b1,b2,b3⟩:=Cj (j:=j) r
 have hi:i<xs.size:=(Array.getElem?_eq_some_iff.mp h).1
 apply Nat.le_antisymm
 ·apply Nat.le_of_not_lt
  intro hc
  exact absurd (b2 i j hc h) (Nat.lt_irrefl _)
 ·apply Nat.le_of_not_lt
  intro hc
  have e:xs[below xs j]?=some xs[below xs j]:=by simp[Nat.lt_trans hc hi]
  have h1:=b3 _ _ (Nat.le_refl _) e
  have h2:=GH r e h hc
  omega
theorem BH{α:Type}(xs:Array α)(p:Nat)(x:α):(insertAt xs p x).toList=xs.toList.take p++x::xs.toList.drop p:=by
 unfold insertAt
 simp
 rw[List.take_of_length_le (by simp)]
theorem getElem?_insertAt{α:Type}(xs:Array α)(p:Nat)(x:α)(hp:p≤xs.size)(i:Nat):(insertAt xs p x)[i]?=if i<p then xs[i]? else if i=p then some x else xs[i-1]?:=by
 have e:(insertAt xs p x)[i]?=(insertAt xs p x).toList[i]?:=by simp
 rw[e,BH]
 have hl:(xs.toList.take p).length=p:=by simp[hp]
 by_cases h1:i<p
 ·rw[if_pos h1,List.getElem?_append_left (by omega),List.getElem?_take_of_lt h1]
  simp
 ·rw[if_neg h1,List.getElem?_append_right (by omega),hl]
  by_cases h2:i=p
  ·subst h2
   simp
  ·rw[if_neg h2]
   have:i-p=(i-p-1)+1:=by omega
   rw[this,List.getElem?_cons_succ,List.getElem?_drop]
   have:p+(i-p-1)=i-1:=by omega
   rw[this]
   simp
theorem Dk{α:Type}(xs:Array α)(p:Nat)(x:α)(hp:p≤xs.size):(insertAt xs p x).size=xs.size+1:=by
 rw[←Array.length_toList,BH]
 simp
 omega
theorem LF{xs:Array Nat}{j:Nat}(r:PR xs)(hj:∀i:Nat,xs[i]?≠some j):PR (insertAt xs (below xs j) j):=by
 obtain⟨b1,b2,b3⟩:=Cj (j:=j) r
 unfold PR
 rw[BH]
 have lt:∀y∈xs.toList.take (below xs j),y<j:=fun y hy=>by
  obtain⟨i,hi⟩:=List.getElem?_of_mem hy
  have hlt:i<below xs j:=by
   have:=(List.getElem?_eq_some_iff.mp hi).1
   simp at this;omega
  rw[List.getElem?_take_of_lt hlt] at hi
  exact b2 i y hlt (by simpa using hi)
 have gt:∀y∈xs.toList.drop (below xs j),j<y:=fun y hy=>by
  obtain⟨i,hi⟩:=List.getElem?_of_mem hy
  rw[List.getElem?_drop] at hi
  have hi':xs[below xs j+i]?=some y:=by simpa using hi
  have h1:=b3 _ y (Nat.le_add_right _ _) hi'
  have h2:y≠j:=fun e=>hj _ (e▸hi')
  omega
 refine List.pairwise_append.mpr ⟨List.Pairwise.sublist (List.take_sublist _ _) r,List.pairwise_cons.mpr ⟨gt,List.Pairwise.sublist (List.drop_sublist _ _) r⟩,fun a ha b hb=>?_⟩
 rcases List.mem_cons.mp hb with rfl|hb
 ·exact lt a ha
 ·exact Nat.lt_trans (lt a ha) (gt b hb)
def adv(m:Nat)(p:Probe):Probe:=(SetTable.mk m #[] #[] 0 false 0 false).advance p
theorem GI(t:SetTable)(p:Probe):t.advance p=adv t.mask p:=rfl
theorem GJ{m:Nat}{p:Probe}(h:0<p.more):adv m p=⟨p.j+1,p.more-1,p.i,p.perturb,p.dummy⟩:=by
 unfold adv advance
 exact if_pos h
theorem GK{m:Nat}{p:Probe}(h:¬0<p.more):adv m p=⟨(leap m p.i p.perturb).1,runEnd m (leap m p.i p.perturb).1- (leap m p.i p.perturb).1,(leap m p.i p.perturb).1,(leap m p.i p.perturb).2,p.dummy⟩:=by
 unfold adv advance
 exact if_neg h
def advN(m:Nat):Nat→Probe→Probe
 |0,p=>p
 |n+1,p=>advN m n (adv m p)
theorem Bm(m:Nat):∀(a b:Nat) (p:Probe),advN m (a+b) p=advN m b (advN m a p)
 |0,b,p=>by rw[Nat.zero_add];rfl
 |a+1,b,p=>by
  rw[Nat.succ_add]
  exact Bm m a b (adv m p)
theorem Hg(m n:Nat)(p:Probe):advN m (n+1) p=adv m (advN m n p):=Bm m n 1 p
def st(m:Nat)(x:Nat×Nat)(d:Option Nat):Probe:={j:=x.1,more:=runEnd m x.1-x.1,i:=x.1,perturb:=x.2,dummy:=d}
theorem PU(t:SetTable)(h:Int):t.probeStart h=st t.mask (bits h%(t.mask+1),bits h) none:=rfl
def LG(m:Nat):Nat→Nat×Nat→Nat×Nat
 |0,x=>x
 |n+1,x=>LG m n (leap m x.1 x.2)
theorem Er(m i:Nat)(h:i≤m):i+(runEnd m i-i)≤m∧runEnd m i-i≤9:=by
 unfold runEnd
 split<;>omega
theorem IZ(m:Nat):∀(k:Nat) (p:Probe),k≤p.more→advN m k p={p with j:=p.j+k,more:=p.more-k}
 |0,p,_=>rfl
 |k+1,p,h=>by
  show advN m k (adv m p)=_
  have e:adv m p={p with j:=p.j+1,more:=p.more-1}:=GJ (by omega)
  rw[e,IZ m k _ (by show k≤p.more-1;omega)]
  show({p with j:=p.j+1+k,more:=p.more-1-k}:Probe)={p with j:=p.j+(k+1),more:=p.more- (k+1)}
  rw[show p.j+1+k=p.j+(k+1) by omega,show p.more-1-k=p.more- (k+1) by omega]
theorem GL(m:Nat)(p:Probe):advN m (p.more+1) p=st m (leap m p.i p.perturb) p.dummy:=by
 rw[Hg,IZ m p.more p (Nat.le_refl _)]
 rw[GK (by show¬0<p.more-p.more;omega)]
 rfl
theorem GM(m:Nat):∀(L:Nat) (x:Nat×Nat),x.1≤m→(LG m L x).1≤m
 |0,_,h=>h
 |L+1,x,_=>GM m L _ (by show(x.1*5+1+x.2/32)%(m+1)≤m;have:=Nat.mod_lt (x.1*5+1+x.2/32) (show 0<m+1 by omega);omega)
theorem PV(m:Nat):∀(L:Nat) (x:Nat×Nat) (d:Option Nat),x.1≤m→∃n,n≤10*L∧advN m n (st m x d)=st m (LG m L x) d
 |0,x,d,_=> ⟨0,by omega,rfl⟩
 |L+1,x,d,h=>by
  have hl:(leap m x.1 x.2).1≤m:=GM m 1 x h
  obtain⟨n,hn,e⟩:=PV m L (leap m x.1 x.2) d hl
  have h9:=(Er m x.1 h).2
  refine⟨(st m x d).more+1+n,?_,?_⟩
  ·show runEnd m x.1-x.1+1+n≤_;omega
  ·rw[Bm,GL]
   exact e
theorem MZ(m:Nat):∀(a b:Nat) (x:Nat×Nat),LG m (a+b) x=LG m b (LG m a x)
 |0,b,x=>by rw[Nat.zero_add];rfl
 |a+1,b,x=>by rw[Nat.succ_add];exact MZ m a b _
theorem Ma(m:Nat):∀(L:Nat) (x:Nat×Nat),(LG m L x).2=x.2/32^L
 |0,x=>by simp[LG]
 |L+1,x=>by
  show(LG m L (leap m x.1 x.2)).2=_
  rw[Ma m L]
  show x.2/32/32^L=x.2/32^(L+1)
  rw[Nat.div_div_eq_div_mul,Nat.pow_succ,Nat.mul_comm]
def Xv(m:Nat):Nat→Nat→List Nat
 |0,_=> []
 |n+1,i=>i::Xv m n ((i*5+1)%(m+1))
def fN(m:Nat):Nat→Nat→Nat
 |0,i=>i
 |n+1,i=>fN m n ((i*5+1)%(m+1))
theorem Yh(m:Nat):∀(L i:Nat),LG m L (i,0)=(fN m L i,0)
 |0,_=>rfl
 |L+1,i=>by
  show LG m L ((i*5+1+0/32)%(m+1),0/32)=_
  rw[Nat.zero_div,Nat.add_zero]
  exact Yh m L _
theorem Ia(m:Nat):∀(a b x:Nat),fN m (a+b) x=fN m b (fN m a x)
 |0,b,x=>by rw[Nat.zero_add];rfl
 |a+1,b,x=>by rw[Nat.succ_add];exact Ia m a b _
theorem Ib(m:Nat):∀(n i e:Nat),e∈Xv m n i→∃k,k<n∧fN m k i=e
 |0,_,_,h=>by simp[Xv] at h
 |n+1,i,e,h=>by
  rcases List.mem_cons.mp h with rfl|h
  ·exact⟨0,Nat.succ_pos _,rfl⟩
  ·obtain⟨k,hk,hf⟩:=Ib m n _ e h
   exact⟨k+1,by omega,hf⟩
def Bo(m:Nat):Prop:=m=7∨m=31∨m=127∨m=511
theorem bI{m:Nat}(h:Bo m):fN m (m+1) 0=0∧∀e,e≤m→e∈Xv m (m+1) 0:=by
 have all:∀k,((List.range (k+1)).all fun e=> (Xv k (k+1) 0).contains e)=true→∀e,e≤k→e∈Xv k (k+1) 0:=fun k hk e he=>by
  have:=List.all_eq_true.mp hk e (List.mem_range.mpr (Nat.lt_succ_of_le he))
  exact List.contains_iff_mem.mp this
 rcases h with rfl|rfl|rfl|rfl
 ·exact⟨by decide+kernel,all 7 (by decide+kernel)⟩
 ·exact⟨by decide+kernel,all 31 (by decide+kernel)⟩
 ·exact⟨by decide+kernel,all 127 (by decide+kernel)⟩
 ·exact⟨by decide+kernel,all 511 (by decide+kernel)⟩
theorem cS{m:Nat}(h:Bo m){i e:Nat}(hi:i≤m)(he:e≤m):∃k,k≤m∧fN m k i=e:=by
 obtain⟨c0,call⟩:=bI h
 obtain⟨a,ha,ea⟩:=Ib m _ _ _ (call i hi)
 obtain⟨b,hb,eb⟩:=Ib m _ _ _ (call e he)
 by_cases hab:a≤b
 ·refine⟨b-a,by omega,?_⟩
  rw[←ea,←Ia,show a+(b-a)=b by omega]
  exact eb
 ·refine⟨m+1-a+b,by omega,?_⟩
  rw[←ea,←Ia,show a+(m+1-a+b)=(m+1)+b by omega,Ia,c0]
  exact eb
structure Pr(m:Nat)(p:Probe):Prop where
 ij:p.j+p.more≤m
 more:p.more≤9
 i:p.i≤m
 pert:p.perturb<2^64
theorem Pr.st{m:Nat}{x:Nat×Nat}{d:Option Nat}(h1:x.1≤m)(h2:x.2<2^64):Pr m (st m x d):=⟨(Er m x.1 h1).1,(Er m x.1 h1).2,h1,h2⟩
theorem Pr.adv{m:Nat}{p:Probe}(h:Pr m p):Pr m (adv m p):=by
 by_cases hm:0<p.more
 ·rw[GJ hm]
  exact⟨by have:=h.ij;show p.j+1+(p.more-1)≤m;omega,by have:=h.more;show p.more-1≤9;omega,h.i,h.pert⟩
 ·rw[GK hm]
  have hl:(leap m p.i p.perturb).1≤m:=GM m 1 (p.i,p.perturb) h.i
  exact⟨(Er m _ hl).1,(Er m _ hl).2,hl,Nat.lt_of_le_of_lt (Nat.div_le_self _ _) h.pert⟩
theorem Pr.advN{m:Nat}:∀{n:Nat} {p:Probe},Pr m p→Pr m (advN m n p)
 |0,_,h=>h
 |n+1,_,h=>Pr.advN (n:=n) h.adv
theorem Pr.j{m:Nat}{p:Probe}(h:Pr m p):p.j≤m:=by have:=h.ij;omega
theorem Mb(h:Int):bits h<2^64:=by
 unfold bits
 have h1:=Int.emod_nonneg h (show(2^64:Int)≠0 by decide)
 have h2:=Int.emod_lt_of_pos h (show(0:Int)<2^64 by decide)
 have h3:((2:Nat)^64:Nat)=18446744073709551616:=by decide
 omega
def start(m:Nat)(h:Int):Probe:=st m (bits h%(m+1),bits h) none
theorem Pr.start(m:Nat)(h:Int):Pr m (start m h):=Pr.st (by show bits h%(m+1)≤m;have:=Nat.mod_lt (bits h) (show 0<m+1 by omega);omega) (Mb h)
theorem Yi{q:Nat}(h:q<2^64):q/32^13=0:=Nat.div_eq_of_lt (Nat.lt_of_lt_of_le h (by decide))
theorem Uk{m:Nat}(hm:Bo m){x:Nat×Nat}(h1:x.1≤m)(h2:x.2<2^64){e:Nat}(he:e≤m):∃L,L≤m+13∧(LG m L x).1=e:=by
 have e13:LG m 13 x=((LG m 13 x).1,0):=by
  have:=Ma m 13 x
  rw[Yi h2] at this
  rw[←this]
 obtain⟨k,hk,ek⟩:=cS hm (GM m 13 x h1) he
 refine⟨13+k,by omega,?_⟩
 rw[MZ,e13,Yh]
 exact ek
theorem Ul{m:Nat}(hm:Bo m){p:Probe}(h:Pr m p){e:Nat}(he:e≤m):∃n,n<10*(m+15)∧(advN m n p).j=e:=by
 have hl:(leap m p.i p.perturb).1≤m:=GM m 1 (p.i,p.perturb) h.i
 obtain⟨L,hL,eL⟩:=Uk hm (x:=leap m p.i p.perturb) hl (Nat.lt_of_le_of_lt (Nat.div_le_self _ _) h.pert) he
 obtain⟨n,hn,en⟩:=PV m L (leap m p.i p.perturb) p.dummy hl
 refine⟨p.more+1+n,by have:=h.more;omega,?_⟩
 rw[Bm,GL,en]
 exact eL
theorem Nt(m:Nat)(p:Probe):(adv m p).dummy=p.dummy:=by
 by_cases h:0<p.more
 ·rw[GJ h]
 ·rw[GK h]
theorem Dq(m:Nat):∀(n:Nat) (p:Probe),(advN m n p).dummy=p.dummy
 |0,_=>rfl
 |n+1,p=> (Dq m n _).trans (Nt m p)
end StT
namespace StT
local macro_rules | `(tactic| omega) => `(tactic| first | lia | omega)
open PySem PySem.SetTable
def Jg(t:SetTable)(j:Nat):Prop:=∃i:Nat,t.place[i]?=some j
structure Tb(t:SetTable)(hs:List Int):Prop where
 mask:Bo t.mask
 dum:t.dummies= #[]
 ris:PR t.place
 le:∀i j:Nat,t.place[i]?=some j→j≤t.mask
 size:t.place.size=hs.length
 fnd:∀(i j:Nat) (h:Int),t.place[i]?=some j→hs[i]?=some h→∃n,(advN t.mask n (start t.mask h)).j=j∧∀k,k<n→Jg t (advN t.mask k (start t.mask h)).j
section
variable{t:SetTable}{hs:List Int}
theorem Tb.odd(T:Tb t hs):t.mask%2=1:=by rcases T.mask with h|h|h|h<;>rw[h]
theorem Tb.low(T:Tb t hs):7≤t.mask:=by rcases T.mask with h|h|h|h<;>omega
theorem Tb.live(T:Tb t hs){i j:Nat}(h:t.place[i]?=some j):t.slot j=.live i:=by
 unfold slot
 rw[Bl T.ris h]
 simp only[h,beq_self_eq_true,if_true]
theorem Tb.empty(T:Tb t hs){j:Nat}(h:¬Jg t j):t.slot j=.empty:=by
 unfold slot
 have h1:(t.place[below t.place j]?==some j)=false:=by
  rw[beq_eq_false_iff_ne]
  exact fun e=>h ⟨_,e⟩
 have h2:has t.dummies j=false:=by
  unfold has
  rw[T.dum]
  rfl
 simp only[h1,h2,Bool.false_eq_true,if_false]
theorem Tb.room(T:Tb t hs)(h:hs.length≤t.mask):∃e,e≤t.mask∧¬Jg t e:=by
 apply Classical.byContradiction
 intro hn
 have:=LD (t.mask+1) t.place.toList fun e he=>by
  have:Jg t e:=Classical.byContradiction fun hc=>hn ⟨e,by omega,hc⟩
  obtain⟨i,hi⟩:=this
  exact List.mem_of_getElem? (i:=i) (by simpa using hi)
 rw[Array.length_toList,T.size] at this
 omega
theorem Sg(T:Tb t hs){hashAt:Nat→Int}{h:Int}{p:Probe}{i:Nat}(fuel:Nat)(h1:t.place[i]?=some p.j)(h2:hashAt i≠h):probe.go t hashAt h (fuel+1) p=probe.go t hashAt h fuel (adv t.mask p):=by
 rw[probe.go,T.live h1]
 simp only[beq_iff_eq,if_neg h2,GI]
theorem Jh(T:Tb t hs){hashAt:Nat→Int}{h:Int}:∀(n fuel:Nat) (p:Probe),(∀k,k<n→∃i,t.place[i]?=some (advN t.mask k p).j∧hashAt i≠h)→probe.go t hashAt h (fuel+n) p=probe.go t hashAt h fuel (advN t.mask n p)
 |0,_,_,_=>rfl
 |n+1,fuel,p,hk=>by
  obtain⟨i,h1,h2⟩:=hk 0 (Nat.succ_pos _)
  have h1:t.place[i]?=some p.j:=h1
  rw[←Nat.add_assoc,Sg T _ h1 h2]
  exact Jh T n fuel _ fun k hk'=>hk (k+1) (Nat.succ_lt_succ hk')
theorem PX(T:Tb t hs){hashAt:Nat→Int}{h:Int}{p:Probe}{fuel:Nat}(h1:¬Jg t p.j):probe.go t hashAt h (fuel+1) p=some (.empty p.j p.dummy):=by
 rw[probe.go,T.empty h1]
theorem WB(T:Tb t hs){hashAt:Nat→Int}{h:Int}{p:Probe}{fuel i:Nat}(h1:t.place[i]?=some p.j)(h2:hashAt i=h):probe.go t hashAt h (fuel+1) p=some (.candidate p.j i (adv t.mask p)):=by
 rw[probe.go,T.live h1]
 simp only[beq_iff_eq,if_pos h2,GI]
theorem Yj{S:Nat→Prop}:∀(n:Nat),S n→∃m,m≤n∧S m∧∀k,k<m→¬S k:=by
 intro n
 induction n using Nat.strongRecOn with
 |ind n ih=>
  intro hn
  by_cases h:∃k,k<n∧S k
  ·obtain⟨k,hk,sk⟩:=h
   obtain⟨m,h1,h2,h3⟩:=ih k hk sk
   exact⟨m,by omega,h2,h3⟩
  ·exact⟨n,Nat.le_refl _,hn,fun k hk sk=>h ⟨k,hk,sk⟩⟩
theorem Ji(T:Tb t hs)(hl:hs.length≤t.mask){p:Probe}(pr:Pr t.mask p)(hashAt:Nat→Int)(h:Int):∃n,(∀k,k<n→∃i,t.place[i]?=some (advN t.mask k p).j∧hashAt i≠h)∧
  ((¬Jg t (advN t.mask n p).j∧t.probe hashAt h p=some (.empty (advN t.mask n p).j p.dummy))∨∃i,t.place[i]?=some (advN t.mask n p).j∧hashAt i=h∧t.probe hashAt h p=some (.candidate (advN t.mask n p).j i (advN t.mask (n+1) p))):=by
 obtain⟨e,he,hne⟩:=T.room hl
 obtain⟨n0,hn0,en0⟩:=Ul T.mask pr he
 obtain⟨n,hn,sn,ln⟩:=Yj (S:=fun n=>¬Jg t (advN t.mask n p).j∨∃i,t.place[i]?=some (advN t.mask n p).j∧hashAt i=h) n0 (.inl (by rw[en0];exact hne))
 have pre:∀k,k<n→∃i,t.place[i]?=some (advN t.mask k p).j∧hashAt i≠h:=fun k hk=>by
  have:=ln k hk
  have ho:Jg t (advN t.mask k p).j:=Classical.byContradiction fun hc=>this (.inl hc)
  obtain⟨i,hi⟩:=ho
  exact⟨i,hi,fun z=>this (.inr ⟨i,hi,z⟩)⟩
 have hfuel:10*turns t.mask=(10*(t.mask+15)-n-1+1)+n:=by unfold turns;omega
 refine⟨n,pre,?_⟩
 unfold probe
 rw[hfuel,Jh T n _ p pre]
 rcases sn with sn| ⟨i,h1,h2⟩
 ·exact .inl ⟨sn,by rw[PX T sn,Dq]⟩
 ·exact .inr ⟨i,h1,h2,by rw[WB T h1 h2,Hg]⟩
theorem Tb.put(T:Tb t hs){h:Int}{n:Nat}(hfree:¬Jg t (advN t.mask n (start t.mask h)).j)(hway:∀k,k<n→Jg t (advN t.mask k (start t.mask h)).j):
  Tb (t.put (advN t.mask n (start t.mask h)).j).1 (hs.take (t.put (advN t.mask n (start t.mask h)).j).2++h::hs.drop (t.put (advN t.mask n (start t.mask h)).j).2)∧(t.put (advN t.mask n (start t.mask h)).j).2≤hs.length∧
   (t.put (advN t.mask n (start t.mask h)).j).1.mask=t.mask∧(t.put (advN t.mask n (start t.mask h)).j).1.plain=t.plain∧(t.put (advN t.mask n (start t.mask h)).j).1.led=t.led∧(t.put (advN t.mask n (start t.mask h)).j).1.moves=t.moves:=by
 have hj:(advN t.mask n (start t.mask h)).j≤t.mask:=(Pr.start t.mask h).advN.j
 generalize hJ:(advN t.mask n (start t.mask h)).j=J at*
 have hd:has t.dummies J=false:=by
  unfold has
  rw[T.dum]
  rfl
 have hnot:∀i:Nat,t.place[i]?≠some J:=fun i e=>hfree ⟨i,e⟩
 have hb:=(Cj (j:=J) T.ris).1
 have e1:(t.put J).1={t with place:=insertAt t.place (below t.place J) J}:=by
  unfold SetTable.put
  simp only[hd,Bool.false_eq_true,if_false]
 have e2:(t.put J).2=below t.place J:=rfl
 rw[e1,e2]
 have ix:=getElem?_insertAt t.place (below t.place J) J hb
 have hl:(hs.take (below t.place J)).length=below t.place J:=by rw[List.length_take,←T.size];omega
 have ih:∀i:Nat,(hs.take (below t.place J)++h::hs.drop (below t.place J))[i]?=if i<below t.place J then hs[i]? else if i=below t.place J then some h else hs[i-1]?:=fun i=>by
  by_cases h1:i<below t.place J
  ·rw[if_pos h1,List.getElem?_append_left (by omega),List.getElem?_take_of_lt h1]
  ·rw[if_neg h1,List.getElem?_append_right (by omega),hl]
   by_cases h2:i=below t.place J
   ·subst h2;simp
   ·rw[if_neg h2,show i-below t.place J=(i-below t.place J-1)+1 by omega,List.getElem?_cons_succ,List.getElem?_drop]
    rw[show below t.place J+(i-below t.place J-1)=i-1 by omega]
 have occ:∀x,Jg t x→Jg {t with place:=insertAt t.place (below t.place J) J} x:=fun x ⟨i,hi⟩=>by
  by_cases h1:i<below t.place J
  ·exact⟨i,by show(insertAt t.place (below t.place J) J)[i]?=some x;rw[ix,if_pos h1];exact hi⟩
  ·exact⟨i+1,by show(insertAt t.place (below t.place J) J)[i+1]?=some x;rw[ix,if_neg (by omega),if_neg (by omega)];exact hi⟩
 refine⟨⟨T.mask,T.dum,LF T.ris hnot,fun i j e=>?_,?_,fun i j h' e eh=>?_⟩,by rw[←T.size];exact hb,rfl,rfl,rfl,rfl⟩
 ·have e:(insertAt t.place (below t.place J) J)[i]?=some j:=e
  rw[ix] at e
  by_cases h1:i<below t.place J
  ·rw[if_pos h1] at e;exact T.le i j e
  ·rw[if_neg h1] at e
   by_cases h2:i=below t.place J
   ·rw[if_pos h2] at e;cases e;exact hj
   ·rw[if_neg h2] at e;exact T.le _ j e
 ·show(insertAt t.place (below t.place J) J).size=_
  rw[Dk _ _ _ hb,T.size]
  have hb':below t.place J≤hs.length:=by rw[←T.size];exact hb
  rw[List.length_append,hl,List.length_cons,List.length_drop]
  omega
 ·have e:(insertAt t.place (below t.place J) J)[i]?=some j:=e
  rw[ix] at e
  rw[ih] at eh
  by_cases h1:i<below t.place J
  ·rw[if_pos h1] at e eh
   obtain⟨k,ek,wk⟩:=T.fnd i j h' e eh
   exact⟨k,ek,fun k' hk=>occ _ (wk k' hk)⟩
  ·rw[if_neg h1] at e eh
   by_cases h2:i=below t.place J
   ·rw[if_pos h2] at e eh
    cases e;cases eh
    exact⟨n,hJ,fun k hk=>occ _ (hway k hk)⟩
   ·rw[if_neg h2] at e eh
    obtain⟨k,ek,wk⟩:=T.fnd _ j h' e eh
    exact⟨k,ek,fun k' hk=>occ _ (wk k' hk)⟩
theorem Tb.fresh(f mv:Nat)(led:Bool):Tb (SetTable.fresh f mv led) []:=by
 refine⟨.inl rfl,rfl,List.Pairwise.nil,fun i j e=>?_,rfl,fun i j h e=>?_⟩
 ·have e:(#[]:Array Nat)[i]?=some j:=e
  simp at e
 ·have e:(#[]:Array Nat)[i]?=some j:=e
  simp at e
end
end StT
namespace StT
local macro_rules | `(tactic| omega) => `(tactic| first | lia | omega)
open PySem PySem.SetTable
structure LC(m:Nat)(owner:Array (Option Nat))(hs:List Int):Prop where
 size:owner.size=m+1
 put:∀(r:Nat) (h:Int),hs[r]?=some h→∃j,j≤m∧owner[j]?=some (some r)∧∃n,(advN m n (start m h)).j=j∧∀k,k<n→∃r',owner[(advN m k (start m h)).j]?=some (some r')
 lt:∀j r:Nat,owner[j]?=some (some r)→r<hs.length
 inj:∀j j' r:Nat,owner[j]?=some (some r)→owner[j']?=some (some r)→j=j'
section
variable{m:Nat}{owner:Array (Option Nat)}{hs:List Int}
theorem Ic(hz:owner.size=m+1){x:Nat}(hx:x≤m):owner.getD x (some 0)=owner[x]'(by omega)∧owner[x]?=some (owner[x]'(by omega)):=by
 have hx':x<owner.size:=by omega
 exact⟨by simp[Array.getD,hx'],by simp[hx']⟩
theorem Um(hz:owner.size=m+1){x:Nat}(hx:x≤m)(h:(owner.getD x (some 0)).isNone=false):∃r,owner[x]?=some (some r):=by
 obtain⟨h1,h2⟩:=Ic hz hx
 rw[h1] at h
 cases e:owner[x]'(by omega) with
 |none=>rw[e] at h;cases h
 |some r=>exact⟨r,by rw[h2,e]⟩
theorem Sh(hz:owner.size=m+1){x:Nat}(hx:x≤m)(h:(owner.getD x (some 0)).isNone=true):owner[x]?=some none:=by
 obtain⟨h1,h2⟩:=Ic hz hx
 rw[h1] at h
 cases e:owner[x]'(by omega) with
 |none=>rw[h2,e]
 |some r=>rw[e] at h;cases h
theorem LH{i q k:Nat}(hk:k≤runEnd m i-i):(advN m k (st m (i,q) none)).j=i+k:=by
 rw[IZ m k _ hk]
 rfl
theorem Hi(m i:Nat):i≤runEnd m i:=by
 unfold runEnd
 split<;>omega
theorem Hj(hz:owner.size=m+1){j:Nat}:∀(fuel i q:Nat),i≤m→layClean.free m owner fuel i q=some j→
  ∃n,(advN m n (st m (i,q) none)).j=j∧(∀k,k<n→∃r,owner[(advN m k (st m (i,q) none)).j]?=some (some r))∧owner[j]?=some none∧j≤m
 |0,i,q,_,e=>by simp[layClean.free] at e
 |fuel+1,i,q,hi,e=>by
  have hr:=Er m i hi
  have hge:=Hi m i
  rw[layClean.free] at e
  cases hf:(List.range (runEnd m i+1-i)).find? fun k=> (owner.getD (i+k) (some 0)).isNone with
  |some k=>
   rw[hf] at e
   cases e
   have hk1:(owner.getD (i+k) (some 0)).isNone=true:=by simpa using List.find?_some hf
   have hkm:k<runEnd m i+1-i:=List.mem_range.mp (List.mem_of_find?_eq_some hf)
   refine⟨k,LH (by omega),fun k' hk'=>?_,Sh hz (by omega) hk1,by omega⟩
   rw[LH (by omega)]
   refine Um hz (by omega) ?_
   have:=List.find?_range_eq_some.mp hf
   have h3:=this.2.2 k' hk'
   simpa using h3
  |none=>
   rw[hf] at e
   have hl:(leap m i q).1≤m:=GM m 1 (i,q) hi
   obtain⟨n,h1,h2,h3⟩:=Hj hz fuel _ _ hl e
   have all:∀k,k≤runEnd m i-i→∃r,owner[(advN m k (st m (i,q) none)).j]?=some (some r):=fun k hk=>by
    rw[LH hk]
    refine Um hz (by omega) ?_
    have:=List.find?_eq_none.mp hf k (List.mem_range.mpr (by omega))
    exact Bool.eq_false_iff.mpr this
   have hleap:advN m (runEnd m i-i+1) (st m (i,q) none)=st m (leap m i q) none:=GL m (st m (i,q) none)
   refine⟨(runEnd m i-i+1)+n,?_,fun k hk=>?_,h3⟩
   ·rw[Bm,hleap]
    exact h1
   ·by_cases hk':k≤runEnd m i-i
    ·exact all k hk'
    ·have e2:k=(runEnd m i-i+1)+(k- (runEnd m i-i+1)):=by omega
     rw[e2,Bm,hleap]
     exact h2 _ (by omega)
theorem Hl(hz:owner.size=m+1){e:Nat}(he:owner[e]?=some none)(hem:e≤m):∀(fuel L i q:Nat),i≤m→L<fuel→(LG m L (i,q)).1=e→layClean.free m owner fuel i q≠none
 |0,L,_,_,_,h,_=>absurd h (Nat.not_lt_zero _)
 |fuel+1,L,i,q,hi,hL,eL=>by
  rw[layClean.free]
  have hge:=Hi m i
  cases hf:(List.range (runEnd m i+1-i)).find? fun k=> (owner.getD (i+k) (some 0)).isNone with
  |some k=>simp
  |none=>
   cases L with
   |zero=>
    have eL:i=e:=eL
    subst eL
    have:=List.find?_eq_none.mp hf 0 (List.mem_range.mpr (by omega))
    obtain⟨h1,h2⟩:=Ic hz hem
    rw[he] at h2
    have h2:=Option.some.inj h2
    rw[Nat.add_zero,h1,←h2] at this
    exact absurd rfl this
   |succ L=>
    exact Hl hz he hem fuel L _ _ (GM m 1 (i,q) hi) (by omega) eL
def EF(m:Nat)(acc:Option (Array (Option Nat)×Nat))(h:Int):Option (Array (Option Nat)×Nat):=do
 let(owner,k)←acc
 let j←layClean.free m owner (turns m) (bits h%(m+1)) (bits h)
 pure (owner.setIfInBounds j (some k),k+1)
theorem Jj(m:Nat)(hs:Array Int):layClean m hs=(hs.toList.foldl (EF m) (some (Array.replicate (m+1) none,0))).map (·.1):=by
 unfold layClean
 rw[Array.foldl_toList]
 rfl
theorem LC.room(c:LC m owner hs)(h:hs.length≤m):∃e,e≤m∧owner[e]?=some none:=by
 apply Classical.byContradiction
 intro hn
 have all:∀e,e≤m→∃r,owner[e]?=some (some r):=fun e he=>by
  have hz:=c.size
  cases q:owner[e]'(by omega) with
  |none=>exact absurd ⟨e,he,by rw[←q];simp[show e<owner.size by omega]⟩ hn
  |some r=>exact⟨r,by rw[←q];simp[show e<owner.size by omega]⟩
 have hf:∀e,∃r,e≤m→owner[e]?=some (some r):=fun e=>by
  by_cases he:e≤m
  ·obtain⟨r,hr⟩:=all e he;exact⟨r,fun _=>hr⟩
  ·exact⟨0,fun z=>absurd z he⟩
 obtain⟨f,hf⟩:=Classical.axiomOfChoice hf
 have hl:=Ep hs.length ((List.range (m+1)).map f) (by
  refine List.Pairwise.map f (R:=fun a b=>a≠b∧a≤m∧b≤m) (fun a b hab e=>?_) ?_
  ·have h1:=hf a hab.2.1
   have h2:=hf b hab.2.2
   rw[e] at h1
   exact hab.1 (c.inj a b _ h1 h2)
  ·refine List.Pairwise.imp_of_mem (fun{a b} ha hb h=> ⟨Nat.ne_of_lt h,?_,?_⟩) (List.pairwise_lt_range (n:=m+1))
   ·have:=List.mem_range.mp ha;omega
   ·have:=List.mem_range.mp hb;omega) (fun x hx=>by
  obtain⟨e,he,rfl⟩:=List.mem_map.mp hx
  exact c.lt e _ (hf e (by have:=List.mem_range.mp he;omega)))
 rw[List.length_map,List.length_range] at hl
 omega
theorem LC.step(hm:Bo m)(c:LC m owner hs)(hl:hs.length≤m)(h:Int):∃o',EF m (some (owner,hs.length)) h=some (o',hs.length+1)∧LC m o' (hs++[h]):=by
 obtain⟨e,he,hne⟩:=c.room hl
 have hb:bits h%(m+1)≤m:=by have:=Nat.mod_lt (bits h) (show 0<m+1 by omega);omega
 obtain⟨L,hL,eL⟩:=Uk hm (x:=(bits h%(m+1),bits h)) hb (Mb h) he
 have hs':=Hl c.size hne he (turns m) L _ _ hb (by unfold turns;omega) eL
 cases hf:layClean.free m owner (turns m) (bits h%(m+1)) (bits h) with
 |none=>exact absurd hf hs'
 |some j=>
  obtain⟨n,h1,h2,h3,h4⟩:=Hj c.size _ _ _ hb hf
  have hj:j<owner.size:=by rw[c.size];omega
  refine⟨owner.setIfInBounds j (some hs.length),?_,?_⟩
  ·unfold EF
   show(layClean.free m owner (turns m) (bits h%(m+1)) (bits h)>>=_)=_
   rw[hf]
   rfl
  ·have at_:∀x:Nat,(owner.setIfInBounds j (some hs.length))[x]?=if x=j then some (some hs.length) else owner[x]?:=fun x=>by
    rw[Array.getElem?_setIfInBounds]
    by_cases hx:x=j
    ·subst hx;simp[hj]
    ·rw[if_neg (Ne.symm hx),if_neg hx]
   have occ:∀x r:Nat,owner[x]?=some (some r)→∃r',(owner.setIfInBounds j (some hs.length))[x]?=some (some r'):=fun x r hr=>by
    rw[at_]
    by_cases hx:x=j
    ·exact⟨_,if_pos hx⟩
    ·exact⟨r,by rw[if_neg hx];exact hr⟩
   refine⟨by simpa using c.size,fun r h' e'=>?_,fun x r hr=>?_,fun x y r hx hy=>?_⟩
   ·by_cases hr:r<hs.length
    ·rw[List.getElem?_append_left hr] at e'
     obtain⟨x,q1,q2,n',q3,q4⟩:=c.put r h' e'
     refine⟨x,q1,?_,n',q3,fun k hk=>?_⟩
     ·rw[at_,if_neg];exact q2
      rintro rfl
      rw[h3] at q2;cases q2
     ·obtain⟨r',hr'⟩:=q4 k hk
      exact occ _ r' hr'
    ·rw[List.getElem?_append_right (by omega)] at e'
     have hr0:r-hs.length=0:=by
      have:=(List.getElem?_eq_some_iff.mp e').1
      simp at this;omega
     rw[hr0] at e'
     cases e'
     have:r=hs.length:=by omega
     subst this
     refine⟨j,h4,by rw[at_,if_pos rfl],n,h1,fun k hk=>?_⟩
     obtain⟨r',hr'⟩:=h2 k hk
     exact occ _ r' hr'
   ·rw[at_] at hr
    rw[List.length_append]
    by_cases hx:x=j
    ·rw[if_pos hx] at hr;cases hr;simp
    ·rw[if_neg hx] at hr
     have:=c.lt x r hr
     omega
   ·rw[at_] at hx hy
    by_cases h1:x=j
    ·rw[if_pos h1] at hx
     cases hx
     by_cases h2:y=j
     ·rw[h1,h2]
     ·rw[if_neg h2] at hy
      exact absurd (c.lt y _ hy) (Nat.lt_irrefl _)
    ·rw[if_neg h1] at hx
     by_cases h2:y=j
     ·rw[if_pos h2] at hy
      cases hy
      exact absurd (c.lt x _ hx) (Nat.lt_irrefl _)
     ·rw[if_neg h2] at hy
      exact c.inj x y r hx hy
theorem LC.steps(hm:Bo m):∀(rest hs:List Int) (owner:Array (Option Nat)),LC m owner hs→hs.length+rest.length≤m+1→∃o',rest.foldl (EF m) (some (owner,hs.length))=some (o',hs.length+rest.length)∧LC m o' (hs++rest)
 | [],hs,owner,c,_=> ⟨owner,rfl,by rw[List.append_nil];exact c⟩
 |h::rest,hs,owner,c,hl=>by
  simp only[List.length_cons] at hl
  obtain⟨o1,e1,c1⟩:=c.step hm (by omega) h
  obtain⟨o2,e2,c2⟩:=LC.steps hm rest (hs++[h]) o1 c1 (by rw[List.length_append];simp;omega)
  refine⟨o2,?_,by rw[List.append_assoc] at c2;exact c2⟩
  rw[List.foldl_cons,e1]
  have:(hs++[h]).length=hs.length+1:=by simp
  rw[this] at e2
  rw[e2]
  simp only[List.length_cons]
  congr 2
  omega
theorem Jk(hm:Bo m)(hs:Array Int)(hl:hs.size≤m+1):∃owner,layClean m hs=some owner∧LC m owner hs.toList:=by
 have c0:LC m (Array.replicate (m+1) none) []:=⟨by simp,fun r h e=>by simp at e,fun j r e=>by
  rw[Array.getElem?_replicate] at e;split at e<;>simp at e,fun j j' r e=>by
  rw[Array.getElem?_replicate] at e;split at e<;>simp at e⟩
 obtain⟨o,e,c⟩:=LC.steps hm hs.toList [] _ c0 (by simpa using hl)
 refine⟨o,?_,by simpa using c⟩
 rw[Jj]
 have e':hs.toList.foldl (EF m) (some (Array.replicate (m+1) none,0))=_:=e
 rw[e']
 rfl
end
end StT
namespace StT
open PySem PySem.SetTable
section
variable{m:Nat}
theorem Sj(hm:Bo m)(hs:Array Int)(hl:hs.size≤m+1)(f mv:Nat)(led plain:Bool):∃t' order,laid m f mv led plain hs=some (t',order)∧t'.mask=m∧t'.led=led∧t'.plain=plain∧t'.moves=mv∧order.size=hs.size∧
  (∀i r:Nat,order[i]?=some r→r<hs.size)∧(∀i i' r:Nat,order[i]?=some r→order[i']?=some r→i=i')∧(∀r,r<hs.size→∃i:Nat,order[i]?=some r)∧Tb t' (order.toList.map fun r=>hs.getD r 0):=by
 obtain⟨owner,e,c⟩:=Jk hm hs hl
 generalize hlive:(List.range (m+1)).filterMap (fun j=> (owner.getD j none).map (j,·))=live
 have mem:∀j r,(j,r)∈live↔j≤m∧owner[j]?=some (some r):=fun j r=>by
  rw[←hlive,List.mem_filterMap]
  constructor
  ·rintro⟨x,hx,ex⟩
   have hx:=List.mem_range.mp hx
   have hxo:x<owner.size:=by rw[c.size];exact hx
   have eg:owner.getD x none=owner[x]:=by simp[Array.getD,hxo]
   rw[eg] at ex
   cases q:owner[x] with
   |none=>rw[q] at ex;cases ex
   |some r'=>
    rw[q] at ex
    cases ex
    exact⟨by omega,by rw[←q];simp[hxo]⟩
  ·rintro⟨h1,h2⟩
   obtain⟨hxo,q⟩:=Array.getElem?_eq_some_iff.mp h2
   refine⟨j,List.mem_range.mpr (by omega),?_⟩
   have eg:owner.getD j none=owner[j]:=by simp[Array.getD,hxo]
   rw[eg,q]
   rfl
 have pw:live.Pairwise fun a b=>a.1<b.1:=by
  rw[←hlive,List.pairwise_filterMap]
  refine List.Pairwise.imp (fun{a b} h x hx y hy=>?_) (List.pairwise_lt_range (n:=m+1))
  cases q1:owner.getD a none with
  |none=>rw[q1] at hx;cases hx
  |some r1=>
   cases q2:owner.getD b none with
   |none=>rw[q2] at hy;cases hy
   |some r2=>
    rw[q1] at hx;rw[q2] at hy
    cases hx;cases hy
    exact h
 have lt:∀j r,(j,r)∈live→r<hs.size:=fun j r h=>by have:=c.lt j r ((mem j r).mp h).2;simpa using this
 have pwr:live.Pairwise fun a b=>a.2≠b.2:=by
  refine List.Pairwise.imp_of_mem (fun{a b} ha hb h e=>?_) pw
  obtain⟨a1,a2⟩:=a
  obtain⟨b1,b2⟩:=b
  have h1:=(mem _ _).mp ha
  have h2:=(mem _ _).mp hb
  have e:a2=b2:=e
  subst e
  have:=c.inj _ _ _ h1.2 h2.2
  have h:a1<b1:=h
  omega
 have nd:(live.map (·.2)).Nodup:=List.Pairwise.map _ (fun _ _ h=>h) pwr
 have all:∀r,r<hs.size→∃j,(j,r)∈live:=fun r hr=>by
  obtain⟨j,h1,h2,_⟩:=c.put r (hs[r]) (by simp[hr])
  exact⟨j,(mem j r).mpr ⟨h1,h2⟩⟩
 have len:live.length=hs.size:=by
  apply Nat.le_antisymm
  ·have:=Ep hs.size (live.map (·.2)) nd fun x hx=>by
    obtain⟨⟨j,r⟩,h1,rfl⟩:=List.mem_map.mp hx
    exact lt j r h1
   simpa using this
  ·have:=LD hs.size (live.map (·.2)) fun r hr=>by
    obtain⟨j,hj⟩:=all r hr
    exact List.mem_map.mpr ⟨_,hj,rfl⟩
   simpa using this
 refine⟨{mask:=m,place:=(live.map (·.1)).toArray,dummies:=#[],finger:=f,led:=led,moves:=mv,plain:=plain},(live.map (·.2)).toArray,?_,rfl,rfl,rfl,rfl,by simpa using len,fun i r h=>?_,fun i i' r h h'=>?_,fun r hr=>?_,?_⟩
 ·unfold laid
  rw[e]
  show some _=some _
  rw[hlive]
 ·have h:(live.map (·.2))[i]?=some r:=by simpa using h
  rw[List.getElem?_map] at h
  cases q:live[i]? with
  |none=>rw[q] at h;cases h
  |some x=>rw[q] at h;cases h;exact lt x.1 x.2 (List.mem_of_getElem? q)
 ·have h:(live.map (·.2))[i]?=some r:=by simpa using h
  have h':(live.map (·.2))[i']?=some r:=by simpa using h'
  obtain⟨l1,e1⟩:=List.getElem?_eq_some_iff.mp h
  obtain⟨l2,e2⟩:=List.getElem?_eq_some_iff.mp h'
  rcases Nat.lt_trichotomy i i' with hlt|heq|hgt
  ·exact absurd (e1.trans e2.symm) (List.pairwise_iff_getElem.mp nd i i' l1 l2 hlt)
  ·exact heq
  ·exact absurd (e2.trans e1.symm) (List.pairwise_iff_getElem.mp nd i' i l2 l1 hgt)
 ·obtain⟨j,hj⟩:=all r hr
  obtain⟨i,hi⟩:=List.getElem?_of_mem hj
  exact⟨i,by simp[hi]⟩
 ·have at_:∀i j:Nat,(live.map (·.1)).toArray[i]?=some j→∃r,live[i]?=some (j,r):=fun i j h=>by
   have h:(live.map (·.1))[i]?=some j:=by simpa using h
   rw[List.getElem?_map] at h
   cases q:live[i]? with
   |none=>rw[q] at h;cases h
   |some x=>
    rw[q] at h
    cases h
    exact⟨x.2,rfl⟩
  refine⟨hm,rfl,?_,fun i j h=>?_,by simp,fun i j h e1 e2=>?_⟩
  ·show(live.map (·.1)).toArray.toList.Pairwise (· < ·)
   exact List.Pairwise.map _ (fun _ _ h=>h) pw
  ·obtain⟨r,hr⟩:=at_ i j h
   exact((mem j r).mp (List.mem_of_getElem? hr)).1
  ·obtain⟨r,hr⟩:=at_ i j e1
   have hrlt:=lt j r (List.mem_of_getElem? hr)
   have e2:((live.map (·.2)).map fun r=>hs.getD r 0)[i]?=some h:=by simpa using e2
   rw[List.getElem?_map,List.getElem?_map,hr] at e2
   have e2:hs.getD r 0=h:=Option.some.inj e2
   have eh:hs.toList[r]?=some h:=by
    rw[←e2]
    simp[Array.getD,hrlt]
   obtain⟨j2,q1,q2,n,q3,q4⟩:=c.put r h eh
   have ej:=c.inj j2 j r q2 ((mem j r).mp (List.mem_of_getElem? hr)).2
   subst ej
   refine⟨n,q3,fun k hk=>?_⟩
   obtain⟨r',hr'⟩:=q4 k hk
   have hk':(advN m k (start m h)).j≤m:=(Pr.start m h).advN.j
   obtain⟨i',hi'⟩:=List.getElem?_of_mem ((mem _ r').mpr ⟨hk',hr'⟩)
   refine⟨i',?_⟩
   show(live.map (·.1)).toArray[i']?=_
   simp[hi']
theorem Nu{n:Nat}(h:Bo m)(h1:n*5<m*3)(h2:m*3≤(n+1)*5)(h3:n<300):Bo (sizeAbove (grown (n+1))-1)∧n+1≤sizeAbove (grown (n+1))-1∧(n+1)*5< (sizeAbove (grown (n+1))-1)*3∧sizeAbove (grown (n+1))≤512:=by
 rcases h with rfl|rfl|rfl|rfl
 ·have:n=4:=by omega
  subst this
  refine⟨.inr (.inl (by decide)),by decide,by decide,by decide⟩
 ·have:n=18:=by omega
  subst this
  refine⟨.inr (.inr (.inl (by decide))),by decide,by decide,by decide⟩
 ·have:n=76:=by omega
  subst this
  refine⟨.inr (.inr (.inr (by decide))),by decide,by decide,by decide⟩
 ·omega
theorem Ck{α:Type}(es:Array α):∀(l:List Nat),(∀r∈l,r<es.size)→∀i:Nat,(l.filterMap fun r=>es[r]?)[i]?=(l[i]?).bind fun r=>es[r]?
 | [],_,i=>by simp
 |r::l,h,i=>by
  have hr:=h r List.mem_cons_self
  have e:es[r]?=some es[r]:=by simp[hr]
  rw[List.filterMap_cons,e]
  cases i with
  |zero=>simp
  |succ i=>
   simp only[List.getElem?_cons_succ]
   exact Ck es l (fun x hx=>h x (List.mem_cons_of_mem _ hx)) i
theorem CK{α:Type}(es:Array α):∀(l:List Nat),(∀r∈l,r<es.size)→(l.filterMap fun r=>es[r]?).length=l.length
 | [],_=>rfl
 |r::l,h=>by
  have hr:=h r List.mem_cons_self
  have e:es[r]?=some es[r]:=by simp[hr]
  rw[List.filterMap_cons,e]
  simp[CK es l (fun x hx=>h x (List.mem_cons_of_mem _ hx))]
end
open PyProof.Rows
section
variable{prog:Program}{w:World}{A:Around}{E:Value→Shared→Prop}{s:Shared}
abbrev IK(prog:Program)(w:World)(h:Heap)(k:List Int)(a:Addr):Prop:=IsTupleKey (intKind prog w) h k a
abbrev tk(prog:Program)(w:World):HeapKind prog w (List Int):=tupleKind (intKind prog w)
theorem Et{n:Int}{v:Value}(h:(intKind prog w).is n v=true):∃t,v=.int n t:=by
 cases v with
 |int m t=>
  have h2:(intKind prog w).is m (.int m t)=true:=intKind_is _ _ _ _
  have e:=(intKind prog w).inj _ _ _ h h2
  subst e
  exact⟨t,rfl⟩
 |_=>exact absurd h (by simp[intKind,Value.isInt])
theorem GN{ks:List Int}{vs:List Value}(h:ItemsAre (intKind prog w) ks vs):∀v∈vs,∃n t,v=.int n t:=by
 induction h with
 |nil=>intro v hv;simp at hv
 |cons h1 _ ih=>
  intro v hv
  rcases List.mem_cons.mp hv with rfl|hv
  ·obtain⟨t,e⟩:=Et h1
   exact⟨_,t,e⟩
  ·exact ih v hv
theorem Yk{k:List Int}{a:Addr}{Q:Bool→Shared→Prop}(hk:IK prog w s.heap k a)(h:Q true s):wpAny (model prog w) A (hashByValue 8 (.ref a)) Q E s:=by
 have hT:=hk.typeIs
 obtain⟨o,items,n,ho,_,hd,hi⟩:=hk
 have hints:=GN hi
 unfold hashByValue
 refine wpAny_bind (wpAny_specialOf hT PySem.F.slot_tuple_hash.lookup ?_)
 dsimp only
 refine wpAny_bind (wpAny_seqItems ho hd ?_)
 show wpAny _ _ ((forIn items _ _)>>=_) _ _ s
 rw[←Array.forIn_toList]
 refine wpAny_bind (wpAny_forIn_list _ (fun rest r s'=>r.1=none∧s'=s∧∀v∈rest,∃n t,v=Value.int n t) _ ?_ ?_ _ _ ⟨rfl,rfl,hints⟩)
 ·rintro v rest r s' ⟨hr,rfl,hall⟩
  obtain⟨n,t,rfl⟩:=hall v List.mem_cons_self
  refine wpAny_bind (wpAny_pure ?_)
  simp only[Bool.not_true,Bool.false_eq_true,if_false]
  exact wpAny_pure ⟨rfl,rfl,fun u hu'=>hall u (List.mem_cons_of_mem _ hu')⟩
 ·rintro⟨r1,r2⟩ s' ⟨hr,rfl,_⟩
  simp only at hr
  subst hr
  exact wpAny_pure h
theorem Mc{k:List Int}{a:Addr}{Q:Bool→Shared→Prop}(hk:IK prog w s.heap k a)(h:Q false s):wpAny (model prog w) A (ofAClassStatement 8 (.ref a)) Q E s:=by
 have hT:=hk.typeIs
 obtain⟨o,items,n,ho,hc,hd,hi⟩:=hk
 have hints:=GN hi
 unfold ofAClassStatement
 refine wpAny_bind (wpAny_typeOf hT ?_)
 dsimp only
 rw[if_pos (by decide)]
 refine wpAny_bind (wpAny_pure ?_)
 simp only[Bool.not_true,Bool.false_eq_true,if_false]
 refine wpAny_bind (wpAny_seqItems ho hd ?_)
 show wpAny _ _ ((forIn items _ _)>>=_) _ _ s
 rw[←Array.forIn_toList]
 refine wpAny_bind (wpAny_forIn_list _ (fun rest r s'=>r.1=none∧s'=s∧∀v∈rest,∃n t,v=Value.int n t) _ ?_ ?_ _ _ ⟨rfl,rfl,hints⟩)
 ·rintro v rest r s' ⟨hr,rfl,hall⟩
  obtain⟨n,t,rfl⟩:=hall v List.mem_cons_self
  unfold ofAClassStatement
  refine wpAny_bind (wpAny_pure ?_)
  simp only[Bool.false_eq_true,if_false]
  exact wpAny_pure ⟨rfl,rfl,fun u hu'=>hall u (List.mem_cons_of_mem _ hu')⟩
 ·rintro⟨r1,r2⟩ s' ⟨hr,rfl,_⟩
  simp only at hr
  subst hr
  exact wpAny_pure h
theorem Sk{k:List Int}{a:Addr}{Q:Bool→Shared→Prop}{l:List Value}(hk:IK prog w s.heap k a)(hl:∀v∈l,∃k' b,v=.ref b∧IK prog w s.heap k' b)(h:Q false s):wpAny (model prog w) A (searchCouldBeSeen (.ref a) l) Q E s:=by
 unfold searchCouldBeSeen
 refine wpAny_bind (wpAny_forIn_list _ (fun rest r s'=>r.1=none∧s'=s∧∀v∈rest,∃k' b,v=Value.ref b∧IK prog w s.heap k' b) _ ?_ ?_ _ _ ⟨rfl,rfl,hl⟩)
 ·rintro v rest r s' ⟨hr,rfl,hall⟩
  obtain⟨k',b,rfl,hb⟩:=hall v List.mem_cons_self
  have go:∀u∈rest,∃k' b,u=Value.ref b∧IK prog w s'.heap k' b:=fun u hu'=>hall u (List.mem_cons_of_mem _ hu')
  dsimp only
  split
  ·exact wpAny_pure ⟨rfl,rfl,go⟩
  ·refine wpAny_bind (wpAny_eqIsQuiet_tuple hk ?_)
   simp only[Bool.not_true,Bool.false_eq_true,if_false]
   refine wpAny_bind (wpAny_eqIsQuiet_tuple hb ?_)
   simp only[Bool.not_true,Bool.false_eq_true,if_false]
   refine wpAny_bind (Mc hk ?_)
   simp only[Bool.false_eq_true,if_false]
   refine wpAny_bind (Mc hb ?_)
   simp only[Bool.false_eq_true,if_false]
   exact wpAny_pure ⟨rfl,rfl,go⟩
 ·rintro⟨r1,r2⟩ s' ⟨hr,rfl,_⟩
  simp only at hr
  subst hr
  exact wpAny_pure h
end
local macro_rules | `(tactic| omega) => `(tactic| first | lia | omega)
open PySem PySem.SetTable PyProof.Rows
section
variable{prog:Program}{w:World}{A:Around}{E:Value→Shared→Prop}{s:Shared}
def Nv(xs:List (List Int×Addr))(prog:Program)(w:World):List (Int×Value):=xs.map fun p=> ((tk prog w).hash p.1,Value.ref p.2)
structure SetD(prog:Program)(w:World)(h:Heap)(a:Addr)(xs:List (List Int×Addr))(o:Obj)(es:Array (Int×Value))(ep:Nat)(t:SetTable):Prop where
 get:h.get? a=some o
 ex:o.ExactSet
 dat:o.data=.set es ep t
 es:es.toList=Nv xs prog w
 key:∀(i:Nat) (k:List Int) (x:Addr),xs[i]?=some (k,x)→IK prog w h k x
 nd:(xs.map (·.1)).Nodup
 tb:Tb t (xs.map fun p=> (tk prog w).hash p.1)
 pl:t.plain=true
 room:xs.length*5<t.mask*3
 led:t.led=!w.params.followText "set-order"
variable{a:Addr}{xs:List (List Int×Addr)}{o:Obj}{es:Array (Int×Value)}{ep:Nat}{t:SetTable}
theorem SetD.size(S:SetD prog w s.heap a xs o es ep t):es.size=xs.length:=by
 rw[←Array.length_toList,S.es];simp[Nv]
theorem SetD.fits(S:SetD prog w s.heap a xs o es ep t):t.fits es.size=true:=by
 have h1:=S.tb.size
 have h2:=S.room
 have h3:t.fill=t.place.size:=by unfold SetTable.fill;rw[S.tb.dum];rfl
 rw[List.length_map] at h1
 unfold SetTable.fits
 rw[h3,S.size,h1]
 simp only[beq_self_eq_true,Bool.true_and,decide_eq_true_eq]
 omega
theorem SetD.len(S:SetD prog w s.heap a xs o es ep t):(xs.map fun p=> (tk prog w).hash p.1).length≤t.mask:=by
 have:=S.room
 rw[List.length_map];omega
theorem SetD.at(S:SetD prog w s.heap a xs o es ep t){i:Nat}{k:List Int}{x:Addr}(h:xs[i]?=some (k,x)):es[i]?=some ((tk prog w).hash k,.ref x):=by
 have:es[i]?=es.toList[i]?:=by simp
 rw[this,S.es,Nv,List.getElem?_map,h]
 rfl
theorem SetD.of_at(S:SetD prog w s.heap a xs o es ep t){i:Nat}(h:i<xs.length):∃k x,xs[i]?=some (k,x):=⟨_,_,by simp[h];rfl⟩
abbrev FZ:Array (Int×Value)→Nat→Int:=PySem.W.hashAt
theorem SetD.hash(S:SetD prog w s.heap a xs o es ep t){i:Nat}{k:List Int}{x:Addr}(h:xs[i]?=some (k,x)):FZ es i=(tk prog w).hash k:=by
 show((es[i]?).map Prod.fst).getD 0=_
 rw[S.at h]
 rfl
theorem Jl(S:SetD prog w s.heap a xs o es ep t)(hu:A.units<cLine){k:List Int}{x:Addr}(hk:IK prog w s.heap k x){Q:SetFound→Shared→Prop}
  (hT:∀(i:Nat) (y:Addr),xs[i]?=some (k,y)→Q (.there none) s)
  (hF:(∀(i:Nat) (y:Addr),xs[i]?≠some (k,y))→∀n,¬Jg t (advN t.mask n (start t.mask ((tk prog w).hash k))).j→(∀c,c<n→Jg t (advN t.mask c (start t.mask ((tk prog w).hash k))).j)→Q (.free (advN t.mask n (start t.mask ((tk prog w).hash k))).j false) s):
  ∀(fuel c:Nat) (stand:Option Probe),stand.getD (t.probeStart ((tk prog w).hash k))=advN t.mask c (start t.mask ((tk prog w).hash k))→
   (∀c',c'<c→Jg t (advN t.mask c' (start t.mask ((tk prog w).hash k))).j∧∀(i:Nat) (y:Addr),t.place[i]?=some (advN t.mask c' (start t.mask ((tk prog w).hash k))).j→xs[i]?≠some (k,y))→
   (∃N,c≤N∧¬Jg t (advN t.mask N (start t.mask ((tk prog w).hash k))).j∧N-c<fuel)→
   wpAny (model prog w) A (setSearchFrom a (.ref x) ((tk prog w).hash k) true fuel stand) Q E s:=by
 intro fuel
 induction fuel with
 |zero=>rintro c stand _ _ ⟨N,_,_,h⟩;exact absurd h (Nat.not_lt_zero _)
 |succ fuel ih=>
  rintro c stand hst hpre ⟨N,hcN,hN,hfu⟩
  have hsz:t.place.size=xs.length:=by have:=S.tb.size;rwa[List.length_map] at this
  unfold setSearchFrom
  refine wpAny_bind (wpAny_setState_of S.get S.dat S.fits ?_)
  dsimp only
  have hgw:t.gaveWay=false:=by unfold SetTable.gaveWay;rw[S.tb.odd];rfl
  rw[hgw]
  simp only[Bool.false_eq_true,if_false]
  obtain⟨n,hn,hstop⟩:=Ji S.tb S.len (p:=advN t.mask c (start t.mask ((tk prog w).hash k))) (Pr.start _ _).advN (FZ es) ((tk prog w).hash k)
  rw[hst]
  have hadd:∀m,advN t.mask m (advN t.mask c (start t.mask ((tk prog w).hash k)))=advN t.mask (c+m) (start t.mask ((tk prog w).hash k)):=fun m=> (Bm _ _ _ _).symm
  have pre2:∀c',c'<c+n→Jg t (advN t.mask c' (start t.mask ((tk prog w).hash k))).j∧∀(i:Nat) (y:Addr),t.place[i]?=some (advN t.mask c' (start t.mask ((tk prog w).hash k))).j→xs[i]?≠some (k,y):=fun c' hc'=>by
   by_cases hlt:c'<c
   ·exact hpre c' hlt
   ·obtain⟨i,h1,h2⟩:=hn (c'-c) (by omega)
    rw[hadd,show c+(c'-c)=c' by omega] at h1
    refine⟨⟨i,h1⟩,fun i' y h1' e=>?_⟩
    have:i'=i:=by
     rw[←Bl S.tb.ris h1',←Bl S.tb.ris h1]
    subst this
    exact h2 (S.hash e)
  obtain⟨met,hmet⟩:∃met,t.probe (FZ es) ((tk prog w).hash k) (advN t.mask c (start t.mask ((tk prog w).hash k)))=some met:=by
   rcases hstop with⟨_,hp⟩| ⟨_,_,_,hp⟩<;>exact⟨_,hp⟩
  split
  case h_2 heq=>exact absurd hmet (heq met)
  rename_i met' heq
  have heq:t.probe (FZ es) ((tk prog w).hash k) (advN t.mask c (start t.mask ((tk prog w).hash k)))=some met':=heq
  rcases hstop with⟨hf,hp⟩| ⟨i,h1,h2,hp⟩
  ·rw[hp] at heq
   cases heq
   dsimp only
   rw[Dq]
   show wpAny _ _ (pure _) _ _ s
   rw[hadd] at hf ⊢
   refine wpAny_pure (hF (fun i y e=>?_) (c+n) hf fun c' hc'=> (pre2 c' hc').1)
   have hi:i<xs.length:=(List.getElem?_eq_some_iff.mp e).1
   have hpl:t.place[i]?=some (t.place[i]'(by omega)):=by simp[show i<t.place.size by omega]
   obtain⟨n',e1,w1⟩:=S.tb.fnd i _ ((tk prog w).hash k) hpl (by rw[List.getElem?_map,e];rfl)
   by_cases hlt:n'<c+n
   ·exact(pre2 n' hlt).2 i y (by rw[e1];exact hpl) e
   ·by_cases heq:n'=c+n
    ·subst heq
     exact hf ⟨i,by rw[e1];exact hpl⟩
    ·exact hf (w1 (c+n) (by omega))
  ·rw[hp] at heq
   cases heq
   dsimp only
   rw[hadd] at h1
   have hi:i<xs.length:=by rw[←hsz];exact(Array.getElem?_eq_some_iff.mp h1).1
   obtain⟨k',y,ek⟩:=S.of_at hi
   have hky:=S.key i k' y ek
   have seen:∀v,v∈(es.filter fun e=>e.1==(tk prog w).hash k).toList.map (·.2)→∃k' b,v=Value.ref b∧IK prog w s.heap k' b:=fun v hv=>by
    obtain⟨⟨h',v'⟩,hm,rfl⟩:=List.mem_map.mp hv
    have hm:(h',v')∈es.toList:=by
     have:=hm
     simp only[Array.toList_filter] at this
     exact(List.mem_filter.mp this).1
    rw[S.es,Nv] at hm
    obtain⟨⟨k2,b⟩,hb,eb⟩:=List.mem_map.mp hm
    cases eb
    obtain⟨j,hj⟩:=List.getElem?_of_mem hb
    exact⟨k2,b,rfl,S.key j k2 b hj⟩
   cases hled:t.led with
   |true=>
    simp only[Bool.not_true,Bool.false_eq_true,if_false]
    rw[S.at ek]
    dsimp only
    refine wpAny_bind (wpAny_holding (wpAny_eqBool_tuple hu hky hk ?_))
    refine wpAny_bind (wpAny_setState_of S.get S.dat S.fits ?_)
    dsimp only
    by_cases hkk:k'=k
    ·subst hkk
     rw[decide_eq_true rfl]
     exact wpAny_pure (hT i y ek)
    ·rw[decide_eq_false hkk]
     have hsm:t.sameMemory t.moves t.mask=some true:=by unfold SetTable.sameMemory;rw[if_pos (by simp)]
     rw[hsm]
     simp only[Bool.and_false,Bool.false_eq_true,if_false,if_true]
     rw[hadd,S.tb.live h1]
     dsimp only
     rw[S.at ek]
     dsimp only
     have hss:isSame (Value.ref y) (Value.ref y)=pure true:=by
      show(if(y==y)=true then _ else _)=_
      rw[if_pos (beq_self_eq_true y)]
     rw[hss]
     refine wpAny_bind (wpAny_pure ?_)
     simp only[if_true]
     refine wpAny_bind (wpAny_pure ?_)
     dsimp only
     rw[hadd]
     refine ih (c+n+1) _ rfl (fun c' hc'=>?_) ?_
     ·by_cases hlt:c'<c+n
      ·exact pre2 c' hlt
      ·have:c'=c+n:=by omega
       subst this
       refine⟨⟨i,h1⟩,fun i' y' h1' e=>?_⟩
       have:i'=i:=by
        rw[←Bl S.tb.ris h1',←Bl S.tb.ris h1]
       subst this
       rw[ek] at e
       exact hkk (congrArg Prod.fst (Option.some.inj e))
     ·have hle:c+n<N:=by
       rcases Nat.lt_trichotomy (c+n) N with hlt|heq|hgt
       ·exact hlt
       ·exact absurd ⟨i,by rw[←heq];exact h1⟩ hN
       ·exact absurd (pre2 N hgt).1 hN
      exact⟨N,by omega,hN,by omega⟩
   |false=>
    simp only[Bool.not_false,if_true]
    refine wpAny_bind (Sk hk seen ?_)
    simp only[Bool.false_eq_true,if_false]
    rw[S.at ek]
    dsimp only
    refine wpAny_bind (wpAny_holding (wpAny_eqBool_tuple hu hky hk ?_))
    refine wpAny_bind (wpAny_setState_of S.get S.dat S.fits ?_)
    dsimp only
    by_cases hkk:k'=k
    ·subst hkk
     rw[decide_eq_true rfl]
     exact wpAny_pure (hT i y ek)
    ·rw[decide_eq_false hkk]
     have hsm:t.sameMemory t.moves t.mask=some true:=by unfold SetTable.sameMemory;rw[if_pos (by simp)]
     rw[hsm]
     simp only[Bool.and_false,Bool.false_eq_true,if_false,if_true]
     rw[hadd,S.tb.live h1]
     dsimp only
     rw[S.at ek]
     dsimp only
     have hss:isSame (Value.ref y) (Value.ref y)=pure true:=by
      show(if(y==y)=true then _ else _)=_
      rw[if_pos (beq_self_eq_true y)]
     rw[hss]
     refine wpAny_bind (wpAny_pure ?_)
     simp only[if_true]
     refine wpAny_bind (wpAny_pure ?_)
     dsimp only
     rw[hadd]
     refine ih (c+n+1) _ rfl (fun c' hc'=>?_) ?_
     ·by_cases hlt:c'<c+n
      ·exact pre2 c' hlt
      ·have:c'=c+n:=by omega
       subst this
       refine⟨⟨i,h1⟩,fun i' y' h1' e=>?_⟩
       have:i'=i:=by
        rw[←Bl S.tb.ris h1',←Bl S.tb.ris h1]
       subst this
       rw[ek] at e
       exact hkk (congrArg Prod.fst (Option.some.inj e))
     ·have hle:c+n<N:=by
       rcases Nat.lt_trichotomy (c+n) N with hlt|heq|hgt
       ·exact hlt
       ·exact absurd ⟨i,by rw[←heq];exact h1⟩ hN
       ·exact absurd (pre2 N hgt).1 hN
      exact⟨N,by omega,hN,by omega⟩
end
end StT
namespace StT
local macro_rules | `(tactic| omega) => `(tactic| first | lia | omega)
open PySem PySem.SetTable PyProof.Rows
section
variable{prog:Program}{w:World}{A:Around}{E:Value→Shared→Prop}{s:Shared}
variable{a:Addr}{xs:List (List Int×Addr)}{o:Obj}{es:Array (Int×Value)}{ep:Nat}{t:SetTable}
def SetX(prog:Program)(w:World)(h:Heap)(a:Addr)(xs:List (List Int×Addr)):Prop:=∃o es ep t,SetD prog w h a xs o es ep t
theorem PY{h:Heap}{k:List Int}{x:Addr}(hk:IK prog w h k x)(hg:h.get? a=some o)(he:o.ExactSet):x≠a:=by
 rintro rfl
 obtain⟨o',items,n,ho,hc,_⟩:=hk
 rw[hg] at ho
 cases ho
 rw[he.1] at hc
 exact absurd hc (by decide)
theorem Cm{h h':Heap}{k:List Int}{x:Addr}(hk:IK prog w h k x)(hs:∀u,h.get? x=some u→h'.get? x=some u):IK prog w h' k x:=by
 obtain⟨o',items,n,ho,hc,hd,hi⟩:=hk
 exact⟨o',items,n,hs _ ho,hc,hd,hi⟩
theorem Hm(hg:s.heap.get? a=some o)(hd:o.data=.set es ep t)(es':Array (Int×Value))(t':SetTable):(s.heap.update a (Obj.putSet es' t')).get? a=some {o with data:=.set es' (ep+1) t'}:=by
 have:=Heap.get?_update_self (Obj.putSet es' t') hg (by rw[putSet_of es' t' hd];rfl)
 rw[putSet_of es' t' hd] at this;exact this
theorem LI:(Nv xs prog w).length=xs.length:=by simp[Nv]
theorem PZ{n:Nat}(hg:s.heap.get? a=some o)(he:o.ExactSet)(hd:o.data=.set es ep t)(hes:es.toList=Nv xs prog w)(hkey:∀(i:Nat) (k:List Int) (x:Addr),xs[i]?=some (k,x)→IK prog w s.heap k x)
  (hnd:(xs.map (·.1)).Nodup) (htb:Tb t (xs.map fun p=> (tk prog w).hash p.1)) (hpl:t.plain=true) (hled:t.led=!w.params.followText "set-order") (hn:xs.length=n+1) (h1:n*5<t.mask*3) (h2:t.mask*3≤(n+1)*5) (h3:n<300) {Q:Unit→Shared→Prop}
  (h:∀h' xs',Heap.SameBut a s.heap h'→SetX prog w h' a xs'→(∀p,p∈xs'↔p∈xs)→xs'.length=xs.length→Q () {s with heap:=h'}):wpAny (model prog w) A (setRelay a (grown (n+1))) Q E s:=by
 obtain⟨m1,m2,m3,m4⟩:=Nu htb.mask h1 h2 h3
 have hsz:es.size=n+1:=by rw[←Array.length_toList,hes,LI,hn]
 have hfill:t.fill=t.place.size:=by unfold SetTable.fill;rw[htb.dum];rfl
 have hps:t.place.size=n+1:=by have:=htb.size;rw[List.length_map,hn] at this;exact this
 have hlow:=htb.low
 have hfit:t.fits es.size=true:=by
  unfold SetTable.fits
  rw[hfill,hsz,hps]
  simp only[beq_self_eq_true,Bool.true_and,decide_eq_true_eq]
  omega
 unfold setRelay
 refine wpAny_bind (wpAny_setState_of hg hd hfit ?_)
 dsimp only
 rw[if_neg (by rw[sizeLine_eq];omega)]
 refine wpAny_bind ?_
 obtain⟨t',order,el,q1,q2,q3,q4,q5,q6,q7,q8,q9⟩:=Sj m1 (es.map (·.1)) (by rw[Array.size_map,hsz];omega) t.finger (t.movedTo (sizeAbove (grown (n+1))-1)) t.led t.plain
 rw[Array.size_map] at q5 q6 q8
 have el':t.relaid (es.map (·.1)) (grown (n+1))=some (t',order):=el
 rw[el']
 have hfm:(order.filterMap (es[·]?)).toList=order.toList.filterMap fun r=>es[r]?:=by simp
 have hmem:∀r∈order.toList,r<es.size:=fun r hr=>by
  obtain⟨i,hi⟩:=List.getElem?_of_mem hr
  exact q6 i r (by simpa using hi)
 have hes':(order.filterMap (es[·]?)).size=es.size:=by
  rw[←Array.length_toList,hfm,CK es _ hmem,Array.length_toList,q5]
 show wpAny _ _ (if((order.filterMap fun r=>es[r]?).size !=es.size)=true then _ else pure (order.filterMap fun r=>es[r]?,t')) _ _ s
 rw[if_neg (by rw[hes'];simp)]
 refine wpAny_pure ?_
 dsimp only
 refine wpAny_storeSet_of hg hd ?_ (by rw[hes',hsz,sizeLine_eq];omega)
 generalize hE:order.filterMap (es[·]?)=es' at*
 have hxs:∀r,r<es.size→∃p,xs[r]?=some p:=fun r hr=> ⟨_,by simp[show r<xs.length by rw[hn];omega];rfl⟩
 have hfx:(order.toList.filterMap fun r=>xs[r]?).length=es.size:=by
  have:=CK xs.toArray order.toList (fun r hr=>by rw[List.size_toArray,hn];have:=hmem r hr;omega)
  simp only[List.getElem?_toArray] at this
  rw[this,Array.length_toList,q5]
 have at_:∀i:Nat,(order.toList.filterMap fun r=>xs[r]?)[i]?=(order.toList[i]?).bind fun r=>xs[r]?:=fun i=>by
  have:=Ck xs.toArray order.toList (fun r hr=>by rw[List.size_toArray,hn];have:=hmem r hr;omega) i
  simpa only[List.getElem?_toArray] using this
 have mem:∀p,p∈(order.toList.filterMap fun r=>xs[r]?)↔p∈xs:=fun p=>by
  rw[List.mem_filterMap]
  constructor
  ·rintro⟨r,_,e⟩;exact List.mem_of_getElem? e
  ·intro hp
   obtain⟨r,hr⟩:=List.getElem?_of_mem hp
   have hrl:r<es.size:=by rw[hsz,←hn];exact(List.getElem?_eq_some_iff.mp hr).1
   obtain⟨i,hi⟩:=q8 r hrl
   exact⟨r,List.mem_of_getElem? (i:=i) (by simpa using hi),hr⟩
 have hesx:∀i:Nat,es[i]?=(xs[i]?).map fun p=> ((tk prog w).hash p.1,Value.ref p.2):=fun i=>by
  have:es[i]?=es.toList[i]?:=by simp
  rw[this,hes,Nv,List.getElem?_map]
 refine h _ (order.toList.filterMap fun r=>xs[r]?) (Heap.SameBut.update ..) ⟨_,es',ep+1,t',⟨Hm hg hd es' t',he,rfl,?_,fun i k x e=>?_,?_,?_,?_,?_,?_⟩⟩ mem (by rw[hfx,hsz,hn])
 ·apply List.ext_getElem?
  intro i
  rw[hfm,Ck es _ hmem,Nv,List.getElem?_map,at_]
  cases order.toList[i]? with
  |none=>rfl
  |some r=>exact hesx r
 ·have hp:(k,x)∈xs:=(mem _).mp (List.mem_of_getElem? e)
  obtain⟨r,hr⟩:=List.getElem?_of_mem hp
  have ik:=hkey r k x hr
  exact Cm ik fun u hu=> ((Heap.SameBut.update s.heap a (Obj.putSet es' t')).2 x (PY ik hg he)).trans hu
 ·rw[List.nodup_iff_pairwise_ne]
  refine List.pairwise_iff_getElem.mpr fun i j hi hj hij e=>?_
  rw[List.length_map] at hi hj
  have e1:=at_ i
  have e2:=at_ j
  rw[List.getElem?_eq_getElem hi] at e1
  rw[List.getElem?_eq_getElem hj] at e2
  rw[List.getElem_map,List.getElem_map] at e
  cases r1:order.toList[i]? with
  |none=>rw[r1] at e1;cases e1
  |some r=>
   cases r2:order.toList[j]? with
   |none=>rw[r2] at e2;cases e2
   |some r'=>
    rw[r1] at e1
    rw[r2] at e2
    have e1:xs[r]?=some _:=e1.symm
    have e2:xs[r']?=some _:=e2.symm
    obtain⟨l1,g1⟩:=List.getElem?_eq_some_iff.mp e1
    obtain⟨l2,g2⟩:=List.getElem?_eq_some_iff.mp e2
    have ee:(xs.map (·.1))[r]'(by simpa using l1)=(xs.map (·.1))[r']'(by simpa using l2):=by rw[List.getElem_map,List.getElem_map,g1,g2];exact e
    have nd:=List.nodup_iff_pairwise_ne.mp hnd
    have:r=r':=by
     rcases Nat.lt_trichotomy r r' with hlt|heq|hgt
     ·exact absurd ee (List.pairwise_iff_getElem.mp nd r r' _ _ hlt)
     ·exact heq
     ·exact absurd ee.symm (List.pairwise_iff_getElem.mp nd r' r _ _ hgt)
    subst this
    have:=q7 i j r (by simpa using r1) (by simpa using r2)
    omega
 ·have:(order.toList.filterMap fun r=>xs[r]?).map (fun p=> (tk prog w).hash p.1)=order.toList.map fun r=> (es.map (·.1)).getD r 0:=by
   apply List.ext_getElem?
   intro i
   rw[List.getElem?_map,at_,List.getElem?_map]
   cases hr:order.toList[i]? with
   |none=>rfl
   |some r=>
    have hrl:=hmem r (List.mem_of_getElem? hr)
    obtain⟨p,hp⟩:=hxs r hrl
    show(xs[r]?).map _=some ((es.map (·.1)).getD r 0)
    rw[hp]
    have e3:=hesx r
    rw[hp] at e3
    obtain⟨l,g⟩:=Array.getElem?_eq_some_iff.mp e3
    simp[Array.getD,hrl,g]
  rw[this]
  exact q9
 ·rw[q3];exact hpl
 ·rw[hfx,hsz,q1];exact m3
 ·rw[q2];exact hled
end
end StT
namespace StT
local macro_rules | `(tactic| omega) => `(tactic| first | lia | omega)
open PySem PySem.SetTable PyProof.Rows
section
variable{prog:Program}{w:World}{A:Around}{E:Value→Shared→Prop}{s:Shared}
variable{a:Addr}{xs:List (List Int×Addr)}{o:Obj}{es:Array (Int×Value)}{ep:Nat}{t:SetTable}
theorem WC(S:SetX prog w s.heap a xs)(hu:A.units<cLine){k:List Int}{x:Addr}(hk:IK prog w s.heap k x)(hl:xs.length<300){Q:Bool→Shared→Prop}
  (hT:∀y,(k,y)∈xs→Q false s)
  (hF:(∀y,(k,y)∉xs)→∀h' xs',Heap.SameBut a s.heap h'→SetX prog w h' a xs'→(∀p,p∈xs'↔p∈xs∨p=(k,x))→xs'.length=xs.length+1→Q true {s with heap:=h'}):
  wpAny (model prog w) A (setAddHashed a (.ref x) ((tk prog w).hash k)) Q E s:=by
 obtain⟨o,es,ep,t,S⟩:=S
 unfold setAddHashed setAddHashedIn
 refine wpAny_holding (wpAny_bind (wpAny_setState_of S.get S.dat S.fits ?_))
 dsimp only
 have hbs:byScan (.ref x) es=false:=rfl
 rw[hbs]
 simp only[Bool.false_eq_true,if_false]
 obtain⟨e,he,hne⟩:=S.tb.room S.len
 obtain⟨N,hN,eN⟩:=Ul S.tb.mask (Pr.start t.mask ((tk prog w).hash k)) he
 have hm511:t.mask≤511:=by rcases S.tb.mask with h|h|h|h<;>omega
 refine wpAny_bind (Jl S hu hk (fun i y e=>?_) (fun hno n hf hw=>?_) 100000 0 none (PU t _) (fun c hc=>absurd hc (Nat.not_lt_zero _)) ⟨N,Nat.zero_le _,by rw[eN];exact hne,by omega⟩)
 ·dsimp only
  exact wpAny_pure (hT y (List.mem_of_getElem? e))
 ·dsimp only
  refine wpAny_bind (wpAny_setState_of S.get S.dat S.fits ?_)
  dsimp only
  obtain⟨p1,p2,p3,p4,p5,p6⟩:=S.tb.put hf hw
  generalize hJ:(advN t.mask n (start t.mask ((tk prog w).hash k))).j=J at*
  generalize hput:t.put J=tp at*
  obtain⟨t1,q⟩:=tp
  dsimp only at p1 p2 p3 p4 p5 p6 ⊢
  rw[List.length_map] at p2
  rw[p4,S.pl]
  simp only[if_true]
  refine wpAny_bind (Yk hk ?_)
  simp only[if_true]
  refine wpAny_bind (wpAny_storeSet_of S.get S.dat ?_ (by
   rw[Dk _ _ _ (by rw[S.size];exact p2),S.size,sizeLine_eq];omega))
  have hes1:(insertAt es q ((tk prog w).hash k,.ref x)).toList=Nv (xs.take q++(k,x)::xs.drop q) prog w:=by
   rw[BH,S.es]
   simp[Nv]
  have hmem:∀p,p∈xs.take q++(k,x)::xs.drop q↔p∈xs∨p=(k,x):=fun p=>by
   rw[List.mem_append,List.mem_cons]
   constructor
   ·rintro(h|h|h)
    ·exact .inl (List.mem_of_mem_take h)
    ·exact .inr h
    ·exact .inl (List.mem_of_mem_drop h)
   ·rintro(h|h)
    ·rw[←List.take_append_drop q xs] at h
     rcases List.mem_append.mp h with h|h
     ·exact .inl h
     ·exact .inr (.inr h)
    ·exact .inr (.inl h)
  have hlen:(xs.take q++(k,x)::xs.drop q).length=xs.length+1:=by
   rw[List.length_append,List.length_cons,List.length_take,List.length_drop];omega
  have hnod:((xs.take q++(k,x)::xs.drop q).map (·.1)).Nodup:=by
   have hxs:(xs.take q).map (·.1)++(xs.drop q).map (·.1)=xs.map (·.1):=by rw[←List.map_append,List.take_append_drop]
   have nd:=S.nd
   rw[←hxs] at nd
   rw[List.map_append,List.map_cons]
   have hkn:k∉(xs.take q).map (·.1)++(xs.drop q).map (·.1):=by
    rw[hxs]
    intro hm
    obtain⟨⟨k',y⟩,hp,rfl⟩:=List.mem_map.mp hm
    obtain⟨i,hi⟩:=List.getElem?_of_mem hp
    exact hno i y hi
   rw[List.mem_append,not_or] at hkn
   obtain⟨n1,n2,n3⟩:=List.nodup_append.mp nd
   refine List.nodup_append.mpr ⟨n1,List.nodup_cons.mpr ⟨hkn.2,n2⟩,fun b hb c hc=>?_⟩
   rcases List.mem_cons.mp hc with rfl|hc
   ·rintro rfl;exact hkn.1 hb
   ·exact n3 b hb c hc
  have hsb:=Heap.SameBut.update s.heap a (Obj.putSet (insertAt es q ((tk prog w).hash k,.ref x)) t1)
  have hg1:=Hm (s:=s) S.get S.dat (insertAt es q ((tk prog w).hash k,.ref x)) t1
  have hkey1:∀(i:Nat) (k':List Int) (x':Addr),(xs.take q++(k,x)::xs.drop q)[i]?=some (k',x')→IK prog w (s.heap.update a (Obj.putSet (insertAt es q ((tk prog w).hash k,.ref x)) t1)) k' x':=fun i k' x' e=>by
   have ik:IK prog w s.heap k' x':=by
    rcases(hmem _).mp (List.mem_of_getElem? e) with h|h
    ·obtain⟨j,hj⟩:=List.getElem?_of_mem h
     exact S.key j k' x' hj
    ·cases h;exact hk
   exact Cm ik fun u hu=> (hsb.2 x' (PY ik S.get S.ex)).trans hu
  have htb1:Tb t1 ((xs.take q++(k,x)::xs.drop q).map fun p=> (tk prog w).hash p.1):=by
   simpa using p1
  have hno':∀y,(k,y)∉xs:=fun y hy=>by
   obtain⟨i,hi⟩:=List.getElem?_of_mem hy
   exact hno i y hi
  have hfill:t1.fill=xs.length+1:=by
   unfold SetTable.fill
   rw[htb1.dum]
   have:=htb1.size
   rw[List.length_map,hlen] at this
   rw[this];rfl
  have hroom:=S.room
  simp only[Bool.not_false,Bool.true_and]
  cases htf:t1.tooFull with
  |true=>
   simp only[if_true]
   have htf':t1.mask*3≤(xs.length+1)*5:=by
    unfold SetTable.tooFull at htf
    rw[hfill] at htf
    simpa using htf
   rw[S.size]
   refine wpAny_bind (PZ (s:={s with heap:=s.heap.update a (Obj.putSet (insertAt es q ((tk prog w).hash k,.ref x)) t1)}) hg1 S.ex rfl hes1 hkey1 hnod htb1 (by rw[p4];exact S.pl) (by rw[p5];exact S.led) hlen (by rw[p3];exact hroom) htf' hl fun h' xs' sb sx mm ll=>?_)
   refine wpAny_pure (hF hno' h' xs' (hsb.trans sb) sx (fun p=> (mm p).trans (hmem p)) (ll.trans hlen))
  |false=>
   simp only[Bool.false_eq_true,if_false]
   refine wpAny_pure (hF hno' _ _ hsb ⟨_,_,_,t1,hg1,S.ex,rfl,hes1,hkey1,hnod,htb1,by rw[p4];exact S.pl,?_,by rw[p5];exact S.led⟩ hmem hlen)
   unfold SetTable.tooFull at htf
   rw[hfill] at htf
   rw[hlen]
   simpa using htf
def Ie(ks:List (List Int×Addr))(xs:List (List Int×Addr)):Prop:=(∀p,p∈xs→p∈ks)∧(∀k y,(k,y)∈ks→∃y',(k,y')∈xs)∧xs.length≤ks.length
theorem SetX.keep'{h h':Heap}(S:SetX prog w h a xs)(ha:∀u,h.get? a=some u→h'.get? a=some u)(hk:∀k x,(k,x)∈xs→∀u,h.get? x=some u→h'.get? x=some u):SetX prog w h' a xs:=by
 obtain⟨o,es,ep,t,S⟩:=S
 exact⟨o,es,ep,t,ha _ S.get,S.ex,S.dat,S.es,fun i k x e=>Cm (S.key i k x e) (hk k x (List.mem_of_getElem? e)),S.nd,S.tb,S.pl,S.room,S.led⟩
theorem Sl{I l:Addr}{items:Array Value}{ps:List (List Int×Addr)}(hh:A.in1.handled=none)(hne:l≠I)(hI:a≠I)(hla:a≠l)(hps:items.toList=ps.map fun p=>Value.ref p.2)(hz:ps.length≤300)(hu:A.units+1<cLine)
  {R:Result→Shared→Prop}:∀(n i:Nat) (s:Shared) (xs:List (List Int×Addr)),n=ps.length-i→i≤ps.length→s.heap.IsListIter I l i→s.heap.IsList l items→(∀k x,(k,x)∈ps→IK prog w s.heap k x∧x≠I)→SetX prog w s.heap a xs→Ie (ps.take i) xs→
   (∀h' tk' xs',(∀b u,b≠a→b≠I→s.heap.get? b=some u→h'.get? b=some u)→SetX prog w h' a xs'→Ie ps xs'→R (.ok (.ret .none)) {s with heap:=h',toks:=tk'})→
   codeAny (model prog w) A (.builtin "set.update.loop" ⟨[.ref a,.ref I],[]⟩) R s:=by
 have W:=Walks.list (A:=A.in1) (prog:=prog) (w:=w) hh I l hne items
 have hsz:items.size=ps.length:=by rw[←Array.length_toList,hps,List.length_map]
 intro n
 induction n with
 |zero=>
  intro i s xs hn hi hit hl hp hX hS hR
  have:i=ps.length:=by omega
  subst this
  rw[List.take_length] at hS
  refine codeAny_builtin PyProof.Rows.F.entry_set_update_loop ?_
  rw[Around.under_plainId PyProof.Rows.F.plain_set_update_loop _]
  show wpAny _ A.in1 (pyNext (.ref I)>>=_) _ _ s
  refine wpAny_bind (wpAny_pyNext_list_end hh hit hl (by simp[hsz]) fun h' hk=>?_)
  show wpAny _ A.in1 (ret Value.none) _ _ _
  refine wpAny_pure (hR h' s.toks xs (fun b u _ hb e=>hk b u hb e) (hX.keep' (fun u e=>hk a u hI e) fun k x hx u e=>hk x u (hp k x (hS.1 _ hx)).2 e) hS)
 |succ n ih=>
  intro i s xs hn hi hit hl hp hX hS hR
  have hlt:i<ps.length:=by omega
  obtain⟨⟨k,x⟩,hkx⟩:∃p,ps[i]?=some p:=⟨_,by simp[hlt];rfl⟩
  have hitem:items[i]?=some (.ref x):=by
   have:items[i]?=items.toList[i]?:=by simp
   rw[this,hps,List.getElem?_map,hkx];rfl
  refine codeAny_builtin PyProof.Rows.F.entry_set_update_loop ?_
  rw[Around.under_plainId PyProof.Rows.F.plain_set_update_loop _]
  show wpAny _ A.in1 (pyNext (.ref I)>>=_) _ _ s
  refine wpAny_bind (wpAny_pyNext_list_item hit hl hitem fun h1 hit1 sb1=>?_)
  have hk1:∀b u,b≠I→s.heap.get? b=some u→h1.get? b=some u:=fun b u hb e=> (sb1.2 b hb).trans e
  have kx:=hp k x (List.mem_of_getElem? hkx)
  have hX1:SetX prog w h1 a xs:=hX.keep' (fun u e=>hk1 a u hI e) fun k x hx u e=>hk1 x u (hp k x (List.mem_of_mem_take (hS.1 _ hx))).2 e
  have ik1:∀k x,(k,x)∈ps→IK prog w h1 k x∧x≠I:=fun k x hx=> ⟨Cm (hp k x hx).1 fun u e=>hk1 x u (hp k x hx).2 e,(hp k x hx).2⟩
  have hl1:h1.IsList l items:=hl.at fun o e=>hk1 l o hne e
  show wpAny _ A.in1 (holding [Value.ref x] (setAdd a (.ref x))>>=_) _ _ _
  refine wpAny_bind (wpAny_holding ?_)
  unfold setAdd
  refine wpAny_holding ?_
  refine wpAny_bind ((tk prog w).pyHash (s:={s with heap:=h1}) hu (ik1 k x (List.mem_of_getElem? hkx)).1 ?_)
  have htake:ps.take (i+1)=ps.take i++[(k,x)]:=by rw[List.take_add_one,hkx];rfl
  have hlen:xs.length≤i:=by have:=hS.2.2;rw[List.length_take] at this;omega
  refine WC (s:={s with heap:=h1,toks:=s.toks+(tk prog w).draws k}) hX1 hu (ik1 k x (List.mem_of_getElem? hkx)).1 (by omega) (fun y hy=>?_) (fun hno h2 xs' sb sx mm ll=>?_)
  ·refine wpAny_pure ⟨plainId_quiet PyProof.Rows.F.plain_set_update_loop _,ih (i+1) _ xs (by omega) (by omega) hit1 hl1 ik1 hX1 ⟨fun p hp'=>by rw[htake];exact List.mem_append_left _ (hS.1 p hp'),fun k' y' hm=>?_,by rw[htake,List.length_append];have:=hS.2.2;omega⟩ fun h' tk' xs' kp sx so=>hR h' tk' xs' (fun b u h1' h2' e=>kp b u h1' h2' (hk1 b u h2' e)) sx so⟩
   rw[htake] at hm
   rcases List.mem_append.mp hm with hm|hm
   ·exact hS.2.1 k' y' hm
   ·cases List.mem_singleton.mp hm
    exact⟨y,hy⟩
  ·have keep2:∀b u,b≠a→h1.get? b=some u→h2.get? b=some u:=fun b u hb e=> (sb.2 b hb).trans e
   have nea:∀k x,(k,x)∈ps→x≠a:=fun k x hx=>by
    obtain⟨o,es,ep,t,S⟩:=hX1
    exact PY (ik1 k x hx).1 S.get S.ex
   refine wpAny_pure ⟨plainId_quiet PyProof.Rows.F.plain_set_update_loop _,ih (i+1) {s with heap:=h2,toks:=s.toks+(tk prog w).draws k} xs' (by omega) (by omega) (hit1.at fun o e=>keep2 I o (Ne.symm hI) e) (hl1.at fun o e=>keep2 l o (Ne.symm hla) e)
    (fun k x hx=> ⟨Cm (ik1 k x hx).1 fun u e=>keep2 x u (nea k x hx) e,(hp k x hx).2⟩) sx ⟨fun p hp'=>?_,fun k' y' hm=>?_,by rw[htake,List.length_append,ll];have:=hS.2.2;simp;omega⟩ fun h' tk' xs2 kp sx so=>hR h' tk' xs2 (fun b u h1' h2' e=>kp b u h1' h2' (keep2 b u h1' (hk1 b u h2' e))) sx so⟩
   ·rw[htake]
    rcases(mm p).mp hp' with h|h
    ·exact List.mem_append_left _ (hS.1 p h)
    ·exact List.mem_append_right _ (List.mem_singleton.mpr h)
   ·rw[htake] at hm
    rcases List.mem_append.mp hm with hm|hm
    ·obtain⟨y2,hy2⟩:=hS.2.1 k' y' hm
     exact⟨y2,(mm _).mpr (.inl hy2)⟩
    ·cases List.mem_singleton.mp hm
     exact⟨x,(mm _).mpr (.inr rfl)⟩
end
end StT
namespace StT
open PySem PySem.SetTable PyProof.Rows
theorem Ag:Slot "set_iterator" "__next__" "set_iterator.__next__" :=
 .of (owner:="set_iterator") (n:="__next__") (by rw[typeLookup_type,builtinLookup_eq_fast];kernel_rfl) (by decide+kernel) (by decide+kernel) (by decide+kernel)
  (by first|exact .inl (by decide+kernel)|exact .inr (by decide+kernel)) (by rw[isSubtype_type];kernel_rfl)
theorem DD:Slot "set_iterator" "__iter__" "set_iterator.__iter__" :=
 .of (owner:="set_iterator") (n:="__iter__") (by rw[typeLookup_type,builtinLookup_eq_fast];kernel_rfl) (by decide+kernel) (by decide+kernel) (by decide+kernel)
  (by first|exact .inl (by decide+kernel)|exact .inr (by decide+kernel)) (by rw[isSubtype_type];kernel_rfl)
theorem CV:entryFor table "set_iterator.__next__" =some Builtin.«set_iterator.__next__»:=entryFor_of_tree (by kernel_rfl)
theorem Eu:entryFor table "set_iterator.__iter__" =some Builtin.«dict_keyiterator.__iter__»:=
 entryFor_alias (id':="dict_keyiterator.__iter__") (by kernel_rfl) (by first|rfl|decide+kernel| (unfold String.splitOn;simp+decide [String.splitOnAux])) (by decide+kernel) (by kernel_rfl)
theorem GO:entryFor table "set.__iter__" =some Builtin.«frozenset.__iter__»:=
 entryFor_alias (id':="frozenset.__iter__") (by kernel_rfl) (by first|rfl|decide+kernel| (unfold String.splitOn;simp+decide [String.splitOnAux])) (by decide+kernel) (by kernel_rfl)
theorem FO:Manifest.owners.lookup (String.ofList ['r','o','t','a','r','e','t','i','_','t','e','s'].reverse)=some Manifest.sig_set_iterator:=by kernel_rfl
theorem DE(a:Value):argsOk "set_iterator.__next__" ⟨[a],[]⟩:=by
 unfold argsOk;rw[signature?_of (id:="set_iterator.__next__") (n:=['_','_','t','x','e','n','_','_']) (o:=['r','o','t','a','r','e','t','i','_','t','e','s']) (by kernel_rfl) FO];kernel_rfl
theorem FV(a:Value):argsOk "set_iterator.__iter__" ⟨[a],[]⟩:=by
 unfold argsOk;rw[signature?_of (id:="set_iterator.__iter__") (n:=['_','_','r','e','t','i','_','_']) (o:=['r','o','t','a','r','e','t','i','_','t','e','s']) (by kernel_rfl) FO];kernel_rfl
theorem Md{α:Type}:∀(l:List α) (i:Nat) (h:i<l.length),(l[i]::l.eraseIdx i).Perm l
 |x::l,0,_=>List.Perm.refl _
 |x::l,i+1,h=>by
  have ih:=Md l i (by simpa using h)
  simp only[List.getElem_cons_succ,List.eraseIdx_cons_succ]
  exact(List.Perm.swap _ _ _).trans (ih.cons x)
theorem Me{α:Type}(next:Nat→Nat):∀(n k:Nat) (left:List α) (out:Array α),left.length=n→(pickOrder.go next n k left out).toList.Perm (out.toList++left)
 |0,k,left,out,h=>by
  have:left=[]:=List.length_eq_zero_iff.mp h
  subst this
  simp[pickOrder.go]
 |n+1,k,left,out,h=>by
  have hlt:next k%left.length<left.length:=Nat.mod_lt _ (by omega)
  have e:left[next k%left.length]?=some left[next k%left.length]:=by simp[hlt]
  rw[pickOrder.go,e]
  have ih:=Me next n (k+1) (left.eraseIdx (next k%left.length)) (out.push left[next k%left.length]) (by rw[List.length_eraseIdx_of_lt hlt];omega)
  refine ih.trans ?_
  rw[Array.toList_push,List.append_assoc]
  exact List.Perm.append_left _ (Md left _ hlt)
theorem Nw{α:Type}(next:Nat→Nat)(xs:Array α):(pickOrder next xs).toList.Perm xs.toList:=by
 have:=Me next xs.size 0 xs.toList #[] (by simp)
 simp only[List.nil_append] at this
 exact this
def Dr(w:World)(a:Addr)(ep:Nat)(es:Array (Int×Value)):Array (Int×Value):=if w.params.followText "set-order" =true then pickOrder (w.params.setOrder a ep) es else es
theorem Hn(w:World)(a:Addr)(ep:Nat)(es:Array (Int×Value)):(Dr w a ep es).toList.Perm es.toList:=by
 unfold Dr
 split
 ·exact Nw _ _
 ·exact List.Perm.refl _
theorem Ew(w:World)(a:Addr)(ep:Nat)(es:Array (Int×Value)):(Dr w a ep es).size=es.size:=by
 rw[←Array.length_toList,←Array.length_toList];exact(Hn w a ep es).length_eq
theorem LJ{xs:Array Nat}(r:PR xs){i:Nat}(hi:i≤xs.size){slot:Nat}(hs:(i=0∧slot=0)∨(0<i∧∃j,xs[i-1]?=some j∧slot=j+1)):below xs slot=i:=by
 obtain⟨b1,b2,b3⟩:=Cj (j:=slot) r
 rcases hs with⟨rfl,rfl⟩| ⟨h0,j,hj,rfl⟩
 ·apply Classical.byContradiction
  intro hne
  have h0:0<xs.size:=by omega
  have:=b2 0 xs[0] (by omega) (by simp[h0])
  omega
 ·have hlt:i-1<xs.size:=(Array.getElem?_eq_some_iff.mp hj).1
  rcases Nat.lt_trichotomy (below xs (j+1)) i with hl|he|hg
  ·have hx:xs[below xs (j+1)]?=some xs[below xs (j+1)]:=by simp[show below xs (j+1)<xs.size by omega]
   have h1:=b3 _ _ (Nat.le_refl _) hx
   by_cases hq:below xs (j+1)=i-1
   ·have hx2:xs[below xs (j+1)]?=some j:=by rw[hq];exact hj
    have:=Option.some.inj (hx.symm.trans hx2)
    omega
   ·have:=GH r hx hj (by omega)
    omega
  ·exact he
  ·have hx:xs[i]?=some xs[i]:=by simp[show i<xs.size by omega]
   have h1:=b2 i _ hg hx
   have:=GH r hj hx (by omega)
   omega
section
variable{prog:Program}{w:World}{A:Around}{E:Value→Shared→Prop}{s:Shared}
variable{a:Addr}{xs:List (List Int×Addr)}{o:Obj}{es:Array (Int×Value)}{ep:Nat}{t:SetTable}
def CW(w:World)(h:Heap)(I a:Addr)(t:SetTable)(ep n i:Nat):Prop:=∃slot:Nat,h.get? I=some {cls:=.type "set_iterator",dict:=none,data:=.fields #[rawInt slot,rawInt i,.ref a,rawInt n,rawInt ep],slots:=#[]}∧
 (w.params.followText "set-order" =false→(i=0∧slot=0)∨(0<i∧∃j,t.place[i-1]?=some j∧slot=j+1))
theorem GP(hg:s.heap.get? a=some o)(hd:o.data=.set es ep t)(hf:t.fits es.size=true)(hr:PR t.place)(hpl:t.plain=true)(hled:t.led=!w.params.followText "set-order"){i slot:Nat}(hi:i≤es.size)
  (hs:w.params.followText "set-order" =false→(i=0∧slot=0)∨(0<i∧∃j,t.place[i-1]?=some j∧slot=j+1)) {Q:Option (Value×Nat)→Shared→Prop}
  (hsome:∀e slot',(Dr w a ep es)[i]?=some e→(w.params.followText "set-order" =false→∃j,t.place[i]?=some j∧slot'=j+1)→Q (some (e.2,slot')) s) (hnone:i=es.size→Q none s):wpAny (model prog w) A (setNext a slot i ep) Q E s:=by
 have hps:t.place.size=es.size:=by
  simp only[SetTable.fits,Bool.and_eq_true,beq_iff_eq] at hf
  exact hf.1
 have ask:∀{R:Bool→Shared→Prop},R (w.params.followText "set-order") s→wpAny (model prog w) A setsByText R E s:=fun h=>wpAny_bind (wpAny_askSetting (wpAny_pure h))
 unfold setNext
 refine wpAny_bind (wpAny_setState_of hg hd hf ?_)
 dsimp only
 refine wpAny_bind (ask ?_)
 cases hb:w.params.followText "set-order" with
 |true=>
  simp only[if_true]
  rw[if_neg (by simp)]
  refine wpAny_bind ?_
  unfold setWalk
  refine wpAny_bind (wpAny_setState_of hg hd hf ?_)
  dsimp only
  refine wpAny_bind (ask ?_)
  rw[hb]
  simp only[if_true]
  refine wpAny_bind (wpAny_askSetting (wpAny_pure ?_))
  refine wpAny_pure ?_
  have ho:Dr w a ep es=pickOrder (w.params.setOrder a ep) es:=by unfold Dr;rw[if_pos hb]
  show Q (((pickOrder (w.params.setOrder a ep) es)[i]?).map fun e=> (e.2,slot)) s
  rw[←ho]
  cases he:(Dr w a ep es)[i]? with
  |some e=>exact hsome e slot he fun z=>by rw[hb] at z;cases z
  |none=>
   refine hnone ?_
   have:=Array.getElem?_eq_none_iff.mp he
   rw[Ew] at this
   omega
 |false=>
  rw[hb] at hled
  simp only[Bool.false_eq_true,if_false]
  have hdr:(!t.plain&&decide (es.size>1))=false:=by rw[hpl];rfl
  show wpAny _ _ (if(!t.plain&&decide (es.size>1))=true then _ else _) _ _ s
  rw[hdr]
  simp only[Bool.false_eq_true,if_false]
  refine wpAny_bind ?_
  show wpAny _ _ (if(!t.led&&!es.isEmpty)=true then _ else pure ()) _ _ s
  rw[hled]
  simp only[Bool.not_false,Bool.not_true,Bool.false_and,Bool.false_eq_true,if_false]
  refine wpAny_pure ?_
  rw[LJ hr (by omega) (hs hb)]
  have ho:Dr w a ep es=es:=by unfold Dr;rw[if_neg (by rw[hb];decide)]
  by_cases hlt:i<es.size
  ·have e1:es[i]?=some es[i]:=by simp[hlt]
   have e2:t.place[i]?=some (t.place[i]'(by omega)):=by simp[show i<t.place.size by omega]
   rw[e1,e2]
   exact wpAny_pure (hsome es[i] _ (by rw[ho];exact e1) fun _=> ⟨_,e2,rfl⟩)
  ·have e1:es[i]?=none:=by simp;omega
   rw[e1]
   exact wpAny_pure (hnone (by omega))
end
section
variable{prog:Program}{w:World}{A:Around}{E:Value→Shared→Prop}{s:Shared}
variable{a I:Addr}{xs:List (List Int×Addr)}{o:Obj}{es:Array (Int×Value)}{ep:Nat}{t:SetTable}
structure Wk(w:World)(o:Obj)(es:Array (Int×Value))(ep:Nat)(t:SetTable):Prop where
 cls:o.cls=.type "set"
 dat:o.data=.set es ep t
 fits:t.fits es.size=true
 ris:PR t.place
 pl:t.plain=true
 led:t.led=!w.params.followText "set-order"
theorem SetD.wk(S:SetD prog w s.heap a xs o es ep t):Wk w o es ep t:=⟨S.ex.1,S.dat,S.fits,S.tb.ris,S.pl,S.led⟩
theorem CM(K:Wk w o es ep t)(hg:s.heap.get? a=some o){Q:Array (Int×Value)→Shared→Prop}(h:Q es s):wpAny (model prog w) A (setEntries a) Q E s:=by
 unfold setEntries
 exact wpAny_bind (wpAny_setState_of hg K.dat K.fits (wpAny_pure h))
theorem Nx(K:Wk w o es ep t)(hg:s.heap.get? a=some o)(hne:a≠I){i:Nat}(hi:i<es.size)(it:CW w s.heap I a t ep es.size i){Q:Option Value→Shared→Prop}
  (hQ:∀e h',(Dr w a ep es)[i]?=some e→CW w h' I a t ep es.size (i+1)→Heap.SameBut I s.heap h'→Q (some e.2) {s with heap:=h'}):wpAny (model prog w) A (pyNext (.ref I)) Q E s:=by
 obtain⟨slot,ho,hsl⟩:=it
 have hT:s.TypeIs (.ref I) "set_iterator":=⟨_,ho,rfl⟩
 unfold pyNext
 refine wpAny_bind (wpAny_attempt (wpAny_callSpecial?_slot (name:=Str.ofString "__next__") hT Ag (wpAny_call_entry Ag hT CV ?_ (DE _))))
 refine wpAny_bind (wpAny_pure ?_)
 refine wpAny_bind (wpAny_fieldsOf ho rfl ?_)
 show wpAny _ _ (setEntries a>>=_) _ _ s
 refine wpAny_bind (CM K hg ?_)
 rw[if_neg (by simp)]
 show wpAny _ _ (setNext a ((slot:Int).toNat) ((i:Int).toNat) ((ep:Int).toNat)>>=_) _ _ s
 simp only[Int.toNat_natCast]
 refine wpAny_bind (GP hg K.dat K.fits K.ris K.pl K.led (Nat.le_of_lt hi) hsl (fun e slot' he hs'=>?_) fun z=>by omega)
 dsimp only
 refine wpAny_bind (wpAny_setField_rec ho (by simp) fun h1 ho1 hs1=>?_)
 refine wpAny_bind (wpAny_setField_rec (s:={s with heap:=h1}) ho1 (by simp) fun h2 ho2 hs2=>?_)
 refine wpAny_pure ⟨_,rfl,wpAny_pure (hQ e h2 he ⟨slot',?_,fun hb=> .inr ⟨Nat.succ_pos _,?_⟩⟩ (hs1.trans hs2))⟩
 ·simpa using ho2
 ·simpa using hs' hb
theorem Pa(K:Wk w o es ep t)(hh:A.handled=none)(hg:s.heap.get? a=some o)(hne:a≠I)(it:CW w s.heap I a t ep es.size es.size){Q:Option Value→Shared→Prop}
  (hQ:∀h',Heap.ExtBut I s.heap h'→Q none {s with heap:=h'}):wpAny (model prog w) A (pyNext (.ref I)) Q E s:=by
 obtain⟨slot,ho,hsl⟩:=it
 have hT:s.TypeIs (.ref I) "set_iterator":=⟨_,ho,rfl⟩
 unfold pyNext
 refine wpAny_bind (wpAny_attempt (wpAny_callSpecial?_slot (name:=Str.ofString "__next__") hT Ag (wpAny_call_entry Ag hT CV ?_ (DE _))))
 refine wpAny_bind (wpAny_pure ?_)
 refine wpAny_bind (wpAny_fieldsOf ho rfl ?_)
 show wpAny _ _ (setEntries a>>=_) _ _ s
 refine wpAny_bind (CM K hg ?_)
 rw[if_neg (by simp)]
 show wpAny _ _ (setNext a ((slot:Int).toNat) ((es.size:Int).toNat) ((ep:Int).toNat)>>=_) _ _ s
 simp only[Int.toNat_natCast]
 refine wpAny_bind (GP hg K.dat K.fits K.ris K.pl K.led (Nat.le_refl _) hsl (fun e slot' he hs'=>?_) fun z=>?_)
 ·have:=(Array.getElem?_eq_some_iff.mp he).1
  rw[Ew] at this
  omega
 dsimp only
 refine wpAny_bind (wpAny_setField_rec ho (by simp) fun h1 ho1 hs1=>?_)
 show wpAny _ _ (newExc (.type "StopIteration") []>>=_) _ _ _
 refine wpAny_bind ?_
 simp only[newExc,newTuple]
 refine wpAny_bind (wpAny_newObj_type ?_ (by size_fits))
 refine wpAny_bind (m:=firstArgMember _ _) (wpAny_of_eq (a:=Value.none) (by first|rfl| (simp only[firstArgMember];rfl)) ?_)
 refine wpAny_newObj_type ?_ (by size_fits)
 simp only[raiseNew]
 refine wpAny_bind (wpAny_handled ?_)
 rw[show A.in1.handled=none from hh]
 refine wpAny_bind (wpAny_pure (wpAny_throw ?_))
 refine wpAny_bind (wpAny_isInstance (T:="StopIteration") (b:=true) ⟨_,Heap.get?_push_size _ rfl,rfl⟩ isSubtype_stop ?_)
 exact wpAny_pure (hQ _ ((hs1.extBut.push _).push _))
theorem Ny{n i:Nat}(it:CW w s.heap I a t ep n i){Q:Value→Shared→Prop}(h:Q (.ref I) s):wpAny (model prog w) A (pyIter (.ref I)) Q E s:=by
 obtain⟨slot,ho,_⟩:=it
 have hT:s.TypeIs (.ref I) "set_iterator":=⟨_,ho,rfl⟩
 refine wpAny_pyIter_slot hT DD (wpAny_call_entry DD hT Eu ?_ (FV _))
 show wpAny _ _ (ret (.ref I)) _ _ s
 exact wpAny_pure ⟨_,rfl,"set_iterator",_,hT,Ag.lookup,h⟩
theorem Pb(K:Wk w o es ep t)(hg:s.heap.get? a=some o){Q:Value→Shared→Prop}
  (h:Q (.ref s.heap.objs.size) {s with heap:=s.heap.push {cls:=.type "set_iterator",data:=.fields #[rawInt 0,rawInt 0,.ref a,rawInt es.size,rawInt ep]}}):wpAny (model prog w) A (pyIter (.ref a)) Q E s:=by
 have hT:s.TypeIs (.ref a) "set":=⟨_,hg,K.cls⟩
 have ask:∀{A:Around} {E:Value→Shared→Prop} {R:Bool→Shared→Prop},R (w.params.followText "set-order") s→wpAny (model prog w) A setsByText R E s:=fun h=>wpAny_bind (wpAny_askSetting (wpAny_pure h))
 refine wpAny_pyIter_slot hT PySem.F.slot_set_iter (wpAny_call_entry PySem.F.slot_set_iter hT GO ?_ (PySem.F.args_set_iter_1 _))
 unfold Builtin.«frozenset.__iter__»
 refine wpAny_bind (wpAny_bind (wpAny_pure (wpAny_pure ?_)))
 refine wpAny_bind (wpAny_bind (CM K hg (wpAny_pure ?_)))
 refine wpAny_bind ?_
 unfold setDrawn
 refine wpAny_bind (wpAny_setState_of hg K.dat K.fits ?_)
 dsimp only
 refine wpAny_bind (ask (wpAny_pure ?_))
 have hdr:(!w.params.followText "set-order" &&(!t.plain&&decide (es.size>1)))=false:=by rw[K.pl];simp
 show wpAny _ _ (if(!w.params.followText "set-order" &&(!t.plain&&decide (es.size>1)))=true then _ else _) _ _ s
 rw[hdr]
 simp only[Bool.false_eq_true,if_false]
 refine wpAny_bind (wpAny_pure ?_)
 refine wpAny_bind (wpAny_setEpoch_of hg K.dat K.fits ?_)
 refine wpAny_bind ?_
 unfold newFields
 refine wpAny_newObj_type ?_
 refine wpAny_pure ⟨_,rfl,"set_iterator",_,⟨_,Heap.get?_push_size _ rfl,rfl⟩,Ag.lookup,h⟩
theorem Nz(K:Wk w o es ep t)(hh:A.handled=none)(hne:a≠I):Walks prog w A I [I,a] [I] es.size (fun i v=>∃h,(Dr w a ep es)[i]?=some (h,v)) (fun i h=>CW w h I a t ep es.size i∧h.get? a=some o) where
 sub:=fun b hb=>by simp at hb;simp[hb]
 frame:=fun i h h' st hk=>by
  obtain⟨⟨slot,h1,h2⟩,h3⟩:=st
  exact⟨⟨slot,hk I (by simp) _ h1,h2⟩,hk a (by simp) _ h3⟩
 item:=fun i s Q E hi st hQ=>Nx K st.2 hne hi st.1 fun e h' he it' sb=>hQ e.2 h' s.toks ⟨e.1,he⟩ ⟨it',(sb.2 a hne).trans st.2⟩ fun b o hb e=> (sb.2 b (fun z=>hb (by simp[z]))).trans e
 done:=fun s Q E st hQ=>Pa K hh st.2 hne st.1 fun h' he=>hQ h' s.toks fun b o hb e=>he b o (fun z=>hb (by simp[z])) e
 self:=fun i s Q E st hQ=>Ny st.1 hQ
theorem Pc{r:Addr}{Q:Bool→Shared→Prop}(hT:s.TypeIs (.ref r) "set")(h:Q false s):wpAny (model prog w) A (Builtin.List.listLengthHint (.ref r)) Q E s:=by
 unfold Builtin.List.listLengthHint
 refine wpAny_bind (wpAny_specialOf hT PySem.F.slot_set_len.lookup ?_)
 generalize hid:("set.__len__" :String)=id0
 wp_delta
 rw[show splitId id0=some ("set","__len__") from by subst hid;decide+kernel]
 subst hid
 refine wpAny_bind (wpAny_isInstance (T:="set") (b:=true) hT (by rw[isSubtype_type];kernel_rfl) ?_)
 refine wpAny_ite_split (fun hab=>absurd hab (by decide)) (fun _=>?_)
 refine wpAny_ite_split (fun _=>?_) (fun hab=>absurd (by decide+kernel) hab)
 refine wpAny_bind (wpAny_typeOf hT ?_)
 exact wpAny_pure h
theorem Sm(K:Wk w o es ep t):PySem.W.KdlSrc prog w "set" a a es.size (fun i v=>∃h,(Dr w a ep es)[i]?=some (h,v)) (fun h=>h.get? a=some o) where
 type:=fun _ hm=> ⟨_,hm,K.cls⟩
 there:=fun _ hm=> ⟨Heap.lt_size hm,Heap.lt_size hm⟩
 keep:=fun _ _ hm hk=>hk a (.inl rfl) _ hm
 notList:=by decide
 notTuple:=by decide
 hint:=fun _ _ _ _ hm hq=>Pc ⟨_,hm,K.cls⟩ hq
 iter:=fun A s hh hm=> ⟨_,_,(fun _ _ hq=>Pb K hm hq),Nz K hh (Nat.ne_of_lt (Heap.lt_size hm)),⟨⟨0,Heap.get?_push_size _ rfl,fun _=> .inl ⟨rfl,rfl⟩⟩,Heap.get?_push_of_some _ hm⟩⟩
end
end StT
namespace SrtG
open PySem PyProof.Rows
def Mf:Bool→Keyed→Array Keyed→Nat→Nat→Nat→StateT SortSt Sem (Option Nat):=sortPriv%PySem.Builtin.gallop
def aI(left:Bool)(key:Keyed)(arr:Array Keyed)(base i:Nat):StateT SortSt Sem (Option Bool):=do
 let x←elem' arr (base+i)
 if left then lt' x key else return(←lt' key x).map (!·)
section
variable{prog:Program}{w:World}{A:Around}{E:Value→Shared→Prop}{s:Shared}
def Pd(prog:Program)(w:World)(A:Around)(E:Value→Shared→Prop)(s:Shared)(kd:SortKind)(U:Keyed→Prop)(rk:Keyed→Int):Prop:=
 ∀(st:SortSt) (x y:Keyed) (Q:Option Bool→SortSt→Prop),kindOf st=kd→U x→U y→Q (some (decide (rk x<rk y))) st→wpS (model prog w) A E s (lt' x y) Q st
variable{kd:SortKind}{U:Keyed→Prop}{rk:Keyed→Int}
def RK(rk:Keyed→Int)(xs:Array Keyed)(i:Nat):Int:=match xs[i]? with
 |some p=>rk p
 |none=>0
def AllU(U:Keyed→Prop)(xs:Array Keyed):Prop:=∀(i:Nat) (p:Keyed),xs[i]?=some p→U p
def bt(left:Bool)(rk:Keyed→Int)(key:Keyed)(arr:Array Keyed)(base i:Nat):Bool:=if left then decide (RK rk arr (base+i)<rk key) else !decide (rk key<RK rk arr (base+i))
theorem Sn{left:Bool}{key:Keyed}{arr:Array Keyed}{base i:Nat}{st:SortSt}{Q:Option Bool→SortSt→Prop}(C:Pd prog w A E s kd U rk)(hk:kindOf st=kd)(hK:U key)(hU:AllU U arr)(hi:base+i<arr.size)
  (h:Q (some (bt left rk key arr base i)) st):wpS (model prog w) A E s (aI left key arr base i) Q st:=by
 unfold aI
 have e:arr[base+i]?=some arr[base+i]:=getElem?_pos arr (base+i) hi
 rw[elem'_eq,e]
 refine wpS_bind (wpS_pure ?_)
 have eR:RK rk arr (base+i)=rk arr[base+i]:=by unfold RK;rw[e]
 unfold bt at h
 rw[eR] at h
 cases left with
 |true=>
  rw[if_pos rfl] at h ⊢
  exact C st _ _ _ hk (hU _ _ e) hK h
 |false=>
  rw[if_neg Bool.false_ne_true] at h ⊢
  exact wpS_bind (C st _ _ _ hk hK (hU _ _ e) (wpS_pure h))
def Uo(P:Nat→Bool)(n r:Nat):Prop:=r≤n∧(∀i,i<r→P i=true)∧∀i,r≤i→i<n→P i=false
theorem Pe{α:Type}{P:Nat→Bool}{b:Nat→StateT SortSt Sem (Option Bool)}{n l h:Nat}{st:SortSt}(hb:∀i (Q:Option Bool→SortSt→Prop),i<n→Q (some (P i)) st→wpS (model prog w) A E s (b i) Q st)
  (mono:∀i j,i≤j→j<n→P j=true→P i=true) (hl:l≤h) (hn:h≤n) (h1:∀i,i<l→P i=true) (h2:∀i,h≤i→i<n→P i=false):
  wpS (model prog w) A E s (forIn [:n] ((none:Option (Option Nat)),l,h) fun x __s=>
   if __s.snd.fst≥__s.snd.snd then pure (ForInStep.done (none,__s.snd.fst,__s.snd.snd))
   else do
    let __x←b (__s.snd.fst+(__s.snd.snd-__s.snd.fst)/2)
    match __x with
     |some mr=>
      if mr=true then pure (ForInStep.yield (none,__s.snd.fst+(__s.snd.snd-__s.snd.fst)/2+1,__s.snd.snd))
      else pure (ForInStep.yield (none,__s.snd.fst,__s.snd.fst+(__s.snd.snd-__s.snd.fst)/2))
     |x=>pure (ForInStep.done (some none,__s.snd.fst,__s.snd.snd))) (fun c st'=>st'=st∧c.1=none∧Uo P n c.2.2) st:=by
 refine wpS_forRange (I:=fun x c st'=>st'=st∧∃l h,c=(none,l,h)∧l≤h∧h≤n∧(∀i,i<l→P i=true)∧(∀i,h≤i→i<n→P i=false)∧h-l≤n-x) ?_ ?_ ⟨rfl,l,h,rfl,hl,hn,h1,h2,by omega⟩
 ·rintro x c st' _ hx ⟨rfl,l,h,rfl,hl,hn,h1,h2,hm⟩
  dsimp only
  by_cases hlh:l≥h
  ·rw[if_pos hlh]
   have e:l=h:=by omega
   subst e
   exact wpS_pure ⟨rfl,rfl,hn,h1,h2⟩
  ·rw[if_neg hlh]
   refine wpS_bind (hb _ _ (by omega) ?_)
   dsimp only
   cases hP:P (l+(h-l)/2) with
   |true=>
    rw[if_pos rfl]
    exact wpS_pure ⟨rfl,_,_,rfl,by omega,hn,fun i hi=>mono i _ (by omega) (by omega) hP,h2,by omega⟩
   |false=>
    rw[if_neg Bool.false_ne_true]
    refine wpS_pure ⟨rfl,_,_,rfl,by omega,by omega,h1,fun i hi hin=>?_,by omega⟩
    cases q:P i with
    |false=>rfl
    |true=>rw[mono _ i hi hin q] at hP;cases hP
 ·rintro c st' ⟨rfl,l,h,rfl,hl,hn,h1,h2,hm⟩
  have e:l=h:=by
   have:max 0 n=n:=by omega
   rw[this] at hm
   omega
  subst e
  exact⟨rfl,rfl,hn,h1,h2⟩
theorem Ay {left : Bool} {key : Keyed} {arr : Array Keyed} {base n hint : Nat} {st : SortSt} {Q : Option Nat → SortSt → Prop} (C : Pd prog w A E s kd U rk) (hk : kindOf st = kd) (hK : U key) (hU : AllU U arr) (hb : base + n ≤ arr.size) (hh : hint < n)
    (mono : ∀ i j, i ≤ j → j < n → bt left rk key arr base j = true → bt left rk key arr base i = true)
    (h : ∀ r, Uo (bt left rk key arr base) n r → Q (some r) st) : wpS (model prog w) A E s (Mf left key arr base n hint) Q st := by
  delta Mf
  have hbey : ∀ i (Q : Option Bool → SortSt → Prop), i < n → Q (some (bt left rk key arr base i)) st → wpS (model prog w) A E s (aI left key arr base i) Q st := fun i Q hi q => Sn C hk hK hU (by omega) q
  have fals : ∀ i j, i ≤ j → j < n → bt left rk key arr base i = false → bt left rk key arr base j = false := fun i j hij hj e => by
    cases q : bt left rk key arr base j with
    | false => rfl
    | true => rw [mono i j hij hj q] at e; cases e
  refine wpS_bind (hbey _ _ hh ?_)
  dsimp only
  cases hP : bt left rk key arr base hint with
  | true =>
    rw [if_pos rfl]
    refine wpS_bind (wpS_mono (wpS_forRange (I := fun x c st' => st' = st ∧ ∃ la o, c = (none, la, o) ∧ la < o ∧ x + 1 ≤ o ∧ hint + la < n ∧ bt left rk key arr base (hint + la) = true)
      (Q := fun c st' => st' = st ∧ ∃ la o, c = (none, la, o) ∧ la < o ∧ hint + la < n ∧ bt left rk key arr base (hint + la) = true ∧ (n - hint ≤ o ∨ bt left rk key arr base (hint + o) = false)) ?_ ?_ ⟨rfl, 0, 1, rfl, by omega, by omega, hh, hP⟩) ?_)
    · rintro x c st' _ hx ⟨rfl, la, o, rfl, h1, h2, h3, h4⟩
      dsimp only
      by_cases ho : o ≥ n - hint
      · rw [if_pos ho]
        exact wpS_pure ⟨rfl, la, o, rfl, h1, h3, h4, .inl ho⟩
      · rw [if_neg ho]
        refine wpS_bind (hbey _ _ (by omega) ?_)
        dsimp only
        cases hq : bt left rk key arr base (hint + o) with
        | false =>
          rw [if_pos (by decide)]
          exact wpS_pure ⟨rfl, la, o, rfl, h1, h3, h4, .inr hq⟩
        | true =>
          rw [if_neg (by decide)]
          exact wpS_pure ⟨rfl, o, _, rfl, by omega, by omega, by omega, hq⟩
    · rintro c st' ⟨rfl, la, o, rfl, h1, h2, h3, h4⟩
      exact ⟨rfl, la, o, rfl, h1, h3, h4, .inl (by have : max 0 n = n := by omega
                                                   omega)⟩
    · rintro c st' ⟨rfl, la, o, rfl, h1, h3, h4, h5⟩
      dsimp only
      refine wpS_bind (wpS_mono (Pe (α := Unit) hbey mono (by omega) (by omega) (fun i hi => mono i (hint + la) (by omega) h3 h4) (fun i hi hin => ?_)) ?_)
      · rcases h5 with h5 | h5
        · omega
        · exact fals (hint + o) i (by omega) hin h5
      · rintro ⟨c1, c2, c3⟩ st'' ⟨rfl, e, pt⟩
        cases e
        exact wpS_pure (h _ pt)
  | false =>
    rw [if_neg Bool.false_ne_true]
    refine wpS_bind (wpS_mono (wpS_forRange (I := fun x c st' => st' = st ∧ ∃ la o, c = (none, la, o) ∧ la < o ∧ x + 1 ≤ o ∧ la ≤ hint ∧ bt left rk key arr base (hint - la) = false)
      (Q := fun c st' => st' = st ∧ ∃ la o, c = (none, la, o) ∧ la < o ∧ la ≤ hint ∧ bt left rk key arr base (hint - la) = false ∧ (hint + 1 ≤ o ∨ bt left rk key arr base (hint - o) = true)) ?_ ?_ ⟨rfl, 0, 1, rfl, by omega, by omega, by omega, hP⟩) ?_)
    · rintro x c st' _ hx ⟨rfl, la, o, rfl, h1, h2, h3, h4⟩
      dsimp only
      by_cases ho : o ≥ hint + 1
      · rw [if_pos ho]
        exact wpS_pure ⟨rfl, la, o, rfl, h1, h3, h4, .inl ho⟩
      · rw [if_neg ho]
        refine wpS_bind (hbey _ _ (by omega) ?_)
        dsimp only
        cases hq : bt left rk key arr base (hint - o) with
        | true =>
          rw [if_pos rfl]
          exact wpS_pure ⟨rfl, la, o, rfl, h1, h3, h4, .inr hq⟩
        | false =>
          rw [if_neg Bool.false_ne_true]
          exact wpS_pure ⟨rfl, o, _, rfl, by omega, by omega, by omega, hq⟩
    · rintro c st' ⟨rfl, la, o, rfl, h1, h2, h3, h4⟩
      exact ⟨rfl, la, o, rfl, h1, h3, h4, .inl (by have : max 0 n = n := by omega
                                                   omega)⟩
    · rintro c st' ⟨rfl, la, o, rfl, h1, h3, h4, h5⟩
      dsimp only
      refine wpS_bind (wpS_mono (Pe (α := Unit) hbey mono (by omega) (by omega) (fun i hi => ?_) (fun i hi hin => fals (hint - la) i hi hin h4)) ?_)
      · rcases h5 with h5 | h5
        · omega
        · exact mono i (hint - o) (by omega) (by omega) h5
      · rintro ⟨c1, c2, c3⟩ st'' ⟨rfl, e, pt⟩
        cases e
        exact wpS_pure (h _ pt)
end
local macro_rules | `(tactic| omega) => `(tactic| first | lia | omega)
open PySem PyProof.Rows
variable{rk:Keyed→Int}
def Ex(rk:Keyed→Int)(a:Array Keyed):Prop:=∀i j,i≤j→j<a.size→RK rk a i≤RK rk a j
structure Mrg(rk:Keyed→Int)(a b out:Array Keyed)(i j:Nat):Prop where
 hi:i≤a.size
 hj:j≤b.size
 perm:out.toList.Perm (a.toList.take i++b.toList.take j)
 srt:out.toList.Pairwise fun x y=>rk x≤rk y
 ha:∀x,x∈out.toList→∀y,i≤y→y<a.size→rk x≤RK rk a y
 hb:∀x,x∈out.toList→∀y,j≤y→y<b.size→rk x≤RK rk b y
structure Fin2(rk:Keyed→Int)(a b r:Array Keyed):Prop where
 perm:r.toList.Perm (a.toList++b.toList)
 srt:r.toList.Pairwise fun x y=>rk x≤rk y
theorem Ap{a:Array Keyed}{i:Nat}(h:i<a.size):RK rk a i=rk a[i]:=by
 unfold RK
 rw[getElem?_pos a i h]
theorem Mrg.sym{a b out:Array Keyed}{i j:Nat}(m:Mrg rk a b out i j):Mrg rk b a out j i:=
 ⟨m.hj,m.hi,m.perm.trans List.perm_append_comm,m.srt,m.hb,m.ha⟩
theorem Mrg.pushA{a b out:Array Keyed}{i j:Nat}(m:Mrg rk a b out i j)(sa:Ex rk a)(h:i<a.size)(hb:∀y,j≤y→y<b.size→rk a[i]≤RK rk b y):Mrg rk a b (out.push a[i]) (i+1) j:=by
 have e:(out.push a[i]).toList=out.toList++[a[i]]:=Array.toList_push ..
 have t:a.toList.take (i+1)=a.toList.take i++[a[i]]:=by
  rw[List.take_succ]
  have:a.toList[i]?=some a[i]:=by rw[Array.getElem?_toList];exact getElem?_pos a i h
  rw[this];rfl
 refine⟨h,m.hj,?_,?_,?_,?_⟩
 ·rw[e,t]
  have p1:=m.perm.append_right [a[i]]
  refine p1.trans ?_
  rw[List.append_assoc,List.append_assoc]
  exact List.Perm.append_left _ List.perm_append_comm
 ·rw[e,List.pairwise_append]
  refine⟨m.srt,List.pairwise_singleton _ _,fun x hx y hy=>?_⟩
  cases List.mem_singleton.mp hy
  have:=m.ha x hx i (Nat.le_refl _) h
  rwa[Ap h] at this
 ·intro x hx y hy hys
  rw[e] at hx
  rcases List.mem_append.mp hx with hx|hx
  ·exact m.ha x hx y (by omega) hys
  ·cases List.mem_singleton.mp hx
   have:=sa i y (by omega) hys
   rwa[Ap h] at this
 ·intro x hx y hy hys
  rw[e] at hx
  rcases List.mem_append.mp hx with hx|hx
  ·exact m.hb x hx y hy hys
  ·cases List.mem_singleton.mp hx
   exact hb y hy hys
theorem Mrg.pushB{a b out:Array Keyed}{i j:Nat}(m:Mrg rk a b out i j)(sb:Ex rk b)(h:j<b.size)(ha:∀y,i≤y→y<a.size→rk b[j]≤RK rk a y):Mrg rk a b (out.push b[j]) i (j+1):=(m.sym.pushA sb h ha).sym
theorem Ig(a:Array Keyed)(i k:Nat)(h:i+k<a.size):a.extract i (i+(k+1))=(a.extract i (i+k)).push a[i+k]:=by
 apply Array.ext'
 rw[Array.toList_push,Array.toList_extract,Array.toList_extract,List.extract_eq_drop_take,List.extract_eq_drop_take]
 have e1:i+(k+1)-i=k+1:=by omega
 have e2:i+k-i=k:=by omega
 rw[e1,e2,List.take_succ,List.getElem?_drop,Array.getElem?_toList,getElem?_pos a (i+k) h]
 rfl
theorem Mrg.appA{a b:Array Keyed}{i j:Nat}:∀(k:Nat) {out:Array Keyed},Mrg rk a b out i j→Ex rk a→i+k≤a.size→(∀x,x<k→∀y,j≤y→y<b.size→RK rk a (i+x)≤RK rk b y)→Mrg rk a b (out++a.extract i (i+k)) (i+k) j
 |0,out,m,_,_,_=>by
  have:out++a.extract i (i+0)=out:=by
   apply Array.ext'
   rw[Array.toList_append,Array.toList_extract,List.extract_eq_drop_take]
   have:i+0-i=0:=by omega
   rw[this,List.take_zero,List.append_nil]
  rw[this];exact m
 |k+1,out,m,sa,h,hb=>by
  have m':=Mrg.appA k m sa (by omega) fun x hx=>hb x (by omega)
  have hk:i+k<a.size:=by omega
  rw[Ig a i k hk,Array.append_push]
  exact m'.pushA sa hk fun y h1 h2=>by
   have:=hb k (by omega) y h1 h2
   rwa[Ap hk] at this
theorem Mrg.appB{a b:Array Keyed}{i j:Nat}(k:Nat){out:Array Keyed}(m:Mrg rk a b out i j)(sb:Ex rk b)(h:j+k≤b.size)(ha:∀x,x<k→∀y,i≤y→y<a.size→RK rk b (j+x)≤RK rk a y):Mrg rk a b (out++b.extract j (j+k)) i (j+k):=(Mrg.appA k m.sym sb h ha).sym
theorem Mrg.fin{a b out:Array Keyed}(m:Mrg rk a b out a.size b.size):Fin2 rk a b out:=by
 have p:=m.perm
 rw[←Array.length_toList,←Array.length_toList,List.take_length,List.take_length] at p
 exact⟨p,m.srt⟩
theorem Mrg.restAB{a b out:Array Keyed}{i j:Nat}(m:Mrg rk a b out i j)(sa:Ex rk a)(sb:Ex rk b)(h:∀x y,i≤x→x<a.size→j≤y→y<b.size→RK rk a x≤RK rk b y):Fin2 rk a b (out++a.extract i a.size++b.extract j b.size):=by
 have hi:=m.hi
 have hj:=m.hj
 have m1:=m.appA (a.size-i) sa (by omega) fun x hx y h1 h2=>h _ _ (by omega) (by omega) h1 h2
 have e1:i+(a.size-i)=a.size:=by omega
 rw[e1] at m1
 have m2:=m1.appB (b.size-j) sb (by omega) fun x hx y h1 h2=>by omega
 have e2:j+(b.size-j)=b.size:=by omega
 rw[e2] at m2
 exact m2.fin
theorem Mrg.restBA{a b out:Array Keyed}{i j:Nat}(m:Mrg rk a b out i j)(sa:Ex rk a)(sb:Ex rk b)(h:∀x y,i≤x→x<a.size→j≤y→y<b.size→RK rk b y≤RK rk a x):Fin2 rk a b (out++b.extract j b.size++a.extract i a.size):=by
 have f:=m.sym.restAB sb sa fun x y h1 h2 h3 h4=>h y x h3 h4 h1 h2
 exact⟨f.perm.trans List.perm_append_comm,f.srt⟩
end SrtG
namespace SrtG
local macro_rules | `(tactic| omega) => `(tactic| first | lia | omega)
open PySem PyProof.Rows
def Jm:Array Keyed→Array Keyed→StateT SortSt Sem (Array Keyed):=sortPriv%PySem.Builtin.mergeLo
def Mh:Nat→StateT SortSt Sem Unit:=sortPriv%PySem.Builtin.setMinGallop
theorem LK(g:Nat):Mh g=modify fun s=>SortSt.mk' (kindOf s) (arrOf s) (pendingOf s) g (failedOf s):=rfl
abbrev dn(a b out:Array Keyed)(ia ib:Nat):Array Keyed:=out++a.extract ia a.size++b.extract ib b.size
abbrev la(a b out:Array Keyed)(ia ib:Nat):Array Keyed:=out++b.extract ib b.size++a.extract ia a.size
section
variable{prog:Program}{w:World}{A:Around}{E:Value→Shared→Prop}{s:Shared}{kd:SortKind}{U:Keyed→Prop}{rk:Keyed→Int}
structure Like(st st':SortSt):Prop where
 kd:kindOf st'=kindOf st
 arr:arrOf st'=arrOf st
 pd:pendingOf st'=pendingOf st
 fl:failedOf st'=failedOf st
theorem Like.refl(st:SortSt):Like st st:=⟨rfl,rfl,rfl,rfl⟩
theorem Co{g:Nat}{st0 st:SortSt}{Q:Unit→SortSt→Prop}(l:Like st0 st)(h:∀st',Like st0 st'→Q () st'):wpS (model prog w) A E s (Mh g) Q st:=by
 rw[LK]
 exact wpS_modify (h _ ⟨l.kd,l.arr,l.pd,l.fl⟩)
theorem AR{arr:Array Keyed}{i:Nat}{st:SortSt}{Q:Keyed→SortSt→Prop}(hi:i<arr.size)(h:Q arr[i] st):wpS (model prog w) A E s (elem' arr i) Q st:=by
 rw[elem'_eq,getElem?_pos arr i hi]
 exact wpS_pure h
structure Hd(rk:Keyed→Int)(a b out:Array Keyed)(i j n:Nat):Prop where
 m:Mrg rk a b out i j
 hi:i+1<a.size
 hj:j<b.size
 hn:n≤i+j
theorem Jn{a b:Array Keyed}{st:SortSt}{Q:Array Keyed→SortSt→Prop}(C:Pd prog w A E s kd U rk)(hk:kindOf st=kd)(uA:AllU U a)(uB:AllU U b)(sa:Ex rk a)(sb:Ex rk b)(ha0:0<a.size)(hb0:0<b.size)
  (hfst:RK rk b 0≤RK rk a 0) (hlst:RK rk b (b.size-1)≤RK rk a (a.size-1))
  (h:∀r st',Like st st'→Fin2 rk a b r→Q r st'):wpS (model prog w) A E s (Jm a b) Q st:=by
 have Udn:∀{out i j},Mrg rk a b out i j→i=a.size∨j=b.size→Fin2 rk a b (dn a b out i j):=fun m hh=>m.restAB sa sb fun x y _ _ _ _=>by omega
 have Ula:∀{out i j},Mrg rk a b out i j→i+1=a.size→Fin2 rk a b (la a b out i j):=fun{out i j} m hh=>m.restBA sa sb fun x y h1 h2 h3 h4=>by
  have e1:=sb y (b.size-1) (by omega) (by omega)
  have e:x=a.size-1:=by omega
  subst e
  omega
 have uAt:∀{i} (hi:i<a.size),U a[i]:=fun hi=>uA _ _ (getElem?_pos a _ hi)
 have uBt:∀{i} (hi:i<b.size),U b[i]:=fun hi=>uB _ _ (getElem?_pos b _ hi)
 delta Jm
 refine wpS_bind (wpS_lift (wpAny_rule ⟨rfl,?_⟩))
 refine wpS_bind (AR hb0 ?_)
 have m0:Mrg rk a b #[] 0 0:=⟨by omega,by omega,List.Perm.nil,List.Pairwise.nil,(fun x hx=>by cases hx),(fun x hx=>by cases hx)⟩
 have m1:Mrg rk a b #[b[0]] 0 1:=m0.pushB sb hb0 fun y _ hy=>by
  have e1:=sa 0 y (by omega) hy
  rw[←Ap (rk:=rk) hb0]
  omega
 dsimp only
 by_cases c1:1=b.size
 ·rw[if_pos (beq_iff_eq.mpr c1)]
  exact wpS_pure (h _ _ (Like.refl _) (Udn m1 (.inr c1)))
 rw[if_neg (fun q=>c1 (beq_iff_eq.mp q))]
 by_cases c2:0+1=a.size
 ·rw[if_pos (beq_iff_eq.mpr c2)]
  exact wpS_pure (h _ _ (Like.refl _) (Ula m1 c2))
 rw[if_neg (fun q=>c2 (beq_iff_eq.mp q))]
 refine wpS_bind (wpS_get ?_)
 refine wpS_bind (wpS_mono (wpS_forRange (I:=fun x c st'=>Like st st'∧∃out i j mg,c=(none,out,i,j,mg)∧Hd rk a b out i j (x+1))
  (Q:=fun c st'=>Like st st'∧∃r,c.1=some r∧Fin2 rk a b r) ?_ ?_ ⟨Like.refl _,_,_,_,_,rfl,m1,by omega,by omega,by omega⟩) ?_)
 ·rintro x c st1 _ hx ⟨lk,out,i,j,mg,rfl,hd⟩
  dsimp only
  refine wpS_bind (wpS_mono (wpS_forRange (I:=fun _ c st'=>Like st st'∧∃out i j ac bc,c=(none,out,i,j,ac,bc)∧Hd rk a b out i j (x+1))
   (Q:=fun c st'=>Like st st'∧((∃r,c.1=some r∧Fin2 rk a b r)∨∃out i j ac bc,c=(none,out,i,j,ac,bc)∧Hd rk a b out i j (x+1))) ?_ ?_ ⟨lk,_,_,_,_,_,rfl,hd⟩) ?_)
  ·rintro x1 c st2 _ hx1 ⟨lk,out,i,j,ac,bc,rfl,hd⟩
   have hia:i<a.size:=by have:=hd.hi;omega
   have hjb:=hd.hj
   have hin:=hd.hn
   dsimp only
   refine wpS_bind (AR hd.hj ?_)
   refine wpS_bind (AR hia ?_)
   refine wpS_bind (C _ _ _ _ (lk.kd.trans hk) (uBt hd.hj) (uAt hia) ?_)
   dsimp only
   by_cases hlt:rk b[j]<rk a[i]
   ·rw[if_pos (by exact decide_eq_true hlt)]
    have m:=hd.m.pushB sb hd.hj fun y h1 h2=>by
     have:=sa i y h1 h2
     rw[Ap hia] at this
     omega
    refine wpS_bind (AR hd.hj ?_)
    by_cases c3:j+1=b.size
    ·rw[if_pos (beq_iff_eq.mpr c3)]
     exact wpS_pure ⟨lk,.inl ⟨_,rfl,Udn m (.inr c3)⟩⟩
    rw[if_neg (fun q=>c3 (beq_iff_eq.mp q))]
    have hd':Hd rk a b (out.push b[j]) i (j+1) (x+1):=⟨m,hd.hi,by have:=hd.hj;omega,by omega⟩
    split
    ·exact wpS_pure ⟨lk,.inr ⟨_,_,_,_,_,rfl,hd'⟩⟩
    ·exact wpS_pure ⟨lk,_,_,_,_,_,rfl,hd'⟩
   ·rw[if_neg (fun q=>hlt (of_decide_eq_true q))]
    have m:=hd.m.pushA sa hia fun y h1 h2=>by
     have:=sb j y h1 h2
     rw[Ap hd.hj] at this
     omega
    refine wpS_bind (AR hia ?_)
    by_cases c3:i+1+1=a.size
    ·rw[if_pos (beq_iff_eq.mpr c3)]
     exact wpS_pure ⟨lk,.inl ⟨_,rfl,Ula m c3⟩⟩
    rw[if_neg (fun q=>c3 (beq_iff_eq.mp q))]
    have hd':Hd rk a b (out.push a[i]) (i+1) j (x+1):=⟨m,by have:=hd.hi;omega,hd.hj,by omega⟩
    split
    ·exact wpS_pure ⟨lk,.inr ⟨_,_,_,_,_,rfl,hd'⟩⟩
    ·exact wpS_pure ⟨lk,_,_,_,_,_,rfl,hd'⟩
  ·rintro c st2 ⟨lk,hh⟩
   exact⟨lk,.inr hh⟩
  rintro c st2 ⟨lk,⟨r,e,f⟩| ⟨out,i,j,ac,bc,rfl,hd⟩⟩
  ·obtain⟨c1,c2⟩:=c
   cases e
   exact wpS_pure ⟨lk,_,rfl,f⟩
  dsimp only
  refine wpS_bind (wpS_lift (wpAny_rule ⟨rfl,?_⟩))
  refine wpS_bind (wpS_mono (wpS_forRange (I:=fun y c st'=>Like st st'∧∃out i j mg ac bc,c=(none,out,i,j,mg,ac,bc)∧Hd rk a b out i j (x+1+y))
   (Q:=fun c st'=>Like st st'∧((∃r,c.1=some r∧Fin2 rk a b r)∨∃out i j mg ac bc,c=(none,out,i,j,mg,ac,bc)∧Hd rk a b out i j (x+1+1))) ?_ ?_ ⟨lk,_,_,_,_,_,_,rfl,hd⟩) ?_)
  ·rintro x1 c st2 _ hx1 ⟨lk,out,i,j,mg,ac,bc,rfl,hd⟩
   have hia:i<a.size:=by have:=hd.hi;omega
   have hjb:=hd.hj
   have hin:=hd.hn
   dsimp only
   refine dite (mg>1) (fun hmg=>?_) (fun hmg=>?_)
   all_goals first|rw[if_pos hmg]|rw[if_neg hmg]
   all_goals
    refine wpS_bind (Co lk fun st3 lk=>?_)
    refine wpS_bind (AR hjb ?_)
    refine wpS_bind (Ay C (lk.kd.trans hk) (uBt hjb) uA (by omega) (by omega) ?_ ?_)
    ·intro p q hpq hq e
     unfold bt at e ⊢
     rw[if_neg Bool.false_ne_true] at e ⊢
     have e':=of_decide_eq_false (Bool.not_eq_true' _|>.mp e)
     have:=sa (i+p) (i+q) (by omega) (by omega)
     exact(Bool.not_eq_true' _).mpr (decide_eq_false (by omega))
    rintro k ⟨kn,kt,kf⟩
    have kt':∀x,x<k→RK rk a (i+x)≤RK rk b j:=fun x hx=>by
     have e:=kt x hx
     unfold bt at e
     rw[if_neg Bool.false_ne_true] at e
     have e':=of_decide_eq_false (Bool.not_eq_true' _|>.mp e)
     rw[Ap hjb]
     omega
    have kf':∀y,i+k≤y→y<a.size→rk b[j]≤RK rk a y:=fun y h1 h2=>by
     have e:=kf (y-i) (by omega) (by omega)
     unfold bt at e
     rw[if_neg Bool.false_ne_true] at e
     have e':=of_decide_eq_true (Bool.not_eq_false' _|>.mp e)
     have ey:i+(y-i)=y:=by omega
     rw[ey] at e'
     omega
    have m:=hd.m.appA k sa (by omega) fun x hx y h1 h2=>by
     have:=sb j y h1 h2
     have:=kt' x hx
     omega
    dsimp only
    by_cases k0:k>0
    ·rw[if_pos k0]
     by_cases c3:i+k+1=a.size
     ·rw[if_pos (beq_iff_eq.mpr c3)]
      exact wpS_pure ⟨lk,.inl ⟨_,rfl,Ula m c3⟩⟩
     rw[if_neg (fun q=>c3 (beq_iff_eq.mp q))]
     by_cases c4:i+k=a.size
     ·rw[if_pos (beq_iff_eq.mpr c4)]
      exact wpS_pure ⟨lk,.inl ⟨_,rfl,Udn m (.inl c4)⟩⟩
     rw[if_neg (fun q=>c4 (beq_iff_eq.mp q))]
     have hi':i+k<a.size:=by omega
     have hi2:i+k+1<a.size:=by omega
     have hn':x+1+x1≤i+k+j:=by omega
     refine wpS_bind (AR hjb ?_)
     have m2:=m.pushB sb hjb kf'
     by_cases c5:j+1=b.size
     ·rw[if_pos (beq_iff_eq.mpr c5)]
      exact wpS_pure ⟨lk,.inl ⟨_,rfl,Udn m2 (.inr c5)⟩⟩
     rw[if_neg (fun q=>c5 (beq_iff_eq.mp q))]
     refine wpS_bind (AR hi' ?_)
     refine wpS_bind (Ay C (lk.kd.trans hk) (uAt hi') uB (by omega) (by omega) ?_ ?_)
     ·intro p q hpq hq e
      unfold bt at e ⊢
      rw[if_pos rfl] at e ⊢
      have e':=of_decide_eq_true e
      have:=sb (j+1+p) (j+1+q) (by omega) (by omega)
      exact decide_eq_true (by omega)
     rintro k2 ⟨k2n,k2t,k2f⟩
     have k2t':∀x,x<k2→∀y,_≤y→y<a.size→RK rk b (j+1+x)≤RK rk a y:=fun x hx y h1 h2=>by
      have e:=k2t x hx
      unfold bt at e
      rw[if_pos rfl] at e
      have e':=of_decide_eq_true e
      have:=sa _ y h1 h2
      rw[Ap hi'] at this
      omega
     have k2f':∀y,j+1+k2≤y→y<b.size→rk (a[i+k]'hi')≤RK rk b y:=fun y h1 h2=>by
      have e:=k2f (y- (j+1)) (by omega) (by omega)
      unfold bt at e
      rw[if_pos rfl] at e
      have e':=of_decide_eq_false e
      have ey:j+1+(y- (j+1))=y:=by omega
      rw[ey] at e'
      omega
     dsimp only
     by_cases k20:k2>0
     ·rw[if_pos k20]
      have m3:=m2.appB k2 sb (by omega) k2t'
      by_cases c6:j+1+k2=b.size
      ·rw[if_pos (beq_iff_eq.mpr c6)]
       exact wpS_pure ⟨lk,.inl ⟨_,rfl,Udn m3 (.inr c6)⟩⟩
      rw[if_neg (fun q=>c6 (beq_iff_eq.mp q))]
      have m4:=m3.pushA sa hi' k2f'
      refine wpS_bind (AR hi' ?_)
      split
      ·rename_i c7
       exact wpS_pure ⟨lk,.inl ⟨_,rfl,Ula m4 (beq_iff_eq.mp c7)⟩⟩
      ·rename_i c7
       have c7':¬_=_:=fun q=>c7 (beq_iff_eq.mpr q)
       split
       ·exact wpS_pure ⟨lk,.inr ⟨_,_,_,_,_,_,rfl,m4,by omega,by omega,by omega⟩⟩
       ·exact wpS_pure ⟨lk,_,_,_,_,_,_,rfl,m4,by omega,by omega,by omega⟩
     ·rw[if_neg k20]
      have e2:j+1+k2=j+1:=by omega
      rw[e2] at k2f'
      have m4:=m2.pushA sa hi' k2f'
      refine wpS_bind (AR hi' ?_)
      split
      ·rename_i c7
       exact wpS_pure ⟨lk,.inl ⟨_,rfl,Ula m4 (beq_iff_eq.mp c7)⟩⟩
      ·rename_i c7
       have c7':¬_=_:=fun q=>c7 (beq_iff_eq.mpr q)
       split
       ·exact wpS_pure ⟨lk,.inr ⟨_,_,_,_,_,_,rfl,m4,by omega,by omega,by omega⟩⟩
       ·exact wpS_pure ⟨lk,_,_,_,_,_,_,rfl,m4,by omega,by omega,by omega⟩
    ·rw[if_neg k0]
     have e0:i+k=i:=by omega
     rw[e0] at kf'
     clear m
     have m:=hd.m
     have hi2:=hd.hi
     have hi':=hia
     have hn':=hin
     refine wpS_bind (AR hjb ?_)
     have m2:=m.pushB sb hjb kf'
     by_cases c5:j+1=b.size
     ·rw[if_pos (beq_iff_eq.mpr c5)]
      exact wpS_pure ⟨lk,.inl ⟨_,rfl,Udn m2 (.inr c5)⟩⟩
     rw[if_neg (fun q=>c5 (beq_iff_eq.mp q))]
     refine wpS_bind (AR hi' ?_)
     refine wpS_bind (Ay C (lk.kd.trans hk) (uAt hi') uB (by omega) (by omega) ?_ ?_)
     ·intro p q hpq hq e
      unfold bt at e ⊢
      rw[if_pos rfl] at e ⊢
      have e':=of_decide_eq_true e
      have:=sb (j+1+p) (j+1+q) (by omega) (by omega)
      exact decide_eq_true (by omega)
     rintro k2 ⟨k2n,k2t,k2f⟩
     have k2t':∀x,x<k2→∀y,_≤y→y<a.size→RK rk b (j+1+x)≤RK rk a y:=fun x hx y h1 h2=>by
      have e:=k2t x hx
      unfold bt at e
      rw[if_pos rfl] at e
      have e':=of_decide_eq_true e
      have:=sa _ y h1 h2
      rw[Ap hi'] at this
      omega
     have k2f':∀y,j+1+k2≤y→y<b.size→rk (a[i]'hi')≤RK rk b y:=fun y h1 h2=>by
      have e:=k2f (y- (j+1)) (by omega) (by omega)
      unfold bt at e
      rw[if_pos rfl] at e
      have e':=of_decide_eq_false e
      have ey:j+1+(y- (j+1))=y:=by omega
      rw[ey] at e'
      omega
     dsimp only
     by_cases k20:k2>0
     ·rw[if_pos k20]
      have m3:=m2.appB k2 sb (by omega) k2t'
      by_cases c6:j+1+k2=b.size
      ·rw[if_pos (beq_iff_eq.mpr c6)]
       exact wpS_pure ⟨lk,.inl ⟨_,rfl,Udn m3 (.inr c6)⟩⟩
      rw[if_neg (fun q=>c6 (beq_iff_eq.mp q))]
      have m4:=m3.pushA sa hi' k2f'
      refine wpS_bind (AR hi' ?_)
      split
      ·rename_i c7
       exact wpS_pure ⟨lk,.inl ⟨_,rfl,Ula m4 (beq_iff_eq.mp c7)⟩⟩
      ·rename_i c7
       have c7':¬_=_:=fun q=>c7 (beq_iff_eq.mpr q)
       split
       ·exact wpS_pure ⟨lk,.inr ⟨_,_,_,_,_,_,rfl,m4,by omega,by omega,by omega⟩⟩
       ·exact wpS_pure ⟨lk,_,_,_,_,_,_,rfl,m4,by omega,by omega,by omega⟩
     ·rw[if_neg k20]
      have e2:j+1+k2=j+1:=by omega
      rw[e2] at k2f'
      have m4:=m2.pushA sa hi' k2f'
      refine wpS_bind (AR hi' ?_)
      split
      ·rename_i c7
       exact wpS_pure ⟨lk,.inl ⟨_,rfl,Ula m4 (beq_iff_eq.mp c7)⟩⟩
      ·rename_i c7
       have c7':¬_=_:=fun q=>c7 (beq_iff_eq.mpr q)
       split
       ·exact wpS_pure ⟨lk,.inr ⟨_,_,_,_,_,_,rfl,m4,by omega,by omega,by omega⟩⟩
       ·exact wpS_pure ⟨lk,_,_,_,_,_,_,rfl,m4,by omega,by omega,by omega⟩
  ·rintro c st2 ⟨lk,out,i,j,mg,ac,bc,rfl,hd⟩
   have e:max 0 (a.size+b.size)=a.size+b.size:=by omega
   rw[e] at hd
   exact⟨lk,.inr ⟨_,_,_,_,_,_,rfl,hd.m,hd.hi,hd.hj,by have:=hd.hn;omega⟩⟩
  rintro c st2 ⟨lk,⟨r,e,f⟩| ⟨out,i,j,mg,ac,bc,rfl,hd⟩⟩
  ·obtain⟨c1,c2⟩:=c
   cases e
   exact wpS_pure ⟨lk,_,rfl,f⟩
  dsimp only
  refine wpS_bind (Co lk fun st3 lk=>?_)
  exact wpS_pure ⟨lk,_,_,_,_,rfl,hd⟩
 ·rintro c st1 ⟨lk,out,i,j,mg,rfl,hd⟩
  have e:max 0 (a.size+b.size)=a.size+b.size:=by omega
  rw[e] at hd
  have:=hd.hn
  have:=hd.hi
  have:=hd.hj
  omega
 ·rintro c st1 ⟨lk,r,e,f⟩
  obtain⟨c1,c2⟩:=c
  cases e
  exact wpS_pure (h _ _ lk f)
end
end SrtG
namespace SrtG
local macro_rules | `(tactic| omega) => `(tactic| first | lia | omega)
open PySem PyProof.Rows
variable{rk:Keyed→Int}
structure Mrh(rk:Keyed→Int)(a b out:Array Keyed)(i j:Nat):Prop where
 hi:i≤a.size
 hj:j≤b.size
 perm:out.toList.Perm (a.toList.drop i++b.toList.drop j)
 srt:out.toList.Pairwise fun x y=>rk y≤rk x
 ha:∀x,x∈out.toList→∀y,y<i→RK rk a y≤rk x
 hb:∀x,x∈out.toList→∀y,y<j→RK rk b y≤rk x
theorem Mrh.sym{a b out:Array Keyed}{i j:Nat}(m:Mrh rk a b out i j):Mrh rk b a out j i:=
 ⟨m.hj,m.hi,m.perm.trans List.perm_append_comm,m.srt,m.hb,m.ha⟩
theorem Mrh.pushA{a b out:Array Keyed}{i j:Nat}(m:Mrh rk a b out (i+1) j)(sa:Ex rk a)(h:i<a.size)(hb:∀y,y<j→RK rk b y≤rk a[i]):Mrh rk a b (out.push a[i]) i j:=by
 have e:(out.push a[i]).toList=out.toList++[a[i]]:=Array.toList_push ..
 have t:a.toList.drop i=a[i]::a.toList.drop (i+1):=by
  have hl:i<a.toList.length:=by rw[Array.length_toList];exact h
  rw[List.drop_eq_getElem_cons hl]
  rfl
 refine⟨by omega,m.hj,?_,?_,?_,?_⟩
 ·rw[e,t]
  exact List.perm_append_comm.trans (m.perm.cons a[i])
 ·rw[e,List.pairwise_append]
  refine⟨m.srt,List.pairwise_singleton _ _,fun x hx y hy=>?_⟩
  cases List.mem_singleton.mp hy
  have:=m.ha x hx i (Nat.lt_succ_self _)
  rwa[Ap h] at this
 ·intro x hx y hy
  rw[e] at hx
  rcases List.mem_append.mp hx with hx|hx
  ·exact m.ha x hx y (by omega)
  ·cases List.mem_singleton.mp hx
   have:=sa y i (by omega) h
   rwa[Ap h] at this
 ·intro x hx y hy
  rw[e] at hx
  rcases List.mem_append.mp hx with hx|hx
  ·exact m.hb x hx y hy
  ·cases List.mem_singleton.mp hx
   exact hb y hy
theorem Mrh.pushB{a b out:Array Keyed}{i j:Nat}(m:Mrh rk a b out i (j+1))(sb:Ex rk b)(h:j<b.size)(ha:∀y,y<i→RK rk a y≤rk b[j]):Mrh rk a b (out.push b[j]) i j:=(m.sym.pushA sb h ha).sym
theorem Ih(a:Array Keyed)(l h:Nat)(hl:l<h)(hh:h≤a.size):(a.extract l h).reverse=(a.extract (l+1) h).reverse.push (a[l]'(by omega)):=by
 apply Array.ext'
 rw[Array.toList_push,Array.toList_reverse,Array.toList_reverse,Array.toList_extract,Array.toList_extract,List.extract_eq_drop_take,List.extract_eq_drop_take]
 have hln:l<a.toList.length:=by rw[Array.length_toList];omega
 have e1:h-l=(h- (l+1))+1:=by omega
 rw[List.drop_eq_getElem_cons hln,e1,List.take_succ_cons,List.reverse_cons]
 rfl
theorem Mrh.appA{a b:Array Keyed}{i j:Nat}:∀(k:Nat) {out:Array Keyed},Mrh rk a b out i j→Ex rk a→k≤i→(∀x,i-k≤x→x<i→∀y,y<j→RK rk b y≤RK rk a x)→Mrh rk a b (out++(a.extract (i-k) i).reverse) (i-k) j
 |0,out,m,_,_,_=>by
  have:out++(a.extract (i-0) i).reverse=out:=by
   apply Array.ext'
   rw[Array.toList_append,Array.toList_reverse,Array.toList_extract,List.extract_eq_drop_take]
   have:i- (i-0)=0:=by omega
   rw[this,List.take_zero,List.reverse_nil,List.append_nil]
  rw[this];exact m
 |k+1,out,m,sa,h,hb=>by
  have hi:=m.hi
  have m':=Mrh.appA k m sa (by omega) fun x hx=>hb x (by omega)
  have hk:i- (k+1)<a.size:=by omega
  have e:i- (k+1)+1=i-k:=by omega
  rw[Ih a (i- (k+1)) i (by omega) hi,Array.append_push,e]
  rw[←e] at m'
  have q:=m'.pushA sa hk fun y h1=>by
   have:=hb (i- (k+1)) (by omega) (by omega) y h1
   rwa[Ap hk] at this
  rw[e] at q
  exact q
theorem Mrh.appA'{a b out:Array Keyed}{i j l:Nat}(m:Mrh rk a b out i j)(sa:Ex rk a)(h:l≤i)(hb:∀x,l≤x→x<i→∀y,y<j→RK rk b y≤RK rk a x):Mrh rk a b (out++(a.extract l i).reverse) l j:=by
 have e:i- (i-l)=l:=by omega
 have q:=m.appA (i-l) sa (by omega) (by rw[e];exact hb)
 rwa[e] at q
theorem Mrh.appB'{a b out:Array Keyed}{i j l:Nat}(m:Mrh rk a b out i j)(sb:Ex rk b)(h:l≤j)(ha:∀x,l≤x→x<j→∀y,y<i→RK rk a y≤RK rk b x):Mrh rk a b (out++(b.extract l j).reverse) i l:=(m.sym.appA' sb h ha).sym
theorem Mrh.fin{a b out:Array Keyed}(m:Mrh rk a b out 0 0):Fin2 rk a b out.reverse:=by
 have p:=m.perm
 rw[List.drop_zero,List.drop_zero] at p
 constructor
 ·rw[Array.toList_reverse]
  exact(List.reverse_perm _).trans p
 ·rw[Array.toList_reverse,List.pairwise_reverse]
  exact m.srt
theorem Mrh.restAB{a b out:Array Keyed}{i j:Nat}(m:Mrh rk a b out i j)(sa:Ex rk a)(sb:Ex rk b)(h:∀x y,x<i→y<j→RK rk a x≤RK rk b y):Fin2 rk a b (a.extract 0 i++b.extract 0 j++out.reverse):=by
 have m1:=m.appB' (l:=0) sb (by omega) fun x _ hx y hy=>h y x hy hx
 have m2:=m1.appA' (l:=0) sa (by omega) fun x _ _ y hy=>by omega
 have f:=m2.fin
 have e:(out++(b.extract 0 j).reverse++(a.extract 0 i).reverse).reverse=a.extract 0 i++b.extract 0 j++out.reverse:=by
  apply Array.ext'
  rw[Array.toList_reverse,Array.toList_append,Array.toList_append,Array.toList_append,Array.toList_append,Array.toList_reverse,Array.toList_reverse,Array.toList_reverse,List.reverse_append,List.reverse_append,List.reverse_reverse,List.reverse_reverse,List.append_assoc]
 rwa[e] at f
theorem Mrh.restBA{a b out:Array Keyed}{i j:Nat}(m:Mrh rk a b out i j)(sa:Ex rk a)(sb:Ex rk b)(h:∀x y,x<i→y<j→RK rk b y≤RK rk a x):Fin2 rk a b (b.extract 0 j++a.extract 0 i++out.reverse):=by
 have f:=m.sym.restAB sb sa fun x y h1 h2=>h y x h2 h1
 exact⟨f.perm.trans List.perm_append_comm,f.srt⟩
def Jo:Array Keyed→Array Keyed→StateT SortSt Sem (Array Keyed):=sortPriv%PySem.Builtin.mergeHi
abbrev cT(a b out:Array Keyed)(i j:Nat):Array Keyed:=a.extract 0 i++b.extract 0 j++out.reverse
abbrev cU(a b out:Array Keyed)(i j:Nat):Array Keyed:=b.extract 0 j++a.extract 0 i++out.reverse
end SrtG
namespace SrtG
local macro_rules | `(tactic| omega) => `(tactic| first | lia | omega)
open PySem PyProof.Rows
variable{prog:Program}{w:World}{A:Around}{E:Value→Shared→Prop}{s:Shared}{kd:SortKind}{U:Keyed→Prop}{rk:Keyed→Int}
theorem Mrh.pushA1{a b out:Array Keyed}{i j:Nat}(m:Mrh rk a b out i j)(sa:Ex rk a)(h0:0<i)(h:i-1<a.size)(hb:∀y,y<j→RK rk b y≤rk a[i-1]):Mrh rk a b (out.push a[i-1]) (i-1) j:=by
 cases i with
 |zero=>omega
 |succ i=>exact m.pushA sa h hb
structure Hh(rk:Keyed→Int)(a b out:Array Keyed)(i j n:Nat):Prop where
 m:Mrh rk a b out i j
 hi:0<i
 hj:1<j
 hn:i+j+n≤a.size+b.size
theorem Jp{a b:Array Keyed}{st:SortSt}{Q:Array Keyed→SortSt→Prop}(C:Pd prog w A E s kd U rk)(hk:kindOf st=kd)(uA:AllU U a)(uB:AllU U b)(sa:Ex rk a)(sb:Ex rk b)(ha0:0<a.size)(hb0:0<b.size)
  (hfst:RK rk b 0≤RK rk a 0) (hlst:RK rk b (b.size-1)≤RK rk a (a.size-1))
  (h:∀r st',Like st st'→Fin2 rk a b r→Q r st'):wpS (model prog w) A E s (Jo a b) Q st:=by
 have Udn:∀{out i j},Mrh rk a b out i j→i=0∨j=0→Fin2 rk a b (cT a b out i j):=fun m hh=>m.restAB sa sb fun x y _ _=>by omega
 have Ula:∀{out i j},Mrh rk a b out i j→j=1→Fin2 rk a b (cU a b out i j):=fun{out i j} m hh=>m.restBA sa sb fun x y h1 h2=>by
  have hi:=m.hi
  have e1:=sa 0 x (by omega) (by omega)
  have e:y=0:=by omega
  subst e
  omega
 have uAt:∀{i} (hi:i<a.size),U a[i]:=fun hi=>uA _ _ (getElem?_pos a _ hi)
 have uBt:∀{i} (hi:i<b.size),U b[i]:=fun hi=>uB _ _ (getElem?_pos b _ hi)
 have hal:a.size-1<a.size:=by omega
 delta Jo
 refine wpS_bind (wpS_lift (wpAny_rule ⟨rfl,?_⟩))
 refine wpS_bind (AR hal ?_)
 have m0:Mrh rk a b #[] (a.size-1+1) b.size:=by
  have e:a.size-1+1=a.size:=by omega
  rw[e]
  refine⟨by omega,by omega,?_,List.Pairwise.nil,(fun x hx=>by cases hx),(fun x hx=>by cases hx)⟩
  rw[←Array.length_toList,←Array.length_toList,List.drop_length,List.drop_length]
  exact List.Perm.nil
 have m1:Mrh rk a b #[a[a.size-1]] (a.size-1) b.size:=m0.pushA sa hal fun y hy=>by
  have e1:=sb y (b.size-1) (by omega) (by omega)
  rw[←Ap (rk:=rk) hal]
  omega
 dsimp only
 by_cases c1:a.size-1=0
 ·rw[if_pos (beq_iff_eq.mpr c1)]
  exact wpS_pure (h _ _ (Like.refl _) (Udn m1 (.inl c1)))
 rw[if_neg (fun q=>c1 (beq_iff_eq.mp q))]
 by_cases c2:b.size=1
 ·rw[if_pos (beq_iff_eq.mpr c2)]
  exact wpS_pure (h _ _ (Like.refl _) (Ula m1 c2))
 rw[if_neg (fun q=>c2 (beq_iff_eq.mp q))]
 refine wpS_bind (wpS_get ?_)
 refine wpS_bind (wpS_mono (wpS_forRange (I:=fun x c st'=>Like st st'∧∃out i j mg,c=(none,i,j,out,mg)∧Hh rk a b out i j (x+1))
  (Q:=fun c st'=>Like st st'∧∃r,c.1=some r∧Fin2 rk a b r) ?_ ?_ ⟨Like.refl _,_,_,_,_,rfl,m1,by omega,by omega,by omega⟩) ?_)
 ·rintro x c st1 _ hx ⟨lk,out,i,j,mg,rfl,hd⟩
  dsimp only
  refine wpS_bind (wpS_mono (wpS_forRange (I:=fun _ c st'=>Like st st'∧∃out i j ac bc,c=(none,i,j,out,ac,bc)∧Hh rk a b out i j (x+1))
   (Q:=fun c st'=>Like st st'∧((∃r,c.1=some r∧Fin2 rk a b r)∨∃out i j ac bc,c=(none,i,j,out,ac,bc)∧Hh rk a b out i j (x+1))) ?_ ?_ ⟨lk,_,_,_,_,_,rfl,hd⟩) ?_)
  ·rintro x1 c st2 _ hx1 ⟨lk,out,i,j,ac,bc,rfl,hd⟩
   have hi0:=hd.hi
   have hj0:=hd.hj
   have hin:=hd.hn
   have hia:i-1<a.size:=by have:=hd.m.hi;omega
   have hjb:j-1<b.size:=by have:=hd.m.hj;omega
   have ei:i-1+1=i:=by omega
   have ej:j-1+1=j:=by omega
   have m:=hd.m
   dsimp only
   refine wpS_bind (AR hjb ?_)
   refine wpS_bind (AR hia ?_)
   refine wpS_bind (C _ _ _ _ (lk.kd.trans hk) (uBt hjb) (uAt hia) ?_)
   dsimp only
   by_cases hlt:rk b[j-1]<rk a[i-1]
   ·rw[if_pos (by exact decide_eq_true hlt)]
    rw[←ei] at m
    have m:=m.pushA sa hia fun y h1=>by
     have:=sb y (j-1) (by omega) hjb
     rw[Ap hjb] at this
     omega
    refine wpS_bind (AR hia ?_)
    by_cases c3:i-1=0
    ·rw[if_pos (beq_iff_eq.mpr c3)]
     exact wpS_pure ⟨lk,.inl ⟨_,rfl,Udn m (.inl c3)⟩⟩
    rw[if_neg (fun q=>c3 (beq_iff_eq.mp q))]
    have hd':Hh rk a b (out.push a[i-1]) (i-1) j (x+1):=⟨m,by omega,by omega,by omega⟩
    split
    ·exact wpS_pure ⟨lk,.inr ⟨_,_,_,_,_,rfl,hd'⟩⟩
    ·exact wpS_pure ⟨lk,_,_,_,_,_,rfl,hd'⟩
   ·rw[if_neg (fun q=>hlt (of_decide_eq_true q))]
    rw[←ej] at m
    have m:=m.pushB sb hjb fun y h1=>by
     have:=sa y (i-1) (by omega) hia
     rw[Ap hia] at this
     omega
    refine wpS_bind (AR hjb ?_)
    by_cases c3:j-1=1
    ·rw[if_pos (beq_iff_eq.mpr c3)]
     exact wpS_pure ⟨lk,.inl ⟨_,rfl,Ula m c3⟩⟩
    rw[if_neg (fun q=>c3 (beq_iff_eq.mp q))]
    have hd':Hh rk a b (out.push b[j-1]) i (j-1) (x+1):=⟨m,by omega,by omega,by omega⟩
    split
    ·exact wpS_pure ⟨lk,.inr ⟨_,_,_,_,_,rfl,hd'⟩⟩
    ·exact wpS_pure ⟨lk,_,_,_,_,_,rfl,hd'⟩
  ·rintro c st2 ⟨lk,hh⟩
   exact⟨lk,.inr hh⟩
  rintro c st2 ⟨lk,⟨r,e,f⟩| ⟨out,i,j,ac,bc,rfl,hd⟩⟩
  ·obtain⟨c1,c2⟩:=c
   cases e
   exact wpS_pure ⟨lk,_,rfl,f⟩
  dsimp only
  refine wpS_bind (wpS_lift (wpAny_rule ⟨rfl,?_⟩))
  refine wpS_bind (wpS_mono (wpS_forRange (I:=fun y c st'=>Like st st'∧∃out i j mg ac bc,c=(none,i,j,out,mg,ac,bc)∧Hh rk a b out i j (x+1+y))
   (Q:=fun c st'=>Like st st'∧((∃r,c.1=some r∧Fin2 rk a b r)∨∃out i j mg ac bc,c=(none,i,j,out,mg,ac,bc)∧Hh rk a b out i j (x+1+1))) ?_ ?_ ⟨lk,_,_,_,_,_,_,rfl,hd⟩) ?_)
  ·rintro x1 c st2 _ hx1 ⟨lk,out,i,j,mg,ac,bc,rfl,hd⟩
   have hi0:=hd.hi
   have hj0:=hd.hj
   have hin:=hd.hn
   have hia:=hd.m.hi
   have hjl:=hd.m.hj
   have hjb:j-1<b.size:=by omega
   dsimp only
   refine dite (mg>1) (fun hmg=>?_) (fun hmg=>?_)
   all_goals first|rw[if_pos hmg]|rw[if_neg hmg]
   all_goals
    refine wpS_bind (Co lk fun st3 lk=>?_)
    refine wpS_bind (AR hjb ?_)
    refine wpS_bind (Ay C (lk.kd.trans hk) (uBt hjb) uA (by omega) (by omega) ?_ ?_)
    ·intro p q hpq hq e
     unfold bt at e ⊢
     rw[if_neg Bool.false_ne_true] at e ⊢
     have e':=of_decide_eq_false (Bool.not_eq_true' _|>.mp e)
     have:=sa (0+p) (0+q) (by omega) (by omega)
     exact(Bool.not_eq_true' _).mpr (decide_eq_false (by omega))
    rintro p ⟨kn,kt,kf⟩
    have kf':∀y,y<p→RK rk a y≤rk b[j-1]:=fun y hy=>by
     have e:=kt y hy
     unfold bt at e
     rw[if_neg Bool.false_ne_true] at e
     have e':=of_decide_eq_false (Bool.not_eq_true' _|>.mp e)
     rw[Nat.zero_add] at e'
     omega
    have kt':∀x,p≤x→x<i→∀y,y<j→RK rk b y≤RK rk a x:=fun x h1 h2 y h3=>by
     have e:=kf x h1 h2
     unfold bt at e
     rw[if_neg Bool.false_ne_true] at e
     have e':=of_decide_eq_true (Bool.not_eq_false' _|>.mp e)
     rw[Nat.zero_add] at e'
     have:=sb y (j-1) (by omega) hjb
     rw[Ap hjb] at this
     omega
    have m:=hd.m.appA' sa kn kt'
    dsimp only
    by_cases k0:i-p>0
    ·rw[if_pos k0]
     by_cases c3:p=0
     ·rw[if_pos (beq_iff_eq.mpr c3)]
      exact wpS_pure ⟨lk,.inl ⟨_,rfl,Udn m (.inl c3)⟩⟩
     rw[if_neg (fun q=>c3 (beq_iff_eq.mp q))]
     have hI:0<p:=by omega
     have ej:j-1+1=j:=by omega
     rw[←ej] at m
     have m2:=m.pushB sb hjb kf'
     refine wpS_bind (AR hjb ?_)
     by_cases c5:j-1=1
     ·rw[if_pos (beq_iff_eq.mpr c5)]
      exact wpS_pure ⟨lk,.inl ⟨_,rfl,Ula m2 (by omega)⟩⟩
     rw[if_neg (fun q=>c5 (beq_iff_eq.mp q))]
     have hI1:p-1<a.size:=by omega
     refine wpS_bind (AR hI1 ?_)
     refine wpS_bind (Ay C (lk.kd.trans hk) (uAt hI1) uB (by omega) (by omega) ?_ ?_)
     ·intro p q hpq hq e
      unfold bt at e ⊢
      rw[if_pos rfl] at e ⊢
      have e':=of_decide_eq_true e
      have:=sb (0+p) (0+q) (by omega) (by omega)
      exact decide_eq_true (by omega)
     rintro q ⟨k2n,k2t,k2f⟩
     have k2t':∀y,y<q→RK rk b y≤rk (a[p-1]'hI1):=fun y hx=>by
      have e:=k2t y hx
      unfold bt at e
      rw[if_pos rfl] at e
      have e':=of_decide_eq_true e
      rw[Nat.zero_add] at e'
      omega
     have k2f':∀x,q≤x→x<j-1→∀y,y<p→RK rk a y≤RK rk b x:=fun x h1 h2 y h3=>by
      have e:=k2f x h1 h2
      unfold bt at e
      rw[if_pos rfl] at e
      have e':=of_decide_eq_false e
      rw[Nat.zero_add] at e'
      have:=sa y (p-1) (by omega) hI1
      rw[Ap hI1] at this
      omega
     have eI:p-1+1=p:=by omega
     dsimp only
     by_cases k20:j-1-q>0
     ·rw[if_pos k20]
      have m3:=m2.appB' sb k2n k2f'
      by_cases c6:q=1
      ·rw[if_pos (beq_iff_eq.mpr c6)]
       exact wpS_pure ⟨lk,.inl ⟨_,rfl,Ula m3 (by omega)⟩⟩
      rw[if_neg (fun q=>c6 (beq_iff_eq.mp q))]
      by_cases c8:q=0
      ·rw[if_pos (beq_iff_eq.mpr c8)]
       exact wpS_pure ⟨lk,.inl ⟨_,rfl,Udn m3 (.inr c8)⟩⟩
      rw[if_neg (fun q=>c8 (beq_iff_eq.mp q))]
      have m4:=m3.pushA1 sa hI hI1 k2t'
      refine wpS_bind (AR hI1 ?_)
      by_cases c7:p-1=0
      ·rw[if_pos (beq_iff_eq.mpr c7)]
       exact wpS_pure ⟨lk,.inl ⟨_,rfl,Udn m4 (.inl c7)⟩⟩
      rw[if_neg (fun q=>c7 (beq_iff_eq.mp q))]
      split
      ·exact wpS_pure ⟨lk,.inr ⟨_,_,_,_,_,_,rfl,m4,by omega,by omega,by omega⟩⟩
      ·exact wpS_pure ⟨lk,_,_,_,_,_,_,rfl,m4,by omega,by omega,by omega⟩
     ·rw[if_neg k20]
      have e2:q=j-1:=by omega
      rw[e2] at k2t'
      have m4:=m2.pushA1 sa hI hI1 k2t'
      refine wpS_bind (AR hI1 ?_)
      by_cases c7:p-1=0
      ·rw[if_pos (beq_iff_eq.mpr c7)]
       exact wpS_pure ⟨lk,.inl ⟨_,rfl,Udn m4 (.inl c7)⟩⟩
      rw[if_neg (fun q=>c7 (beq_iff_eq.mp q))]
      split
      ·exact wpS_pure ⟨lk,.inr ⟨_,_,_,_,_,_,rfl,m4,by omega,by omega,by omega⟩⟩
      ·exact wpS_pure ⟨lk,_,_,_,_,_,_,rfl,m4,by omega,by omega,by omega⟩
    ·rw[if_neg k0]
     have e0:p=i:=by omega
     rw[e0] at kf'
     clear m
     have m:=hd.m
     have hI:=hi0
     have ej:j-1+1=j:=by omega
     rw[←ej] at m
     have m2:=m.pushB sb hjb kf'
     refine wpS_bind (AR hjb ?_)
     by_cases c5:j-1=1
     ·rw[if_pos (beq_iff_eq.mpr c5)]
      exact wpS_pure ⟨lk,.inl ⟨_,rfl,Ula m2 (by omega)⟩⟩
     rw[if_neg (fun q=>c5 (beq_iff_eq.mp q))]
     have hI1:i-1<a.size:=by omega
     refine wpS_bind (AR hI1 ?_)
     refine wpS_bind (Ay C (lk.kd.trans hk) (uAt hI1) uB (by omega) (by omega) ?_ ?_)
     ·intro p q hpq hq e
      unfold bt at e ⊢
      rw[if_pos rfl] at e ⊢
      have e':=of_decide_eq_true e
      have:=sb (0+p) (0+q) (by omega) (by omega)
      exact decide_eq_true (by omega)
     rintro q ⟨k2n,k2t,k2f⟩
     have k2t':∀y,y<q→RK rk b y≤rk (a[i-1]'hI1):=fun y hx=>by
      have e:=k2t y hx
      unfold bt at e
      rw[if_pos rfl] at e
      have e':=of_decide_eq_true e
      rw[Nat.zero_add] at e'
      omega
     have k2f':∀x,q≤x→x<j-1→∀y,y<i→RK rk a y≤RK rk b x:=fun x h1 h2 y h3=>by
      have e:=k2f x h1 h2
      unfold bt at e
      rw[if_pos rfl] at e
      have e':=of_decide_eq_false e
      rw[Nat.zero_add] at e'
      have:=sa y (i-1) (by omega) hI1
      rw[Ap hI1] at this
      omega
     have eI:i-1+1=i:=by omega
     dsimp only
     by_cases k20:j-1-q>0
     ·rw[if_pos k20]
      have m3:=m2.appB' sb k2n k2f'
      by_cases c6:q=1
      ·rw[if_pos (beq_iff_eq.mpr c6)]
       exact wpS_pure ⟨lk,.inl ⟨_,rfl,Ula m3 (by omega)⟩⟩
      rw[if_neg (fun q=>c6 (beq_iff_eq.mp q))]
      by_cases c8:q=0
      ·rw[if_pos (beq_iff_eq.mpr c8)]
       exact wpS_pure ⟨lk,.inl ⟨_,rfl,Udn m3 (.inr c8)⟩⟩
      rw[if_neg (fun q=>c8 (beq_iff_eq.mp q))]
      have m4:=m3.pushA1 sa hI hI1 k2t'
      refine wpS_bind (AR hI1 ?_)
      by_cases c7:i-1=0
      ·rw[if_pos (beq_iff_eq.mpr c7)]
       exact wpS_pure ⟨lk,.inl ⟨_,rfl,Udn m4 (.inl c7)⟩⟩
      rw[if_neg (fun q=>c7 (beq_iff_eq.mp q))]
      split
      ·exact wpS_pure ⟨lk,.inr ⟨_,_,_,_,_,_,rfl,m4,by omega,by omega,by omega⟩⟩
      ·exact wpS_pure ⟨lk,_,_,_,_,_,_,rfl,m4,by omega,by omega,by omega⟩
     ·rw[if_neg k20]
      have e2:q=j-1:=by omega
      rw[e2] at k2t'
      have m4:=m2.pushA1 sa hI hI1 k2t'
      refine wpS_bind (AR hI1 ?_)
      by_cases c7:i-1=0
      ·rw[if_pos (beq_iff_eq.mpr c7)]
       exact wpS_pure ⟨lk,.inl ⟨_,rfl,Udn m4 (.inl c7)⟩⟩
      rw[if_neg (fun q=>c7 (beq_iff_eq.mp q))]
      split
      ·exact wpS_pure ⟨lk,.inr ⟨_,_,_,_,_,_,rfl,m4,by omega,by omega,by omega⟩⟩
      ·exact wpS_pure ⟨lk,_,_,_,_,_,_,rfl,m4,by omega,by omega,by omega⟩
  ·rintro c st2 ⟨lk,out,i,j,mg,ac,bc,rfl,hd⟩
   have e:max 0 (a.size+b.size)=a.size+b.size:=by omega
   rw[e] at hd
   exact⟨lk,.inr ⟨_,_,_,_,_,_,rfl,hd.m,hd.hi,hd.hj,by have:=hd.hn;omega⟩⟩
  rintro c st2 ⟨lk,⟨r,e,f⟩| ⟨out,i,j,mg,ac,bc,rfl,hd⟩⟩
  ·obtain⟨c1,c2⟩:=c
   cases e
   exact wpS_pure ⟨lk,_,rfl,f⟩
  dsimp only
  refine wpS_bind (Co lk fun st3 lk=>?_)
  exact wpS_pure ⟨lk,_,_,_,_,rfl,hd⟩
 ·rintro c st1 ⟨lk,out,i,j,mg,rfl,hd⟩
  have e:max 0 (a.size+b.size)=a.size+b.size:=by omega
  rw[e] at hd
  have:=hd.hn
  have:=hd.hi
  have:=hd.hj
  omega
 ·rintro c st1 ⟨lk,r,e,f⟩
  obtain⟨c1,c2⟩:=c
  cases e
  exact wpS_pure (h _ _ lk f)
end SrtG
namespace SrtG
local macro_rules | `(tactic| omega) => `(tactic| first | lia | omega)
open PySem PyProof.Rows
variable{rk:Keyed→Int}
def Seg(rk:Keyed→Int)(arr:Array Keyed)(lo hi:Nat):Prop:=∀x y,lo≤x→x≤y→y<hi→RK rk arr x≤RK rk arr y
structure Upd(rk:Keyed→Int)(arr arr':Array Keyed)(lo hi:Nat):Prop where
 perm:arr'.toList.Perm arr.toList
 out:∀x,x<lo∨hi≤x→arr'[x]?=arr[x]?
 seg:Seg rk arr' lo hi
theorem CO{arr arr':Array Keyed}{x:Nat}(h:arr'[x]?=arr[x]?):RK rk arr' x=RK rk arr x:=by unfold RK;rw[h]
abbrev back(l:List (Keyed×Nat))(lo:Nat)(arr:Array Keyed):Array Keyed:=l.foldl (fun a (p,j)=>a.setIfInBounds (lo+j) p) arr
theorem GQ(lo:Nat):∀(l:List Keyed) (n:Nat) (arr:Array Keyed),lo+n+l.length≤arr.size→∀x,(back (l.zipIdx n) lo arr)[x]?=if lo+n≤x∧x<lo+n+l.length then l[x- (lo+n)]? else arr[x]?
 | [],n,arr,_,x=>by
  rw[if_neg (by rintro⟨h1,h2⟩;simp only[List.length_nil] at h2;omega)]
  rfl
 |p::l,n,arr,h,x=>by
  rw[List.length_cons] at h
  have e:back ((p::l).zipIdx n) lo arr=back (l.zipIdx (n+1)) lo (arr.setIfInBounds (lo+n) p):=by rw[List.zipIdx_cons];rfl
  rw[e,GQ lo l (n+1) _ (by rw[Array.size_setIfInBounds];omega) x,List.length_cons]
  by_cases c:lo+(n+1)≤x∧x<lo+(n+1)+l.length
  ·rw[if_pos c,if_pos (by omega)]
   have e2:x- (lo+n)=(x- (lo+(n+1)))+1:=by omega
   rw[e2,List.getElem?_cons_succ]
  ·rw[if_neg c,Array.getElem?_setIfInBounds]
   by_cases c2:lo+n=x
   ·rw[if_pos c2,if_pos (by omega),if_pos (by omega)]
    have e2:x- (lo+n)=0:=by omega
    rw[e2];rfl
   ·rw[if_neg c2,if_neg (by omega)]
theorem OA{arr:Array Keyed}{l:List Keyed}{lo:Nat}(h:lo+l.length≤arr.size):(back l.zipIdx lo arr).toList=arr.toList.take lo++l++arr.toList.drop (lo+l.length):=by
 apply List.ext_getElem?
 intro x
 rw[Array.getElem?_toList,GQ lo l 0 arr (by omega) x]
 have hlen:arr.toList.length=arr.size:=Array.length_toList
 by_cases c1:x<lo
 ·rw[if_neg (by omega),List.append_assoc,List.getElem?_append_left (by rw[List.length_take];omega),List.getElem?_take,if_pos c1,Array.getElem?_toList]
 ·by_cases c2:x<lo+l.length
  ·rw[if_pos (by omega),List.getElem?_append_left (by rw[List.length_append,List.length_take];omega),List.getElem?_append_right (by rw[List.length_take];omega),List.length_take]
   have e:min lo arr.toList.length=lo:=by omega
   rw[e]
   rfl
  ·rw[if_neg (by omega),List.getElem?_append_right (by rw[List.length_append,List.length_take];omega),List.getElem?_drop,List.length_append,List.length_take]
   have e:lo+l.length+(x- (min lo arr.toList.length+l.length))=x:=by omega
   rw[e,Array.getElem?_toList]
theorem Pf{arr merged:Array Keyed}{lo hi s0 e0:Nat}(hhi:lo≤hi)(hs:s0≤lo)(he:hi≤e0)(hz:e0≤arr.size)(perm:merged.toList.Perm (arr.extract lo hi).toList)(srt:merged.toList.Pairwise fun x y=>rk x≤rk y)
  (hL:∀x z,s0≤x→x<lo→x≤z→z<e0→RK rk arr x≤RK rk arr z) (hR:∀z y,s0≤z→z≤y→hi≤y→y<e0→RK rk arr z≤RK rk arr y):Upd rk arr (back merged.toList.zipIdx lo arr) s0 e0:=by
 have hx:(arr.extract lo hi).toList=(arr.toList.drop lo).take (hi-lo):=by rw[Array.toList_extract,List.extract_eq_drop_take]
 have hlenA:arr.toList.length=arr.size:=Array.length_toList
 have hlen:merged.toList.length=hi-lo:=by
  rw[perm.length_eq,hx,List.length_take,List.length_drop]
  omega
 have hfit:lo+merged.toList.length≤arr.size:=by omega
 have hget:=GQ lo merged.toList 0 arr (by omega)
 have hmid:∀m,m∈merged.toList→∃z,lo≤z∧z<hi∧rk m=RK rk arr z:=fun m hm=>by
  have hm':=perm.mem_iff.mp hm
  rw[hx] at hm'
  obtain⟨i,hi'⟩:=List.mem_iff_getElem?.mp hm'
  rw[List.getElem?_take] at hi'
  split at hi'
  ·rename_i hlt
   rw[List.getElem?_drop,Array.getElem?_toList] at hi'
   exact⟨lo+i,by omega,by omega,by unfold RK;rw[hi']⟩
  ·cases hi'
 have hRK:∀x,lo≤x→x<hi→∃m,m∈merged.toList∧merged.toList[x-lo]?=some m∧RK rk (back merged.toList.zipIdx lo arr) x=rk m:=fun x h1 h2=>by
  have hl:x-lo<merged.toList.length:=by omega
  refine⟨_,List.getElem_mem hl,List.getElem?_eq_getElem hl,?_⟩
  unfold RK
  rw[hget x,if_pos (by omega)]
  have e:x- (lo+0)=x-lo:=by omega
  rw[e,List.getElem?_eq_getElem hl]
 have hout:∀x,x<lo∨hi≤x→(back merged.toList.zipIdx lo arr)[x]?=arr[x]?:=fun x h=>by
  rw[hget x,if_neg (by omega)]
 refine⟨?_,fun x h=>hout x (by omega),?_⟩
 ·rw[OA hfit]
  have e:arr.toList=arr.toList.take lo++((arr.toList.drop lo).take (hi-lo))++arr.toList.drop (lo+merged.toList.length):=by
   rw[List.append_assoc]
   have e2:lo+merged.toList.length=lo+(hi-lo):=by omega
   rw[e2,←List.drop_drop,List.take_append_drop,List.take_append_drop]
  rw[hx] at perm
  have:=(perm.append_left (arr.toList.take lo)).append_right (arr.toList.drop (lo+merged.toList.length))
  rw[←e] at this
  exact this
 ·intro x y h1 h2 h3
  by_cases cx:x<lo
  ·rw[CO (hout x (.inl cx))]
   by_cases cy:lo≤y∧y<hi
   ·obtain⟨m,hm,_,e⟩:=hRK y cy.1 cy.2
    obtain⟨z,z1,z2,ez⟩:=hmid m hm
    rw[e,ez]
    exact hL x z h1 cx (by omega) (by omega)
   ·rw[CO (hout y (by omega))]
    exact hL x y h1 cx h2 h3
  ·by_cases cx2:x<hi
   ·obtain⟨m,hm,hm2,e⟩:=hRK x (by omega) cx2
    rw[e]
    by_cases cy:y<hi
    ·obtain⟨m',hm',hm2',e'⟩:=hRK y (by omega) cy
     rw[e']
     by_cases exy:x=y
     ·subst exy
      rw[hm2] at hm2'
      cases hm2'
      exact Int.le_refl _
     ·have hl:y-lo<merged.toList.length:=by omega
      have hl':x-lo<merged.toList.length:=by omega
      have:=List.pairwise_iff_getElem.mp srt (x-lo) (y-lo) hl' hl (by omega)
      rw[List.getElem?_eq_getElem hl'] at hm2
      rw[List.getElem?_eq_getElem hl] at hm2'
      cases hm2
      cases hm2'
      exact this
    ·rw[CO (hout y (by omega))]
     obtain⟨z,z1,z2,ez⟩:=hmid m hm
     rw[ez]
     exact hR z y (by omega) (by omega) (by omega) h3
   ·rw[CO (hout x (by omega)),CO (hout y (by omega))]
    exact hR x y h1 h2 (by omega) h3
end SrtG
namespace SrtG
local macro_rules | `(tactic| omega) => `(tactic| first | lia | omega)
open PySem PyProof.Rows
variable{rk:Keyed→Int}
theorem Fb{arr:Array Keyed}{l h:Nat}(hh:h≤arr.size):(arr.extract l h).size=h-l:=by rw[Array.size_extract];omega
theorem Pg{arr:Array Keyed}{l h x:Nat}(hx:x<h-l)(hh:h≤arr.size):(arr.extract l h)[x]?=arr[l+x]?:=by
 rw[←Array.getElem?_toList,Array.toList_extract,List.extract_eq_drop_take,List.getElem?_take,if_pos hx,List.getElem?_drop,Array.getElem?_toList]
theorem Ho{arr:Array Keyed}{l h x:Nat}(hx:x<h-l)(hh:h≤arr.size):RK rk (arr.extract l h) x=RK rk arr (l+x):=by unfold RK;rw[Pg hx hh]
theorem AllU.ex{U:Keyed→Prop}{arr:Array Keyed}{l h:Nat}(u:AllU U arr)(hh:h≤arr.size):AllU U (arr.extract l h):=fun i p e=>by
 have hi:i< (arr.extract l h).size:=by
  apply Classical.byContradiction
  intro hn
  rw[Array.getElem?_eq_none (Nat.le_of_not_lt hn)] at e
  cases e
 rw[Fb hh] at hi
 rw[Pg hi hh] at e
 exact u _ _ e
theorem Seg.ex{arr:Array Keyed}{l h:Nat}(sg:Seg rk arr l h)(hh:h≤arr.size):Ex rk (arr.extract l h):=fun i j hij hj=>by
 rw[Fb hh] at hj
 rw[Ho (by omega) hh,Ho hj hh]
 exact sg _ _ (by omega) (by omega) (by omega)
section
variable{prog:Program}{w:World}{A:Around}{E:Value→Shared→Prop}{s:Shared}{kd:SortKind}{U:Keyed→Prop}
theorem So{st st':SortSt}{Q:PUnit→SortSt→Prop}(h:Q ⟨⟩ st'):wpS (model prog w) A E s (set st':StateT SortSt Sem PUnit) Q st:=by
 unfold wpS;rw[StateT.run_set];exact wpAny_pure ⟨rfl,h⟩
theorem Jq{i sa na pa sb nb pb:Nat}{st:SortSt}{Q:Bool→SortSt→Prop}(C:Pd prog w A E s kd U rk)(hk:kindOf st=kd)(hU:AllU U (arrOf st))(hf:failedOf st=none)
  (h1:(pendingOf st)[i]?=some (sa,na,pa)) (h2:(pendingOf st)[i+1]?=some (sb,nb,pb)) (hsb:sb=sa+na) (hna:0<na) (hnb:0<nb) (hsz:sb+nb≤(arrOf st).size) (S1:Seg rk (arrOf st) sa sb) (S2:Seg rk (arrOf st) sb (sb+nb))
  (h:∀st',kindOf st'=kd→failedOf st'=none→pendingOf st'=((pendingOf st).setIfInBounds i (sa,na+nb,pa)).eraseIdxIfInBounds (i+1)→Upd rk (arrOf st) (arrOf st') sa (sb+nb)→Q true st'):
  wpS (model prog w) A E s (mergeAt' i) Q st:=by
 delta mergeAt'
 refine wpS_bind (wpS_get ?_)
 rw[h1,h2]
 dsimp only
 refine wpS_bind (So ?_)
 have hsbz:sb< (arrOf st).size:=by omega
 have uAt:∀{i} (hi:i< (arrOf st).size),U (arrOf st)[i]:=fun hi=>hU _ _ (getElem?_pos (arrOf st) _ hi)
 refine wpS_bind (AR (arr:=arrOf st) hsbz ?_)
 refine wpS_bind (Ay (arr:=arrOf st) C hk (uAt hsbz) hU (by omega) hna ?_ ?_)
 ·intro p q hpq hq e
  unfold bt at e ⊢
  rw[if_neg Bool.false_ne_true] at e ⊢
  have e':=of_decide_eq_false (Bool.not_eq_true' _|>.mp e)
  have:=S1 (sa+p) (sa+q) (by omega) (by omega) (by omega)
  exact(Bool.not_eq_true' _).mpr (decide_eq_false (by omega))
 rintro k ⟨kn,kt,kf⟩
 have kt':∀x,sa≤x→x<sa+k→RK rk (arrOf st) x≤RK rk (arrOf st) sb:=fun x hx1 hx=>by
  have e:=kt (x-sa) (by omega)
  unfold bt at e
  rw[if_neg Bool.false_ne_true] at e
  have e':=of_decide_eq_false (Bool.not_eq_true' _|>.mp e)
  have ex:sa+(x-sa)=x:=by omega
  rw[ex] at e'
  rw[Ap hsbz]
  omega
 have kf':∀x,sa+k≤x→x<sb→RK rk (arrOf st) sb<RK rk (arrOf st) x:=fun x hx1 hx=>by
  have e:=kf (x-sa) (by omega) (by omega)
  unfold bt at e
  rw[if_neg Bool.false_ne_true] at e
  have e':=of_decide_eq_true (Bool.not_eq_false' _|>.mp e)
  have ex:sa+(x-sa)=x:=by omega
  rw[ex] at e'
  rw[Ap hsbz]
  omega
 dsimp only
 by_cases c1:na-k=0
 ·rw[if_pos (beq_iff_eq.mpr c1)]
  refine wpS_pure (h _ hk hf rfl ⟨List.Perm.refl _,fun _ _=>rfl,fun x y hx1 hx2 hx3=>?_⟩)
  by_cases cy:y<sb
  ·exact S1 x y hx1 hx2 cy
  ·by_cases cx:x<sb
   ·have e1:=kt' x hx1 (by omega)
    have e2:=S2 sb y (by omega) (by omega) hx3
    exact Int.le_trans e1 e2
   ·exact S2 x y (by omega) hx2 hx3
 rw[if_neg (fun q=>c1 (beq_iff_eq.mp q))]
 have el:sa+k+(na-k)-1=sb-1:=by omega
 rw[el]
 have hlz:sb-1< (arrOf st).size:=by omega
 refine wpS_bind (AR (arr:=arrOf st) hlz ?_)
 refine wpS_bind (Ay (arr:=arrOf st) C hk (uAt hlz) hU (by omega) (by omega) ?_ ?_)
 ·intro p q hpq hq e
  unfold bt at e ⊢
  rw[if_pos rfl] at e ⊢
  have e':=of_decide_eq_true e
  have:=S2 (sb+p) (sb+q) (by omega) (by omega) (by omega)
  exact decide_eq_true (by omega)
 rintro n2 ⟨nn,nt,nf⟩
 have nt':∀x,sb≤x→x<sb+n2→RK rk (arrOf st) x<RK rk (arrOf st) (sb-1):=fun x hx1 hx=>by
  have e:=nt (x-sb) (by omega)
  unfold bt at e
  rw[if_pos rfl] at e
  have e':=of_decide_eq_true e
  have ex:sb+(x-sb)=x:=by omega
  rw[ex] at e'
  rw[Ap hlz]
  omega
 have nf':∀x,sb+n2≤x→x<sb+nb→RK rk (arrOf st) (sb-1)≤RK rk (arrOf st) x:=fun x hx1 hx=>by
  have e:=nf (x-sb) (by omega) (by omega)
  unfold bt at e
  rw[if_pos rfl] at e
  have e':=of_decide_eq_false e
  have ex:sb+(x-sb)=x:=by omega
  rw[ex] at e'
  rw[Ap hlz]
  omega
 dsimp only
 have hlast:=kf' (sb-1) (by omega) (by omega)
 by_cases c2:n2=0
 ·have:=nf' sb (by omega) (by omega)
  omega
 rw[if_neg (fun q=>c2 (beq_iff_eq.mp q))]
 have hy:sb+n2≤(arrOf st).size:=by omega
 have hx':sb≤(arrOf st).size:=by omega
 have sA:Ex rk ((arrOf st).extract (sa+k) sb):=Seg.ex (fun x y q1 q2 q3=>S1 x y (by omega) q2 q3) hx'
 have sB:Ex rk ((arrOf st).extract sb (sb+n2)):=Seg.ex (fun x y q1 q2 q3=>S2 x y q1 q2 (by omega)) hy
 have zA:((arrOf st).extract (sa+k) sb).size=sb- (sa+k):=Fb hx'
 have zB:((arrOf st).extract sb (sb+n2)).size=sb+n2-sb:=Fb hy
 have q0:RK rk ((arrOf st).extract sb (sb+n2)) 0≤RK rk ((arrOf st).extract (sa+k) sb) 0:=by
  rw[Ho (by omega) hy,Ho (by omega) hx']
  have:=kf' (sa+k+0) (by omega) (by omega)
  exact Int.le_of_lt this
 have q1:RK rk ((arrOf st).extract sb (sb+n2)) (((arrOf st).extract sb (sb+n2)).size-1)≤RK rk ((arrOf st).extract (sa+k) sb) (((arrOf st).extract (sa+k) sb).size-1):=by
  rw[zA,zB,Ho (by omega) hy,Ho (by omega) hx']
  have:=nt' (sb+(sb+n2-sb-1)) (by omega) (by omega)
  have e:sa+k+(sb- (sa+k)-1)=sb-1:=by omega
  rw[e]
  exact Int.le_of_lt this
 have fin:∀r (st':SortSt),Like (setPending st (((pendingOf st).setIfInBounds i (sa,na+nb,pa)).eraseIdxIfInBounds (i+1))) st'→Fin2 rk ((arrOf st).extract (sa+k) sb) ((arrOf st).extract sb (sb+n2)) r→
   wpS (model prog w) A E s (do
    modify fun z=>setArr z (back r.toList.zipIdx (sa+k) (arrOf z))
    return(failedOf (←get)).isNone) Q st':=fun r st' lk f=>by
  refine wpS_bind (wpS_modify ?_)
  refine wpS_bind (wpS_get ?_)
  have e:(failedOf st').isNone=true:=by rw[lk.fl];show(failedOf st).isNone=true;rw[hf];rfl
  show wpS _ _ _ _ (pure ((failedOf st').isNone)) _ _
  rw[e]
  refine wpS_pure (h _ (lk.kd.trans hk) (lk.fl.trans hf) lk.pd ?_)
  have ea:arrOf st'=arrOf st:=lk.arr
  show Upd rk (arrOf st) (back r.toList.zipIdx (sa+k) (arrOf st')) sa (sb+nb)
  rw[ea]
  refine Pf (hi:=sb+n2) (by omega) (by omega) (by omega) hsz ?_ f.srt ?_ ?_
  ·have e2:((arrOf st).extract (sa+k) (sb+n2)).toList=((arrOf st).extract (sa+k) sb).toList++((arrOf st).extract sb (sb+n2)).toList:=by
    rw[Array.toList_extract,Array.toList_extract,Array.toList_extract,List.extract_eq_drop_take,List.extract_eq_drop_take,List.extract_eq_drop_take]
    have e3:sb+n2- (sa+k)=(sb- (sa+k))+(sb+n2-sb):=by omega
    rw[e3,List.take_add,List.drop_drop]
    have e4:sa+k+(sb- (sa+k))=sb:=by omega
    rw[e4]
   rw[e2]
   exact f.perm
  ·intro x z hx1 hx2 hx3 hx4
   by_cases cz:z<sb
   ·exact S1 x z hx1 hx3 cz
   ·have e1:=kt' x hx1 hx2
    have e2:=S2 sb z (by omega) (by omega) hx4
    exact Int.le_trans e1 e2
  ·intro z y hx1 hx2 hx3 hx4
   by_cases cz:z<sb
   ·have e1:=S1 z (sb-1) hx1 (by omega) (by omega)
    exact Int.le_trans e1 (nf' y hx3 hx4)
   ·exact S2 z y (by omega) hx2 hx4
 by_cases c3:na-k≤n2
 ·rw[if_pos c3]
  exact wpS_bind (Jn (a:=(arrOf st).extract (sa+k) sb) (b:=(arrOf st).extract sb (sb+n2)) C hk (hU.ex hx') (hU.ex hy) sA sB (by omega) (by omega) q0 q1 fin)
 ·rw[if_neg c3]
  exact wpS_bind (Jp (a:=(arrOf st).extract (sa+k) sb) (b:=(arrOf st).extract sb (sb+n2)) C hk (hU.ex hx') (hU.ex hy) sA sB (by omega) (by omega) q0 q1 fin)
end
end SrtG
namespace SrtG
open PySem PyProof.Rows
variable{rk:Keyed→Int}
structure Kp(st0 st:SortSt)(lo hi:Nat):Prop where
 kd:kindOf st=kindOf st0
 pd:pendingOf st=pendingOf st0
 fl:failedOf st=failedOf st0
 perm:(arrOf st).toList.Perm (arrOf st0).toList
 out:∀x,x<lo∨hi≤x→(arrOf st)[x]?=(arrOf st0)[x]?
theorem Kp.refl(st:SortSt)(lo hi:Nat):Kp st st lo hi:=⟨rfl,rfl,rfl,List.Perm.refl _,fun _ _=>rfl⟩
theorem Kp.size{st0 st:SortSt}{lo hi:Nat}(k:Kp st0 st lo hi):(arrOf st).size=(arrOf st0).size:=by
 rw[←Array.length_toList,←Array.length_toList];exact k.perm.length_eq
theorem AllU.of_perm{U:Keyed→Prop}{a b:Array Keyed}(u:AllU U a)(p:b.toList.Perm a.toList):AllU U b:=fun i q e=>by
 have hm:q∈b.toList:=by rw[←Array.getElem?_toList] at e;exact List.mem_of_getElem? e
 have hm':=p.mem_iff.mp hm
 obtain⟨j,hj⟩:=List.mem_iff_getElem?.mp hm'
 rw[Array.getElem?_toList] at hj
 exact u j q hj
theorem Kp.setA{st0 st:SortSt}{lo hi:Nat}(k:Kp st0 st lo hi){xs:Array Keyed}(hp:xs.toList.Perm (arrOf st).toList)(ho:∀x,x<lo∨hi≤x→xs[x]?=(arrOf st)[x]?):Kp st0 (setArr st xs) lo hi:=
 ⟨k.kd,k.pd,k.fl,hp.trans k.perm,fun x hx=> (ho x hx).trans (k.out x hx)⟩
theorem DP{xs ys:Array Keyed}{i j:Nat}(h:xs[i]?=ys[j]?):RK rk xs i=RK rk ys j:=by unfold RK;rw[h]
theorem Hq{xs:Array Keyed}{src d:Nat}(hs:src<xs.size)(hd:d≤src)(k:Nat):RK rk (bubble xs src d) k=if k=src-d then RK rk xs src else if src-d<k∧k≤src then RK rk xs (k-1) else RK rk xs k:=by
 have e:=getElem?_bubble hs d hd k
 by_cases c1:k=src-d
 ·rw[if_pos c1] at e ⊢;exact DP e
 ·rw[if_neg c1] at e ⊢
  by_cases c2:src-d<k∧k≤src
  ·rw[if_pos c2] at e ⊢;exact DP e
  ·rw[if_neg c2] at e ⊢;exact DP e
section
variable{prog:Program}{w:World}{A:Around}{E:Value→Shared→Prop}{s:Shared}{kd:SortKind}{U:Keyed→Prop}
theorem BI{st:SortSt}{i j:Nat}{Q:Option Bool→SortSt→Prop}(C:Pd prog w A E s kd U rk)(hk:kindOf st=kd)(hU:AllU U (arrOf st))(hi:i< (arrOf st).size)(hj:j< (arrOf st).size)
  (h:Q (some (decide (RK rk (arrOf st) i<RK rk (arrOf st) j))) st):wpS (model prog w) A E s (ltAt' i j) Q st:=by
 rw[ltAt'_eq]
 refine wpS_bind (wpS_get ?_)
 refine wpS_bind (AR hi ?_)
 refine wpS_bind (AR hj ?_)
 rw[Ap hi,Ap hj] at h
 exact C _ _ _ _ hk (hU _ _ (getElem?_pos (arrOf st) _ hi)) (hU _ _ (getElem?_pos (arrOf st) _ hj)) h
theorem LL{st:SortSt}{lo n ok:Nat}{Q:Bool→SortSt→Prop}(C:Pd prog w A E s kd U rk)(hk:kindOf st=kd)(hU:AllU U (arrOf st))(hn:lo+n≤(arrOf st).size)(hok:ok≤n)(hs:Seg rk (arrOf st) lo (lo+ok))
  (h:∀st',Kp st st' lo (lo+n)→Seg rk (arrOf st') lo (lo+n)→Q true st'):wpS (model prog w) A E s (binarySort' lo n ok) Q st:=by
 rw[binarySort'_eq]
 refine wpS_bind (wpS_mono (wpS_forRange (I:=fun k c st'=>c=(none,())∧Kp st st' lo (lo+n)∧Seg rk (arrOf st') lo (lo+min k n))
  (Q:=fun c st'=>c=(none,())∧Kp st st' lo (lo+n)∧Seg rk (arrOf st') lo (lo+n)) ?step ?fin ?init) ?post)
 case post=>
  rintro c st' ⟨rfl,hB',hs'⟩
  exact wpS_pure (h st' hB' hs')
 case init=>
  refine⟨rfl,Kp.refl _ _ _,fun i j hi hij hj=>?_⟩
  by_cases c1:ok=0
  ·have:i=j:=by omega
   subst this;exact Int.le_refl _
  ·exact hs i j hi hij (by omega)
 case fin=>
  rintro c st' ⟨hc,hB',hs'⟩
  refine⟨hc,hB',?_⟩
  have e:min (max (max ok 1) n) n=n:=by omega
  rwa[e] at hs'
 case step=>
  rintro k c st' hak hkn ⟨rfl,hB',hs'⟩
  have e:min k n=k:=by omega
  rw[e] at hs'
  have hz:=hB'.size
  have hks:lo+k< (arrOf st').size:=by omega
  have hU':=hU.of_perm hB'.perm
  refine wpS_bind (wpS_mono (wpS_forRange (I:=fun x c st''=>st''=st'∧∃l r,c=(none,l,r)∧l≤r∧r≤k∧r-l≤k-x∧
    (∀i,i<l→RK rk (arrOf st') (lo+i)≤RK rk (arrOf st') (lo+k))∧(∀i,r≤i→i<k→RK rk (arrOf st') (lo+k)<RK rk (arrOf st') (lo+i)))
   (Q:=fun c st''=>st''=st'∧∃l r,c=(none,l,r)∧l≤k∧
    (∀i,i<l→RK rk (arrOf st') (lo+i)≤RK rk (arrOf st') (lo+k))∧(∀i,l≤i→i<k→RK rk (arrOf st') (lo+k)<RK rk (arrOf st') (lo+i))) ?istep ?ifin ?iinit) ?ipost)
  case iinit=>exact⟨rfl,0,k,rfl,by omega,by omega,by omega,fun i hi=>by omega,fun i h1 h2=>by omega⟩
  case ifin=>
   rintro c st'' ⟨rfl,l,r,rfl,hlr,hrk,hm,hlo,hhi⟩
   have:l=r:=by omega
   subst this
   exact⟨rfl,l,l,rfl,hrk,hlo,hhi⟩
  case istep=>
   rintro x c st'' _ hxk ⟨rfl,l,r,rfl,hlr,hrk,hm,hlo,hhi⟩
   dsimp only
   by_cases hge:l≥r
   ·rw[if_pos hge]
    have:l=r:=by omega
    subst this
    exact wpS_pure ⟨rfl,l,l,rfl,hrk,hlo,hhi⟩
   ·rw[if_neg hge]
    refine wpS_bind (BI C (hB'.kd.trans hk) hU' hks (by omega) ?_)
    dsimp only
    by_cases hless:RK rk (arrOf st'') (lo+k)<RK rk (arrOf st'') (lo+(l+r)/2)
    ·rw[if_pos (decide_eq_true hless)]
     refine wpS_pure ⟨rfl,l,(l+r)/2,rfl,by omega,by omega,by omega,hlo,fun i q1 q2=>?_⟩
     exact Int.lt_of_lt_of_le hless (hs' _ _ (by omega) (by omega) (by omega))
    ·rw[if_neg (fun q=>hless (of_decide_eq_true q))]
     refine wpS_pure ⟨rfl,(l+r)/2+1,r,rfl,by omega,by omega,by omega,fun i q1=>?_,hhi⟩
     exact Int.le_trans (hs' (lo+i) (lo+(l+r)/2) (by omega) (by omega) (by omega)) (Int.not_lt.mp hless)
  case ipost=>
   rintro c st'' ⟨rfl,l,r,rfl,hlk,hlo,hhi⟩
   show wpS _ _ _ _ (do moveDown' (lo+k) (lo+l);pure (ForInStep.yield (none,()))) _ _
   rw[moveDown'_eq]
   have ed:lo+k- (lo+l)=k-l:=by omega
   refine wpS_bind (wpS_modify (wpS_pure ⟨rfl,hB'.setA (Array.perm_iff_toList_perm.mp (bubble_perm _ _ _)) ?_,?_⟩))
   ·intro x hx
    rw[ed,getElem?_bubble hks _ (by omega),if_neg (by omega),if_neg (by omega)]
   have e2:lo+min (k+1) n=lo+k+1:=by omega
   rw[e2]
   intro i j hi hij hj
   show RK rk (bubble (arrOf st'') (lo+k) (lo+k- (lo+l))) i≤RK rk (bubble (arrOf st'') (lo+k) (lo+k- (lo+l))) j
   rw[ed,Hq hks (by omega),Hq hks (by omega)]
   have e3:lo+k- (k-l)=lo+l:=by omega
   rw[e3]
   have hlo':∀i,lo≤i→i<lo+l→RK rk (arrOf st'') i≤RK rk (arrOf st'') (lo+k):=fun i q1 q2=>by
    have:=hlo (i-lo) (by omega)
    have e4:lo+(i-lo)=i:=by omega
    rwa[e4] at this
   have hhi':∀i,lo+l≤i→i<lo+k→RK rk (arrOf st'') (lo+k)≤RK rk (arrOf st'') i:=fun i q1 q2=>by
    have:=hhi (i-lo) (by omega) (by omega)
    have e4:lo+(i-lo)=i:=by omega
    rw[e4] at this
    exact Int.le_of_lt this
   repeat' split
   all_goals first
    | (exfalso;omega)
    |exact Int.le_refl _
    |exact hlo' _ (by omega) (by omega)
    |exact hhi' _ (by omega) (by omega)
    |exact hs' _ _ (by omega) (by omega) (by omega)
end
local macro_rules | `(tactic| omega) => `(tactic| first | lia | omega)
open PySem PyProof.Rows
variable{rk:Keyed→Int}
def Dsc(rk:Keyed→Int)(arr:Array Keyed)(lo hi:Nat):Prop:=∀x y,lo≤x→x≤y→y<hi→RK rk arr y≤RK rk arr x
theorem OB{xs:Array Keyed}{i j:Nat}(hj:j≤xs.size)(k:Nat):RK rk (mirror xs i j ((j-i)/2)) k=if i≤k∧k<j then RK rk xs (i+j-1-k) else RK rk xs k:=by
 have e:=getElem?_mirror_all (i:=i) hj k
 by_cases c1:i≤k∧k<j
 ·rw[if_pos c1] at e ⊢;exact DP e
 ·rw[if_neg c1] at e ⊢;exact DP e
section
variable{prog:Program}{w:World}{A:Around}{E:Value→Shared→Prop}{s:Shared}{kd:SortKind}{U:Keyed→Prop}
theorem EG{st0 st:SortSt}{lo hi i j:Nat}{Q:Unit→SortSt→Prop}(k:Kp st0 st lo hi)(h1:lo≤i)(h2:j≤hi)(hj:j≤(arrOf st).size)
  (h:∀st',Kp st0 st' lo hi→(∀k,RK rk (arrOf st') k=if i≤k∧k<j then RK rk (arrOf st) (i+j-1-k) else RK rk (arrOf st) k)→Q () st'):wpS (model prog w) A E s (reverseSlice' i j) Q st:=by
 rw[reverseSlice'_eq]
 refine wpS_modify (h _ (k.setA (Array.perm_iff_toList_perm.mp (mirror_perm _ _ _ _)) fun x hx=>?_) fun k=>OB hj k)
 rw[getElem?_mirror_all hj,if_neg (by omega)]
theorem DQ{st0 st:SortSt}{lo hi i j:Nat}{Q:Unit→SortSt→Prop}(k:Kp st0 st lo hi)(h1:lo≤i)(h2:j≤hi)(hj:j≤(arrOf st).size)(heq:∀k,i≤k→k<j→RK rk (arrOf st) k=RK rk (arrOf st) (j-1))
  (h:∀st',Kp st0 st' lo hi→(∀k,RK rk (arrOf st') k=RK rk (arrOf st) k)→Q () st'):wpS (model prog w) A E s (reverseSlice' i j) Q st:=by
 refine EG (rk:=rk) k h1 h2 hj fun st' k' e=>h st' k' fun x=>?_
 rw[e x]
 split
 ·rw[heq _ (by omega) (by omega),heq x (by omega) (by omega)]
 ·rfl
theorem Seg.up{arr:Array Keyed}{lo n:Nat}(sg:Seg rk arr lo (lo+n))(h1:1≤n)(hx:¬RK rk arr (lo+n)<RK rk arr (lo+n-1)):Seg rk arr lo (lo+(n+1)):=fun i j hi hij hj=>by
 by_cases c:j<lo+n
 ·exact sg i j hi hij c
 ·have e:j=lo+n:=by omega
  subst e
  by_cases c2:i=lo+n
  ·subst c2;exact Int.le_refl _
  ·exact Int.le_trans (sg i (lo+n-1) hi (by omega) (by omega)) (Int.not_lt.mp hx)
theorem Dsc.up{arr arr':Array Keyed}{lo n:Nat}(sg:Dsc rk arr lo (lo+n))(h1:1≤n)(hx:RK rk arr (lo+n)≤RK rk arr (lo+n-1))(he:∀k,RK rk arr' k=RK rk arr k):Dsc rk arr' lo (lo+(n+1)):=fun i j hi hij hj=>by
 rw[he,he]
 by_cases c:j<lo+n
 ·exact sg i j hi hij c
 ·have e:j=lo+n:=by omega
  subst e
  by_cases c2:i=lo+n
  ·subst c2;exact Int.le_refl _
  ·exact Int.le_trans hx (sg i (lo+n-1) hi (by omega) (by omega))
theorem LM{st:SortSt}{lo nrem:Nat}{Q:Option Nat→SortSt→Prop}(C:Pd prog w A E s kd U rk)(hk:kindOf st=kd)(hU:AllU U (arrOf st))(hn:lo+nrem≤(arrOf st).size)(h1:1≤nrem)
  (h:∀m st',Kp st st' lo (lo+nrem)→1≤m→m≤nrem→Seg rk (arrOf st') lo (lo+m)→Q (some m) st'):
  wpS (model prog w) A E s (countRun' lo nrem) Q st:=by
 rw[countRun'_eq]
 refine wpS_bind (wpS_mono (wpS_forRange (I:=fun x c st'=>st'=st∧c=(none,x)∧Seg rk (arrOf st) lo (lo+x))
  (Q:=fun c st'=>st'=st∧∃n,c=(none,n)∧1≤n∧n≤nrem∧Seg rk (arrOf st) lo (lo+n)∧(n=nrem∨RK rk (arrOf st) (lo+n)<RK rk (arrOf st) (lo+n-1))) ?step ?fin ⟨rfl,rfl,fun i j hi hij hj=>by have:i=j:=(by omega);subst this;exact Int.le_refl _⟩) ?post)
 case fin=>
  rintro c st' ⟨rfl,rfl,hs'⟩
  have e:max 1 nrem=nrem:=by omega
  rw[e] at hs' ⊢
  exact⟨rfl,nrem,rfl,h1,Nat.le_refl _,hs',.inl rfl⟩
 case step=>
  rintro x c st' hax hxn ⟨rfl,rfl,hs'⟩
  dsimp only
  refine wpS_bind (BI C hk hU (by omega) (by omega) ?_)
  dsimp only
  by_cases hless:RK rk (arrOf st') (lo+x)<RK rk (arrOf st') (lo+x-1)
  ·rw[if_pos (decide_eq_true hless)]
   exact wpS_pure ⟨rfl,x,rfl,hax,by omega,hs',.inr hless⟩
  ·rw[if_neg (fun q=>hless (of_decide_eq_true q))]
   exact wpS_pure ⟨rfl,rfl,hs'.up hax hless⟩
 case post=>
  rintro c st' ⟨rfl,n,rfl,hn1,hn2,hsn,hor⟩
  dsimp only
  by_cases hnn:n=nrem
  ·rw[if_pos (beq_iff_eq.mpr hnn)]
   exact wpS_pure (h n _ (Kp.refl _ _ _) hn1 hn2 hsn)
  rw[if_neg (fun q=>hnn (beq_iff_eq.mp q))]
  have hlt:=hor.resolve_left hnn
  by_cases hgt:n>1
  ·rw[if_pos hgt]
   refine wpS_bind (BI C hk hU (by omega) (by omega) ?_)
   dsimp only
   by_cases hrose:RK rk (arrOf st') lo<RK rk (arrOf st') (lo+n-1)
   ·rw[if_pos (decide_eq_true hrose)]
    exact wpS_pure (h n _ (Kp.refl _ _ _) hn1 hn2 hsn)
   rw[if_neg (fun q=>hrose (of_decide_eq_true q))]
   have hall:∀k,lo≤k→k<lo+n→RK rk (arrOf st') k=RK rk (arrOf st') (lo+n-1):=fun k q1 q2=>by
    have a1:=hsn lo k (by omega) q1 q2
    have a2:=hsn k (lo+n-1) q1 (by omega) (by omega)
    omega
   refine wpS_bind (DQ (rk:=rk) (Kp.refl st' lo (lo+nrem)) (Nat.le_refl _) (by omega) (by omega) hall fun st2 kp hRK=>?_)
   have hd:Dsc rk (arrOf st2) lo (lo+(n+1)):=Dsc.up (arr:=arrOf st') (fun i j q1 q2 q3=>by rw[hall i q1 (by omega),hall j (by omega) q3];exact Int.le_refl _) hn1 (Int.le_of_lt hlt) hRK
   refine wpS_bind (wpS_lift (wpAny_rule ⟨rfl,?_⟩))
   refine wpS_bind (wpS_mono (wpS_forRange (I:=fun x c st3=>∃neq,c=(none,x,neq)∧Kp st' st3 lo (lo+nrem)∧Dsc rk (arrOf st3) lo (lo+x)∧neq+1≤x∧(∀i,lo+x- (neq+1)≤i→i<lo+x→RK rk (arrOf st3) i=RK rk (arrOf st3) (lo+x-1)))
    (Q:=fun c st3=>∃m neq,c=(none,m,neq)∧Kp st' st3 lo (lo+nrem)∧n+1≤m∧m≤nrem∧Dsc rk (arrOf st3) lo (lo+m)∧neq+1≤m∧(∀i,lo+m- (neq+1)≤i→i<lo+m→RK rk (arrOf st3) i=RK rk (arrOf st3) (lo+m-1))) ?_ ?_ ⟨0,rfl,kp,hd,by omega,fun i q1 q2=>by congr 1;omega⟩) ?_)
   ·rintro x c st3 hax hxn ⟨neq,rfl,kp,hd,hq,he⟩
    have hz:=kp.size
    have hU3:=hU.of_perm kp.perm
    dsimp only
    refine wpS_bind (BI C (kp.kd.trans hk) hU3 (by omega) (by omega) ?_)
    dsimp only
    by_cases hless:RK rk (arrOf st3) (lo+x)<RK rk (arrOf st3) (lo+x-1)
    ·rw[if_pos (decide_eq_true hless)]
     by_cases hneq:neq>0
     ·rw[if_pos hneq]
      refine wpS_bind (DQ (rk:=rk) kp (by omega) (by omega) (by omega) he fun st4 kp4 hRK=>?_)
      exact wpS_pure ⟨0,rfl,kp4,hd.up (by omega) (Int.le_of_lt hless) hRK,by omega,fun i q1 q2=>by congr 1;omega⟩
     ·rw[if_neg hneq]
      exact wpS_pure ⟨0,rfl,kp,hd.up (by omega) (Int.le_of_lt hless) fun _=>rfl,by omega,fun i q1 q2=>by congr 1;omega⟩
    ·rw[if_neg (fun q=>hless (of_decide_eq_true q))]
     refine wpS_bind (BI C (kp.kd.trans hk) hU3 (by omega) (by omega) ?_)
     dsimp only
     by_cases hlarger:RK rk (arrOf st3) (lo+x-1)<RK rk (arrOf st3) (lo+x)
     ·rw[if_pos (decide_eq_true hlarger)]
      exact wpS_pure ⟨x,neq,rfl,kp,hax,by omega,hd,hq,he⟩
     ·rw[if_neg (fun q=>hlarger (of_decide_eq_true q))]
      have heqx:RK rk (arrOf st3) (lo+x)=RK rk (arrOf st3) (lo+x-1):=by omega
      refine wpS_pure ⟨neq+1,rfl,kp,hd.up (by omega) (by omega) fun _=>rfl,by omega,fun i q1 q2=>?_⟩
      have e1:lo+(x+1)-1=lo+x:=by omega
      rw[e1]
      by_cases hix:i=lo+x
      ·rw[hix]
      ·rw[heqx];exact he i (by omega) (by omega)
   ·rintro c st3 ⟨neq,rfl,kp,hd,hq,he⟩
    have e:max (n+1) nrem=nrem:=by omega
    rw[e] at hd hq he ⊢
    exact⟨nrem,neq,rfl,kp,by omega,Nat.le_refl _,hd,hq,he⟩
   rintro c st3 ⟨m,neq,rfl,kp,hm1,hm2,hd,hq,he⟩
   have hz:=kp.size
   dsimp only
   have rest:∀(st4:SortSt),Kp st' st4 lo (lo+nrem)→Dsc rk (arrOf st4) lo (lo+m)→∀st5,Kp st' st5 lo (lo+nrem)→(∀k,RK rk (arrOf st5) k=if lo≤k∧k<lo+m then RK rk (arrOf st4) (lo+(lo+m)-1-k) else RK rk (arrOf st4) k)→Seg rk (arrOf st5) lo (lo+m):=fun st4 _ d4 st5 _ e5 i j q1 q2 q3=>by
    rw[e5,e5,if_pos (by omega),if_pos (by omega)]
    exact d4 _ _ (by omega) (by omega) (by omega)
   by_cases hneq:neq>0
   ·rw[if_pos hneq]
    refine wpS_bind (DQ (rk:=rk) kp (by omega) (by omega) (by omega) he fun st4 kp4 hRK=>?_)
    have d4:Dsc rk (arrOf st4) lo (lo+m):=fun i j q1 q2 q3=>by rw[hRK,hRK];exact hd i j q1 q2 q3
    have hz4:=kp4.size
    refine wpS_bind (EG (rk:=rk) kp4 (Nat.le_refl _) (by omega) (by omega) fun st5 kp5 e5=>?_)
    have s5:=rest _ kp4 d4 st5 kp5 e5
    have hz5:=kp5.size
    have hU5:=hU.of_perm kp5.perm
    refine wpS_bind (wpS_mono (wpS_forRange (I:=fun x c st6=>st6=st5∧c=(none,x)∧Seg rk (arrOf st5) lo (lo+x))
     (Q:=fun c st6=>st6=st5∧∃n,c=(none,n)∧1≤n∧n≤nrem∧Seg rk (arrOf st5) lo (lo+n)) ?_ ?_ ⟨rfl,rfl,s5⟩) ?_)
    ·rintro x c st6 hax hxn ⟨rfl,rfl,hs'⟩
     dsimp only
     refine wpS_bind (BI C (kp5.kd.trans hk) hU5 (by omega) (by omega) ?_)
     dsimp only
     by_cases hless:RK rk (arrOf st6) (lo+x)<RK rk (arrOf st6) (lo+x-1)
     ·rw[if_pos (decide_eq_true hless)]
      exact wpS_pure ⟨rfl,x,rfl,by omega,by omega,hs'⟩
     ·rw[if_neg (fun q=>hless (of_decide_eq_true q))]
      exact wpS_pure ⟨rfl,rfl,hs'.up (by omega) hless⟩
    ·rintro c st6 ⟨rfl,rfl,hs'⟩
     have e:max m nrem=nrem:=by omega
     rw[e] at hs' ⊢
     exact⟨rfl,nrem,rfl,h1,Nat.le_refl _,hs'⟩
    rintro c st6 ⟨rfl,n5,rfl,q1,q2,q3⟩
    exact wpS_pure (h n5 _ kp5 q1 q2 q3)
   ·rw[if_neg hneq]
    have kp4:=kp
    have d4:=hd
    have hz4:=hz
    refine wpS_bind (EG (rk:=rk) kp4 (Nat.le_refl _) (by omega) (by omega) fun st5 kp5 e5=>?_)
    have s5:=rest _ kp4 d4 st5 kp5 e5
    have hz5:=kp5.size
    have hU5:=hU.of_perm kp5.perm
    refine wpS_bind (wpS_mono (wpS_forRange (I:=fun x c st6=>st6=st5∧c=(none,x)∧Seg rk (arrOf st5) lo (lo+x))
     (Q:=fun c st6=>st6=st5∧∃n,c=(none,n)∧1≤n∧n≤nrem∧Seg rk (arrOf st5) lo (lo+n)) ?_ ?_ ⟨rfl,rfl,s5⟩) ?_)
    ·rintro x c st6 hax hxn ⟨rfl,rfl,hs'⟩
     dsimp only
     refine wpS_bind (BI C (kp5.kd.trans hk) hU5 (by omega) (by omega) ?_)
     dsimp only
     by_cases hless:RK rk (arrOf st6) (lo+x)<RK rk (arrOf st6) (lo+x-1)
     ·rw[if_pos (decide_eq_true hless)]
      exact wpS_pure ⟨rfl,x,rfl,by omega,by omega,hs'⟩
     ·rw[if_neg (fun q=>hless (of_decide_eq_true q))]
      exact wpS_pure ⟨rfl,rfl,hs'.up (by omega) hless⟩
    ·rintro c st6 ⟨rfl,rfl,hs'⟩
     have e:max m nrem=nrem:=by omega
     rw[e] at hs' ⊢
     exact⟨rfl,nrem,rfl,h1,Nat.le_refl _,hs'⟩
    rintro c st6 ⟨rfl,n5,rfl,q1,q2,q3⟩
    exact wpS_pure (h n5 _ kp5 q1 q2 q3)
  ·rw[if_neg hgt]
   have hd:Dsc rk (arrOf st') lo (lo+(n+1)):=Dsc.up (arr:=arrOf st') (fun i j q1 q2 q3=>by have:i=j:=(by omega);subst this;exact Int.le_refl _) hn1 (Int.le_of_lt hlt) fun _=>rfl
   have kp:=Kp.refl st' lo (lo+nrem)
   refine wpS_bind (wpS_lift (wpAny_rule ⟨rfl,?_⟩))
   refine wpS_bind (wpS_mono (wpS_forRange (I:=fun x c st3=>∃neq,c=(none,x,neq)∧Kp st' st3 lo (lo+nrem)∧Dsc rk (arrOf st3) lo (lo+x)∧neq+1≤x∧(∀i,lo+x- (neq+1)≤i→i<lo+x→RK rk (arrOf st3) i=RK rk (arrOf st3) (lo+x-1)))
    (Q:=fun c st3=>∃m neq,c=(none,m,neq)∧Kp st' st3 lo (lo+nrem)∧n+1≤m∧m≤nrem∧Dsc rk (arrOf st3) lo (lo+m)∧neq+1≤m∧(∀i,lo+m- (neq+1)≤i→i<lo+m→RK rk (arrOf st3) i=RK rk (arrOf st3) (lo+m-1))) ?_ ?_ ⟨0,rfl,kp,hd,by omega,fun i q1 q2=>by congr 1;omega⟩) ?_)
   ·rintro x c st3 hax hxn ⟨neq,rfl,kp,hd,hq,he⟩
    have hz:=kp.size
    have hU3:=hU.of_perm kp.perm
    dsimp only
    refine wpS_bind (BI C (kp.kd.trans hk) hU3 (by omega) (by omega) ?_)
    dsimp only
    by_cases hless:RK rk (arrOf st3) (lo+x)<RK rk (arrOf st3) (lo+x-1)
    ·rw[if_pos (decide_eq_true hless)]
     by_cases hneq:neq>0
     ·rw[if_pos hneq]
      refine wpS_bind (DQ (rk:=rk) kp (by omega) (by omega) (by omega) he fun st4 kp4 hRK=>?_)
      exact wpS_pure ⟨0,rfl,kp4,hd.up (by omega) (Int.le_of_lt hless) hRK,by omega,fun i q1 q2=>by congr 1;omega⟩
     ·rw[if_neg hneq]
      exact wpS_pure ⟨0,rfl,kp,hd.up (by omega) (Int.le_of_lt hless) fun _=>rfl,by omega,fun i q1 q2=>by congr 1;omega⟩
    ·rw[if_neg (fun q=>hless (of_decide_eq_true q))]
     refine wpS_bind (BI C (kp.kd.trans hk) hU3 (by omega) (by omega) ?_)
     dsimp only
     by_cases hlarger:RK rk (arrOf st3) (lo+x-1)<RK rk (arrOf st3) (lo+x)
     ·rw[if_pos (decide_eq_true hlarger)]
      exact wpS_pure ⟨x,neq,rfl,kp,hax,by omega,hd,hq,he⟩
     ·rw[if_neg (fun q=>hlarger (of_decide_eq_true q))]
      have heqx:RK rk (arrOf st3) (lo+x)=RK rk (arrOf st3) (lo+x-1):=by omega
      refine wpS_pure ⟨neq+1,rfl,kp,hd.up (by omega) (by omega) fun _=>rfl,by omega,fun i q1 q2=>?_⟩
      have e1:lo+(x+1)-1=lo+x:=by omega
      rw[e1]
      by_cases hix:i=lo+x
      ·rw[hix]
      ·rw[heqx];exact he i (by omega) (by omega)
   ·rintro c st3 ⟨neq,rfl,kp,hd,hq,he⟩
    have e:max (n+1) nrem=nrem:=by omega
    rw[e] at hd hq he ⊢
    exact⟨nrem,neq,rfl,kp,by omega,Nat.le_refl _,hd,hq,he⟩
   rintro c st3 ⟨m,neq,rfl,kp,hm1,hm2,hd,hq,he⟩
   have hz:=kp.size
   dsimp only
   have rest:∀(st4:SortSt),Kp st' st4 lo (lo+nrem)→Dsc rk (arrOf st4) lo (lo+m)→∀st5,Kp st' st5 lo (lo+nrem)→(∀k,RK rk (arrOf st5) k=if lo≤k∧k<lo+m then RK rk (arrOf st4) (lo+(lo+m)-1-k) else RK rk (arrOf st4) k)→Seg rk (arrOf st5) lo (lo+m):=fun st4 _ d4 st5 _ e5 i j q1 q2 q3=>by
    rw[e5,e5,if_pos (by omega),if_pos (by omega)]
    exact d4 _ _ (by omega) (by omega) (by omega)
   by_cases hneq:neq>0
   ·rw[if_pos hneq]
    refine wpS_bind (DQ (rk:=rk) kp (by omega) (by omega) (by omega) he fun st4 kp4 hRK=>?_)
    have d4:Dsc rk (arrOf st4) lo (lo+m):=fun i j q1 q2 q3=>by rw[hRK,hRK];exact hd i j q1 q2 q3
    have hz4:=kp4.size
    refine wpS_bind (EG (rk:=rk) kp4 (Nat.le_refl _) (by omega) (by omega) fun st5 kp5 e5=>?_)
    have s5:=rest _ kp4 d4 st5 kp5 e5
    have hz5:=kp5.size
    have hU5:=hU.of_perm kp5.perm
    refine wpS_bind (wpS_mono (wpS_forRange (I:=fun x c st6=>st6=st5∧c=(none,x)∧Seg rk (arrOf st5) lo (lo+x))
     (Q:=fun c st6=>st6=st5∧∃n,c=(none,n)∧1≤n∧n≤nrem∧Seg rk (arrOf st5) lo (lo+n)) ?_ ?_ ⟨rfl,rfl,s5⟩) ?_)
    ·rintro x c st6 hax hxn ⟨rfl,rfl,hs'⟩
     dsimp only
     refine wpS_bind (BI C (kp5.kd.trans hk) hU5 (by omega) (by omega) ?_)
     dsimp only
     by_cases hless:RK rk (arrOf st6) (lo+x)<RK rk (arrOf st6) (lo+x-1)
     ·rw[if_pos (decide_eq_true hless)]
      exact wpS_pure ⟨rfl,x,rfl,by omega,by omega,hs'⟩
     ·rw[if_neg (fun q=>hless (of_decide_eq_true q))]
      exact wpS_pure ⟨rfl,rfl,hs'.up (by omega) hless⟩
    ·rintro c st6 ⟨rfl,rfl,hs'⟩
     have e:max m nrem=nrem:=by omega
     rw[e] at hs' ⊢
     exact⟨rfl,nrem,rfl,h1,Nat.le_refl _,hs'⟩
    rintro c st6 ⟨rfl,n5,rfl,q1,q2,q3⟩
    exact wpS_pure (h n5 _ kp5 q1 q2 q3)
   ·rw[if_neg hneq]
    have kp4:=kp
    have d4:=hd
    have hz4:=hz
    refine wpS_bind (EG (rk:=rk) kp4 (Nat.le_refl _) (by omega) (by omega) fun st5 kp5 e5=>?_)
    have s5:=rest _ kp4 d4 st5 kp5 e5
    have hz5:=kp5.size
    have hU5:=hU.of_perm kp5.perm
    refine wpS_bind (wpS_mono (wpS_forRange (I:=fun x c st6=>st6=st5∧c=(none,x)∧Seg rk (arrOf st5) lo (lo+x))
     (Q:=fun c st6=>st6=st5∧∃n,c=(none,n)∧1≤n∧n≤nrem∧Seg rk (arrOf st5) lo (lo+n)) ?_ ?_ ⟨rfl,rfl,s5⟩) ?_)
    ·rintro x c st6 hax hxn ⟨rfl,rfl,hs'⟩
     dsimp only
     refine wpS_bind (BI C (kp5.kd.trans hk) hU5 (by omega) (by omega) ?_)
     dsimp only
     by_cases hless:RK rk (arrOf st6) (lo+x)<RK rk (arrOf st6) (lo+x-1)
     ·rw[if_pos (decide_eq_true hless)]
      exact wpS_pure ⟨rfl,x,rfl,by omega,by omega,hs'⟩
     ·rw[if_neg (fun q=>hless (of_decide_eq_true q))]
      exact wpS_pure ⟨rfl,rfl,hs'.up (by omega) hless⟩
    ·rintro c st6 ⟨rfl,rfl,hs'⟩
     have e:max m nrem=nrem:=by omega
     rw[e] at hs' ⊢
     exact⟨rfl,nrem,rfl,h1,Nat.le_refl _,hs'⟩
    rintro c st6 ⟨rfl,n5,rfl,q1,q2,q3⟩
    exact wpS_pure (h n5 _ kp5 q1 q2 q3)
end
end SrtG
namespace SrtG
local macro_rules | `(tactic| omega) => `(tactic| first | lia | omega)
open PySem PyProof.Rows
variable{rk:Keyed→Int}
abbrev Ph:=Nat×Nat×Nat
def Cov(rk:Keyed→Int)(arr:Array Keyed):Nat→List Ph→Nat→Prop
 |a,[],hi=>a=hi
 |a,e::l,hi=>e.1=a∧0<e.2.1∧Seg rk arr a (a+e.2.1)∧Cov rk arr (a+e.2.1) l hi
theorem Cov.le{arr:Array Keyed}:∀{l:List Ph} {a hi:Nat},Cov rk arr a l hi→a+l.length≤hi
 | [],a,hi,h=>by have:a=hi:=h;simp only[List.length_nil];omega
 |e::l,a,hi,h=>by have:=Cov.le h.2.2.2;have:=h.2.1;rw[List.length_cons];omega
theorem Cov.app{arr:Array Keyed}:∀{l1:List Ph} {l2:List Ph} {a hi:Nat},Cov rk arr a (l1++l2) hi↔∃m,Cov rk arr a l1 m∧Cov rk arr m l2 hi
 | [],l2,a,hi=> ⟨fun h=> ⟨a,rfl,h⟩,fun⟨m,h1,h2⟩=>by have:a=m:=h1;subst this;exact h2⟩
 |e::l1,l2,a,hi=> ⟨fun⟨h1,h2,h3,h4⟩=>by
   obtain⟨m,q1,q2⟩:=Cov.app.mp h4
   exact⟨m,⟨h1,h2,h3,q1⟩,q2⟩,fun⟨m,⟨h1,h2,h3,h4⟩,q2⟩=> ⟨h1,h2,h3,Cov.app.mpr ⟨m,h4,q2⟩⟩⟩
theorem Cov.cong{arr arr':Array Keyed}:∀{l:List Ph} {a hi:Nat},(∀x,a≤x→x<hi→RK rk arr' x=RK rk arr x)→Cov rk arr a l hi→Cov rk arr' a l hi
 | [],_,_,_,h=>h
 |e::l,a,hi,hx,⟨h1,h2,h3,h4⟩=>by
  have hl:=h4.le
  exact⟨h1,h2,fun x y q1 q2 q3=>by rw[hx x q1 (by omega),hx y (by omega) (by omega)];exact h3 x y q1 q2 q3,h4.cong fun x q1 q2=>hx x (by omega) q2⟩
theorem WD{p:Array Ph}{i:Nat}(h:i+1<p.size):∃l1 e1 e2 l2,p.toList=l1++e1::e2::l2∧l1.length=i∧p[i]?=some e1∧p[i+1]?=some e2:=by
 have hl:p.toList.length=p.size:=Array.length_toList
 have h1:i<p.toList.length:=by omega
 have h2:i+1<p.toList.length:=by omega
 refine⟨p.toList.take i,p.toList[i],p.toList[i+1],p.toList.drop (i+2),?_,?_,?_,?_⟩
 ·rw[←List.drop_eq_getElem_cons h2,←List.drop_eq_getElem_cons h1,List.take_append_drop]
 ·rw[List.length_take];omega
 ·rw[←Array.getElem?_toList];exact List.getElem?_eq_getElem h1
 ·rw[←Array.getElem?_toList];exact List.getElem?_eq_getElem h2
theorem WH{p:Array Ph}{i:Nat}{e e1 e2:Ph}{l1 l2:List Ph}(hp:p.toList=l1++e1::e2::l2)(hl:l1.length=i):((p.setIfInBounds i e).eraseIdxIfInBounds (i+1)).toList=l1++e::l2:=by
 have hz:i+1<p.size:=by
  rw[←Array.length_toList,hp,List.length_append,List.length_cons,List.length_cons];omega
 have hz':i+1< (p.setIfInBounds i e).size:=by rw[Array.size_setIfInBounds];exact hz
 unfold Array.eraseIdxIfInBounds
 rw[dif_pos hz',Array.toList_eraseIdx,Array.toList_setIfInBounds,hp]
 subst hl
 rw[List.set_append_right _ _ (Nat.le_refl _),Nat.sub_self,List.set_cons_zero,List.eraseIdx_append_of_length_le (by omega)]
 have e:l1.length+1-l1.length=1:=by omega
 rw[e]
 rfl
structure Bs(kd:SortKind)(a₀:Array Keyed)(st:SortSt):Prop where
 kd:kindOf st=kd
 fl:failedOf st=none
 perm:(arrOf st).toList.Perm a₀.toList
theorem Bs.size{kd:SortKind}{a₀:Array Keyed}{st:SortSt}(b:Bs kd a₀ st):(arrOf st).size=a₀.size:=by
 rw[←Array.length_toList,←Array.length_toList];exact b.perm.length_eq
theorem Bs.kp{kd:SortKind}{a₀:Array Keyed}{st st':SortSt}{lo hi:Nat}(b:Bs kd a₀ st)(k:Kp st st' lo hi):Bs kd a₀ st':=⟨k.kd.trans b.kd,k.fl.trans b.fl,k.perm.trans b.perm⟩
section
variable{prog:Program}{w:World}{A:Around}{E:Value→Shared→Prop}{s:Shared}{kd:SortKind}{U:Keyed→Prop}{a₀:Array Keyed}
theorem Ds{i hi:Nat}{st:SortSt}{Q:Bool→SortSt→Prop}(C:Pd prog w A E s kd U rk)(hU:AllU U a₀)(b:Bs kd a₀ st)(hc:Cov rk (arrOf st) 0 (pendingOf st).toList hi)(hhi:hi≤a₀.size)(hi1:i+1< (pendingOf st).size)
  (h:∀st',Bs kd a₀ st'→Cov rk (arrOf st') 0 (pendingOf st').toList hi→(pendingOf st').size+1=(pendingOf st).size→(∀x,hi≤x→RK rk (arrOf st') x=RK rk (arrOf st) x)→Q true st'):wpS (model prog w) A E s (mergeAt' i) Q st:=by
 obtain⟨l1,⟨s1,n1,p1⟩,⟨s2,n2,p2⟩,l2,hp,hl,e1,e2⟩:=WD hi1
 have hc0:=hc
 rw[hp] at hc0
 obtain⟨m,c1,q1,q2,q3,q4,q5,q6,q7⟩:=Cov.app.mp hc0
 dsimp only at q1 q2 q3 q4 q5 q6 q7
 subst q1
 have hle:=q7.le
 have hz:=b.size
 refine Jq C b.kd (hU.of_perm b.perm) b.fl e1 e2 q4 q2 q5 (by omega) (by rw[q4];exact q3) (by rw[q4];exact q6) fun st' k1 k2 k3 u=>?_
 have hj:=WH (e:=(s1,n1+n2,p1)) hp hl
 have c1le:=c1.le
 refine h st' ⟨k1,k2,u.perm.trans b.perm⟩ ?_ ?_ ?_
 ·rw[k3,hj]
  refine Cov.app.mpr ⟨s1,c1.cong fun x _ hx=>CO (u.out x (.inl hx)),rfl,by show 0<n1+n2;omega,?_,?_⟩
  ·show Seg rk (arrOf st') s1 (s1+(n1+n2))
   have:=u.seg
   rw[q4,Nat.add_assoc] at this
   exact this
  ·show Cov rk (arrOf st') (s1+(n1+n2)) l2 hi
   rw[←Nat.add_assoc]
   exact q7.cong fun x hx _=>CO (u.out x (.inr (by omega)))
 ·rw[←Array.length_toList,←Array.length_toList,k3,hj,hp,List.length_append,List.length_append,List.length_cons,List.length_cons,List.length_cons]
  omega
 ·intro x hx
  exact CO (u.out x (.inr (by omega)))
end
end SrtG
namespace SrtG
local macro_rules | `(tactic| omega) => `(tactic| first | lia | omega)
open PySem PyProof.Rows
variable{rk:Keyed→Int}
theorem Cov.shape{arr:Array Keyed}:∀{l l':List Ph} {a hi:Nat},l'.map (fun e=> (e.1,e.2.1))=l.map (fun e=> (e.1,e.2.1))→Cov rk arr a l hi→Cov rk arr a l' hi
 | [],[],_,_,_,h=>h
 |e::l,e'::l',a,hi,hm,⟨h1,h2,h3,h4⟩=>by
  rw[List.map_cons,List.map_cons] at hm
  injection hm with hm1 hm2
  injection hm1 with q1 q2
  exact⟨q1.trans h1,by rw[q2];exact h2,by rw[q2];exact h3,by rw[q2];exact h4.shape hm2⟩
 | [],_::_,_,_,hm,_=>by cases hm
 |_::_,[],_,_,hm,_=>by cases hm
theorem Cov.power{arr:Array Keyed}{p:Array Ph}{i pw hi:Nat}(h:Cov rk arr 0 p.toList hi):Cov rk arr 0 (p.modify i fun e=> (e.1,e.2.1,pw)).toList hi:=by
 refine h.shape ?_
 apply List.ext_getElem?
 intro j
 rw[List.getElem?_map,List.getElem?_map,Array.getElem?_toList,Array.getElem?_toList,Array.getElem?_modify]
 split
 ·cases p[j]?<;>rfl
 ·rfl
section
variable{prog:Program}{w:World}{A:Around}{E:Value→Shared→Prop}{s:Shared}{kd:SortKind}{U:Keyed→Prop}{a₀:Array Keyed}
theorem Pi{st:SortSt}{Q:Unit→SortSt→Prop}(C:Pd prog w A E s kd U rk)(hU:AllU U a₀)(b:Bs kd a₀ st)(hp:pendingOf st= #[])
  (h:∀st',Bs kd a₀ st'→Ex rk (arrOf st')→Q () st'):wpS (model prog w) A E s sortRuns' Q st:=by
 rw[sortRuns'_eq]
 refine wpS_bind (wpS_get ?_)
 dsimp only
 have hz:=b.size
 refine wpS_bind (wpS_mono (wpS_forRange
  (I:=fun x c st'=>∃lo,c=(none,lo)∧x≤lo∧lo≤(arrOf st).size∧Bs kd a₀ st'∧Cov rk (arrOf st') 0 (pendingOf st').toList lo)
  (Q:=fun c st'=>c.1=none∧Bs kd a₀ st'∧Cov rk (arrOf st') 0 (pendingOf st').toList (arrOf st).size) ?step ?fin ⟨0,rfl,Nat.le_refl _,Nat.zero_le _,b,by rw[hp];rfl⟩) ?post)
 case fin=>
  rintro c st' ⟨lo,rfl,h1,h2,bs,cv⟩
  have e:lo=(arrOf st).size:=by omega
  subst e
  exact⟨rfl,bs,cv⟩
 case step=>
  rintro x c st1 _ hx ⟨lo,rfl,h1,h2,bs,cv⟩
  dsimp only
  have hz1:=bs.size
  by_cases cl:lo≥(arrOf st).size
  ·rw[if_pos cl]
   have e:lo=(arrOf st).size:=by omega
   subst e
   exact wpS_pure ⟨rfl,bs,cv⟩
  rw[if_neg cl]
  have nextOf:∀(st3:SortSt) (n:Nat),Bs kd a₀ st3→Cov rk (arrOf st3) 0 (pendingOf st3).toList lo→0<n→lo+n≤(arrOf st).size→Seg rk (arrOf st3) lo (lo+n)→∀{c:Option PUnit×Nat},c=(none,lo+n)→∃lo',c=(none,lo')∧x+1≤lo'∧lo'≤(arrOf st).size∧Bs kd a₀ (setPending st3 ((pendingOf st3).push (lo,n,0)))∧Cov rk (arrOf (setPending st3 ((pendingOf st3).push (lo,n,0)))) 0 (pendingOf (setPending st3 ((pendingOf st3).push (lo,n,0)))).toList lo':=fun st3 n bs3 cv3 hpos hfit sg c hc=>by
   refine⟨lo+n,hc,by omega,hfit,⟨bs3.kd,bs3.fl,bs3.perm⟩,?_⟩
   show Cov rk (arrOf st3) 0 ((pendingOf st3).push (lo,n,0)).toList (lo+n)
   rw[Array.toList_push]
   exact Cov.app.mpr ⟨lo,cv3,rfl,hpos,sg,rfl⟩
  refine wpS_bind (LM C bs.kd (hU.of_perm bs.perm) (by omega) (by omega) fun n st2 kp2 hn1 hn2 sg2=>?_)
  have bs2:=bs.kp kp2
  have cv2:Cov rk (arrOf st2) 0 (pendingOf st2).toList lo:=by
   rw[kp2.pd]
   exact cv.cong fun x _ hx=>CO (kp2.out x (.inl hx))
  dsimp only
  by_cases cm:n<minRun' (arrOf st).size (arrOf st).size 0
  ·rw[if_pos cm]
   refine wpS_bind (wpS_lift (wpAny_rule ⟨rfl,?_⟩))
   have hz2:=bs2.size
   refine wpS_bind (LL (n:=min ((arrOf st).size-lo) (minRun' (arrOf st).size (arrOf st).size 0)) C bs2.kd (hU.of_perm bs2.perm) (by omega) (by omega) sg2 fun st3 kp3 sg3=>?_)
   rw[if_neg (by decide)]
   have bs3:=bs2.kp kp3
   have cv3:Cov rk (arrOf st3) 0 (pendingOf st3).toList lo:=by
    rw[kp3.pd]
    exact cv2.cong fun x _ hx=>CO (kp3.out x (.inl hx))
   have hpos:0<min ((arrOf st).size-lo) (minRun' (arrOf st).size (arrOf st).size 0):=by omega
   have hfit:lo+min ((arrOf st).size-lo) (minRun' (arrOf st).size (arrOf st).size 0)≤(arrOf st).size:=by omega
   refine wpS_bind (wpS_get ?_)
   cases hb:(pendingOf st3).back? with
   |none=>
    dsimp only
    exact wpS_bind (wpS_modify (wpS_pure (nextOf st3 _ bs3 cv3 hpos hfit sg3 rfl)))
   |some e=>
    obtain⟨s1,n1,p1⟩:=e
    dsimp only
    refine wpS_bind (wpS_mono (wpS_forRange (I:=fun _ c st4=>c=(none,())∧Bs kd a₀ st4∧Cov rk (arrOf st4) 0 (pendingOf st4).toList lo∧∀x,lo≤x→RK rk (arrOf st4) x=RK rk (arrOf st3) x)
     (Q:=fun c st4=>c=(none,())∧Bs kd a₀ st4∧Cov rk (arrOf st4) 0 (pendingOf st4).toList lo∧∀x,lo≤x→RK rk (arrOf st4) x=RK rk (arrOf st3) x) ?_ (fun _ _ q=>q) ⟨rfl,bs3,cv3,fun _ _=>rfl⟩) ?_)
    ·rintro y c st4 _ _ ⟨rfl,bs4,cv4,ou4⟩
     refine wpS_bind (wpS_get ?_)
     by_cases cp:(pendingOf st4).size>1
     ·rw[if_pos cp]
      obtain⟨o1,o2,o3⟩:=(pendingOf st4)[(pendingOf st4).size-2]
      have hge:(pendingOf st4)[(pendingOf st4).size-2]?=some (pendingOf st4)[(pendingOf st4).size-2]:=getElem?_pos _ _ (by omega)
      rw[hge]
      dsimp only
      by_cases co:(pendingOf st4)[(pendingOf st4).size-2].2.2≤power' (arrOf st).size (2*s1+n1) (2*s1+n1+n1+min ((arrOf st).size-lo) (minRun' (arrOf st).size (arrOf st).size 0)) (arrOf st).size
      ·rw[if_pos co]
       exact wpS_pure ⟨rfl,bs4,cv4,ou4⟩
      ·rw[if_neg co]
       refine wpS_bind (Ds C hU bs4 cv4 (by omega) (by omega) fun st5 bs5 cv5 _ ou5=>?_)
       rw[if_neg (by decide)]
       exact wpS_pure ⟨rfl,bs5,cv5,fun x hx=> (ou5 x hx).trans (ou4 x hx)⟩
     ·rw[if_neg cp]
      exact wpS_pure ⟨rfl,bs4,cv4,ou4⟩
    ·rintro c st4 ⟨rfl,bs4,cv4,ou4⟩
     dsimp only
     refine wpS_bind (wpS_modify ?_)
     refine wpS_bind (wpS_modify (wpS_pure ?_))
     have sg4:Seg rk (arrOf st4) lo (lo+min ((arrOf st).size-lo) (minRun' (arrOf st).size (arrOf st).size 0)):=fun i j q1 q2 q3=>by rw[ou4 i q1,ou4 j (by omega)];exact sg3 i j q1 q2 q3
     exact nextOf (setPending st4 ((pendingOf st4).modify ((pendingOf st4).size-1) fun e=> (e.1,e.2.1,power' (arrOf st).size (2*s1+n1) (2*s1+n1+n1+min ((arrOf st).size-lo) (minRun' (arrOf st).size (arrOf st).size 0)) (arrOf st).size))) _ ⟨bs4.kd,bs4.fl,bs4.perm⟩ (Cov.power cv4) hpos hfit sg4 rfl
  ·rw[if_neg cm]
   have bs3:=bs2
   have cv3:=cv2
   have sg3:=sg2
   have hpos:0<n:=by omega
   have hfit:lo+n≤(arrOf st).size:=by omega
   refine wpS_bind (wpS_get ?_)
   cases hb:(pendingOf st2).back? with
   |none=>
    dsimp only
    exact wpS_bind (wpS_modify (wpS_pure (nextOf st2 _ bs3 cv3 hpos hfit sg3 rfl)))
   |some e=>
    obtain⟨s1,n1,p1⟩:=e
    dsimp only
    refine wpS_bind (wpS_mono (wpS_forRange (I:=fun _ c st4=>c=(none,())∧Bs kd a₀ st4∧Cov rk (arrOf st4) 0 (pendingOf st4).toList lo∧∀x,lo≤x→RK rk (arrOf st4) x=RK rk (arrOf st2) x)
     (Q:=fun c st4=>c=(none,())∧Bs kd a₀ st4∧Cov rk (arrOf st4) 0 (pendingOf st4).toList lo∧∀x,lo≤x→RK rk (arrOf st4) x=RK rk (arrOf st2) x) ?_ (fun _ _ q=>q) ⟨rfl,bs3,cv3,fun _ _=>rfl⟩) ?_)
    ·rintro y c st4 _ _ ⟨rfl,bs4,cv4,ou4⟩
     refine wpS_bind (wpS_get ?_)
     by_cases cp:(pendingOf st4).size>1
     ·rw[if_pos cp]
      obtain⟨o1,o2,o3⟩:=(pendingOf st4)[(pendingOf st4).size-2]
      have hge:(pendingOf st4)[(pendingOf st4).size-2]?=some (pendingOf st4)[(pendingOf st4).size-2]:=getElem?_pos _ _ (by omega)
      rw[hge]
      dsimp only
      by_cases co:(pendingOf st4)[(pendingOf st4).size-2].2.2≤power' (arrOf st).size (2*s1+n1) (2*s1+n1+n1+n) (arrOf st).size
      ·rw[if_pos co]
       exact wpS_pure ⟨rfl,bs4,cv4,ou4⟩
      ·rw[if_neg co]
       refine wpS_bind (Ds C hU bs4 cv4 (by omega) (by omega) fun st5 bs5 cv5 _ ou5=>?_)
       rw[if_neg (by decide)]
       exact wpS_pure ⟨rfl,bs5,cv5,fun x hx=> (ou5 x hx).trans (ou4 x hx)⟩
     ·rw[if_neg cp]
      exact wpS_pure ⟨rfl,bs4,cv4,ou4⟩
    ·rintro c st4 ⟨rfl,bs4,cv4,ou4⟩
     dsimp only
     refine wpS_bind (wpS_modify ?_)
     refine wpS_bind (wpS_modify (wpS_pure ?_))
     have sg4:Seg rk (arrOf st4) lo (lo+n):=fun i j q1 q2 q3=>by rw[ou4 i q1,ou4 j (by omega)];exact sg3 i j q1 q2 q3
     exact nextOf (setPending st4 ((pendingOf st4).modify ((pendingOf st4).size-1) fun e=> (e.1,e.2.1,power' (arrOf st).size (2*s1+n1) (2*s1+n1+n1+n) (arrOf st).size))) _ ⟨bs4.kd,bs4.fl,bs4.perm⟩ (Cov.power cv4) hpos hfit sg4 rfl
 case post=>
  rintro⟨c1,c2⟩ st1 ⟨e,bs,cv⟩
  cases e
  dsimp only
  have done:∀st',Bs kd a₀ st'→Cov rk (arrOf st') 0 (pendingOf st').toList (arrOf st).size→(pendingOf st').size≤1→Ex rk (arrOf st'):=fun st' bs' cv' hl=>by
   have hz':=bs'.size
   intro i j hij hj
   rw[←Array.length_toList] at hl
   revert cv' hl
   generalize (pendingOf st').toList=l
   intro cv' hl
   match l,cv',hl with
   | [],cv',_=>
    have:0=(arrOf st).size:=cv'
    omega
   | [e],cv',_=>
    obtain⟨q1,q2,q3,q4⟩:=cv'
    have:0+e.2.1=(arrOf st).size:=q4
    exact q3 i j (by omega) hij (by omega)
   |_::_::_,_,hl=>simp only[List.length_cons] at hl;omega
  have hlen:=cv.le
  rw[Array.length_toList] at hlen
  refine wpS_bind (wpS_mono (wpS_forRange (I:=fun x c st'=>c=(none,())∧Bs kd a₀ st'∧Cov rk (arrOf st') 0 (pendingOf st').toList (arrOf st).size∧(pendingOf st').size+x≤(arrOf st).size)
   (Q:=fun c st'=>c=(none,())∧Bs kd a₀ st'∧Cov rk (arrOf st') 0 (pendingOf st').toList (arrOf st).size∧(pendingOf st').size≤1) ?_ ?_ ⟨rfl,bs,cv,by omega⟩) ?_)
  ·rintro x c st2 _ hx ⟨rfl,bs2,cv2,hm⟩
   refine wpS_bind (wpS_get ?_)
   by_cases cp:(pendingOf st2).size≤1
   ·rw[if_pos cp]
    exact wpS_pure ⟨rfl,bs2,cv2,cp⟩
   ·rw[if_neg cp]
    refine wpS_bind (Ds C hU bs2 cv2 (by omega) ?_ fun st5 bs5 cv5 hs5 _=>?_)
    ·split<;>split<;>omega
    ·rw[if_neg (by decide)]
     exact wpS_pure ⟨rfl,bs5,cv5,by omega⟩
  ·rintro c st2 ⟨rfl,bs2,cv2,hm⟩
   exact⟨rfl,bs2,cv2,by omega⟩
  ·rintro c st2 ⟨rfl,bs2,cv2,hm⟩
   exact wpS_pure (h _ bs2 (done _ bs2 cv2 hm))
end
end SrtG
namespace SrtG
open PySem PyProof.Rows
def LN(h:Heap)(v:Value)(a b:Int):Prop:=∃x o t u n,v=.ref x∧h.get? x=some o∧o.data=.seq #[.int a t,.int b u] n
def Mi(h:Heap)(k:Keyed):Int:=match k.1 with
  | .ref x=>match h.get? x with
    |some o=>match o.data with
     | .seq xs _=>match (xs[0]?:Option Value),(xs[1]?:Option Value) with
      |some (.int a _),some (.int b _)=>65536*a+b
      |_,_=>0
     |_=>0
    |_=>0
  |_=>0
theorem Ey{h:Heap}{k:Keyed}{a b:Int}(p:LN h k.1 a b):Mi h k=65536*a+b:=by
 obtain⟨x,o,t,u,n,e1,e2,e3⟩:=p
 unfold Mi
 rw[e1]
 dsimp only
 rw[e2]
 dsimp only
 rw[e3]
 rfl
def Up(h:Heap)(k:Keyed):Prop:=∃a b,LN h k.1 a b∧0≤b∧b<65536
variable{prog:Program}{w:World}{A:Around}{E:Value→Shared→Prop}{s:Shared}
theorem OC:Pd prog w A E s (tuples' true) (Up s.heap) (Mi s.heap):=by
 intro st x y Q hk hx hy h
 obtain⟨a,b,px,b0,b1⟩:=hx
 obtain⟨c,d,py,d0,d1⟩:=hy
 rw[Ey px,Ey py] at h
 obtain⟨p,o,t,u,n,e1,e2,e3⟩:=px
 obtain⟨p',o',t',u',n',e1',e2',e3'⟩:=py
 rw[lt'_eq]
 refine wpS_bind (wpS_get ?_)
 rw[hk,e1,e1']
 refine wpS_bind (wpS_lift (wpAny_attempt ?_))
 refine PySem.W.kat_lt e2 e3 e2' e3' ?_
 have fin:∀r:Bool,r=decide (65536*a+b<65536*c+d)→(s=s∧wpS (model prog w) A E s (match (Except.ok r:Except Value Bool) with
   | .ok b=>pure (some b)
   | .error e=>do
    modify (fun s=>SortSt.mk' (kindOf s) (arrOf s) (pendingOf s) (gallopOf s) (some e))
    pure none) Q st):=fun r hr=> ⟨rfl,by rw[hr];exact wpS_pure h⟩
 refine PySem.W.kat_cons (wpAny_eqBool_int ?_)
 refine PySem.W.kat_go (fun e=>?_) (fun e=>?_)
 ·have e':=eq_of_beq e
  refine PySem.W.kat_yes (PySem.W.kat_cons (wpAny_eqBool_int ?_))
  refine PySem.W.kat_go (fun q=>?_) (fun q=>?_)
  ·have q':=eq_of_beq q
   exact PySem.W.kat_yes (PySem.W.kat_nil (fin _ (by rw[e',q'];simp)))
  ·exact PySem.W.kat_no (PySem.W.kat_one _ _ (lt_int (fin _ (by congr 1;rw[e'];apply propext;constructor<;>intro<;>omega))))
 ·have e':a≠c:=fun q=>by rw[q] at e;simp at e
  refine PySem.W.kat_no (oneLt_int (fin _ ?_))
  congr 1
  apply propext
  constructor<;>intro<;>omega
open PySem.Calls PySem.W
def TupAt(h:Heap)(v:Value)(a b:Int):Prop:=∃x o t u n,v=.ref x∧h.get? x=some o∧o.cls=.type "tuple"∧o.data=.seq #[.int a t,.int b u] n
def TupsOk(h:Heap)(vs:List Value):Prop:=∀v,v∈vs→∃a b,TupAt h v a b∧0≤b∧b<65536
theorem TupAt.pair{h:Heap}{v:Value}{a b:Int}(t:TupAt h v a b):LN h v a b:=by
 obtain⟨x,o,t,u,n,e1,e2,_,e4⟩:=t
 exact⟨x,o,t,u,n,e1,e2,e4⟩
theorem TupsOk.kat{h:Heap}:∀{vs:List Value},TupsOk h vs→∃fs:List Value,KatTups h vs fs∧fs.length=vs.length∧∀v∈fs,∃a t,v=.int a t
 | [],_=> ⟨[],KatTups.nil,rfl,fun v hv=>by cases hv⟩
 |v::vs,ok=>by
  obtain⟨fs,k,hl,hf⟩:=TupsOk.kat (vs:=vs) fun v hv=>ok v (.tail _ hv)
  obtain⟨a,b,⟨x,o,t,u,n,rfl,e,hc,hd⟩,_,_⟩:=ok v (.head _)
  exact⟨.int a t::fs,KatTups.cons e hc hd rfl k,by rw[List.length_cons,List.length_cons,hl],fun v hv=>by
   rcases List.mem_cons.mp hv with rfl|hv
   ·exact⟨a,t,rfl⟩
   ·exact hf v hv⟩
theorem GR:∀(vs:List Value),vs.zip vs=vs.map fun v=> (v,v)
 | []=>rfl
 |v::vs=>by rw[List.zip_cons_cons,List.map_cons,GR vs]
variable{prog:Program}{w:World}{A:Around}{E:Value→Shared→Prop}{s:Shared}
theorem OD{vs:List Value}{Q:SortSt→Shared→Prop}(ok:TupsOk s.heap vs)
  (h:∀st',failedOf st'=none→((arrOf st').map (·.2)).toList.Perm vs→((arrOf st').map (·.2)).toList.Pairwise (fun x y=>Mi s.heap (x,x)≤Mi s.heap (y,y))→Q st' s):
  wpAny (model prog w) A ((sortRuns').run (SortSt.mk' (tuples' true) (vs.toArray.zip vs.toArray) #[] 7 none)) (fun r s'=>Q r.2 s') E s:=by
 have hz:(vs.toArray.zip vs.toArray)=(vs.map fun v=> (v,v)).toArray:=by
  apply Array.ext'
  rw[Array.toList_zip]
  show vs.zip vs=vs.map fun v=> (v,v)
  exact GR vs
 have hU:AllU (Up s.heap) (vs.toArray.zip vs.toArray):=fun i p e=>by
  rw[hz] at e
  have e':(vs.map fun v=> ((v,v):Keyed))[i]?=some p:=by rw[←Array.getElem?_toList] at e;exact e
  obtain⟨v,hv,rfl⟩:=List.mem_map.mp (List.mem_of_getElem? e')
  obtain⟨a,b,q1,q2,q3⟩:=ok v hv
  exact⟨a,b,q1.pair,q2,q3⟩
 have hwp:wpS (model prog w) A E s sortRuns' (fun _ st'=>Q st' s) (SortSt.mk' (tuples' true) (vs.toArray.zip vs.toArray) #[] 7 none):=by
  refine Pi (a₀:=vs.toArray.zip vs.toArray) (rk:=Mi s.heap) OC hU ⟨rfl,rfl,List.Perm.refl _⟩ rfl fun st' b srt=>?_
  have hpm:=b.perm
  rw[hz] at hpm
  have hsame:∀k,k∈(arrOf st').toList→k=(k.2,k.2):=fun k hk=>by
   obtain⟨v,_,rfl⟩:=List.mem_map.mp (hpm.mem_iff.mp hk)
   rfl
  refine h st' b.fl ?_ ?_
  ·rw[Array.toList_map]
   have:=hpm.map (fun k:Keyed=>k.2)
   rw[show((vs.map fun v=> ((v,v):Keyed)).toArray.toList.map fun k:Keyed=>k.2)=vs from by
    show(vs.map fun v=> ((v,v):Keyed)).map (fun k:Keyed=>k.2)=vs
    rw[List.map_map]
    exact List.map_id vs] at this
   exact this
  ·rw[Array.toList_map,List.pairwise_map]
   refine List.pairwise_iff_getElem.mpr fun i j hi hj hij=>?_
   have hi':i< (arrOf st').size:=by rw[←Array.length_toList];exact hi
   have hj':j< (arrOf st').size:=by rw[←Array.length_toList];exact hj
   have q:=srt i j (Nat.le_of_lt hij) hj'
   rw[Ap hi',Ap hj'] at q
   have e1:=hsame (arrOf st').toList[i] (List.getElem_mem hi)
   have e2:=hsame (arrOf st').toList[j] (List.getElem_mem hj)
   rw[←e1,←e2]
   exact q
 exact wpAny_mono hwp (fun r s' q=>by rw[q.1];exact q.2) fun _ _ e=>e
variable{prog:Program}{w:World}{A:Around}{E:Value→Shared→Prop}{s:Shared}
theorem TupsOk.kept{h h':Heap}{vs:List Value}(ok:TupsOk h vs)(k:∀b o,o.cls=.type "tuple"→h.get? b=some o→h'.get? b=some o):TupsOk h' vs:=fun v hv=>by
 obtain⟨a,b,⟨x,o,t,u,n,e1,e2,e3,e4⟩,q⟩:=ok v hv
 exact⟨a,b,⟨x,o,t,u,n,e1,k _ _ e3 e2,e3,e4⟩,q⟩
theorem TupsOk.rk{h h':Heap}{vs:List Value}(ok:TupsOk h vs)(k:∀b o,o.cls=.type "tuple"→h.get? b=some o→h'.get? b=some o){v:Value}(hv:v∈vs):Mi h' (v,v)=Mi h (v,v):=by
 obtain⟨a,b,t,q⟩:=ok v hv
 obtain⟨x,o,t',u,n,e1,e2,e3,e4⟩:=t
 rw[Ey (k:=(v,v)) (TupAt.pair ⟨x,o,t',u,n,e1,e2,e3,e4⟩),Ey (k:=(v,v)) (TupAt.pair ⟨x,o,t',u,n,e1,k _ _ e3 e2,e3,e4⟩)]
theorem LO{a:Addr}{vs:List Value}{n:Nat}{P:PySem.Fin→Shared→Prop}(ho:s.heap.get? a=some (seqObj "list" vs.toArray n))(ok:TupsOk s.heap vs)(h2:2≤vs.length)(hn:vs.length≤4096)
  (h:∀out c h',out.Perm vs→out.Pairwise (fun x y=>Mi s.heap (x,x)≤Mi s.heap (y,y))→h'.get? a=some (seqObj "list" (List.toArray out) c)→(∀b o,b≠a→s.heap.get? b=some o→h'.get? b=some o)→P (.done (.ret .none)) {s with heap:=h'}):
  wpAny (model prog w) A (Builtin.«list.sort» ⟨[.ref a],[]⟩) P E s:=by
 obtain⟨e1,ho1⟩:∃e1,(s.heap.update a (Obj.mapSeq fun _=> (#[]:Array Value))).get? a=some (seqObj "list" #[] e1):=⟨_,get?_update_seq ho fun _=> #[]⟩
 have keep:∀b o,b≠a→s.heap.get? b=some o→(((s.heap.update a (Obj.mapSeq fun _=> (#[]:Array Value))).push (seqObj "tuple" vs.toArray 0)).push (seqObj "list" #[] 0)).get? b=some o:=fun b o hb e=>
  Heap.get?_push_of_some _ (Heap.get?_push_of_some _ (by rw[Heap.get?_update_ne _ _ _ _ hb];exact e))
 have keepT:∀b o,o.cls=.type "tuple"→s.heap.get? b=some o→(((s.heap.update a (Obj.mapSeq fun _=> (#[]:Array Value))).push (seqObj "tuple" vs.toArray 0)).push (seqObj "list" #[] 0)).get? b=some o:=fun b o ht e=>by
  refine keep b o (fun q=>?_) e
  rw[q,ho] at e
  cases e
  exact absurd (show Value.type "list" =Value.type "tuple" from ht) (by decide)
 have ho3:(((s.heap.update a (Obj.mapSeq fun _=> (#[]:Array Value))).push (seqObj "tuple" vs.toArray 0)).push (seqObj "list" #[] 0)).get? a=some (seqObj "list" #[] e1):=Heap.get?_push_of_some _ (Heap.get?_push_of_some _ ho1)
 have ok3:=ok.kept keepT
 have rk3:=fun{v} (hv:v∈vs)=>ok.rk keepT hv
 rw[list_sort_plain]
 refine wpAny_bind (listItems_at ho rfl ?_)
 refine wpAny_bind (listUpdate_at ho rfl ?_ (by rw[List.size_toArray,sizeLine_eq];omega) (Nat.zero_le _))
 refine wpAny_bind (seqEpoch_at ho1 rfl ?_)
 refine wpAny_bind (wpAny_newTuple ?_ (by show vs.length≤_;rw[sizeLine_eq];omega))
 refine wpAny_bind (wpAny_newList ?_ (Nat.zero_le _))
 refine wpAny_holding ?_
 show wpAny (model prog w) A _ P E {s with heap:=((s.heap.update a (Obj.mapSeq fun _=> (#[]:Array Value))).push (seqObj "tuple" vs.toArray 0)).push (seqObj "list" #[] 0)}
 generalize hG:((s.heap.update a (Obj.mapSeq fun _=> (#[]:Array Value))).push (seqObj "tuple" vs.toArray 0)).push (seqObj "list" #[] 0)=G at keep ho3 ok3 rk3 ⊢
 dsimp only
 have hn2:¬vs.toArray.size<2:=by rw[List.size_toArray];omega
 rw[if_neg hn2,if_neg hn2]
 obtain⟨fs,kt,hl,hf⟩:=ok3.kat
 refine wpAny_bind (kat_kind (s:={s with heap:=G}) (T:=Value.type "int") kt (by omega) (fun v hv=>by
  obtain⟨x,t,rfl⟩:=hf v hv
  exact fun _ _ _ _ _ q=>wpAny_pure q) rfl ?_)
 refine wpAny_bind (wpAny_mono (OD (s:={s with heap:=G}) (Q:=fun st' s'=>s'={s with heap:=G}∧failedOf st'=none∧((arrOf st').map (·.2)).toList.Perm vs∧((arrOf st').map (·.2)).toList.Pairwise (fun x y=>Mi G (x,x)≤Mi G (y,y))) ok3 (fun st' a1 a2 a3=> ⟨rfl,a1,a2,a3⟩)) ?_ fun _ _ e=>e)
 rintro⟨⟨⟩,st'⟩ s' ⟨rfl,hfl,hpm,hpw⟩
 dsimp only
 have hsz:((arrOf st').map (·.2)).size=vs.length:=by rw[←Array.length_toList];exact hpm.length_eq
 obtain⟨c2,hc2⟩:∃c2,(G.update a (Obj.mapSeq fun _=> (arrOf st').map (·.2))).get? a=some (seqObj "list" ((arrOf st').map (·.2)) c2):=⟨_,get?_update_seq ho3 fun _=> (arrOf st').map (·.2)⟩
 refine wpAny_bind (seqEpoch_at ho3 rfl ?_)
 refine wpAny_bind (listUpdate_at ho3 rfl ?_ (Nat.zero_le _) (Nat.le_trans (Nat.le_of_eq hsz) (by rw[sizeLine_eq];omega)))
 rw[hfl]
 simp only[bne_self_eq_false,Bool.false_eq_true,if_false]
 refine wpAny_pure (h ((arrOf st').map (·.2)).toList c2 _ hpm ?_ hc2 fun b o hb e=>by rw[Heap.get?_update_ne _ _ _ _ hb];exact keep b o hb e)
 refine List.Pairwise.imp_of_mem (fun{x y} hx hy q=>?_) hpw
 rw[rk3 (hpm.mem_iff.mp hx),rk3 (hpm.mem_iff.mp hy)] at q
 exact q
end SrtG
namespace StT
open PySem PySem.SetTable PyProof.Rows
section
variable{prog:Program}{w:World}{A:Around}{E:Value→Shared→Prop}{s:Shared}
abbrev CQ(w:World):Obj:={cls:=.type "set",dict:=none,data:=.set #[] 0 (.fresh 0 0 (!w.params.followText "set-order"))}
theorem Pj(a:Value){Q₁:Value→Shared→Prop}(h:Q₁ (.ref s.heap.objs.size) {s with heap:=s.heap.push (CQ w)}):
  codeAny (model prog w) A (.call (.builtin "set.__new__") ⟨[.type "set",a],[]⟩) (wants Q₁ E) s:=by
 refine codeAny_of_tree ?_
 show wpAny _ A.in1 (do checkBuiltinCall "set.__new__" ⟨[.type "set",a],[]⟩;again (.builtin "set.__new__" ⟨[.type "set",a],[]⟩)) _ _ s
 refine wpAny_bind (wpAny_of_eq (PySem.F.newCall_set_1 a) (wpAny_pure ⟨plainId_quiet PySem.F.plain_set_new _,codeAny_builtin PySem.F.entry_set_new ?_⟩))
 rw[Around.under_plainId PySem.F.plain_set_new _]
 unfold Builtin.«set.__new__» Builtin.Frozenset.newClass
 have hsub:=sub_set_self
 obtain⟨hp,g,d,tk,os⟩:=s
 dsimp only
 wp_walk
 refine wpAny_askSetting (wpAny_pure ?_)
 dsimp only
 simp only[newObj]
 refine wpAny_bind (wpAny_alloc (wpAny_pure ?_))
 exact wpAny_pure h
theorem LP{T newId initId:String}{args:List Value}{Q Q₁:Value→Shared→Prop}(ft:TypeCalled T newId initId)
  (hct:checkTypeCall T ⟨args,[]⟩=pure ())
  (hnew:codeAny (model prog w) A.in1 (.call (.builtin newId) ⟨.type T::args,[]⟩) (wants Q₁ E) s)
  (hnext:∀obj s₁,Q₁ obj s₁→s₁.TypeIs obj T∧codeAny (model prog w) A.in1 (.call (.builtin initId) ⟨obj::args,[]⟩) (wants (fun r s₂=>r=.none∧Q obj s₂) E) s₁):
  wpAny (model prog w) A (call (.type T) args) Q E s:=by
 obtain⟨c,tl,hmro⟩:=ft.mro
 have hmade:=ft.made
 have hsub:=ft.sub
 refine wpAny_call (codeAny_of_tree ?_)
 show wpAny _ _ (callAny (.type T) _) _ _ _
 refine wpAny_pure ⟨Code.quiet_builtin _ (by decide+kernel),codeAny_builtin PySem.F.entry_type_call ?_⟩
 rw[Around.under_plain (weight_type_call_type T args []) rfl]
 have h1:=ft.notType
 have h2:=ft.canCreate
 repeat (any_goals (first|assumption|wp_step))
 refine codeAny_mono hnew fun r s₁ hr=>?_
 cases r with
 |error e=>exact hr
 |ok fl=>
  cases fl with
  |ret obj=>
   obtain⟨hT,hsi⟩:=hnext _ _ hr
   have hli:=ft.init.lookup
   have hbi:=ft.init.bind obj
   repeat (any_goals (first|assumption|wp_step))
   refine codeAny_mono hsi fun r₂ s₂ hr₂=>?_
   cases r₂ with
   |error e=>exact hr₂
   |ok fl₂=>
    cases fl₂ with
    |ret r=>
     obtain⟨rfl,hq⟩:=hr₂
     repeat (any_goals (first|assumption|wp_step))
    |_=>exact hr₂.elim
  |_=>exact hr.elim
theorem GS{l:Addr}{items:Array Value}{ps:List (List Int×Addr)}{Q:Value→Shared→Prop}
  (hh:A.handled=none) (hl:s.heap.IsList l items) (hps:items.toList=ps.map fun p=>Value.ref p.2) (hp:∀k x,(k,x)∈ps→IK prog w s.heap k x) (hz:ps.length≤300) (hu:A.units+8<cLine)
  (h:∀(h':Heap) (tk:Nat) (xs:List (List Int×Addr)),SetX prog w h' s.heap.objs.size xs→Ie ps xs→
   (∀b o,b<s.heap.objs.size→s.heap.get? b=some o→h'.get? b=some o)→Q (.ref s.heap.objs.size) {s with heap:=h',toks:=tk}):
  wpAny (model prog w) A (call (.type "set") [.ref l]) Q E s:=by
 refine LP (Q₁:=fun obj s₁=>obj=.ref s.heap.objs.size∧s₁={s with heap:=s.heap.push (CQ w)}) PySem.F.called_set (PySem.F.typeCall_set_1 _) (Pj _ ⟨rfl,rfl⟩) ?_
 rintro obj s₁ ⟨rfl,rfl⟩
 have hS:(s.heap.push (CQ w)).get? s.heap.objs.size=some (CQ w):=Heap.get?_push_size _ rfl
 have hT:Shared.TypeIs {s with heap:=s.heap.push (CQ w)} (.ref s.heap.objs.size) "set":=⟨_,hS,rfl⟩
 refine⟨hT,codeAny_call_builtin PySem.F.called_set.init.plain PySem.F.entry_set_init (check_set_init_1 hT ?_)⟩
 obtain⟨ol,hol,hcl,nl,hdl⟩:=hl
 obtain⟨ocls,odict,odata,oslots⟩:=ol
 simp only at hcl hdl
 subst hcl;subst hdl
 have hol':(s.heap.push (CQ w)).get? l=some {cls:=.type "list",dict:=odict,data:=.seq items nl,slots:=oslots}:=Heap.get?_push_of_some _ hol
 have hsls:=PySem.F.sub_list_set
 have hslf:=PySem.F.sub_list_frozenset
 have hne:(Value.type "list" ==Value.type "dict")=false:=by decide
 have hl1:(s.heap.push (CQ w)).IsList l items:=⟨_,hol',rfl,nl,rfl⟩
 unfold Builtin.«set.__init__» noKeywords Builtin.Frozenset.updateFrom
 generalize hPI:pyIter=PI
 wp_walk
 subst hPI
 refine wpAny_pyIter_list hl1 ?_
 refine wpAny_bind (wpAny_runValue ?_)
 have hlS:l<s.heap.objs.size:=Heap.lt_size hol
 have hneI:l≠(s.heap.push (CQ w)).objs.size:=by
  rw[Heap.size_push];exact Nat.ne_of_lt (Nat.lt_succ_of_lt hlS)
 have kp:∀b o,s.heap.get? b=some o→((s.heap.push (CQ w)).push {cls:=.type "list_iterator",data:=.fields #[.ref l,.int 0 0]}).get? b=some o:=fun b o e=>Heap.get?_push_of_some _ (Heap.get?_push_of_some _ e)
 refine Sl (a:=s.heap.objs.size) (l:=l) (ps:=ps) (by simpa using hh) hneI (by rw[Heap.size_push];exact Nat.ne_of_lt (Nat.lt_succ_self _)) (Nat.ne_of_gt hlS) hps hz (by
   show A.in1.in1.units+1<cLine
   exact Nat.lt_of_le_of_lt (show A.units+1+1+1≤A.units+8 by omega) hu) (ps.length-0) 0 _ [] rfl (Nat.zero_le _)
  ⟨_,Heap.get?_push_size _ rfl,rfl,rfl⟩ (hl1.push _) (fun k x hx=> ⟨Cm (hp k x hx) fun u e=>kp x u e,?_⟩) ⟨CQ w,#[],0,_,Heap.get?_push_of_some _ hS,⟨rfl,rfl,rfl⟩,rfl,rfl,fun i k x e=>by simp at e,List.nodup_nil,Tb.fresh _ _ _,rfl,(by show 0*5<7*3;decide),rfl⟩ ⟨fun p hp=>by simp at hp,fun k y hy=>by simp at hy,by simp⟩ ?_
 ·obtain⟨o',_,_,ho',_⟩:=hp k x hx
  have:=Heap.lt_size ho'
  rw[Heap.size_push]
  exact Nat.ne_of_lt (Nat.lt_succ_of_lt this)
 ·intro h' tk' xs' kk sx so
  refine wpAny_pure ?_
  show wpAny _ _ (ret Value.none) _ _ _
  refine wpAny_pure ⟨rfl,h h' tk' xs' sx so fun b o hb e=>kk b o (Nat.ne_of_lt hb) ?_ (kp b o e)⟩
  rw[Heap.size_push];exact Nat.ne_of_lt (Nat.lt_succ_of_lt hb)
end
open PySem.Calls PySem.W
section
variable{prog:Program}{w:World}{A:Around}{E:Value→Shared→Prop}{s:Shared}
theorem Pk{a:Addr}{vs:List Value}{n:Nat}{P:PySem.Fin→Shared→Prop}(ho:s.heap.get? a=some (seqObj "list" vs.toArray n))(h2:vs.length<2)
  (h:∀c h',h'.get? a=some (seqObj "list" vs.toArray c)→(∀b o,b≠a→s.heap.get? b=some o→h'.get? b=some o)→P (.done (.ret .none)) {s with heap:=h'}):
  wpAny (model prog w) A (Builtin.«list.sort» ⟨[.ref a],[]⟩) P E s:=by
 obtain⟨e1,ho1⟩:∃e1,(s.heap.update a (Obj.mapSeq fun _=> (#[]:Array Value))).get? a=some (seqObj "list" #[] e1):=⟨_,get?_update_seq ho fun _=> #[]⟩
 have keep:∀b o,b≠a→s.heap.get? b=some o→(((s.heap.update a (Obj.mapSeq fun _=> (#[]:Array Value))).push (seqObj "tuple" vs.toArray 0)).push (seqObj "list" #[] 0)).get? b=some o:=fun b o hb e=>
  Heap.get?_push_of_some _ (Heap.get?_push_of_some _ (by rw[Heap.get?_update_ne _ _ _ _ hb];exact e))
 have ho3:(((s.heap.update a (Obj.mapSeq fun _=> (#[]:Array Value))).push (seqObj "tuple" vs.toArray 0)).push (seqObj "list" #[] 0)).get? a=some (seqObj "list" #[] e1):=Heap.get?_push_of_some _ (Heap.get?_push_of_some _ ho1)
 rw[list_sort_plain]
 refine wpAny_bind (listItems_at ho rfl ?_)
 refine wpAny_bind (listUpdate_at ho rfl ?_ (by rw[List.size_toArray,sizeLine_eq];omega) (Nat.zero_le _))
 refine wpAny_bind (seqEpoch_at ho1 rfl ?_)
 refine wpAny_bind (wpAny_newTuple ?_ (by show vs.length≤_;rw[sizeLine_eq];omega))
 refine wpAny_bind (wpAny_newList ?_ (Nat.zero_le _))
 refine wpAny_holding ?_
 show wpAny (model prog w) A _ P E {s with heap:=((s.heap.update a (Obj.mapSeq fun _=> (#[]:Array Value))).push (seqObj "tuple" vs.toArray 0)).push (seqObj "list" #[] 0)}
 generalize hG:((s.heap.update a (Obj.mapSeq fun _=> (#[]:Array Value))).push (seqObj "tuple" vs.toArray 0)).push (seqObj "list" #[] 0)=G at keep ho3 ⊢
 dsimp only
 have hn2:vs.toArray.size<2:=by rw[List.size_toArray];omega
 rw[if_pos hn2,if_pos hn2]
 refine wpAny_bind (wpAny_pure ?_)
 refine wpAny_bind (wpAny_pure ?_)
 dsimp only
 have har:((vs.toArray.zip vs.toArray).map (·.2))=vs.toArray:=by
  apply Array.ext'
  rw[Array.toList_map,Array.toList_zip]
  show(vs.zip vs).map (·.2)=vs
  rw[SrtG.GR,List.map_map]
  exact List.map_id vs
 have har':(arrOf (SortSt.mk' general' (vs.toArray.zip vs.toArray) #[] 7 none)).map (·.2)=vs.toArray:=har
 rw[har']
 obtain⟨c2,hc2⟩:∃c2,(G.update a (Obj.mapSeq fun _=>vs.toArray)).get? a=some (seqObj "list" vs.toArray c2):=⟨_,get?_update_seq ho3 fun _=>vs.toArray⟩
 refine wpAny_bind (seqEpoch_at ho3 rfl ?_)
 refine wpAny_bind (listUpdate_at ho3 rfl ?_ (Nat.zero_le _) (by rw[List.size_toArray,sizeLine_eq];omega))
 show wpAny _ _ (if(e1 !=e1)=true then _ else _) _ _ _
 rw[if_neg (by simp)]
 exact wpAny_pure (h c2 _ hc2 fun b o hb e=>by rw[Heap.get?_update_ne _ _ _ _ hb];exact keep b o hb e)
theorem EH {α β : Type} {f : α → β} {l1 l2 : List β} (h : l1.Perm l2) : ∀ {xs : List α}, l2 = xs.map f → ∃ ys : List α, ys.Perm xs ∧ ys.map f = l1 := by
  induction h with
  | nil => intro xs e; cases xs with
    | nil => exact ⟨[], .refl _, rfl⟩
    | cons x xs => cases e
  | cons x _ ih => intro xs e; cases xs with
    | nil => cases e
    | cons y xs =>
      rw [List.map_cons] at e
      injection e with e1 e2
      obtain ⟨ys, h1, h2⟩ := ih e2
      exact ⟨y :: ys, h1.cons y, by rw [List.map_cons, h2, e1]⟩
  | swap x y l => intro xs e; match xs, e with
    | a :: b :: xs, e =>
      simp only [List.map_cons] at e
      injection e with e1 e2
      injection e2 with e2 e3
      exact ⟨b :: a :: xs, .swap _ _ _, by simp only [List.map_cons]; rw [← e1, ← e2, ← e3]⟩
  | trans _ _ ih1 ih2 => intro xs e
                         obtain ⟨ys, h1, h2⟩ := ih2 e
                         obtain ⟨zs, h3, h4⟩ := ih1 h2.symm
                         exact ⟨zs, h3.trans h1, h4⟩
theorem LQ{a:Addr}{xs:List (List Int×Addr)}{Q:Value→Shared→Prop}(hh:A.handled=none)(S:SetX prog w s.heap a xs)(hz:xs.length≤300)
  (hp:∀k x,(k,x)∈xs→∃p q,k=[p,q]∧0≤q∧q<65536)
  (h:∀(h':Heap) (tk:Nat) (ys:List (List Int×Addr)) (D:Addr) (c:Nat),s.heap.get? D=none→h'.get? D=some (seqObj "list" (ys.map fun p=>Value.ref p.2).toArray c)→(∀b o,s.heap.get? b=some o→h'.get? b=some o)→
   ys.Perm xs→ys.Pairwise (fun x y=>65536*x.1.getD 0 0+x.1.getD 1 0≤65536*y.1.getD 0 0+y.1.getD 1 0)→Q (.ref D) {s with heap:=h',toks:=tk}):
  wpAny (model prog w) A (call (.builtin "sorted") [.ref a]) Q E s:=by
 obtain⟨o,es,ep,t,S⟩:=S
 refine call_function_entry kind_sorted plain_sorted entry_sorted (args_sorted1 _) ?_
 unfold Builtin.«sorted»
 refine wpAny_bind (m:=checkCount "sorted" 1 1 _) (wpAny_pure ?_)
 refine wpAny_bind (kdu_collect (A:=A.in1) (Sm S.wk) hh S.get (by rw[S.size,sizeLine_eq];omega) fun h1 tk1 acc hk1 hacc=>?_)
 have hsz:acc.toList.length=xs.length:=by rw[Array.length_toList,hacc.1,S.size]
 have hacc2:acc.toList=(Dr w a ep es).toList.map (·.2):=by
  apply List.ext_getElem?
  intro i
  rw[List.getElem?_map]
  by_cases hi:i<acc.size
  ·have e1:acc[i]?=some acc[i]:=by simp[hi]
   obtain⟨hh',e2⟩:=hacc.2 i _ e1
   have e2':(Dr w a ep es).toList[i]?=some (hh',acc[i]):=by simpa using e2
   rw[e2']
   simpa using e1
  ·have h1':acc.toList[i]?=none:=by simp;omega
   have h2':(Dr w a ep es).toList[i]?=none:=by
    apply List.getElem?_eq_none
    rw[Array.length_toList,Ew,←hacc.1];omega
   rw[h1',h2'];rfl
 have hperm:acc.toList.Perm (xs.map fun p=>Value.ref p.2):=by
  rw[hacc2]
  refine((Hn w a ep es).map (·.2)).trans ?_
  rw[S.es,Nv,List.map_map]
  exact List.Perm.refl _
 have hIK:∀k x,(k,x)∈xs→IK prog w h1 k x:=fun k x hx=>by
  obtain⟨i,hi⟩:=List.getElem?_of_mem hx
  exact Cm (S.key i k x hi) fun u e=>hk1 x u e
 have tupAt:∀k x,(k,x)∈xs→∃p q,k=[p,q]∧SrtG.TupAt h1 (.ref x) p q∧0≤q∧q<65536:=fun k x hx=>by
  obtain⟨p,q,rfl,h0,h1'⟩:=hp k x hx
  obtain⟨o',items,n,ho',hc',hd',hi'⟩:=hIK _ x hx
  refine⟨p,q,rfl,?_,h0,h1'⟩
  generalize hL:items.toList=L at hi'
  cases hi' with
  |cons i1 i2=>
   cases i2 with
   |cons i3 i4=>
    cases i4
    obtain⟨t1,rfl⟩:=Et i1
    obtain⟨t2,rfl⟩:=Et i3
    have:items= #[.int p t1,.int q t2]:=by
     apply Array.ext'
     rw[hL]
    exact⟨x,o',t1,t2,n,rfl,ho',hc',by rw[hd',this]⟩
 refine wpAny_bind (wpAny_newList ?_ (by rw[hsz,sizeLine_eq];omega))
 have hoL:(h1.push (seqObj "list" acc.toList.toArray 0)).get? h1.objs.size=some (seqObj "list" acc.toList.toArray 0):=Heap.get?_push_size _ rfl
 have hDn:s.heap.get? h1.objs.size=none:=by
  cases e:s.heap.get? h1.objs.size with
  |none=>rfl
  |some o'=>exact absurd (Heap.lt_size (hk1 _ _ e)) (Nat.lt_irrefl _)
 have hkp:∀b o,h1.get? b=some o→(h1.push (seqObj "list" acc.toList.toArray 0)).get? b=some o:=fun b o e=>Heap.get?_push_of_some _ e
 obtain⟨ws,hw1,hw2⟩:=EH hperm rfl
 have fin:∀(out:List Value) (c:Nat) (h2:Heap),out.Perm acc.toList→out.Pairwise (fun x y=>SrtG.Mi (h1.push (seqObj "list" acc.toList.toArray 0)) (x,x)≤SrtG.Mi (h1.push (seqObj "list" acc.toList.toArray 0)) (y,y))→
   h2.get? h1.objs.size=some (seqObj "list" (List.toArray out) c)→(∀b o,b≠h1.objs.size→(h1.push (seqObj "list" acc.toList.toArray 0)).get? b=some o→h2.get? b=some o)→Q (.ref h1.objs.size) {s with heap:=h2,toks:=tk1}:=fun out c h2 pm pw hg hk=>by
  obtain⟨ys,y1,y2⟩:=EH (pm.trans hperm) rfl
  subst y2
  refine h h2 tk1 ys _ c hDn hg (fun b o e=>?_) y1 ?_
  ·have hlt:=Heap.lt_size (hk1 b o e)
   exact hk b o (Nat.ne_of_lt hlt) (hkp b o (hk1 b o e))
  ·rw[List.pairwise_map] at pw
   refine List.Pairwise.imp_of_mem (fun{x y} hx hy q=>?_) pw
   obtain⟨k1,x1⟩:=x
   obtain⟨k2,x2⟩:=y
   obtain⟨p,q',rfl,t1,_⟩:=tupAt k1 x1 (y1.mem_iff.mp hx)
   obtain⟨p2,q2,rfl,t2,_⟩:=tupAt k2 x2 (y1.mem_iff.mp hy)
   have keepT:∀{v:Value} {i j:Int},SrtG.TupAt h1 v i j→SrtG.TupAt (h1.push (seqObj "list" acc.toList.toArray 0)) v i j:=fun t=>by
    obtain⟨x,o,t,u,n,e1,e2,e3,e4⟩:=t
    exact⟨x,o,t,u,n,e1,hkp _ _ e2,e3,e4⟩
   rw[SrtG.Ey (k:=(Value.ref x1,Value.ref x1)) (keepT t1).pair,SrtG.Ey (k:=(Value.ref x2,Value.ref x2)) (keepT t2).pair] at q
   exact q
 refine wpAny_bind (wpAny_holding (wpAny_call_entry slot_list_sort ⟨_,hoL,rfl⟩ entry_list_sort ?body (args_list_sort _)))
 case body=>
  by_cases hlen:acc.toList.length<2
  ·refine Pk (s:={s with heap:=h1.push (seqObj "list" acc.toList.toArray 0),toks:=tk1}) hoL hlen fun c h2 hg hk=> ⟨_,rfl,wpAny_pure ⟨_,rfl,fin acc.toList c h2 (.refl _) ?_ hg hk⟩⟩
   generalize acc.toList=l at hlen
   match l,hlen with
   | [],_=>exact .nil
   | [x],_=>exact List.pairwise_singleton _ _
  ·refine SrtG.LO (s:={s with heap:=h1.push (seqObj "list" acc.toList.toArray 0),toks:=tk1}) hoL (fun v hv=>?_) (by omega) (by omega) fun out c h2 pm pw hg hk=> ⟨_,rfl,wpAny_pure ⟨_,rfl,fin out c h2 pm pw hg hk⟩⟩
   obtain⟨⟨k,x⟩,hx,rfl⟩:=List.mem_map.mp (hperm.mem_iff.mp hv)
   obtain⟨p,q,rfl,⟨x',o',t1,t2,n,e1,e2,e3,e4⟩,h0,h1'⟩:=tupAt k x hx
   exact⟨p,q,⟨x',o',t1,t2,n,e1,hkp _ _ e2,e3,e4⟩,h0,h1'⟩
end
end StT
namespace L2
open PySem PySem.Spec PyProof.Rows
section
variable{X:Cx}{pins:List (Addr×Obj)}{σ:St}{H:Hp}{s:Shared}{h':Heap}
theorem Inv.laidF{a:Addr}{o:HO}{t':Nat}(I:Inv X pins σ H s)(k:∀b u,s.heap.get? b=some u→h'.get? b=some u)(hp:s.heap.get? a=none)(new:ObjOk X.prog X.w (upd H a o) h' a o):
  Inv X pins σ (upd H a o) {s with heap:=h',toks:=t'}:=by
 have hn:H a=none:=by
  cases q:H a with
  |none=>rfl
  |some u=>
   obtain⟨ob,e⟩:=(I.hok a u q).obj
   rw[hp] at e;cases e
 have ne:∀b u,s.heap.get? b=some u→b≠a:=fun b u e z=>by rw[z,hp] at e;cases e
 refine I.un ⟨fun b u q _ _ _=>k b u q,fun b u q _ _ _=> ⟨u.slots,k b u q⟩,fun b u q n _=>by rw[AG (ne b u q)];exact n,fun b u q _=> ⟨u,k b u q⟩,fun b xs q=>by rw[AG (AL q hn)];exact q,fun b u xs q=>by rw[AG (AL q hn)];exact q,fun b ps q=> ⟨#[],by rw[AG (AL q hn),q];simp⟩⟩ ?_
 intro b u e
 by_cases hb:b=a
 ·subst hb;rw[AF] at e;cases e;exact new
 ·rw[AG hb] at e
  exact(I.hok b u e).stay (fun c v _ q=>k c v q) (fun c q=>by rw[AG (AL q hn)];exact q) fun c xs q=>by rw[AG (AL q hn)];exact q
def Yl(P:Program)(w:World)(a:Addr)(xs:List (List Int×Addr))(h:Heap):Prop:=∃o es ep t,h.get? a=some o∧o.ExactSet∧o.data=.set es ep t∧es.toList=StT.Nv xs P w∧(xs.map (·.1)).Nodup∧StT.Tb t (xs.map fun p=> (StT.tk P w).hash p.1)∧t.plain=true∧xs.length*5<t.mask*3∧t.led=!w.params.followText "set-order"
def SetO(P:Program)(w:World)(a:Addr)(xs:List (List Int×Addr)):HO:=.ext (Yl P w a xs)
theorem Sq{P:Program}{w:World}{H:Hp}{h:Heap}{a:Addr}{xs:List (List Int×Addr)}(S:StT.SetX P w h a xs):ObjOk P w H h a (SetO P w a xs):=by
 obtain⟨o,es,ep,t,S⟩:=S
 refine⟨⟨o,es,ep,t,S.get,S.ex,S.dat,S.es,S.nd,S.tb,S.pl,S.room,S.led⟩,⟨o,S.get⟩,fun h1 h2 ⟨o,es,ep,t,g,r⟩ hk=> ⟨o,es,ep,t,hk _ g,r⟩⟩
def Pl(K:PySem.W.Frag)(H:Hp)(xs:List (List Int×Addr)):Prop:=∀k x,(k,x)∈xs→Fs K H x (k.map V.int)
theorem Hr{prog:Program}{w:World}:∀{k:List Int} {us:List Value},Vals (k.map V.int) us→ItemsAre (intKind prog w) k us
 | [],us,r=>by rw[List.map_nil] at r;cases r;exact .nil
 |n::k,us,r=>by
  rw[List.map_cons] at r
  cases r with
  |cons r1 r2=>
   obtain⟨t,rfl⟩:=r1
   exact .cons (intKind_is _ _ _ _) (Hr r2)
theorem Inv.ik{x:Addr}{k:List Int}(I:Inv X pins σ H s)(h:Fs X.K H x (k.map V.int)):StT.IK X.prog X.w s.heap k x:=by
 obtain⟨its,r,⟨o,ho,hc,n,hd⟩,hz⟩:=I.tuple h
 exact⟨o,its.toArray,n,ho,hc,hd,by simpa using Hr r⟩
def bJ(X:Cx):List V→Hp→VK→Prop:=fun vs H Q=>∃a ps,vs=[.ref a]∧SqL X.K H a (ps.map fun p=>V.ref p.2)∧Pl X.K H ps∧ps.length≤300∧
 ∀p xs,H p=none→StT.Ie ps xs→(xs.map (·.1)).Nodup→Q (.ref p) (upd H p (SetO X.prog X.w p xs))
theorem Hs:∀{ps:List (List Int×Addr)} {us:List Value},Vals (ps.map fun p=>V.ref p.2) us→us=ps.map fun p=>Value.ref p.2
 | [],us,r=>by rw[List.map_nil] at r;cases r;rfl
 |p::ps,us,r=>by
  rw[List.map_cons] at r
  cases r with
  |cons r1 r2=>
   rw[Hs r2]
   have r1:_=Value.ref p.2:=r1
   rw[r1]
   rfl
theorem OE(hc:X.calm=true)(hu:X.A.units+8<cLine):Aw X (.type "set") (bJ X):=by
 intro pins s σ H vs us Q I r h
 obtain⟨a,ps,rfl,hl,hk,hz,q⟩:=h
 obtain⟨u,rfl,ru⟩:=Vals.one r
 cases ru
 obtain⟨its,rv,p,_⟩:=I.list hl
 refine StT.GS (ps:=ps) (I.ok.hd hc) p.isList (by simpa using Hs rv) (fun k x hx=>I.ik (hk k x hx)) hz hu fun h' tk xs sx so kp=>?_
 have hf:H s.heap.objs.size=none:=I.hok.fresh (Nat.le_refl _)
 have nd:(xs.map (·.1)).Nodup:=by obtain⟨_,_,_,_,S⟩:=sx;exact S.nd
 exact⟨.ref s.heap.objs.size,upd H s.heap.objs.size (SetO X.prog X.w s.heap.objs.size xs),I.laid (t':=tk) (fun b u e=>kp b u (Heap.lt_size e) e) (Nat.le_refl _) (Sq sx),rfl,q _ _ hf so nd⟩
def WJ(X:Cx):List V→Hp→VK→Prop:=fun vs H Q=>∃p xs,vs=[.ref p]∧H p=some (SetO X.prog X.w p xs)∧Pl X.K H xs∧xs.length≤300∧(∀k x,(k,x)∈xs→∃i j,k=[i,j]∧0≤j∧j<65536)∧
 ∀(q:Addr) (ys:List (List Int×Addr)),H q=none→ys.Perm xs→ys.Pairwise (fun x y=>65536*x.1.getD 0 0+x.1.getD 1 0≤65536*y.1.getD 0 0+y.1.getD 1 0)→Q (.ref q) (upd H q (.lst (ys.map fun p=>V.ref p.2)))
theorem Ht:∀(ps:List (List Int×Addr)),Vals (ps.map fun p=>V.ref p.2) (ps.map fun p=>Value.ref p.2)
 | []=> .nil
 |p::ps=> .cons rfl (Ht ps)
theorem Ii(hc:X.calm=true):Aw X (.builtin "sorted") (WJ X):=by
 intro pins s σ H vs us Q I r h
 obtain⟨p,xs,rfl,hp,hk,hz,h2,q⟩:=h
 obtain⟨u,rfl,ru⟩:=Vals.one r
 cases ru
 obtain⟨⟨o,es,ep,t,g1,g2,g3,g4,g5,g6,g7,g8,g9⟩,_,_⟩:=I.hok p _ hp
 refine StT.LQ (xs:=xs) (I.ok.hd hc) ⟨o,es,ep,t,g1,g2,g3,g4,fun i k x e=>I.ik (hk k x (List.mem_of_getElem? e)),g5,g6,g7,g8,g9⟩ hz h2 fun h' tk ys D c hD hg kp pm pw=>?_
 have hf:H D=none:=I.hok.none_of hD
 refine⟨.ref D,upd H D (.lst (ys.map fun p=>V.ref p.2)),I.laidF (t':=tk) kp hD ⟨?_,_,c,Ht ys,hg⟩,rfl,q D ys hf pm pw⟩
 rw[List.length_map,pm.length_eq,sizeLine_eq]
 omega
end
end L2
namespace ZpT
open PySem PySem.Spec PyProof.Rows
section
variable{prog:Program}{w:World}
end
section
variable{prog:Program}{w:World}{A:Around}{E:Value→Shared→Prop}{s:Shared}
variable{z TI TO i1 i2 l1 l2:Addr}{xs ys:Array Value}{S1 S2:Nat→Heap→Prop}
end
end ZpT
namespace L2
open PySem PySem.Spec PyProof.Rows
section
variable{X:Cx}
theorem Inv.turns{pins:List (Addr×Obj)}{σ:St}{H:Hp}{s:Shared}{h':Heap}{t':Nat}{ch:List Addr}(I:Inv X pins σ H s)(hf:∀b∈ch,Ft X pins H b)(k:∀b o,b∉ch→s.heap.get? b=some o→h'.get? b=some o):Inv X pins σ H {s with heap:=h',toks:=t'}:=by
 refine I.call' (s':={s with heap:=h',toks:=t'}) (ch:=ch) rfl ⟨fun b o e _ _ hb=>k b o hb e,fun b o e _ _ hb=> ⟨o.slots,k b o hb e⟩,fun _ _ _ n _=>n,fun b o e hb=> ⟨o,k b o hb e⟩,fun _ _ e=>e,fun _ _ _ e=>e,fun b ps e=> ⟨#[],by rw[e];simp⟩⟩ (I.hok.by_keep fun b o hb e=>k b o (fun z=>hb (hf b z).1) e) I.bare fun b hb=>?_
 obtain⟨_,q2,q3,q4,q5,q6⟩:=hf b hb
 exact⟨q4,q2,q5,q6⟩
end
open PySem.Calls
section
variable{X:Cx}
def aJ(K:PySem.W.Frag)(H:Hp)(a:Addr)(xs:List V):Prop:=SqL K H a xs∨Fs K H a xs
theorem Inv.walk{pins:List (Addr×Obj)}{σ:St}{H:Hp}{s:Shared}{a:Addr}{xs:List V}(I:Inv X pins σ H s)(hq:aJ X.K H a xs):∃its:List Value,Vals xs its∧a<s.heap.objs.size∧∀(A:Around) (E:Value→Shared→Prop) (Q:Value→Shared→Prop),A.handled=none→
  (∀(o:Obj) (St:Nat→Heap→Prop),Walks X.prog X.w A s.heap.objs.size [s.heap.objs.size,a] [s.heap.objs.size] its.length (fun i v=>its[i]?=some v) St→St 0 (s.heap.push o)→Q (.ref s.heap.objs.size) {s with heap:=s.heap.push o})→wpAny (model X.prog X.w) A (pyIter (.ref a)) Q E s:=by
 rcases hq with hq|hq
 ·obtain⟨its,rv,p,_⟩:=I.list hq
  have lt:a<s.heap.objs.size:=by obtain⟨_,_,e,_⟩:=p;exact Heap.lt_size e
  refine⟨its,rv,lt,fun A E Q hh h=>wpAny_pyIter_list p.isList ?_⟩
  have W:=Walks.list (prog:=X.prog) (w:=X.w) (A:=A) hh s.heap.objs.size a (Nat.ne_of_lt lt) its.toArray
  have W':Walks X.prog X.w A s.heap.objs.size [s.heap.objs.size,a] [s.heap.objs.size] its.length (fun i v=>its[i]?=some v) (fun i h=>h.IsListIter s.heap.objs.size a i∧h.IsList a its.toArray):=by simpa using W
  exact h _ _ W' ⟨⟨_,Heap.get?_push_size _ rfl,rfl,rfl⟩,p.isList.push _⟩
 ·obtain⟨its,rv,p,_⟩:=I.tuple hq
  have lt:a<s.heap.objs.size:=by obtain⟨_,e,_⟩:=p;exact Heap.lt_size e
  refine⟨its,rv,lt,fun A E Q hh h=>wpAny_pyIter_tuple (items:=its.toArray) p ?_⟩
  have W:=Walks.tuple (prog:=X.prog) (w:=X.w) (A:=A) hh s.heap.objs.size a (Nat.ne_of_lt lt) its.toArray
  have W':Walks X.prog X.w A s.heap.objs.size [s.heap.objs.size,a] [s.heap.objs.size] its.length (fun i v=>its[i]?=some v) (fun i h=>h.IsTupleIter s.heap.objs.size a i∧h.IsTuple a its.toArray):=by simpa using W
  have p':s.heap.IsTuple a its.toArray:=p
  exact h _ _ W' ⟨⟨_,Heap.get?_push_size _ rfl,rfl,rfl⟩,p'.at fun o e=>Heap.get?_push_of_some _ e⟩
theorem Pm{s:Shared}{o:Obj}{h':Heap}(hk:∀b x,b∉[s.heap.objs.size]→(s.heap.push o).get? b=some x→h'.get? b=some x):∀b x,s.heap.get? b=some x→h'.get? b=some x:=fun b x e=>
 hk b x (by simpa using Nat.ne_of_lt (Heap.lt_size e)) (Heap.get?_push_of_some _ e)
theorem Mj{bs:List Bool}:∀{us:List Value},Vals (bs.map V.bl) us→us=bs.map Value.bool:=by
 induction bs with
 |nil=>intro us r;rw[List.map_nil] at r;cases r;rfl
 |cons b bs ih=>
  intro us r
  rw[List.map_cons] at r
  cases r with
  |cons r1 r2=>
   cases r1
   rw[ih r2];rfl
theorem Jr(bs:List Bool):((List.range bs.length).all fun i=> (bs[i]?).getD true)=bs.all id:=LSm.range_all bs
theorem LR(bs:List Bool):((List.range bs.length).any fun i=> (bs[i]?).getD false)=bs.any id:=LSm.range_any bs
theorem Pn(hc:X.calm=true):Aw X (.builtin "all") (fun vs H Q=>∃(a:Addr) (bs:List Bool),vs=[.ref a]∧aJ X.K H a (bs.map V.bl)∧Q (.bl (bs.all id)) H):=by
 intro pins s σ H vs us Q I r h
 obtain⟨a,bs,rfl,hq,q⟩:=h
 obtain⟨u,rfl,ru⟩:=DC r
 cases ru
 obtain⟨its,rv,lt,wk⟩:=I.walk hq
 have e:=Mj rv
 refine call_all_walk (wk X.A.in1 _ _ (I.ok.hd hc) fun o St W st=> ⟨_,_,_,_,_,_,fun i=> (bs[i]?).getD true,rfl,W,st,fun i v s' Q' E' hP hQ=>?_,fun h' tk hk=>?_⟩)
 ·rw[e,List.getElem?_map] at hP
  cases hb:bs[i]? with
  |none=>rw[hb] at hP;cases hP
  |some b=>
   rw[hb] at hP
   cases hP
   simp only[hb,Option.getD_some] at hQ
   exact wpAny_truthy_bool hQ
 ·have e2:its.length=bs.length:=by rw[e,List.length_map]
  rw[e2,Jr]
  exact⟨.bl _,H,I.kept (t':=tk) (Pm hk),rfl,q⟩
theorem Po(hc:X.calm=true):Aw X (.builtin "any") (fun vs H Q=>∃(a:Addr) (bs:List Bool),vs=[.ref a]∧aJ X.K H a (bs.map V.bl)∧Q (.bl (bs.any id)) H):=by
 intro pins s σ H vs us Q I r h
 obtain⟨a,bs,rfl,hq,q⟩:=h
 obtain⟨u,rfl,ru⟩:=DC r
 cases ru
 obtain⟨its,rv,lt,wk⟩:=I.walk hq
 have e:=Mj rv
 refine call_any_walk (wk X.A.in1 _ _ (I.ok.hd hc) fun o St W st=> ⟨_,_,_,_,_,_,fun i=> (bs[i]?).getD false,rfl,W,st,fun i v s' Q' E' hP hQ=>?_,fun h' tk hk=>?_⟩)
 ·rw[e,List.getElem?_map] at hP
  cases hb:bs[i]? with
  |none=>rw[hb] at hP;cases hP
  |some b=>
   rw[hb] at hP
   cases hP
   simp only[hb,Option.getD_some] at hQ
   exact wpAny_truthy_bool hQ
 ·have e2:its.length=bs.length:=by rw[e,List.length_map]
  rw[e2,LR]
  exact⟨.bl _,H,I.kept (t':=tk) (Pm hk),rfl,q⟩
theorem FP:Aw X (.type "tuple") (fun vs H Q=>∃a xs,vs=[.ref a]∧SqL X.K H a xs∧∀p,H p=none→Q (.ref p) (upd H p (.tup xs))):=by
 intro pins s σ H vs us Q I r h
 obtain⟨a,xs,rfl,hq,q⟩:=h
 obtain⟨u,rfl,ru⟩:=DC r
 cases ru
 obtain⟨its,rv,p,hz⟩:=I.list hq
 have hl:=rv.length
 refine call_tuple_list p.isList (fun h' hk=>?_) (by simpa[←hl] using hz)
 have hn:s.heap.get? h'.objs.size=none:=by
  cases e:s.heap.get? h'.objs.size with
  |none=>rfl
  |some o=>exact absurd (Heap.lt_size (hk _ _ e)) (Nat.lt_irrefl _)
 exact⟨.ref h'.objs.size,upd H h'.objs.size (.tup xs),I.laidF (t':=s.toks) (fun b u e=>Heap.get?_push_of_some _ (hk b u e)) hn ⟨hz,its,rv,⟨_,Heap.get?_push_size _ rfl,rfl,_,rfl⟩⟩,rfl,q _ (I.hok.none_of hn)⟩
theorem LS:Aw X (.type "list") (fun vs H Q=>∃a xs,vs=[.ref a]∧aJ X.K H a xs∧∀p,H p=none→Q (.ref p) (upd H p (.lst xs))):=by
 intro pins s σ H vs us Q I r h
 obtain⟨a,xs,rfl,hq,q⟩:=h
 obtain⟨u,rfl,ru⟩:=DC r
 cases ru
 have hf:H s.heap.objs.size=none:=I.hok.fresh (Nat.le_refl _)
 have fin:∀(its:List Value) (h':Heap) (c:Nat),Vals xs its→xs.length≤sizeLine→(∀b o',s.heap.get? b=some o'→h'.get? b=some o')→h'.get? s.heap.objs.size=some {cls:=.type "list",dict:=none,data:=.seq its.toArray c,slots:=#[]}→EP X pins σ Q (.ref s.heap.objs.size) {s with heap:=h'}:=fun its h' c rv hz hk hD=>
  ⟨.ref s.heap.objs.size,upd H s.heap.objs.size (.lst xs),I.laid (t':=s.toks) hk (Nat.le_refl _) ⟨hz,its,c,rv,hD⟩,rfl,q _ hf⟩
 rcases hq with hq|hq
 ·obtain⟨its,rv,⟨o,n,ho,hc,hd,hdt⟩,hz⟩:=I.list hq
  have hl:=rv.length
  exact call_list_seq (hsz:=by simpa[←hl] using hz) a (.inl rfl) ho hc hdt fun h' c' hk hD=>fin its h' c' rv hz hk hD
 ·obtain⟨its,rv,⟨o,ho,hc,n,hdt⟩,hz⟩:=I.tuple hq
  have hl:=rv.length
  exact call_list_seq (hsz:=by simpa[←hl] using hz) a (.inr rfl) ho hc hdt fun h' c' hk hD=>fin its h' c' rv hz hk hD
end
end L2
namespace HT
open PySem PySem.Spec PyProof.Rows
def BL:List Int→List Int→Bool
 | [],_=>true
 |_::_,[]=>false
 |x::xs,y::ys=>if x=y then BL xs ys else decide (x≤y)
theorem Cp(x y:Int)(xs ys:List Int):BL (x::xs) (y::ys)=if x=y then BL xs ys else decide (x≤y):=rfl
theorem HI:BL [] []=true:=rfl
theorem GT(y:Int)(ys:List Int):BL [] (y::ys)=true:=rfl
theorem GU(x:Int)(xs:List Int):BL (x::xs) []=false:=rfl
section
open PySem.SeqAt
open PySem.AutoSeq1 (wpAny_loadPart')
open PySem.MeetsSeq PySem.MeetsSeq2 PySem.MeetsSeq3
end
section
variable{prog:Program}{w:World}{A:Around}{E:Value→Shared→Prop}{s:Shared}
end
end HT
namespace L2
open PySem PySem.Spec PyProof.Rows
section
variable{X:Cx}{e:Expr}{te:TE}{pos p2 p3 p4:Pos}
end
end L2
namespace L2.TL
open PySem PySem.Spec PyProof.Rows
inductive T where
 |non|bl (b:Bool)|int (i:Int)|str (x:Str)|tup (ts:List T)|lst (ts:List T)|frz (ts:List T)|dct|raw (v:V)
abbrev AQ:=Addr→Option (List T)
def BM(O:AQ)(a:Addr)(ts:List T):AQ:=fun b=>if b=a then some ts else O b
def DF(O:AQ)(a:Addr):AQ:=fun b=>if b=a then none else O b
theorem AJ{O:AQ}{a:Addr}{ts:List T}:BM O a ts a=some ts:=by unfold BM;rw[if_pos rfl]
theorem BC{O:AQ}{a b:Addr}{ts:List T}(h:b≠a):BM O a ts b=O b:=by unfold BM;rw[if_neg h]
theorem Cq{O:AQ}{a:Addr}{ts us:List T}:BM (BM O a ts) a us=BM O a us:=by
 funext b;unfold BM;split<;>rfl
theorem Cr{O:AQ}{a:Addr}:DF O a a=none:=by unfold DF;rw[if_pos rfl]
theorem DR{O:AQ}{a b:Addr}(h:b≠a):DF O a b=O b:=by unfold DF;rw[if_neg h]
mutual
inductive Rep (K:PySem.W.Frag) (O:AQ) (H:Hp):V→T→Prop
 |non:Rep K O H .non .non
 |bl (b:Bool):Rep K O H (.bl b) (.bl b)
 |int (i:Int):Rep K O H (.int i) (.int i)
 |str (x:Str):Rep K O H (.str x) (.str x)
 |tup {a:Addr} {xs:List V} {ts:List T}:H a=some (.tup xs)→Reps K O H xs ts→Rep K O H (.ref a) (.tup ts)
 |lst {a:Addr} {xs:List V} {ts:List T}:H a=some (.lst xs)→O a=none→Reps K O H xs ts→Rep K O H (.ref a) (.lst ts)
 |frz {a:Addr} {o:Obj} {xs:List V} {ts:List T}:H a=some (.frz o (.lst xs))→Reps K O H xs ts→Rep K O H (.ref a) (.frz ts)
 |dct {a:Addr}:H a=some (.dK [])→Rep K O H (.ref a) .dct
 |raw (v:V):Rep K O H v (.raw v)
inductive Reps (K:PySem.W.Frag) (O:AQ) (H:Hp):List V→List T→Prop
 |nil:Reps K O H [] []
 |cons {v:V} {t:T} {vs:List V} {ts:List T}:Rep K O H v t→Reps K O H vs ts→Reps K O H (v::vs) (t::ts)
end
section
variable{K:PySem.W.Frag}{O O' O1:AQ}{H H' H1:Hp}
mutual
theorem Rep.mono (hT:∀a o,H a=some o→(∀xs,o≠.lst xs)→H' a=some o) (hL:∀a xs,H a=some (.lst xs)→O a=none→H' a=some (.lst xs)∧O' a=none):∀{v:V} {t:T},Rep K O H v t→Rep K O' H' v t
 |_,_,.non=> .non
 |_,_,.bl b=> .bl b
 |_,_,.int i=> .int i
 |_,_,.str x=> .str x
 |_,_,.tup h r=> .tup (hT _ _ h fun _ z=>by cases z) (Reps.mono hT hL r)
 |_,_,.lst h o r=> .lst (hL _ _ h o).1 (hL _ _ h o).2 (Reps.mono hT hL r)
 |_,_,.frz h r=> .frz (hT _ _ h fun _ z=>by cases z) (Reps.mono hT hL r)
 |_,_,.dct h=> .dct (hT _ _ h fun _ z=>by cases z)
 |_,_,.raw v=> .raw v
theorem Reps.mono (hT:∀a o,H a=some o→(∀xs,o≠.lst xs)→H' a=some o) (hL:∀a xs,H a=some (.lst xs)→O a=none→H' a=some (.lst xs)∧O' a=none):∀{v:List V} {t:List T},Reps K O H v t→Reps K O' H' v t
 |_,_,.nil=> .nil
 |_,_,.cons h r=> .cons (Rep.mono hT hL h) (Reps.mono hT hL r)
end
theorem Reps.length:∀{vs:List V} {ts:List T},Reps K O H vs ts→vs.length=ts.length
 |_,_,.nil=>rfl
 |_,_,.cons _ r=>congrArg (· +1) r.length
theorem Reps.get:∀{vs:List V} {ts:List T} {i:Nat} {t:T},Reps K O H vs ts→ts[i]?=some t→∃v,vs[i]?=some v∧Rep K O H v t
 |_,_,_,_,.nil,e=>by simp at e
 |_,_,0,_,.cons h _,e=>by simp at e;subst e;exact⟨_,rfl,h⟩
 |_,_,i+1,t,.cons _ r,e=>by
  obtain⟨u,h1,h2⟩:=Reps.get (i:=i) (t:=t) r (by simpa using e)
  exact⟨u,by simpa using h1,h2⟩
theorem Reps.append:∀{vs ws:List V} {ts us:List T},Reps K O H vs ts→Reps K O H ws us→Reps K O H (vs++ws) (ts++us)
 |_,_,_,_,.nil,s=>s
 |_,_,_,_,.cons h r,s=> .cons h (r.append s)
theorem Reps.take:∀{vs:List V} {ts:List T} (n:Nat),Reps K O H vs ts→Reps K O H (vs.take n) (ts.take n)
 |_,_,0,_=> .nil
 |_,_,_+1,.nil=> .nil
 |_,_,n+1,.cons h r=> .cons h (r.take n)
theorem Reps.drop:∀{vs:List V} {ts:List T} (n:Nat),Reps K O H vs ts→Reps K O H (vs.drop n) (ts.drop n)
 |_,_,0,r=>r
 |_,_,_+1,.nil=> .nil
 |_,_,n+1,.cons h r=>r.drop n
theorem Reps.set{x:V}{t:T}(h:Rep K O H x t):∀{vs:List V} {ts:List T} (i:Nat),Reps K O H vs ts→Reps K O H (vs.set i x) (ts.set i t)
 |_,_,_,.nil=> .nil
 |_,_,0,.cons _ r=> .cons h r
 |_,_,i+1,.cons q r=> .cons q (Reps.set h i r)
theorem Reps.one{v:V}{t:T}(h:Rep K O H v t):Reps K O H [v] [t]:=.cons h .nil
def Kp(O:AQ)(H:Hp)(O':AQ)(H':Hp):Prop:=∀b o,H b=some o→O b=none→H' b=some o∧O' b=none
def OwnOk(K:PySem.W.Frag)(O:AQ)(H:Hp):Prop:=∀a ts,O a=some ts→∃xs,H a=some (.lst xs)∧Reps K O H xs ts
theorem OwnOk.free(w:OwnOk K O H){a:Addr}{o:HO}(h:H a=some o)(hn:∀xs,o≠.lst xs):O a=none:=by
 cases e:O a with
 |none=>rfl
 |some ts=>
  obtain⟨xs,e',_⟩:=w a ts e
  rw[h] at e'
  exact absurd (Option.some.inj e') (hn xs)
theorem OwnOk.none_of(w:OwnOk K O H){a:Addr}(h:H a=none):O a=none:=by
 cases e:O a with
 |none=>rfl
 |some ts=>
  obtain⟨xs,e',_⟩:=w a ts e
  rw[h] at e';cases e'
theorem Kp.refl:Kp O H O H:=fun _ _ h n=> ⟨h,n⟩
theorem Kp.trans(a:Kp O H O1 H1)(b:Kp O1 H1 O' H'):Kp O H O' H':=fun c o h n=>b c o (a c o h n).1 (a c o h n).2
theorem Kp.oth(k:Kp O H O' H')(w:OwnOk K O H){a:Addr}{o:HO}(h:H a=some o)(hn:∀xs,o≠.lst xs):H' a=some o:=(k a _ h (w.free h hn)).1
theorem Kp.lst(k:Kp O H O' H'){a:Addr}{xs:List V}(h:H a=some (.lst xs))(n:O a=none):H' a=some (.lst xs)∧O' a=none:=k a _ h n
theorem Rep.kp(k:Kp O H O' H')(w:OwnOk K O H){v:V}{t:T}(r:Rep K O H v t):Rep K O' H' v t:=r.mono (fun _ _ h hn=>k.oth w h hn) fun _ _=>k.lst
theorem Reps.kp(k:Kp O H O' H')(w:OwnOk K O H){v:List V}{t:List T}(r:Reps K O H v t):Reps K O' H' v t:=r.mono (fun _ _ h hn=>k.oth w h hn) fun _ _=>k.lst
structure Frm(K:PySem.W.Frag)(O:AQ)(H:Hp)(O':AQ)(H':Hp):Prop where
 kp:Kp O H O' H'
 own:∀b ts,O b=some ts→∃ts',O' b=some ts'
 ok:OwnOk K O' H'
theorem Frm.refl(w:OwnOk K O H):Frm K O H O H:=⟨.refl,fun _ ts e=> ⟨ts,e⟩,w⟩
theorem Frm.trans(a:Frm K O H O1 H1)(b:Frm K O1 H1 O' H'):Frm K O H O' H':=⟨a.kp.trans b.kp,fun c ts e=>by
 obtain⟨t1,e1⟩:=a.own c ts e
 exact b.own c t1 e1,b.ok⟩
theorem Au{p:Addr}{o:HO}(w:OwnOk K O H)(hp:H p=none):Kp O H O (upd H p o):=fun b u h n=> ⟨by rw[AG (AL h hp)];exact h,n⟩
theorem Frm.new{p:Addr}{o:HO}(w:OwnOk K O H)(hp:H p=none):Frm K O H O (upd H p o) where
 kp:=Au w hp
 own:=fun _ ts e=> ⟨ts,e⟩
 ok:=fun a ts e=>by
  obtain⟨xs,h,r⟩:=w a ts e
  exact⟨xs,by rw[AG (AL h hp)];exact h,r.kp (Au w hp) w⟩
theorem Ij{p:Addr}{o:HO}{ts:List T}(w:OwnOk K O H)(hp:H p=none):Kp O H (BM O p ts) (upd H p o):=fun b u h n=>by
 have:=AL h hp
 rw[AG this,BC this]
 exact⟨h,n⟩
theorem Frm.newO{p:Addr}{xs:List V}{ts:List T}(w:OwnOk K O H)(hp:H p=none)(r:Reps K O H xs ts):Frm K O H (BM O p ts) (upd H p (.lst xs)) where
 kp:=Ij w hp
 own:=fun b us e=>by
  by_cases hb:b=p
  ·exact⟨ts,by rw[hb,AJ]⟩
  ·exact⟨us,by rw[BC hb];exact e⟩
 ok:=fun a us e=>by
  by_cases hb:a=p
  ·subst hb
   rw[AJ] at e;cases e
   exact⟨xs,AF,r.kp (Ij w hp) w⟩
  ·rw[BC hb] at e
   obtain⟨ys,h,q⟩:=w a us e
   exact⟨ys,by rw[AG hb];exact h,q.kp (Ij w hp) w⟩
theorem LU{a:Addr}{o:HO}{ts us:List T}(ha:O a=some ts):Kp O H (BM O a us) (upd H a o):=fun b u h n=>by
 have:b≠a:=fun z=>by rw[z,ha] at n;cases n
 rw[AG this,BC this]
 exact⟨h,n⟩
theorem Frm.put{a:Addr}{xs:List V}{ts us:List T}(w:OwnOk K O H)(ha:O a=some ts)(r:Reps K O H xs us):Frm K O H (BM O a us) (upd H a (.lst xs)) where
 kp:=LU ha
 own:=fun b vs e=>by
  by_cases hb:b=a
  ·exact⟨us,by rw[hb,AJ]⟩
  ·exact⟨vs,by rw[BC hb];exact e⟩
 ok:=fun b vs e=>by
  by_cases hb:b=a
  ·subst hb
   rw[AJ] at e;cases e
   exact⟨xs,AF,r.kp (LU ha) w⟩
  ·rw[BC hb] at e
   obtain⟨ys,h,q⟩:=w b vs e
   exact⟨ys,by rw[AG hb];exact h,q.kp (LU ha) w⟩
theorem CA{a:Addr}:Kp O H (DF O a) H:=fun b u h n=> ⟨h,by
 by_cases hb:b=a
 ·rw[hb,Cr]
 ·rw[DR hb];exact n⟩
theorem OwnOk.drop{a:Addr}(w:OwnOk K O H):OwnOk K (DF O a) H:=fun b ts e=>by
 by_cases hb:b=a
 ·rw[hb,Cr] at e;cases e
 ·rw[DR hb] at e
  obtain⟨xs,h,r⟩:=w b ts e
  exact⟨xs,h,r.kp CA w⟩
theorem OwnOk.rep{a:Addr}{ts:List T}(w:OwnOk K O H)(e:O a=some ts):Rep K (DF O a) H (.ref a) (.lst ts):=by
 obtain⟨xs,h,r⟩:=w a ts e
 exact .lst h Cr (r.kp CA w)
end
def Rl(K:PySem.W.Frag)(O:AQ)(H:Hp)(σ:St)(ρ:List (Option T)):Prop:=σ.length=ρ.length∧∀(i:Nat) (t:T),ρ[i]?=some (some t)→∃v,σ[i]?=some (some v)∧Rep K O H v t
section
variable{K:PySem.W.Frag}{O O':AQ}{H H':Hp}{σ:St}{ρ:List (Option T)}
theorem Rl.kp(k:Kp O H O' H')(w:OwnOk K O H)(r:Rl K O H σ ρ):Rl K O' H' σ ρ:=⟨r.1,fun i t e=>by
 obtain⟨v,h1,h2⟩:=r.2 i t e
 exact⟨v,h1,h2.kp k w⟩⟩
theorem Rl.set{i:Nat}{v:V}{t:T}(r:Rl K O H σ ρ)(h:Rep K O H v t):Rl K O H (σ.set i (some v)) (ρ.set i (some t)):=⟨by simpa using r.1,fun j u e=>by
 by_cases hj:j=i
 ·subst hj
  have hl:j<ρ.length:=by
   have:=(List.getElem?_eq_some_iff.mp e).1
   simpa using this
  rw[List.getElem?_set_self hl] at e
  cases e
  exact⟨v,by rw[List.getElem?_set_self (by rw[r.1];exact hl)],h⟩
 ·rw[List.getElem?_set_ne (Ne.symm hj)] at e ⊢
  exact r.2 j u e⟩
end
structure Zx where
 X:Cx
 Oe:AQ
 He:Hp
 Xi:Value→AQ→Prop
abbrev Zx.K(Z:Zx):PySem.W.Frag:=Z.X.K
def Zx.W(Z:Zx):St→XK:=fun _ cls d H'=>d=none∧∃O',Z.Xi cls O'∧Frm Z.K Z.Oe Z.He O' H'
structure Asr(Z:Zx)(ρ:List (Option T))(O:AQ)(σ:St)(H:Hp):Prop where
 rl:Rl Z.K O H σ ρ
 fr:Frm Z.K Z.Oe Z.He O H
section
variable{Z:Zx}{ρ:List (Option T)}{O O':AQ}{σ:St}{H H':Hp}
theorem Asr.ok(a:Asr Z ρ O σ H):OwnOk Z.K O H:=a.fr.ok
theorem Asr.step(a:Asr Z ρ O σ H)(f:Frm Z.K O H O' H'):Asr Z ρ O' σ H':=⟨a.rl.kp f.kp a.ok,a.fr.trans f⟩
theorem Asr.refl(a:Asr Z ρ O σ H):Frm Z.K O H O H:=.refl a.ok
end
abbrev BR:=T→AQ→Prop
abbrev LV:=List T→AQ→Prop
abbrev Js:=Bool→AQ→Prop
def Acc(K:PySem.W.Frag)(O:AQ)(H:Hp)(Φ:BR)(Q:VK):Prop:=∀v H' t O',Φ t O'→Frm K O H O' H'→Rep K O' H' v t→Q v H'
def bK(K:PySem.W.Frag)(O:AQ)(H:Hp)(Φ:LV)(Q:List V→Hp→Prop):Prop:=∀vs H' ts O',Φ ts O'→Frm K O H O' H'→Reps K O' H' vs ts→Q vs H'
def AccT(K:PySem.W.Frag)(O:AQ)(H:Hp)(Φ:Js)(Q:Bool→Hp→Prop):Prop:=∀b H' O',Φ b O'→Frm K O H O' H'→Q b H'
def tW(Z:Zx)(ρ:List (Option T))(O:AQ)(Φ:BR):TE:=fun σ H Q=>Asr Z ρ O σ H∧Acc Z.K O H Φ Q
def bz(Z:Zx)(ρ:List (Option T))(O:AQ)(Φ:LV):TA:=fun σ H Q=>Asr Z ρ O σ H∧bK Z.K O H Φ Q
def Ym(Z:Zx)(ρ:List (Option T))(O:AQ)(Φ:Js):TT:=fun σ H Q=>Asr Z ρ O σ H∧AccT Z.K O H Φ Q
def WE(Z:Zx)(ρ:List (Option T))(O:AQ)(e:Expr)(Φ:BR):Prop:=PE Z.X e (tW Z ρ O Φ)
def WA(Z:Zx)(ρ:List (Option T))(O:AQ)(es:List Expr)(Φ:LV):Prop:=PA Z.X es (bz Z ρ O Φ)
def WT(Z:Zx)(ρ:List (Option T))(O:AQ)(e:Expr)(Φ:Js):Prop:=PT Z.X e (Ym Z ρ O Φ)
def WW(Z:Zx)(ρ:List (Option T))(O:AQ)(e:Expr)(Φ:Js):Prop:=PW Z.X e (Ym Z ρ O Φ)
def ET(Z:Zx)(ρ:List (Option T))(O:AQ)(e:Expr)(t:T):Prop:=∀Φ:BR,Φ t O→WE Z ρ O e Φ
def EA(Z:Zx)(ρ:List (Option T))(O:AQ)(es:List Expr)(ts:List T):Prop:=∀Φ:LV,Φ ts O→WA Z ρ O es Φ
def EB(Z:Zx)(ρ:List (Option T))(O:AQ)(e:Expr)(b:Bool):Prop:=∀Φ:Js,Φ b O→WT Z ρ O e Φ
theorem PE.weak{X:Cx}{e:Expr}{t t':TE}(h:PE X e t)(w:∀σ H Q,t' σ H Q→t σ H Q):PE X e t':=fun pins s σ H Q I q=>h pins s σ H Q I (w σ H Q q)
theorem PA.weak{X:Cx}{e:List Expr}{t t':TA}(h:PA X e t)(w:∀σ H Q,t' σ H Q→t σ H Q):PA X e t':=fun pos pins s σ H Q I q=>h pos pins s σ H Q I (w σ H Q q)
theorem PT.weak{X:Cx}{e:Expr}{t t':TT}(h:PT X e t)(w:∀σ H Q,t' σ H Q→t σ H Q):PT X e t':=fun pins s σ H Q I q=>h pins s σ H Q I (w σ H Q q)
theorem PW.weak{X:Cx}{e:Expr}{t t':TT}(h:PW X e t)(w:∀σ H Q,t' σ H Q→t σ H Q):PW X e t':=fun whole pins s σ H Q I q=>h whole pins s σ H Q I (w σ H Q q)
theorem PS.weak{X:Cx}{e:Stmt}{t t':TS}(h:PS X e t)(w:∀D σ H,t' D σ H→t D σ H):PS X e t':=fun pins s σ H D I q=>h pins s σ H D I (w D σ H q)
theorem PSs.weak{X:Cx}{e:List Stmt}{t t':TS}(h:PSs X e t)(w:∀D σ H,t' D σ H→t D σ H):PSs X e t':=fun pins s σ H D I q=>h pins s σ H D I (w D σ H q)
def tX(Z:Zx)(ρ:List (Option T))(e:Expr):TE:=fun σ H Q=>∃O Φ,WE Z ρ O e Φ∧tW Z ρ O Φ σ H Q
theorem Ac{Z:Zx}{ρ:List (Option T)}{e:Expr}:PE Z.X e (tX Z ρ e):=fun pins s σ H Q I ⟨_,_,w,q⟩=>w pins s σ H Q I q
def cV(Z:Zx)(ρ:List (Option T))(e:List Expr):TA:=fun σ H Q=>∃O Φ,WA Z ρ O e Φ∧bz Z ρ O Φ σ H Q
theorem FW{Z:Zx}{ρ:List (Option T)}{e:List Expr}:PA Z.X e (cV Z ρ e):=fun pos pins s σ H Q I ⟨_,_,w,q⟩=>w pos pins s σ H Q I q
def cW(Z:Zx)(ρ:List (Option T))(e:Expr):TT:=fun σ H Q=>∃O Φ,WW Z ρ O e Φ∧Ym Z ρ O Φ σ H Q
theorem Yn{Z:Zx}{ρ:List (Option T)}{e:Expr}:PW Z.X e (cW Z ρ e):=fun whole pins s σ H Q I ⟨_,_,w,q⟩=>w whole pins s σ H Q I q
section
variable{Z:Zx}{ρ:List (Option T)}{O:AQ}{e a b:Expr}{es:List Expr}{Φ Φ':BR}{pos:Pos}{t ta tb:T}{ts:List T}
theorem Acc.mono{K:PySem.W.Frag}{H:Hp}{Q:VK}(h:Acc K O H Φ' Q)(w:∀t O',Φ t O'→Φ' t O'):Acc K O H Φ Q:=fun v H' t O' p=>h v H' t O' (w t O' p)
theorem Acc.step{K:PySem.W.Frag}{H H1:Hp}{O1:AQ}{Q:VK}(h:Acc K O H Φ Q)(f:Frm K O H O1 H1):Acc K O1 H1 Φ Q:=fun v H' t O' p f' r=>h v H' t O' p (f.trans f') r
theorem AccT.step{K:PySem.W.Frag}{H H1:Hp}{O1:AQ}{Φ:Js}{Q:Bool→Hp→Prop}(h:AccT K O H Φ Q)(f:Frm K O H O1 H1):AccT K O1 H1 Φ Q:=fun v H' O' p f'=>h v H' O' p (f.trans f')
theorem Dd(h:WE Z ρ O e Φ)(w:∀t O',Φ t O'→Φ' t O'):WE Z ρ O e Φ':=PE.weak h fun _ _ _ q=> ⟨q.1,q.2.mono w⟩
theorem ET.we(h:ET Z ρ O e t)(p:Φ t O):WE Z ρ O e Φ:=h Φ p
theorem WK{i:Nat}{x:Str}(hN:Z.X.N[i]?=some x)(hv:UZ Z.X.env.scope x)(e:ρ[i]?=some (some t))(p:Φ t O)(hd:(x==("__debug__" :Str))=false:=by decide)(hcd:(x==("__classdict__" :Str))=false:=by decide):WE Z ρ O (.Name x pos) Φ:=
 PE.weak (Ob hN hv hd hcd) fun σ H Q q=>by
  obtain⟨v,h1,h2⟩:=q.1.rl.2 i t e
  exact⟨v,h1,q.2 v H t O p q.1.refl h2⟩
theorem ev(i:Nat){x:Str}(e:ρ[i]?=some (some t):=by rfl)(hN:Z.X.N[i]?=some x:=by rfl)(hv:UZ Z.X.env.scope x:=by first|exact Or.inl rfl|exact Or.inr (Or.inl rfl)|exact Or.inr (Or.inr rfl))(hd:(x==("__debug__" :Str))=false:=by decide)
  (hcd:(x==("__classdict__" :Str))=false:=by decide):ET Z ρ O (.Name x pos) t:=fun _ p=>WK hN hv e p hd hcd
theorem LW{v:V}(h:PE Z.X e (tC v))(r:∀O H,Rep Z.K O H v t):ET Z ρ O e t:=fun _ p=>PE.weak h fun _ H _ q=>q.2 v H _ O p q.1.refl (r O H)
theorem AB{i:Int}{j:Nat}:ET Z ρ O (.Constant (.int i) j pos) (.int i):=LW IL fun _ _=> .int i
theorem Mk{i:Bool}{j:Nat}:ET Z ρ O (.Constant (.bool i) j pos) (.bl i):=LW Oc fun _ _=> .bl i
theorem BU{j:Nat}:ET Z ρ O (.Constant .none j pos) .non:=LW VQ fun _ _=> .non
theorem AK{x:Str}{j:Nat}:ET Z ρ O (.Constant (.str x) j pos) (.str x):=LW CJ fun _ _=> .str x
theorem Ml{x:Str}{i:Int}(hm:∃t:Tok,Z.X.mg x=some (.int i t))(hg:Gl Z.X x:=by rfl)(hd:(x==("__debug__" :Str))=false:=by decide):ET Z ρ O (.Name x pos) (.int i):=by
 cases hm with
 |intro t hm=>exact LW (BO (v:=.int i) hg hm ⟨t,rfl⟩ hd) fun _ _=> .int i
theorem Yo{x:Str}{n:String}(hm:Z.X.mg x=none)(hv:bootBuiltins x=some (.type n))(hg:Gl Z.X x:=by rfl)(hn:x≠"__name__":=by decide)(hd:(x==("__debug__" :Str))=false:=by decide):ET Z ρ O (.Name x pos) (.raw (.ty n)):=
 LW (ML (v:=.ty n) hg hm hv rfl hn hd) fun _ _=> .raw _
def RT(K:PySem.W.Frag)(r:R2)(ta tb:T)(O:AQ)(Φ:BR):Prop:=∀H v w Q,OwnOk K O H→Rep K O H v ta→Rep K O H w tb→Acc K O H Φ Q→r v w H Q
def RP(K:PySem.W.Frag)(r:R2)(ta tb:T)(O:AQ)(t:T):Prop:=∀Φ:BR,Φ t O→RT K r ta tb O Φ
theorem Ik{r:R2}{σ:St}{H:Hp}{Q:VK}(q:tW Z ρ O Φ σ H Q)(h:WE Z ρ O a fun ta O1=>WE Z ρ O1 b fun tb O2=>RT Z.K r ta tb O2 Φ):YM r (tX Z ρ a) (tX Z ρ b) σ H Q:=
 ⟨O,_,h,q.1,fun v H1 ta O1 p f1 r1=> ⟨O1,_,p,q.1.step f1,fun w H2 tb O2 p2 f2 r2=>p2 H2 v w Q f2.ok (r1.kp f2.kp f1.ok) r2 (q.2.step (f1.trans f2))⟩⟩
theorem CB{op:Operator}{r:R2}(ho:Bv Z.X (binaryOp op) r)(h:WE Z ρ O a fun ta O1=>WE Z ρ O1 b fun tb O2=>RT Z.K r ta tb O2 Φ):WE Z ρ O (.BinOp a op b pos) Φ:=
 PE.weak (Uc ho Ac Ac) fun _ _ _ q=>Ik q h
theorem WL{op:CmpOp}{r:R2}(ho:Bv Z.X (compareOp op) r)(hm:behindInMarks op b=false)(h:WE Z ρ O a fun ta O1=>WE Z ρ O1 b fun tb O2=>RT Z.K r ta tb O2 Φ):WE Z ρ O (.Compare a [op] [b] pos) Φ:=
 PE.weak (SM ho Ac Ac hm) fun _ _ _ q=>Ik q h
theorem EJ{op:Operator}{r:R2}(ho:Bv Z.X (binaryOp op) r)(hp:RP Z.K r ta tb O t)(ha:ET Z ρ O a ta)(hb:ET Z ρ O b tb):ET Z ρ O (.BinOp a op b pos) t:=fun Φ p=>CB ho (ha _ (hb _ (hp Φ p)))
theorem GV{op:CmpOp}{r:R2}(ho:Bv Z.X (compareOp op) r)(hm:behindInMarks op b=false)(hp:RP Z.K r ta tb O t)(ha:ET Z ρ O a ta)(hb:ET Z ρ O b tb):ET Z ρ O (.Compare a [op] [b] pos) t:=fun Φ p=>WL ho hm (ha _ (hb _ (hp Φ p)))
theorem Jt{r:R2}(ho:Xs Z.X r)(hs:Ce b)(h:WE Z ρ O a fun ta O1=>WE Z ρ O1 b fun tb O2=>RT Z.K r ta tb O2 Φ):WE Z ρ O (.Subscript a b pos) Φ:=
 PE.weak (Ox ho Ac Ac hs) fun _ _ _ q=>Ik q h
theorem Mm{r:R2}(ho:Xs Z.X r)(hs:Ce b)(hp:RP Z.K r ta tb O t)(ha:ET Z ρ O a ta)(hb:ET Z ρ O b tb):ET Z ρ O (.Subscript a b pos) t:=fun Φ p=>Jt ho hs (ha _ (hb _ (hp Φ p)))
theorem Av{Φ:LV}(p:Φ [] O):WA Z ρ O [] Φ:=PA.weak Ax fun _ H _ q=>q.2 [] H [] O p q.1.refl .nil
theorem Cu{Φ:LV}(h:WE Z ρ O e fun t O1=>WA Z ρ O1 es fun ts O2=>Φ (t::ts) O2)(hs:starEach (e::es) Z.X.env=(false,eval e Z.X.env)::starEach es Z.X.env:=by rfl):WA Z ρ O (e::es) Φ:=
 PA.weak (AM Ac FW hs) fun σ H Q q=> ⟨O,_,h,q.1,fun v H1 t O1 p f1 r1=> ⟨O1,_,p,q.1.step f1,fun vs H2 ts O2 p2 f2 r2=>q.2 _ H2 _ O2 p2 (f1.trans f2) (.cons (r1.kp f2.kp f1.ok) r2)⟩⟩
theorem AC:EA Z ρ O [] []:=fun _ p=>Av p
theorem AN(h:ET Z ρ O e t)(hr:EA Z ρ O es ts)(hs:starEach (e::es) Z.X.env=(false,eval e Z.X.env)::starEach es Z.X.env:=by rfl):EA Z ρ O (e::es) (t::ts):=fun Φ p=>Cu (h _ (hr _ p)) hs
theorem LX{x1}(h:WA Z ρ O es fun ts O1=>ts.length≤sizeLine∧Φ (.tup ts) O1):WE Z ρ O (.Tuple es x1 pos) Φ:=
 PE.weak (Vg h) fun σ H Q q=> ⟨q.1,fun vs H1 ts O1 p f r=> ⟨by rw[r.length];exact p.1,fun a ha=>q.2 _ _ _ O1 p.2 (f.trans (.new f.ok ha)) (.tup AF (r.kp (Au f.ok ha) f.ok))⟩⟩
theorem Dt{x1}(h:EA Z ρ O es ts)(hl:ts.length≤sizeLine:=by first| (show 1≤sizeLine;decide)| (show 2≤sizeLine;decide)| (show 3≤sizeLine;decide)| (show 0≤sizeLine;decide)):ET Z ρ O (.Tuple es x1 pos) (.tup ts):=fun _ p=>LX (h _ ⟨hl,p⟩)
theorem GW(h:WA Z ρ O es fun ts O1=>ts.length≤sizeLine∧Φ (.lst ts) O1):WE Z ρ O (.List es pos) Φ:=
 PE.weak (Fw h) fun σ H Q q=> ⟨q.1,fun vs H1 ts O1 p f r=> ⟨by rw[r.length];exact p.1,fun a ha=>q.2 _ _ _ O1 p.2 (f.trans (.new f.ok ha)) (.lst AF (f.ok.none_of ha) (r.kp (Au f.ok ha) f.ok))⟩⟩
theorem BN(h:EA Z ρ O es ts)(hl:ts.length≤sizeLine):ET Z ρ O (.List es pos) (.lst ts):=fun _ p=>GW (h _ ⟨hl,p⟩)
theorem EK(h:WA Z ρ O es fun ts O1=>ts.length≤sizeLine∧∀a,O1 a=none→Φ (.raw (.ref a)) (BM O1 a ts)):WE Z ρ O (.List es pos) Φ:=
 PE.weak (Fw h) fun σ H Q q=> ⟨q.1,fun vs H1 ts O1 p f r=> ⟨by rw[r.length];exact p.1,fun a ha=>q.2 _ _ _ _ (p.2 a (f.ok.none_of ha)) (f.trans (.newO f.ok ha r)) (.raw _)⟩⟩
end
section
variable{K:PySem.W.Frag}{O:AQ}{H:Hp}{v:V}
theorem Rep.int_inv{i:Int}(r:Rep K O H v (.int i)):v=.int i:=by cases r;rfl
theorem Rep.bl_inv{i:Bool}(r:Rep K O H v (.bl i)):v=.bl i:=by cases r;rfl
theorem Rep.non_inv(r:Rep K O H v .non):v=.non:=by cases r;rfl
theorem Rep.str_inv{i:Str}(r:Rep K O H v (.str i)):v=.str i:=by cases r;rfl
theorem Rep.raw_inv{i:V}(r:Rep K O H v (.raw i)):v=i:=by cases r;rfl
theorem Rep.tup_inv{ts:List T}(r:Rep K O H v (.tup ts)):∃a xs,v=.ref a∧H a=some (.tup xs)∧Reps K O H xs ts:=by
 cases r with
 |tup h r=>exact⟨_,_,rfl,h,r⟩
theorem Rep.lst_inv{ts:List T}(r:Rep K O H v (.lst ts)):∃a xs,v=.ref a∧H a=some (.lst xs)∧O a=none∧Reps K O H xs ts:=by
 cases r with
 |lst h o r=>exact⟨_,_,rfl,h,o,r⟩
theorem Reps.cons_inv{vs:List V}{t:T}{ts:List T}(r:Reps K O H vs (t::ts)):∃v vs',vs=v::vs'∧Rep K O H v t∧Reps K O H vs' ts:=by
 cases r with
 |cons h r=>exact⟨_,_,rfl,h,r⟩
theorem Reps.nil_inv{vs:List V}(r:Reps K O H vs []):vs=[]:=by cases r;rfl
theorem Reps.one_inv{vs:List V}{t:T}(r:Reps K O H vs [t]):∃v,vs=[v]∧Rep K O H v t:=by
 obtain⟨v,vs',rfl,h,r⟩:=r.cons_inv
 cases r.nil_inv
 exact⟨v,rfl,h⟩
theorem Reps.two_inv{vs:List V}{t u:T}(r:Reps K O H vs [t,u]):∃v w,vs=[v,w]∧Rep K O H v t∧Rep K O H w u:=by
 obtain⟨v,vs',rfl,h,r⟩:=r.cons_inv
 obtain⟨w,rfl,h2⟩:=r.one_inv
 exact⟨v,w,rfl,h,h2⟩
theorem Reps.ints:∀{vs:List V} {ns:List Int},Reps K O H vs (ns.map T.int)→vs=ns.map V.int
 |_,[],r=>r.nil_inv
 |_,n::ns,r=>by
  obtain⟨v,vs',rfl,h,r⟩:=Reps.cons_inv r
  rw[h.int_inv,Reps.ints r]
  rfl
end
section
variable{Z:Zx}{ρ:List (Option T)}{O:AQ}{e a b c:Expr}{es:List Expr}{Φ Φ':BR}{pos:Pos}{t ta tb:T}{ts:List T}{K:PySem.W.Frag}{i j:Int}
theorem GX{g:Int→Int→Int}:RP K (SD fun i j=> .int (g i j)) (.int i) (.int j) O (.int (g i j)):=fun Φ p H v w Q ok r1 r2 q=> ⟨i,j,r1.int_inv,r2.int_inv,q _ H _ O p (.refl ok) (.int _)⟩
theorem DS{g:Int→Int→Bool}:RP K (SD fun i j=> .bl (g i j)) (.int i) (.int j) O (.bl (g i j)):=fun Φ p H v w Q ok r1 r2 q=> ⟨i,j,r1.int_inv,r2.int_inv,q _ H _ O p (.refl ok) (.bl _)⟩
theorem Sr{C:Int→Int→Prop}{g:Int→Int→Int}(hc:C i j):RP K (rI C fun i j=> .int (g i j)) (.int i) (.int j) O (.int (g i j)):=fun Φ p H v w Q ok r1 r2 q=> ⟨i,j,r1.int_inv,r2.int_inv,hc,q _ H _ O p (.refl ok) (.int _)⟩
theorem Ai(ha:ET Z ρ O a (.int i))(hb:ET Z ρ O b (.int j)):ET Z ρ O (.BinOp a .Add b pos) (.int (i+j)):=EJ El GX ha hb
theorem Ez(ha:ET Z ρ O a (.int i))(hb:ET Z ρ O b (.int j)):ET Z ρ O (.BinOp a .Sub b pos) (.int (i-j)):=EJ Vb GX ha hb
theorem FA(ha:ET Z ρ O a (.int i))(hb:ET Z ρ O b (.int j))(h:CMul i j):ET Z ρ O (.BinOp a .Mult b pos) (.int (i*j)):=EJ Vc (Sr h) ha hb
theorem Fc(ha:ET Z ρ O a (.int i))(hb:ET Z ρ O b (.int j))(h:YQ i j):ET Z ρ O (.BinOp a .FloorDiv b pos) (.int (i/j)):=EJ SL (Sr h) ha hb
theorem FB(ha:ET Z ρ O a (.int i))(hb:ET Z ρ O b (.int j))(h:0<j):ET Z ρ O (.BinOp a .Mod b pos) (.int (i%j)):=EJ Vd (Sr h) ha hb
theorem WM(ha:ET Z ρ O a (.int i))(hb:ET Z ρ O b (.int j))(h:YR i j):ET Z ρ O (.BinOp a .Pow b pos) (.int (i^j.toNat)):=EJ Ve (Sr h) ha hb
theorem Yp(ha:ET Z ρ O a (.int i))(hb:ET Z ρ O b (.int j)):ET Z ρ O (.Compare a [.GtE] [b] pos) (.bl (decide (j≤i))):=GV Ud (Af _) DS ha hb
theorem Il:RP K aq (.int i) (.int j) O (.bl (decide (i=j))):=fun Φ p H v w Q ok r1 r2 q=>by
 cases r1.int_inv;cases r2.int_inv
 refine⟨rfl,?_⟩
 have:decide (V.int i=V.int j)=decide (i=j):=by simp
 rw[this]
 exact q _ H _ O p (.refl ok) (.bl _)
theorem WN:RP K au (.int i) (.int j) O (.bl (!decide (i=j))):=fun Φ p H v w Q ok r1 r2 q=>by
 cases r1.int_inv;cases r2.int_inv
 refine⟨rfl,?_⟩
 have:decide (V.int i=V.int j)=decide (i=j):=by simp
 rw[this]
 exact q _ H _ O p (.refl ok) (.bl _)
theorem WO(ha:ET Z ρ O a (.int i))(hb:ET Z ρ O b (.int j)):ET Z ρ O (.Compare a [.Eq] [b] pos) (.bl (decide (i=j))):=GV JR (Af _) Il ha hb
theorem Yq{op:UnaryOp}{g:Int→Int}(ho:aD Z.X (unaryOp op) (rU fun i=> .int (g i)))(h:ET Z ρ O a (.int i)):ET Z ρ O (.UnaryOp op a pos) (.int (g i)):=fun Φ p=>
 PE.weak (YN ho Ac) fun σ H Q q=> ⟨O,_,h (fun t O'=>t=.int i∧O'=O) ⟨rfl,rfl⟩,q.1,fun v H1 t O1 ⟨e1,e2⟩ f r=>by
  subst e1;subst e2
  exact⟨i,r.int_inv,q.2 _ H1 _ _ p f (.int _)⟩⟩
theorem LY(h:ET Z ρ O a (.int i)):ET Z ρ O (.UnaryOp .USub a pos) (.int (-i)):=Yq Vf h
theorem Pp{op op':CmpOp}{r r':R2}{tc:T}{x y:Bool}(ho:Bv Z.X (compareOp op) r)(ho':Bv Z.X (compareOp op') r')(hp:RP Z.K r ta tb O (.bl x))(hp':x=true→RP Z.K r' tb tc O (.bl y))
  (ha:ET Z ρ O a ta) (hb:ET Z ρ O b tb) (hc:x=true→ET Z ρ O c tc) (hm:lastMarks [op,op'] [b,c]=false:=by with_unfolding_all rfl):ET Z ρ O (.Compare a [op,op'] [b,c] pos) (.bl (x&&y)):=fun Φ p=>
 by
 refine PE.weak (Oq ho ho' (Ac (ρ:=ρ)) (Ac (ρ:=ρ)) (Ac (ρ:=ρ)) hm) fun σ H Q q=>?_
 refine⟨O,_,ha (fun t O'=>t=ta∧O'=O) ⟨rfl,rfl⟩,q.1,?_⟩
 rintro v H1 _ _ ⟨rfl,rfl⟩ f1 r1
 refine⟨_,_,hb (fun t O'=>t=tb∧O'=_) ⟨rfl,rfl⟩,q.1.step f1,?_⟩
 rintro w H2 _ _ ⟨rfl,rfl⟩ f2 r2
 refine hp (fun t O'=>t=.bl x∧O'=_) ⟨rfl,rfl⟩ H2 v w _ f2.ok (r1.kp f2.kp f1.ok) r2 ?_
 rintro z H3 _ _ ⟨rfl,rfl⟩ f3 r3
 refine⟨x,r3.bl_inv,?_⟩
 cases x with
 |false=>exact Ku (q.2 _ H3 _ _ p (f1.trans (f2.trans f3)) (.bl _))
 |true=>
  refine Nq ⟨_,_,hc rfl (fun t O'=>t=tc∧O'=_) ⟨rfl,rfl⟩,q.1.step (f1.trans (f2.trans f3)),?_⟩
  rintro w' H4 _ _ ⟨rfl,rfl⟩ f4 r4
  exact hp' rfl _ p H4 w w' _ f4.ok (r2.kp (f3.trans f4).kp f2.ok) r4 (q.2.step (f1.trans (f2.trans (f3.trans f4))))
def TruT(O:AQ):T→Bool→Prop
 | .non,k=>k=false
 | .bl b,k=>k=b
 | .int i,k=>k=(i !=0)
 | .str y,k=>y.length≤sizeLine∧k=((y.length:Int) !=0)
 | .tup ts,k=>k=!ts.isEmpty
 | .lst ts,k=>k=!ts.isEmpty
 | .frz ts,k=>k=!ts.isEmpty
 | .dct,_=>False
 | .raw (.ref a),k=>∃ts,O a=some ts∧k=!ts.isEmpty
 | .raw _,_=>False
theorem Reps.isEmpty{vs:List V}{ts:List T}{H:Hp}(r:Reps K O H vs ts):vs.isEmpty=ts.isEmpty:=by cases r<;>rfl
theorem TruT.v{H:Hp}{v:V}{k:Bool}(h:TruT O t k)(r:Rep K O H v t)(ok:OwnOk K O H):SN K v H k:=by
 cases r with
 |non=>exact h
 |bl=>exact h
 |int=>exact h
 |str=>exact h
 |tup h1 r=>
  have h:k=!_:=h
  exact .inr (.inl ⟨_,.inl (.inl h1),by rw[h,r.isEmpty]⟩)
 |lst h1 o r=>
  have h:k=!_:=h
  exact .inl ⟨_,.inl (.inl h1),by rw[h,r.isEmpty]⟩
 |frz h1 r=>
  have h:k=!_:=h
  exact .inl ⟨_,.inl (.inr ⟨_,h1⟩),by rw[h,r.isEmpty]⟩
 |dct=>exact h.elim
 |raw v=>
  cases v with
  |ref a=>
   obtain⟨ts,e,h⟩:=h
   obtain⟨xs,h1,r⟩:=ok a ts e
   exact .inl ⟨xs,.inl (.inl h1),by rw[h,r.isEmpty]⟩
  |_=>exact h.elim
theorem Pq{Φ:Js}(h:WE Z ρ O e fun t O'=>∃k,TruT O' t k∧Φ k O')(he:∀whole,isTrue e Z.X.env whole=(do let v←whole;standAt e.pos;holding [v] (truthy v)):=by intro _;rfl):WT Z ρ O e Φ:=
 PT.weak (JT Ac he) fun σ H Q q=> ⟨O,_,h,q.1,fun v H1 t O1 ⟨k,tr,p⟩ f r=> ⟨k,tr.v r f.ok,q.2 k H1 O1 p f⟩⟩
theorem Pt{k:Bool}(h:ET Z ρ O e t)(tr:TruT O t k)(he:∀whole,isTrue e Z.X.env whole=(do let v←whole;standAt e.pos;holding [v] (truthy v)):=by intro _;rfl):EB Z ρ O e k:=fun Φ p=>Pq (h _ ⟨k,tr,p⟩) he
theorem EL{k:Bool}(h:ET Z ρ O e (.bl k))(he:∀whole,isTrue e Z.X.env whole=(do let v←whole;standAt e.pos;holding [v] (truthy v)):=by intro _;rfl):EB Z ρ O e k:=Pt h rfl he
theorem LZ{Φ:Js}{op:CmpOp}{r:R2}(ho:Bv Z.X (compareOp op) r)(hm:behindInMarks op b=false)(h:WE Z ρ O a fun ta O1=>WE Z ρ O1 b fun tb O2=>RT Z.K r ta tb O2 fun t O3=>∃k,t=.bl k∧Φ k O3):WT Z ρ O (.Compare a [op] [b] pos) Φ:=
 PT.weak (FY ho Ac Ac hm) fun σ H Q q=>Ik (Φ:=fun t O3=>∃k,t=.bl k∧Φ k O3) ⟨q.1,fun v H' t O' ⟨k,e,p⟩ f r=>by
  subst e
  exact⟨k,r.bl_inv,q.2 k H' O' p f⟩⟩ h
theorem BD{op:CmpOp}{r:R2}{k:Bool}(ho:Bv Z.X (compareOp op) r)(hm:behindInMarks op b=false)(hp:RP Z.K r ta tb O (.bl k))(ha:ET Z ρ O a ta)(hb:ET Z ρ O b tb):EB Z ρ O (.Compare a [op] [b] pos) k:=fun Φ p=>
 LZ ho hm (ha _ (hb _ (hp _ ⟨k,rfl,p⟩)))
theorem Mn(ha:ET Z ρ O a (.int i))(hb:ET Z ρ O b (.int j)):EB Z ρ O (.Compare a [.Lt] [b] pos) (decide (i<j)):=BD MQ (Af _) DS ha hb
theorem Uq(ha:ET Z ρ O a (.int i))(hb:ET Z ρ O b (.int j)):EB Z ρ O (.Compare a [.LtE] [b] pos) (decide (i≤j)):=BD JS (Af _) DS ha hb
theorem Mo(ha:ET Z ρ O a (.int i))(hb:ET Z ρ O b (.int j)):EB Z ρ O (.Compare a [.Gt] [b] pos) (decide (j<i)):=BD YT (Af _) DS ha hb
theorem Pu(ha:ET Z ρ O a (.int i))(hb:ET Z ρ O b (.int j)):EB Z ρ O (.Compare a [.GtE] [b] pos) (decide (j≤i)):=BD Ud (Af _) DS ha hb
theorem CS(ha:ET Z ρ O a (.int i))(hb:ET Z ρ O b (.int j)):EB Z ρ O (.Compare a [.Eq] [b] pos) (decide (i=j)):=BD JR (Af _) Il ha hb
theorem GY(ha:ET Z ρ O a (.int i))(hb:ET Z ρ O b (.int j)):EB Z ρ O (.Compare a [.NotEq] [b] pos) (!decide (i=j)):=BD Om (Af _) WN ha hb
theorem Ju{op op':CmpOp}{r r':R2}{tc:T}{x y:Bool}(ho:Bv Z.X (compareOp op) r)(ho':Bv Z.X (compareOp op') r')(hp:RP Z.K r ta tb O (.bl x))(hp':x=true→RP Z.K r' tb tc O (.bl y))
  (ha:ET Z ρ O a ta) (hb:ET Z ρ O b tb) (hc:x=true→ET Z ρ O c tc) (hm:lastMarks [op,op'] [b,c]=false:=by with_unfolding_all rfl):EB Z ρ O (.Compare a [op,op'] [b,c] pos) (x&&y):=fun Φ p=>
 by
 refine PT.weak (Os ho ho' (Ac (ρ:=ρ)) (Ac (ρ:=ρ)) (Ac (ρ:=ρ)) hm) fun σ H Q q=>?_
 refine⟨O,_,ha (fun t O'=>t=ta∧O'=O) ⟨rfl,rfl⟩,q.1,?_⟩
 rintro v H1 _ _ ⟨rfl,rfl⟩ f1 r1
 refine⟨_,_,hb (fun t O'=>t=tb∧O'=_) ⟨rfl,rfl⟩,q.1.step f1,?_⟩
 rintro w H2 _ _ ⟨rfl,rfl⟩ f2 r2
 refine hp (fun t O'=>t=.bl x∧O'=_) ⟨rfl,rfl⟩ H2 v w _ f2.ok (r1.kp f2.kp f1.ok) r2 ?_
 rintro z H3 _ _ ⟨rfl,rfl⟩ f3 r3
 refine⟨x,r3.bl_inv,?_⟩
 cases x with
 |false=>exact Ku ⟨false,rfl,q.2 _ H3 _ p (f1.trans (f2.trans f3))⟩
 |true=>
  refine Nq ⟨_,_,hc rfl (fun t O'=>t=tc∧O'=_) ⟨rfl,rfl⟩,q.1.step (f1.trans (f2.trans f3)),?_⟩
  rintro w' H4 _ _ ⟨rfl,rfl⟩ f4 r4
  refine hp' rfl (fun t O'=>t=.bl y∧O'=_) ⟨rfl,rfl⟩ H4 w w' _ f4.ok (r2.kp (f3.trans f4).kp f2.ok) r4 ?_
  rintro z5 H5 _ _ ⟨rfl,rfl⟩ f5 r5
  exact⟨y,r5.bl_inv,q.2 _ H5 _ p (f1.trans (f2.trans (f3.trans (f4.trans f5))))⟩
theorem Ss{k:Int}(ha:ET Z ρ O a (.int i))(hb:ET Z ρ O b (.int j))(hc:ET Z ρ O c (.int k))(hm:lastMarks [CmpOp.LtE,.LtE] [b,c]=false:=by with_unfolding_all rfl):ET Z ρ O (.Compare a [.LtE,.LtE] [b,c] pos) (.bl (decide (i≤j)&&decide (j≤k))):=Pp JS JS DS (fun _=>DS) ha hb (fun _=>hc) hm
theorem Su{k:Int}(ha:ET Z ρ O a (.int i))(hb:ET Z ρ O b (.int j))(hc:ET Z ρ O c (.int k))(hm:lastMarks [CmpOp.LtE,.LtE] [b,c]=false:=by with_unfolding_all rfl):EB Z ρ O (.Compare a [.LtE,.LtE] [b,c] pos) (decide (i≤j)&&decide (j≤k)):=Ju JS JS DS (fun _=>DS) ha hb (fun _=>hc) hm
theorem WQ{Φ:Js}(h:WT Z ρ O a fun k O'=>Φ (!k) O'):WT Z ρ O (.UnaryOp .Not a pos) Φ:=PT.weak (Of h) fun σ H Q q=> ⟨q.1,fun k H1 O1 p f=>q.2 _ H1 O1 p f⟩
theorem BJ{k:Bool}(h:EB Z ρ O a k):EB Z ρ O (.UnaryOp .Not a pos) (!k):=fun Φ p=>WQ (h _ p)
def EW(Z:Zx)(ρ:List (Option T))(O:AQ)(e:Expr)(b:Bool):Prop:=∀Φ:Js,Φ b O→WW Z ρ O e Φ
theorem EW.eb{k:Bool}(h:EW Z ρ O e k):EB Z ρ O e k:=fun Φ p=> (h Φ p).pt
theorem Sv{Φ:Js}(h:WT Z ρ O a Φ):WW Z ρ O (.BoolOp .And [a] pos) Φ:=SH h
theorem WR{Φ:Js}(h:WT Z ρ O a Φ):WW Z ρ O (.BoolOp .Or [a] pos) Φ:=Od h
theorem WU{Φ:Js}(h:WT Z ρ O a fun k O1=>if k=true then WW Z ρ O1 (.BoolOp .And (b::es) pos) Φ else Φ false O1):WW Z ρ O (.BoolOp .And (a::b::es) pos) Φ:=
 PW.weak (VR h Yn) fun σ H Q q=> ⟨q.1,fun k H1 O1 p f=>by
  cases k with
  |true=>rw[if_pos rfl] at p ⊢;exact⟨O1,_,p,q.1.step f,q.2.step f⟩
  |false=>rw[if_neg Bool.false_ne_true] at p ⊢;exact q.2 _ H1 O1 p f⟩
theorem Yr{Φ:Js}(h:WT Z ρ O a fun k O1=>if k=true then Φ true O1 else WW Z ρ O1 (.BoolOp .Or (b::es) pos) Φ):WW Z ρ O (.BoolOp .Or (a::b::es) pos) Φ:=
 PW.weak (Ua h Yn) fun σ H Q q=> ⟨q.1,fun k H1 O1 p f=>by
  cases k with
  |true=>rw[if_pos rfl] at p ⊢;exact q.2 _ H1 O1 p f
  |false=>rw[if_neg Bool.false_ne_true] at p ⊢;exact⟨O1,_,p,q.1.step f,q.2.step f⟩⟩
theorem EM{k:Bool}(h:EB Z ρ O a k):EW Z ρ O (.BoolOp .And [a] pos) k:=fun Φ p=>Sv (h _ p)
theorem BV{k:Bool}(h:EB Z ρ O a k):EW Z ρ O (.BoolOp .Or [a] pos) k:=fun Φ p=>WR (h _ p)
theorem GZ{x y:Bool}(ha:EB Z ρ O a x)(hb:x=true→EW Z ρ O (.BoolOp .And (b::es) pos) y):EW Z ρ O (.BoolOp .And (a::b::es) pos) (x&&y):=fun Φ p=>WU (ha _ (by
 cases x with
 |true=>rw[if_pos rfl];exact hb rfl _ p
 |false=>rw[if_neg Bool.false_ne_true];exact p))
theorem An{x y:Bool}(ha:EB Z ρ O a x)(hb:x=false→EW Z ρ O (.BoolOp .Or (b::es) pos) y):EW Z ρ O (.BoolOp .Or (a::b::es) pos) (x||y):=fun Φ p=>Yr (ha _ (by
 cases x with
 |true=>rw[if_pos rfl];exact p
 |false=>rw[if_neg Bool.false_ne_true];exact hb rfl _ p))
theorem Ga{op}(h:ET Z ρ O a t):ET Z ρ O (.BoolOp op [a] pos) t:=fun Φ p=>VS (h Φ p)
theorem Im{x y:Bool}(ha:ET Z ρ O a (.bl x))(hb:x=true→ET Z ρ O (.BoolOp .And (b::es) pos) (.bl y)):ET Z ρ O (.BoolOp .And (a::b::es) pos) (.bl (x&&y)):=fun Φ p=>
 by
 refine PE.weak (VT (Ac (ρ:=ρ)) (Ac (ρ:=ρ))) fun σ H Q q=>?_
 refine⟨O,_,ha (fun t O'=>t=.bl x∧O'=O) ⟨rfl,rfl⟩,q.1,?_⟩
 rintro v H1 _ _ ⟨rfl,rfl⟩ f r
 refine⟨x,r.bl_inv,?_⟩
 cases x with
 |true=>exact Nq ⟨_,_,hb rfl _ p,q.1.step f,q.2.step f⟩
 |false=>exact Ku (q.2 _ H1 _ _ p f (.bl _))
theorem Ur{x y:Bool}(ha:ET Z ρ O a (.bl x))(hb:x=false→ET Z ρ O (.BoolOp .Or (b::es) pos) (.bl y)):ET Z ρ O (.BoolOp .Or (a::b::es) pos) (.bl (x||y)):=fun Φ p=>
 by
 refine PE.weak (YC (Ac (ρ:=ρ)) (Ac (ρ:=ρ))) fun σ H Q q=>?_
 refine⟨O,_,ha (fun t O'=>t=.bl x∧O'=O) ⟨rfl,rfl⟩,q.1,?_⟩
 rintro v H1 _ _ ⟨rfl,rfl⟩ f r
 refine⟨x,r.bl_inv,?_⟩
 cases x with
 |true=>exact Nq (q.2 _ H1 _ _ p f (.bl _))
 |false=>exact Ku ⟨_,_,hb rfl _ p,q.1.step f,q.2.step f⟩
theorem Pv{x:Bool}(ha:ET Z ρ O a (.bl x)):ET Z ρ O (.UnaryOp .Not a pos) (.bl (!x)):=fun Φ p=>
 PE.weak (VU Ac) fun σ H Q q=> ⟨O,_,ha (fun t O'=>t=.bl x∧O'=O) ⟨rfl,rfl⟩,q.1,fun v H1 t O1 ⟨e1,e2⟩ f r=>by
  subst e1;subst e2
  exact⟨x,r.bl_inv,q.2 _ H1 _ _ p f (.bl _)⟩⟩
theorem Ys(h:WT Z ρ O c fun k O1=>if k=true then WE Z ρ O1 a Φ else WE Z ρ O1 b Φ):WE Z ρ O (.IfExp c a b pos) Φ:=
 PE.weak (Og h Ac Ac) fun σ H Q q=> ⟨q.1,fun k H1 O1 p f=>by
  cases k with
  |true=>rw[if_pos rfl] at p ⊢;exact⟨O1,_,p,q.1.step f,q.2.step f⟩
  |false=>rw[if_neg Bool.false_ne_true] at p ⊢;exact⟨O1,_,p,q.1.step f,q.2.step f⟩⟩
theorem Yt{x:Bool}(hc:EB Z ρ O c x)(ha:x=true→ET Z ρ O a ta)(hb:x=false→ET Z ρ O b tb):ET Z ρ O (.IfExp c a b pos) (if x=true then ta else tb):=fun Φ p=>Ys (hc _ (by
 cases x with
 |true=>rw[if_pos rfl] at p ⊢;exact ha rfl _ p
 |false=>rw[if_neg Bool.false_ne_true] at p ⊢;exact hb rfl _ p))
theorem Reps.atI{vs:List V}{H:Hp}(r:Reps K O H vs ts)(e:L2.atI ts i=some t):∃v,L2.atI vs i=some v∧Rep K O H v t:=by
 unfold L2.atI at e ⊢
 rw[r.length]
 cases hx:Kr ts.length i with
 |none=>rw[hx] at e;cases e
 |some j=>rw[hx] at e;exact r.get e
theorem WV(e:atI ts i=some t):RP K (YZ K) (.tup ts) (.int i) O t:=fun Φ p H v w Q ok r1 r2 q=>by
 obtain⟨a,xs,rfl,h1,r1⟩:=r1.tup_inv
 obtain⟨x,ex,rx⟩:=r1.atI e
 exact⟨a,xs,i,x,rfl,r2.int_inv,.inl (.inl h1),ex,q _ H _ O p (.refl ok) rx⟩
theorem Io(e:atI ts i=some t):RP K (Vi K) (.lst ts) (.int i) O t:=fun Φ p H v w Q ok r1 r2 q=>by
 obtain⟨a,xs,rfl,h1,o1,r1⟩:=r1.lst_inv
 obtain⟨x,ex,rx⟩:=r1.atI e
 exact⟨a,xs,i,x,rfl,r2.int_inv,.inl (.inl h1),ex,q _ H _ O p (.refl ok) rx⟩
theorem Pw{a:Addr}(ha:O a=some ts)(e:atI ts i=some t):RP K (Vi K) (.raw (.ref a)) (.int i) O t:=fun Φ p H v w Q ok r1 r2 q=>by
 cases r1.raw_inv
 obtain⟨xs,h1,r1⟩:=ok a ts ha
 obtain⟨x,ex,rx⟩:=r1.atI e
 exact⟨a,xs,i,x,rfl,r2.int_inv,.inl (.inl h1),ex,q _ H _ O p (.refl ok) rx⟩
theorem AZ(ha:ET Z ρ O a (.tup ts))(hb:ET Z ρ O b (.int i))(e:atI ts i=some t:=by rfl)(hs:Ce b:=by exact fun _ _=>rfl):ET Z ρ O (.Subscript a b pos) t:=Mm Vj hs (WV e) ha hb
theorem Bp(ha:ET Z ρ O a (.lst ts))(hb:ET Z ρ O b (.int i))(e:atI ts i=some t:=by rfl)(hs:Ce b:=by exact fun _ _=>rfl):ET Z ρ O (.Subscript a b pos) t:=Mm Bx hs (Io e) ha hb
theorem Cv{p:Addr}(hp:O p=some ts)(ha:ET Z ρ O a (.raw (.ref p)))(hb:ET Z ρ O b (.int i))(e:atI ts i=some t:=by rfl)(hs:Ce b:=by exact fun _ _=>rfl):ET Z ρ O (.Subscript a b pos) t:=Mm Bx hs (Pw hp e) ha hb
end
abbrev DI:=List T→AQ→BR→(Value→AQ→Prop)→Prop
def Du(K:PySem.W.Frag)(s:DI):Sp:=fun vs H Q E=>∃ts O Φ Ξ,Reps K O H vs ts∧OwnOk K O H∧s ts O Φ Ξ∧Acc K O H Φ Q∧∀cls O' H',Ξ cls O'→Frm K O H O' H'→E cls none H'
structure FnT(P:Program)(w:World)(K:PySem.W.Frag)(mg:Str→Option Value)(base:Heap)(x:Str)(k:Nat)(ps:List Str)(s:DI):Prop where
 ex:∃f fd,FnOk P w K mg base (CXe P w) k f fd ps (Du K s)∧mg x=some (.ref f)∧PySem.W.keepIn K (.ref f)=true∧Binds K fd ps []
def Mp(φ:List T→T→Prop):DI:=fun ts O Φ _=>∃t,φ ts t∧Φ t O
section
variable{Z:Zx}{ρ:List (Option T)}{O:AQ}{e a b c:Expr}{es:List Expr}{Φ Φ':BR}{pos p:Pos}{t ta tb:T}{ts:List T}{K:PySem.W.Frag}{i j:Int}{x:Str}
theorem BK{k:Nat}{ps:List Str}{s:DI}(G:FnT Z.X.prog Z.X.w Z.X.K Z.X.mg Z.X.base x k ps s)(hr:Room k Z.X.A)(xf:XFly Z.X Z.W)(h:WA Z ρ O (e::es) fun ts O1=>s ts O1 Φ Z.Xi)(hg:Gl Z.X x:=by rfl)
  (hdb:(x==("__debug__" :Str))=false:=by decide) (he:starEach (e::es) Z.X.env=(false,eval e Z.X.env)::starEach es Z.X.env:=by rfl) (hpl:(backTo pos (starEach es Z.X.env)).any (·.1)=false:=by rfl):WE Z ρ O (.Call (.Name x p) (e::es) [] pos) Φ:=by
 obtain⟨f,fd,F,hm,hk,hb⟩:=G.ex
 refine PE.weak (GE xf F hr hg hm hk hb (FW (ρ:=ρ)) hdb he hpl) fun σ H Q q=>?_
 exact⟨O,_,h,q.1,fun vs H1 ts O1 p f r=> ⟨ts,O1,Φ,Z.Xi,r,f.ok,p,q.2.step f,fun cls O' H' x f'=> ⟨rfl,O',x,(q.1.fr.trans f).trans f'⟩⟩⟩
theorem Fd{k:Nat}{ps:List Str}{s:DI}(G:FnT Z.X.prog Z.X.w Z.X.K Z.X.mg Z.X.base x k ps s)(hr:Room k Z.X.A)(xf:XFly Z.X Z.W)(h:EA Z ρ O (e::es) ts)(hs:∀Φ:BR,Φ t O→s ts O Φ Z.Xi)(hg:Gl Z.X x:=by rfl)
  (hdb:(x==("__debug__" :Str))=false:=by decide) (he:starEach (e::es) Z.X.env=(false,eval e Z.X.env)::starEach es Z.X.env:=by rfl) (hpl:(backTo pos (starEach es Z.X.env)).any (·.1)=false:=by rfl):ET Z ρ O (.Call (.Name x p) (e::es) [] pos) t:=
 fun Φ p=>BK G hr xf (h _ (hs Φ p)) hg hdb he hpl
theorem BB{k:Nat}{ps:List Str}{φ:List T→T→Prop}(G:FnT Z.X.prog Z.X.w Z.X.K Z.X.mg Z.X.base x k ps (Mp φ))(hr:Room k Z.X.A)(xf:XFly Z.X Z.W)(h:EA Z ρ O (e::es) ts)(hs:φ ts t)(hg:Gl Z.X x:=by rfl)
  (hdb:(x==("__debug__" :Str))=false:=by decide) (he:starEach (e::es) Z.X.env=(false,eval e Z.X.env)::starEach es Z.X.env:=by rfl) (hpl:(backTo pos (starEach es Z.X.env)).any (·.1)=false:=by rfl):ET Z ρ O (.Call (.Name x p) (e::es) [] pos) t:=
 Fd G hr xf h (fun Φ p=> ⟨t,hs,p⟩) hg hdb he hpl
def CT(K:PySem.W.Frag)(r:List V→Hp→VK→Prop)(ts:List T)(O:AQ)(Φ:BR):Prop:=∀H vs Q,OwnOk K O H→Reps K O H vs ts→Acc K O H Φ Q→r vs H Q
def CP(K:PySem.W.Frag)(r:List V→Hp→VK→Prop)(ts:List T)(O:AQ)(t:T):Prop:=∀Φ:BR,Φ t O→CT K r ts O Φ
theorem Jv{id:String}{r:List V→Hp→VK→Prop}(hc:Aw Z.X (.builtin id) r)(hm:Z.X.mg x=none)(hv:bootBuiltins x=some (.builtin id))(h:WA Z ρ O (e::es) fun ts O1=>CT Z.K r ts O1 Φ)(hg:Gl Z.X x:=by rfl)(hn:x≠"__name__":=by decide)(hdb:(x==("__debug__" :Str))=false:=by decide)
  (he:starEach (e::es) Z.X.env=(false,eval e Z.X.env)::starEach es Z.X.env:=by rfl) (hpl:(backTo pos (starEach es Z.X.env)).any (·.1)=false:=by rfl):WE Z ρ O (.Call (.Name x p) (e::es) [] pos) Φ:=
 PE.weak (Ar hc hg hm hv (FW (ρ:=ρ)) hn hdb he hpl) fun σ H Q q=> ⟨O,_,h,q.1,fun vs H1 ts O1 p f r=>p H1 vs Q f.ok r (q.2.step f)⟩
theorem Hu{id:String}{r:List V→Hp→VK→Prop}(hc:Aw Z.X (.type id) r)(hm:Z.X.mg x=none)(hv:bootBuiltins x=some (.type id))(h:WA Z ρ O (e::es) fun ts O1=>CT Z.K r ts O1 Φ)(hg:Gl Z.X x:=by rfl)(hn:x≠"__name__":=by decide)(hdb:(x==("__debug__" :Str))=false:=by decide)
  (he:starEach (e::es) Z.X.env=(false,eval e Z.X.env)::starEach es Z.X.env:=by rfl) (hpl:(backTo pos (starEach es Z.X.env)).any (·.1)=false:=by rfl):WE Z ρ O (.Call (.Name x p) (e::es) [] pos) Φ:=
 PE.weak (Em hc hg hm hv (FW (ρ:=ρ)) hn hdb he hpl) fun σ H Q q=> ⟨O,_,h,q.1,fun vs H1 ts O1 p f r=>p H1 vs Q f.ok r (q.2.step f)⟩
theorem BG{id:String}{r:List V→Hp→VK→Prop}(hc:Aw Z.X (.builtin id) r)(hm:Z.X.mg x=none)(hv:bootBuiltins x=some (.builtin id))(h:EA Z ρ O (e::es) ts)(hp:CP Z.K r ts O t)(hg:Gl Z.X x:=by rfl)(hn:x≠"__name__":=by decide)(hdb:(x==("__debug__" :Str))=false:=by decide)
  (he:starEach (e::es) Z.X.env=(false,eval e Z.X.env)::starEach es Z.X.env:=by rfl) (hpl:(backTo pos (starEach es Z.X.env)).any (·.1)=false:=by rfl):ET Z ρ O (.Call (.Name x p) (e::es) [] pos) t:=fun Φ q=>Jv hc hm hv (h _ (hp Φ q)) hg hn hdb he hpl
theorem Bb{id:String}{r:List V→Hp→VK→Prop}(hc:Aw Z.X (.type id) r)(hm:Z.X.mg x=none)(hv:bootBuiltins x=some (.type id))(h:EA Z ρ O (e::es) ts)(hp:CP Z.K r ts O t)(hg:Gl Z.X x:=by rfl)(hn:x≠"__name__":=by decide)(hdb:(x==("__debug__" :Str))=false:=by decide)
  (he:starEach (e::es) Z.X.env=(false,eval e Z.X.env)::starEach es Z.X.env:=by rfl) (hpl:(backTo pos (starEach es Z.X.env)).any (·.1)=false:=by rfl):ET Z ρ O (.Call (.Name x p) (e::es) [] pos) t:=fun Φ q=>Hu hc hm hv (h _ (hp Φ q)) hg hn hdb he hpl
def MT(K:PySem.W.Frag)(ty:String)(r:V→List V→Hp→VK→Prop)(t:T)(ts:List T)(O:AQ)(Φ:BR):Prop:=∀H v vs Q,OwnOk K O H→Rep K O H v t→Reps K O H vs ts→Acc K O H Φ Q→r v vs H Q
def bL(K:PySem.W.Frag)(ty:String)(O:AQ)(t:T):Prop:=∀H v,OwnOk K O H→Rep K O H v t→aG K ty v H
theorem Hv{o:Expr}{name:Str}{apos cpos:Pos}{ty id:String}{r:V→List V→Hp→VK→Prop}(pa:PlainAttrs ty)(slot:Slot ty name id)(hty:typeOf (.builtin id)=pure (.type "method_descriptor"))(hm:bA Z.X id r)
  (h:WE Z ρ O o fun t O1=>bL Z.K ty O1 t∧WA Z ρ O1 (e::es) fun ts O2=>MT Z.K ty r t ts O2 Φ)
  (hbase:attributeBase o name Z.X.env (eval o Z.X.env)=eval o Z.X.env:=by rfl)
  (hfew:((backTo cpos (starEach (e::es) Z.X.env)).all (fun x=>!x.1)&&(backToKw cpos (keywordEach [] Z.X.env)).all (fun x=>x.1.isSome)
   &&decide ((e::es).length+([]:List Keyword).length+(if([]:List Keyword).isEmpty then 0 else 1)<30))=true:=by rfl)
  (hline:(apos.endLine==cpos.line)=true:=by rfl) (hs:starEach (e::es) Z.X.env=(false,eval e Z.X.env)::starEach es Z.X.env:=by rfl) (hplain:(backTo cpos (starEach es Z.X.env)).any (·.1)=false:=by rfl):WE Z ρ O (.Call (.Attribute o name apos) (e::es) [] cpos) Φ:=
 PE.weak (PB pa slot hty hm (Ac (ρ:=ρ)) (FW (ρ:=ρ)) hbase hfew hline hs hplain) fun σ H Q q=> ⟨O,_,h,q.1,fun v H1 t O1 ⟨ty,p⟩ f1 r1=> ⟨ty H1 v f1.ok r1,O1,_,p,q.1.step f1,fun vs H2 ts O2 p2 f2 r2=>
  p2 H2 v vs Q f2.ok (r1.kp f2.kp f1.ok) r2 (q.2.step (f1.trans f2))⟩⟩
theorem Mq{a:Addr}(ha:O a=some ts):bL K "list" O (.raw (.ref a)):=fun H v ok r=>by
 cases r.raw_inv
 obtain⟨xs,h,_⟩:=ok a ts ha
 exact .inl ⟨rfl,xs,.inl (.inl h)⟩
theorem La{a:Addr}{u:T}(ha:O a=some ts)(hl:ts.length<sizeLine)(p:Φ .non (BM O a (ts++[u]))):MT K "list" MU (.raw (.ref a)) [u] O Φ:=fun H v vs Q ok r1 r2 q=>by
 cases r1.raw_inv
 obtain⟨w,rfl,r3⟩:=r2.one_inv
 obtain⟨xs,h,r⟩:=ok a ts ha
 exact⟨a,xs,w,rfl,rfl,h,by rw[r.length];exact hl,q _ _ _ _ p (.put ok ha (r.append (.one r3))) .non⟩
theorem FD{o:Expr}{apos cpos:Pos}(h:WE Z ρ O o fun t O1=>∃a,t=.raw (.ref a)∧(∃ts,O1 a=some ts)∧WE Z ρ O1 e fun u O2=>∃ts,O2 a=some ts∧ts.length<sizeLine∧Φ .non (BM O2 a (ts++[u])))
  (hbase:attributeBase o "append" Z.X.env (eval o Z.X.env)=eval o Z.X.env:=by rfl)
  (hfew:((backTo cpos (starEach [e] Z.X.env)).all (fun x=>!x.1)&&(backToKw cpos (keywordEach [] Z.X.env)).all (fun x=>x.1.isSome)
   &&decide ([e].length+([]:List Keyword).length+(if([]:List Keyword).isEmpty then 0 else 1)<30))=true:=by rfl)
  (hline:(apos.endLine==cpos.line)=true:=by rfl) (hs:starEach [e] Z.X.env=(false,eval e Z.X.env)::starEach [] Z.X.env:=by rfl) (hplain:(backTo cpos (starEach [] Z.X.env)).any (·.1)=false:=by rfl):WE Z ρ O (.Call (.Attribute o "append" apos) [e] [] cpos) Φ:=by
 refine Hv PySem.F.plainAttrs_list PySem.F.slot_list_append PySem.F.type_list_append Hc (Dd h ?_) hbase hfew hline hs hplain
 rintro t O1 ⟨a,rfl,⟨ts,hts⟩,w⟩
 refine⟨Mq hts,Cu (Dd w ?_) hs⟩
 rintro u O2 ⟨us,h1,h2,p⟩
 exact Av (La h1 h2 p)
end
abbrev Lb:=List (Option T)→AQ→Prop
structure Es where
 nx:Lb
 rt:BR
 bk:Lb:=fun _ _=>False
 ct:Lb:=fun _ _=>False
def AccN(Z:Zx)(O:AQ)(H:Hp)(N:Lb)(D:St→Hp→Prop):Prop:=∀ρ' O' σ' H',N ρ' O'→Asr Z ρ' O' σ' H'→Kp O H O' H'→D σ' H'
structure AccS(Z:Zx)(O:AQ)(H:Hp)(Ψ:Es)(D:Ends):Prop where
 nx:AccN Z O H Ψ.nx D.nx
 rt:∀v H' t O',Ψ.rt t O'→Frm Z.K Z.Oe Z.He O' H'→Rep Z.K O' H' v t→D.rt v H'
 bk:AccN Z O H Ψ.bk D.bk
 ct:AccN Z O H Ψ.ct D.ct
def tS(Z:Zx)(ρ:List (Option T))(O:AQ)(Ψ:Es):TS:=fun D σ H=>Asr Z ρ O σ H∧AccS Z O H Ψ D
def WS(Z:Zx)(ρ:List (Option T))(O:AQ)(s:Stmt)(Ψ:Es):Prop:=PS Z.X s (tS Z ρ O Ψ)
def Gb(Z:Zx)(ρ:List (Option T))(O:AQ)(s:List Stmt)(Ψ:Es):Prop:=PSs Z.X s (tS Z ρ O Ψ)
def cX(Z:Zx)(ss:List Stmt):TS:=fun D σ H=>∃ρ O Ψ,Gb Z ρ O ss Ψ∧tS Z ρ O Ψ D σ H
theorem Mr{Z:Zx}{ss:List Stmt}:PSs Z.X ss (cX Z ss):=fun pins s σ H D I ⟨_,_,_,w,q⟩=>w pins s σ H D I q
section
variable{Z:Zx}{ρ:List (Option T)}{O O1:AQ}{e a b c:Expr}{es:List Expr}{Ψ:Es}{pos p:Pos}{t ta tb:T}{ts:List T}{i j:Nat}{x:Str}{s:Stmt}{ss:List Stmt}{H H1:Hp}{D:Ends}
theorem AccN.step{N:Lb}{D:St→Hp→Prop}(h:AccN Z O H N D)(k:Kp O H O1 H1):AccN Z O1 H1 N D:=fun ρ' O' σ' H' n a k'=>h ρ' O' σ' H' n a (k.trans k')
theorem AccS.step(h:AccS Z O H Ψ D)(k:Kp O H O1 H1):AccS Z O1 H1 Ψ D:=⟨h.nx.step k,h.rt,h.bk.step k,h.ct.step k⟩
theorem AW(h:Ψ.nx ρ O):Gb Z ρ O [] Ψ:=PSs.weak IM fun D σ H q=>q.2.nx ρ O σ H h q.1 .refl
theorem AD(h:WS Z ρ O s {Ψ with nx:=fun ρ' O'=>Gb Z ρ' O' ss Ψ}):Gb Z ρ O (s::ss) Ψ:=
 PSs.weak (DL h Mr) fun D σ H q=> ⟨q.1,fun ρ' O' σ' H' w a k=> ⟨ρ',O',Ψ,w,a,q.2.step k⟩,q.2.rt,q.2.bk,q.2.ct⟩
theorem AI(h:WS Z ρ O s Ψ):Gb Z ρ O [s] Ψ:=PSs.weak (Da h) fun _ _ _ q=>q
theorem Fe{Ψ':Es}(h:WS Z ρ O s Ψ)(n:∀ρ' O',Ψ.nx ρ' O'→Ψ'.nx ρ' O')(r:∀t O',Ψ.rt t O'→Ψ'.rt t O')(bk:∀ρ' O',Ψ.bk ρ' O'→Ψ'.bk ρ' O')(ct:∀ρ' O',Ψ.ct ρ' O'→Ψ'.ct ρ' O'):WS Z ρ O s Ψ':=
 PS.weak h fun D σ H q=> ⟨q.1,fun ρ' O' σ' H' w=>q.2.nx ρ' O' σ' H' (n ρ' O' w),fun v H' t O' w=>q.2.rt v H' t O' (r t O' w),fun ρ' O' σ' H' w=>q.2.bk ρ' O' σ' H' (bk ρ' O' w),fun ρ' O' σ' H' w=>q.2.ct ρ' O' σ' H' (ct ρ' O' w)⟩
theorem EN{p:Addr}{n:Nat}(hp:O p=some ts)(he:Z.Oe p=none)(hn:ρ[n]?=some (some (.raw (.ref p))))(h:Gb Z (ρ.set n (some (.lst ts))) (DF O p) ss Ψ):Gb Z ρ O ss Ψ:=PSs.weak h fun D σ H q=>by
 refine⟨⟨?_,⟨q.1.fr.kp.trans CA,fun b us e=>?_,q.1.ok.drop⟩⟩,q.2.step CA⟩
 ·have r1:=q.1.rl.kp (CA (a:=p)) q.1.ok
  obtain⟨v,e1,e2⟩:=q.1.rl.2 n _ hn
  cases e2.raw_inv
  have r2:=r1.set (i:=n) (q.1.ok.rep hp)
  have:σ.set n (some (.ref p))=σ:=by
   apply List.ext_getElem?
   intro m
   by_cases hm:m=n
   ·subst hm
    have hl:m<σ.length:=(List.getElem?_eq_some_iff.mp e1).1
    rw[List.getElem?_set_self hl,e1]
   ·rw[List.getElem?_set_ne (Ne.symm hm)]
  rw[this] at r2
  exact r2
 ·obtain⟨us',e'⟩:=q.1.fr.own b us e
  have:b≠p:=fun z=>by rw[z,he] at e;cases e
  exact⟨us',by rw[DR this];exact e'⟩
theorem AS(h:WE Z ρ O e Ψ.rt):WS Z ρ O (.Return (some e) pos) Ψ:=PS.weak (Ek h) fun D σ H q=> ⟨q.1,fun v H' t O' p f r=>q.2.rt v H' t O' p (q.1.fr.trans f) r⟩
theorem Ff(h:WE Z ρ O e fun _ O'=>Ψ.nx ρ O')(hs:swapsWith e none pos.line Z.X.env=pure false:=by rfl):WS Z ρ O (.Expr e pos) Ψ:=
 PS.weak (SI h hs) fun D σ H q=> ⟨q.1,fun v H' t O' p f r=>q.2.nx ρ O' σ H' p (q.1.step f) f.kp⟩
theorem AO(i:Nat)(h:WE Z ρ O e fun t O'=>Ψ.nx (ρ.set i (some t)) O')(hN:Z.X.N.Nodup){pos':Pos}(hi:Z.X.N[i]?=some x:=by rfl)(hx:SB Z.X.env.scope x:=by first|exact Or.inl rfl|exact Or.inr rfl)(hs:swapsWith e (some (.Name x pos')) pos.line Z.X.env=pure false:=by rfl)
  (hf:Z.X.fn x=true∨Z.X.env.scope.names.lookup x=some .local:=by first|exact .inl rfl|exact .inr rfl):WS Z ρ O (.Assign [.Name x pos'] e pos) Ψ:=
 PS.weak (Kh hN hi hx h hs hf) fun D σ H q=> ⟨q.1,fun v H' t O' p f r=>q.2.nx _ O' _ H' p ⟨(q.1.step f).rl.set r,(q.1.step f).fr⟩ f.kp⟩
theorem Us{ea eb:List Stmt}(h:WT Z ρ O c fun k O1=>if k=true then Gb Z ρ O1 ea Ψ else Gb Z ρ O1 eb Ψ):WS Z ρ O (.If c ea eb pos) Ψ:=
 PS.weak (Oh h Mr Mr) fun D σ H q=> ⟨q.1,fun k H1 O1 p f=>by
  cases k with
  |true=>rw[if_pos rfl] at p ⊢;exact⟨ρ,O1,Ψ,p,q.1.step f,q.2.step f.kp⟩
  |false=>rw[if_neg Bool.false_ne_true] at p ⊢;exact⟨ρ,O1,Ψ,p,q.1.step f,q.2.step f.kp⟩⟩
theorem AU{ea eb:List Stmt}{k:Bool}(hc:EB Z ρ O c k)(h1:k=true→Gb Z ρ O ea Ψ)(h2:k=false→Gb Z ρ O eb Ψ):WS Z ρ O (.If c ea eb pos) Ψ:=Us (hc _ (by
 cases k with
 |true=>rw[if_pos rfl];exact h1 rfl
 |false=>rw[if_neg Bool.false_ne_true];exact h2 rfl))
def tG(Z:Zx)(n:Nat)(ρ:List (Option T))(O:AQ)(t:T)(ρ':List (Option T)):TG:=fun v σ H Q=>Asr Z ρ O σ H∧Rep Z.K O H v t∧∀σ',Asr Z ρ' O σ' H→(σ'.length=σ.length∧∀j,n≤j→σ'[j]?=σ[j]?)→Q σ' H
def WG(Z:Zx)(n:Nat)(ρ:List (Option T))(O:AQ)(tg:Expr)(t:T)(ρ':List (Option T)):Prop:=PG Z.X tg (tG Z n ρ O t ρ')
theorem PG.weak{X:Cx}{e:Expr}{t t':TG}(h:PG X e t)(w:∀v σ H Q,t' v σ H Q→t v σ H Q):PG X e t':=fun pins s σ H v u Q I r q=>h pins s σ H v u Q I r (w v σ H Q q)
def cY(Z:Zx)(n:Nat)(tg:Expr):TG:=fun v σ H Q=>∃ρ O t ρ',WG Z n ρ O tg t ρ'∧tG Z n ρ O t ρ' v σ H Q
theorem bM{n:Nat}{tg:Expr}:PG Z.X tg (cY Z n tg):=fun pins s σ H v u Q I r ⟨_,_,_,_,w,q⟩=>w pins s σ H v u Q I r q
theorem Ab(i:Nat){n:Nat}(hN:Z.X.N.Nodup)(hn:i<n)(hi:Z.X.N[i]?=some x:=by rfl)(hx:SB Z.X.env.scope x:=by first|exact Or.inl rfl|exact Or.inr rfl)
  (hf:Z.X.fn x=true∨Z.X.env.scope.names.lookup x=some .local:=by first|exact .inl rfl|exact .inr rfl):WG Z n ρ O (.Name x pos) t (ρ.set i (some t)):=
 PG.weak (IP hN hi hx hf) fun v σ H Q q=>q.2.2 _ ⟨q.1.rl.set q.2.1,q.1.fr⟩ ⟨by simp,fun j hj=>by rw[List.getElem?_set_ne (by omega)]⟩
theorem Ip(i j:Nat){n:Nat}{y:Str}{p1 p2:Pos}{k:Nat}(hc:Z.X.calm=true)(hN:Z.X.N.Nodup)(hni:i<n)(hnj:j<n)(hi:Z.X.N[i]?=some x:=by rfl)(hj:Z.X.N[j]?=some y:=by rfl)(hx:SB Z.X.env.scope x:=by first|exact Or.inl rfl|exact Or.inr rfl)(hy:SB Z.X.env.scope y:=by first|exact Or.inl rfl|exact Or.inr rfl)
  (hf:Z.X.fn x=true∨Z.X.env.scope.names.lookup x=some .local:=by first|exact .inl rfl|exact .inr rfl) (hf2:Z.X.fn y=true∨Z.X.env.scope.names.lookup y=some .local:=by first|exact .inl rfl|exact .inr rfl)
  (hs:(assignEach [.Name x p1,.Name y p2] Z.X.env).map (·.2)=assign (.Name x p1) Z.X.env::(assignEach [.Name y p2] Z.X.env).map (·.2):=by rfl) (hs2:(assignEach [.Name y p2] Z.X.env).map (·.2)=assign (.Name y p2) Z.X.env::(assignEach [] Z.X.env).map (·.2):=by rfl)
  (hl:(assignEach [.Name x p1,.Name y p2] Z.X.env).length=2:=by rfl) (hst:(assignEach [.Name x p1,.Name y p2] Z.X.env).findIdx? (·.1)=none:=by rfl):
  WG Z n ρ O (.Tuple [.Name x p1,.Name y p2] k pos) (.tup [ta,tb]) ((ρ.set i (some ta)).set j (some tb)):=
 PG.weak (Oi hc (Dz (IP hN hi hx hf) (Dz (IP hN hj hy hf2) MM hs2) hs) hl hst) fun v σ H Q q=>by
  obtain⟨q1,q2,q3⟩:=q
  obtain⟨a,xs,rfl,h1,r⟩:=q2.tup_inv
  obtain⟨v,w,rfl,r1,r2⟩:=r.two_inv
  exact⟨a,_,rfl,.inl (.inl h1),rfl,v,_,rfl,w,_,rfl,rfl,q3 _ ⟨(q1.rl.set r1).set r2,q1.fr⟩ ⟨by simp,fun m hm=>by rw[List.getElem?_set_ne (by omega),List.getElem?_set_ne (by omega)]⟩⟩
theorem Px{o ix:Expr}{px:Pos}(h:WE Z ρ O e fun t O1=>WE Z ρ O1 o fun u O2=>∃a,u=.raw (.ref a)∧WE Z ρ O2 ix fun w O3=>∃ts k m,w=.int k∧O3 a=some ts∧Kr ts.length k=some m∧Ψ.nx ρ (BM O3 a (ts.set m t)))
  (ha:∀v,assign (.Subscript o ix px) Z.X.env v=(do
   let ov←holding [v] (eval o Z.X.env)
   let iv←holding [v,ov] (eval ix Z.X.env)
   standAt px
   holding [v,ov,iv] (setItem ov iv v)
   release [v,ov,iv] []):=by intro _;rfl)
  (hs:swapsWithSole [.Subscript o ix px] e pos.line Z.X.env=pure false:=by rfl) (hw:swappedStores [.Subscript o ix px] e Z.X.env=pure none:=by rfl)
  (h1:(assignEach [.Subscript o ix px] Z.X.env).map (·.2)=[assign (.Subscript o ix px) Z.X.env]:=by rfl):WS Z ρ O (.Assign [.Subscript o ix px] e pos) Ψ:=by
 refine PS.weak (Oj h (Kg (Ac (ρ:=ρ)) (Ac (ρ:=ρ)) GA ha) hs hw h1) fun D σ H q=> ⟨q.1,fun v H1 t O1 p1 f1 r1=>?_⟩
 refine⟨O1,_,p1,q.1.step f1,?_⟩
 rintro vo H2 _ O2 ⟨a,rfl,p2⟩ f2 r2
 refine⟨O2,_,p2,q.1.step (f1.trans f2),?_⟩
 rintro vi H3 _ O3 ⟨ts,k,m,rfl,ho,hm,p3⟩ f3 r3
 cases r2.raw_inv
 obtain⟨xs,hx,rx⟩:=f3.ok a ts ho
 have r1':=(r1.kp f2.kp f1.ok).kp f3.kp f2.ok
 have f:=f1.trans (f2.trans (f3.trans (Frm.put f3.ok ho (rx.set r1' m))))
 exact⟨a,xs,k,m,rfl,r3.int_inv,hx,by rw[rx.length];exact hm,q.2.nx ρ _ σ _ p3 (q.1.step f) f.kp⟩
def Jw(K:PySem.W.Frag)(J:It)(O:AQ)(H:Hp)(ts:List T):Prop:=∀O' H',Kp O H O' H'→OwnOk K O' H'→
 (∀i,i<ts.length→J.go i H')∧(∀i x H'',J.yld i H' x H''→∀t,ts[i]?=some t→Frm K O' H' O' H''∧Rep K O' H'' x t)∧∀i,ts.length≤i→J.stop i H'
def WI(Z:Zx)(ρ:List (Option T))(O:AQ)(tg iter:Expr)(Φ:LV):Prop:=PI Z.X tg iter fun σ H R=>Asr Z ρ O σ H∧∀J H' ts O',Φ ts O'→Frm Z.K O H O' H'→Jw Z.K J O' H' ts→R J H'
theorem PI.weak{X:Cx}{tg e:Expr}{t t':TI}(h:PI X tg e t)(w:∀σ H R,t' σ H R→t σ H R):PI X tg e t':=fun pins s σ H R I q=>h pins s σ H R I (w σ H R q)
theorem OF{K:PySem.W.Frag}{a:Addr}{xs:List V}(ok:OwnOk K O H)(h:H a=some (.lst xs))(n:O a=none)(r:Reps K O H xs ts):Jw K (af K a) O H ts:=fun O' H' k ok'=>by
 have h':=(k.lst h n).1
 have r':=r.kp k ok
 refine⟨fun i hi=>?_,fun i x H'' y t e=>?_,fun i hi=> ⟨xs,.inl (.inl h'),by rw[r.length];exact hi⟩⟩
 ·obtain⟨v,e,_⟩:=r'.get (i:=i) (t:=ts[i]) (by simp[hi])
  exact⟨xs,v,.inl (.inl h'),e⟩
 ·obtain⟨rfl,y⟩:=y
  obtain⟨v,e',q⟩:=r'.get e
  have:=y xs (.inl (.inl h'))
  rw[e'] at this;cases this
  exact⟨.refl ok',q⟩
theorem Py{K:PySem.W.Frag}{a:Addr}{xs:List V}(ok:OwnOk K O H)(h:H a=some (.tup xs))(r:Reps K O H xs ts):Jw K (ah K a) O H ts:=fun O' H' k ok'=>by
 have h':Fs K H' a xs:=.inl (.inl (k.oth ok h fun _ z=>by cases z))
 have r':=r.kp k ok
 refine⟨fun i hi=>?_,fun i x H'' y t e=>?_,fun i hi=> ⟨xs,h',by rw[r.length];exact hi⟩⟩
 ·obtain⟨v,e,_⟩:=r'.get (i:=i) (t:=ts[i]) (by simp[hi])
  exact⟨xs,v,h',e⟩
 ·obtain⟨rfl,y⟩:=y
  obtain⟨v,e',q⟩:=r'.get e
  have:=y xs h'
  rw[e'] at this;cases this
  exact⟨.refl ok',q⟩
def Gc(lo:Int)(n:Nat):List T:=(List.range n).map fun(i:Nat)=>T.int (lo+i)
theorem CC{lo:Int}{n:Nat}:(Gc lo n).length=n:=by simp[Gc]
theorem Ge{lo:Int}{n i:Nat}(h:(Gc lo n)[i]?=some t):i<n∧t=.int (lo+i):=by
 unfold Gc at h
 rw[List.getElem?_map] at h
 by_cases hi:i<n
 ·rw[List.getElem?_range hi] at h
  cases h
  exact⟨hi,rfl⟩
 ·rw[List.getElem?_eq_none (by simpa using hi)] at h
  cases h
theorem Jx{K:PySem.W.Frag}{lo:Int}{n:Nat}:Jw K (YI lo n) O H (Gc lo n):=fun O' H' k ok'=>by
 refine⟨fun i hi=>by rwa[CC] at hi,fun i x H'' y t e=>?_,fun i hi=>by rwa[CC] at hi⟩
 obtain⟨rfl,rfl⟩:=y
 obtain⟨_,rfl⟩:=Ge e
 exact⟨.refl ok',.int _⟩
theorem Ms{tg:Expr}{Φ:LV}(h:WE Z ρ O e fun t O'=>∃ts,t=.lst ts∧Φ ts O'):WI Z ρ O tg e Φ:=PI.weak (SJ h) fun σ H R q=> ⟨q.1,by
 rintro v H' _ O' ⟨ts,rfl,p⟩ f r
 obtain⟨a,xs,rfl,h1,n,r⟩:=r.lst_inv
 exact⟨a,rfl,⟨xs,.inl (.inl h1)⟩,q.2 _ H' ts O' p f (OF f.ok h1 n r)⟩⟩
theorem WX{tg:Expr}{Φ:LV}(h:WE Z ρ O e fun t O'=>∃ts,t=.tup ts∧Φ ts O'):WI Z ρ O tg e Φ:=PI.weak (VY h) fun σ H R q=> ⟨q.1,by
 rintro v H' _ O' ⟨ts,rfl,p⟩ f r
 obtain⟨a,xs,rfl,h1,r⟩:=r.tup_inv
 exact⟨a,rfl,⟨xs,.inl (.inl h1)⟩,q.2 _ H' ts O' p f (Py f.ok h1 r)⟩⟩
theorem OG{tg:Expr}{Φ:LV}(hm:Z.X.mg "range" =none)(h:WA Z ρ O [a] fun ts O'=>∃j:Int,ts=[.int j]∧-(2^62)≤j∧j<2^62∧Φ (Gc 0 j.toNat) O')(hg:Gl Z.X "range":=by rfl)(hs:starEach [a] Z.X.env=[(false,eval a Z.X.env)]:=by rfl):WI Z ρ O tg (.Call (.Name "range" p) [a] [] pos) Φ:=
 PI.weak (Nd hg hm h hs) fun σ H R q=> ⟨q.1,by
  rintro vs H' _ O' ⟨j,rfl,h1,h2,p⟩ f r
  obtain⟨v,rfl,r'⟩:=r.one_inv
  exact⟨j,by rw[r'.int_inv],h1,h2,q.2 _ H' _ O' p f Jx⟩⟩
theorem OH{tg:Expr}{Φ:LV}(hm:Z.X.mg "range" =none)(h:WA Z ρ O [a,b] fun ts O'=>∃i j:Int,ts=[.int i,.int j]∧(-(2^62)≤i∧i<2^62∧-(2^62)≤j∧j<2^62)∧Φ (Gc i (j-i).toNat) O')(hg:Gl Z.X "range":=by rfl)(hs:starEach [a,b] Z.X.env=[(false,eval a Z.X.env),(false,eval b Z.X.env)]:=by rfl)(hs2:starEach [b] Z.X.env=[(false,eval b Z.X.env)]:=by rfl):WI Z ρ O tg (.Call (.Name "range" p) [a,b] [] pos) Φ:=
 PI.weak (Nf hg hm h hs hs2) fun σ H R q=> ⟨q.1,by
  rintro vs H' _ O' ⟨i,j,rfl,h1,p⟩ f r
  obtain⟨v,w,rfl,r1,r2⟩:=r.two_inv
  exact⟨i,j,by rw[r1.int_inv,r2.int_inv],h1,q.2 _ H' _ O' p f Jx⟩⟩
def EI(Z:Zx)(ρ:List (Option T))(O:AQ)(tg iter:Expr)(ts:List T):Prop:=∀Φ:LV,Φ ts O→WI Z ρ O tg iter Φ
theorem Cw{tg:Expr}(h:ET Z ρ O e (.lst ts)):EI Z ρ O tg e ts:=fun Φ p=>Ms (h _ ⟨ts,rfl,p⟩)
theorem Iq{tg:Expr}(h:ET Z ρ O e (.tup ts)):EI Z ρ O tg e ts:=fun Φ p=>WX (h _ ⟨ts,rfl,p⟩)
theorem Bc{tg:Expr}{k:Int}(hm:Z.X.mg "range" =none)(h:ET Z ρ O a (.int k))(h1: -(2^62)≤k∧k<2^62)(hg:Gl Z.X "range":=by rfl)(hs:starEach [a] Z.X.env=[(false,eval a Z.X.env)]:=by rfl):EI Z ρ O tg (.Call (.Name "range" p) [a] [] pos) (Gc 0 k.toNat):=fun Φ q=>OG hm (AN h AC hs _ ⟨k,rfl,h1.1,h1.2,q⟩) hg hs
theorem OI{tg:Expr}{k l:Int}(hm:Z.X.mg "range" =none)(h:ET Z ρ O a (.int k))(h2:ET Z ρ O b (.int l))(h1: -(2^62)≤k∧k<2^62∧-(2^62)≤l∧l<2^62)(hg:Gl Z.X "range":=by rfl)(hs:starEach [a,b] Z.X.env=[(false,eval a Z.X.env),(false,eval b Z.X.env)]:=by rfl)(hs2:starEach [b] Z.X.env=[(false,eval b Z.X.env)]:=by rfl):EI Z ρ O tg (.Call (.Name "range" p) [a,b] [] pos) (Gc k (l-k).toNat):=
 fun Φ q=>OH hm (AN h (AN h2 AC hs2) (by rw[hs,hs2]) _ ⟨k,l,rfl,h1,q⟩) hg hs hs2
theorem FE{tg iter:Expr}{body:List Stmt}(hp:PassesOwn (model Z.X.prog Z.X.w) Z.X.A Z.X.env Z.X.xe)(hc:Z.X.calm=true)
  (h:WI Z ρ O tg iter fun ts O1=>∃I:Nat→Lb,I 0 ρ O1∧(∀i t ρ' O',ts[i]?=some t→I i ρ' O'→∃ρ2,WG Z Z.X.N.length ρ' O' tg t ρ2∧Gb Z ρ2 O' body {nx:=I (i+1),rt:=Ψ.rt,bk:=Ψ.nx,ct:=I (i+1)})∧∀ρ' O',I ts.length ρ' O'→Ψ.nx ρ' O')
  (hs:∀x,foldedSetIterable iter Z.X.env x=pure x:=by intro _;rfl):WS Z ρ O (.For tg iter body [] pos) Ψ:=by
 refine PS.weak (VZ hp hc h (bM (n:=Z.X.N.length)) Mr hs) fun D σ H q=> ⟨q.1,?_⟩
 rintro J H1 ts O1 ⟨I,i0,step,fin⟩ f1 it
 refine⟨fun i m σ' H'=>m=ts.length-i∧i≤ts.length∧∃ρ' O',I i ρ' O'∧Asr Z ρ' O' σ' H'∧Kp O1 H1 O' H',⟨ts.length,by simp,Nat.zero_le _,ρ,O1,i0,q.1.step f1,.refl⟩,?_⟩
 rintro i m σ2 H2 ⟨rfl,hi,ρ2,O2,i2,a2,k2⟩
 obtain⟨g1,g2,g3⟩:=it O2 H2 k2 a2.ok
 by_cases hlt:i<ts.length
 ·refine .inr ⟨g1 i hlt,fun σ' H'=>∃ρ' O',I (i+1) ρ' O'∧Asr Z ρ' O' σ' H'∧Kp O1 H1 O' H',fun σ' H' w=> ⟨_,by omega,rfl,by omega,w⟩,fun x H3 y=>?_⟩
  obtain⟨f3,r3⟩:=g2 i x H3 y ts[i] (by simp[hlt])
  obtain⟨ρ3,wg,wb⟩:=step i ts[i] ρ2 O2 (by simp[hlt]) i2
  refine⟨ρ2,O2,_,ρ3,wg,a2.step f3,r3,fun σ3 a3 _=> ⟨ρ3,O2,_,wb,a3,?_⟩⟩
  have kk:=(k2.trans f3.kp)
  exact⟨fun ρ' O' σ' H' w a k=> ⟨ρ',O',w,a,kk.trans k⟩,q.2.rt,fun ρ' O' σ' H' w a k=>q.2.nx ρ' O' σ' H' w a (f1.kp.trans (kk.trans k)),fun ρ' O' σ' H' w a k=> ⟨ρ',O',w,a,kk.trans k⟩⟩
 ·have:i=ts.length:=by omega
  subst this
  exact .inl ⟨g3 _ (Nat.le_refl _),q.2.nx ρ2 O2 σ2 H2 (fin ρ2 O2 i2) a2 (f1.kp.trans k2)⟩
end
def zc(X:Cx)(Oe:AQ)(He:Hp):Zx:=⟨X,Oe,He,fun _ _=>False⟩
def HJ(nc:List Str)(ρ:List (Option T))(cap:List (Str×Nat)):List (Option T):=List.replicate nc.length none++cap.map fun q=> (ρ[q.2]?).join
def aK(Z:Zx)(ρ:List (Option T))(O:AQ)(ifs:List Expr)(Φ:Js):Prop:=Vs Z.X ifs (Ym Z ρ O Φ)
theorem Ad{O:AQ}{p:Addr}{ts:List T}(h:O p=none):DF (BM O p ts) p=O:=by
 funext b
 by_cases hb:b=p
 ·rw[hb,Cr,h]
 ·rw[DR hb,BC hb]
theorem Pz{O:AQ}{p a:Addr}{ts us:List T}(h:a≠p):BM (BM O p ts) a us=BM (BM O a us) p ts:=by
 funext b
 unfold BM
 by_cases h1:b=a
 ·subst h1;rw[if_pos rfl,if_neg h,if_pos rfl]
 ·rw[if_neg h1,if_neg h1]
section
variable{Z:Zx}{ρ:List (Option T)}{O:AQ}{elt tg iter:Expr}{ifs:List Expr}{csc:Scope}{nc:List Str}{cap:List (Str×Nat)}{Φ:BR}{pos:Pos}
theorem Sw{Φ:Js}(h:Φ true O):aK Z ρ O [] Φ:=fun pins s σ H Q I q=>Sa pins s σ H Q I (q.2 true H O h q.1.refl)
theorem Mt{Φ:Js}{c:Expr}(h:WT Z ρ O c Φ):aK Z ρ O [c] Φ:=Sb h
theorem Yu{K:PySem.W.Frag}{H:Hp}{σ:St}(r:Rl K O H σ ρ):Rl K O H (HG nc σ cap) (HJ nc ρ cap):=by
 refine⟨by simp[By,HJ],fun i t e=>?_⟩
 unfold HJ at e
 have hi:nc.length≤i:=by
  by_cases hi:i<nc.length
  ·rw[List.getElem?_append_left (by simpa using hi),List.getElem?_replicate] at e
   split at e<;>cases e
  ·omega
 rw[List.getElem?_append_right (by simpa using hi),List.getElem?_map] at e
 simp only[List.length_replicate] at e
 cases hc:cap[i-nc.length]? with
 |none=>rw[hc] at e;cases e
 |some q=>
  rw[hc] at e
  have e:(ρ[q.2]?).join=some t:=Option.some.inj e
  have e':ρ[q.2]?=some (some t):=by
   cases h:ρ[q.2]? with
   |none=>rw[h] at e;cases e
   |some w=>rw[h] at e;exact congrArg some e
  obtain⟨v,h1,h2⟩:=r.2 q.2 t e'
  refine⟨v,?_,h2⟩
  show(List.replicate nc.length (none:Option V)++By σ cap)[i]?=some (some v)
  rw[List.getElem?_append_right (by simpa using hi)]
  simp only[List.length_replicate]
  unfold By
  rw[List.getElem?_map,hc]
  show some (σ[q.2]?).join=_
  rw[h1]
  rfl
theorem Ir{X X':Cx}{Oe:AQ}{He:Hp}{Xi Xi':Value→AQ→Prop}{σ:St}{H:Hp}(hK:X'.K=X.K)(a:Asr ⟨X,Oe,He,Xi⟩ ρ O σ H):Asr ⟨X',Oe,He,Xi'⟩ ρ O σ H:=by
 obtain⟨r,f⟩:=a
 refine⟨?_,?_⟩
 ·show Rl X'.K O H σ ρ
  rw[hK];exact r
 ·show Frm X'.K Oe He O H
  rw[hK];exact f
def gA(Z:Zx)(csc:Scope)(nc:List Str)(cap:List (Str×Nat))(tg:Expr):TG:=fun v σ H Q=>∃Oe He ρ O t ρ',(∀X',LcCx Z.X csc (Ao nc cap) X'→WG (zc X' Oe He) nc.length ρ O tg t ρ')∧tG (zc Z.X Oe He) nc.length ρ O t ρ' v σ H Q
def bN(Z:Zx)(csc:Scope)(nc:List Str)(cap:List (Str×Nat))(ifs:List Expr):TT:=fun σ H Q=>∃Oe He ρ O Φ,(∀X',LcCx Z.X csc (Ao nc cap) X'→aK (zc X' Oe He) ρ O ifs Φ)∧Ym (zc Z.X Oe He) ρ O Φ σ H Q
def eA(Z:Zx)(csc:Scope)(nc:List Str)(cap:List (Str×Nat))(e:Expr):TE:=fun σ H Q=>∃Oe He ρ O Φ,(∀X',LcCx Z.X csc (Ao nc cap) X'→WE (zc X' Oe He) ρ O e Φ)∧tW (zc Z.X Oe He) ρ O Φ σ H Q
theorem WY{X X':Cx}{N':List Str}(h:LcCx X csc N' X'):X'.K=X.K:=by
 obtain⟨_,_,_,_,rfl⟩:=h
 rfl
theorem Yv:∀X',LcCx Z.X csc (Ao nc cap) X'→PG X' tg (gA Z csc nc cap tg):=by
 rintro X' is pins s σ H v u Q I r ⟨Oe,He,ρ,O,t,ρ',w,a,rp,k⟩
 refine w X' is pins s σ H v u Q I r ⟨Ir (WY is) a,?_,fun σ' a' h=>k σ' (Ir (WY is).symm a') h⟩
 show Rep X'.K O H v t
 rw[WY is];exact rp
theorem Ut:∀X',LcCx Z.X csc (Ao nc cap) X'→Vs X' ifs (bN Z csc nc cap ifs):=by
 rintro X' is pins s σ H Q I ⟨Oe,He,ρ,O,Φ,w,a,k⟩
 refine w X' is pins s σ H Q I ⟨Ir (WY is) a,?_⟩
 intro b H' O' p f
 refine k b H' O' p ?_
 have f:Frm X'.K O H O' H':=f
 rw[WY is] at f;exact f
theorem Yw:∀X',LcCx Z.X csc (Ao nc cap) X'→PE X' elt (eA Z csc nc cap elt):=by
 rintro X' is pins s σ H Q I ⟨Oe,He,ρ,O,Φ,w,a,k⟩
 refine w X' is pins s σ H Q I ⟨Ir (WY is) a,?_⟩
 intro v H' t O' p f r
 have f:Frm X'.K O H O' H':=f
 have r:Rep X'.K O' H' v t:=r
 rw[WY is] at f r
 exact k v H' t O' p f r
def Uu(Z:Zx)(ρ:List (Option T))(elt tg:Expr)(ifs:List Expr)(csc:Scope)(nc:List Str)(cap:List (Str×Nat))(F:List T→AQ→Prop)(ts:List T)(O1:AQ):Prop:=
 ∃I:Nat→List T→AQ→Prop,I 0 [] O1∧(∀i t acc O' p,ts[i]?=some t→I i acc O'→O' p=none→∃ρ4,∀X' Oe He,LcCx Z.X csc (Ao nc cap) X'→WG (zc X' Oe He) nc.length (HJ nc ρ cap) (BM O' p acc) tg t ρ4∧
   aK (zc X' Oe He) ρ4 (BM O' p acc) ifs fun b O2=>if b=true then∀X' Oe He,LcCx Z.X csc (Ao nc cap) X'→WE (zc X' Oe He) ρ4 O2 elt fun y O3=>∃O4,O3=BM O4 p acc∧O4 p=none∧acc.length<sizeLine∧I (i+1) (acc++[y]) O4
    else∃O4,O2=BM O4 p acc∧O4 p=none∧I (i+1) acc O4)∧∀acc O',I ts.length acc O'→F acc O'
theorem WZ{F:List T→AQ→Prop}{σ:St}{H:Hp}{Q:VK}(a:Asr Z ρ O σ H)(h:WI Z ρ O tg iter (Uu Z ρ elt tg ifs csc nc cap F))
  (fin:∀acc O' p H',F acc O'→O' p=none→Frm Z.K O H (BM O' p acc) H'→(∀b us,O b=some us→b≠p)→Q (.ref p) H'):
  aH (fun σ H R=>Asr Z ρ O σ H∧∀J H' ts O',Uu Z ρ elt tg ifs csc nc cap F ts O'→Frm Z.K O H O' H'→Jw Z.K J O' H' ts→R J H') nc cap (gA Z csc nc cap tg) (bN Z csc nc cap ifs) (eA Z csc nc cap elt) σ H Q:=by
 refine⟨a,?_⟩
 rintro J H1 ts O1 ⟨I,i0,step,done⟩ f1 it p hp
 have np:O1 p=none:=f1.ok.none_of hp
 have nb:∀b us,O1 b=some us→b≠p:=fun b us e z=>by rw[z,np] at e;cases e
 have fn:=Frm.newO (ts:=[]) (xs:=[]) f1.ok hp .nil
 refine⟨fun i m H2=>m=ts.length-i∧i≤ts.length∧∃acc O',I i acc O'∧O' p=none∧Frm Z.K O1 H1 (BM O' p acc) H2,⟨ts.length,by simp,Nat.zero_le _,[],O1,i0,np,fn⟩,?_⟩
 rintro i m H2 ⟨rfl,hi,acc,O2,i2,n2,f2⟩
 obtain⟨g1,g2,g3⟩:=it _ H2 f2.kp f2.ok
 by_cases hlt:i<ts.length
 ·refine .inr ⟨g1 i hlt,fun H'=>∃acc O',I (i+1) acc O'∧O' p=none∧Frm Z.K O1 H1 (BM O' p acc) H',fun H' w=> ⟨_,by omega,rfl,by omega,w⟩,fun x H3 y=>?_⟩
  obtain⟨f3,r3⟩:=g2 i x H3 y ts[i] (by simp[hlt])
  obtain⟨ρ4,st⟩:=step i ts[i] acc O2 p (by simp[hlt]) i2 n2
  have a3:Asr (zc Z.X (BM O2 p acc) H3) (HJ nc ρ cap) (BM O2 p acc) (HG nc σ cap) H3:=⟨Yu ((a.rl.kp f1.kp a.ok).kp (f2.kp.trans f3.kp) f1.ok),.refl f3.ok⟩
  refine⟨BM O2 p acc,H3,HJ nc ρ cap,BM O2 p acc,ts[i],ρ4,fun X' is=> (st X' _ _ is).1,a3,r3,fun σ4 a4 hag=> ⟨?_,?_⟩⟩
  ·refine⟨σ4.take nc.length,?_,?_⟩
   ·rw[List.length_take,hag.1]
    simp
   ·have e1:σ4.drop nc.length=By σ cap:=by
     apply List.ext_getElem?
     intro m
     rw[List.getElem?_drop,hag.2 _ (by omega)]
     show(List.replicate nc.length (none:Option V)++By σ cap)[nc.length+m]?=_
     rw[List.getElem?_append_right (by simp)]
     simp
    rw[←e1,List.take_append_drop]
  ·refine⟨BM O2 p acc,H3,ρ4,BM O2 p acc,_,fun X' is=> (st X' _ _ is).2,a4,?_⟩
   intro b H5 O5 q5 f5
   cases b with
   |false=>
    rw[if_neg Bool.false_ne_true] at q5 ⊢
    obtain⟨O4,rfl,n4,i4⟩:=q5
    exact⟨acc,O4,i4,n4,f2.trans (f3.trans f5)⟩
   |true=>
    rw[if_pos rfl] at q5 ⊢
    refine⟨BM O2 p acc,H3,ρ4,O5,_,fun X' is=>q5 X' _ _ is,a4.step f5,?_⟩
    rintro y H6 t6 O6 ⟨O4,rfl,n4,hlen,i4⟩ f6 r6
    obtain⟨ys,hys,rys⟩:=f6.ok p acc AJ
    refine⟨ys,hys,by rw[rys.length];exact hlen,acc++[t6],O4,i4,n4,?_⟩
    have fp:=Frm.put (a:=p) f6.ok AJ (rys.append (.one r6))
    rw[Cq] at fp
    exact f2.trans (f3.trans (f5.trans (f6.trans fp)))
 ·have:i=ts.length:=by omega
  subst this
  refine .inl ⟨g3 _ (Nat.le_refl _),fin acc O2 p H2 (done acc O2 i2) n2 (f1.trans f2) fun b us e=>?_⟩
  obtain⟨us',e'⟩:=f1.own b us e
  exact nb b us' e'
theorem Uv{σ:St}{H:Hp}{Q:VK}(h:WI Z ρ O tg iter (Uu Z ρ elt tg ifs csc nc cap fun acc O'=>Φ (.lst acc) O'))(q:tW Z ρ O Φ σ H Q):
  aH (fun σ H R=>Asr Z ρ O σ H∧∀J H' ts O',Uu Z ρ elt tg ifs csc nc cap (fun acc O'=>Φ (.lst acc) O') ts O'→Frm Z.K O H O' H'→Jw Z.K J O' H' ts→R J H') nc cap (gA Z csc nc cap tg) (bN Z csc nc cap ifs) (eA Z csc nc cap elt) σ H Q:=by
 refine WZ q.1 h fun acc O' p H' p1 n f nb=>q.2 _ H' _ O' p1 ?_ ?_
 ·have e:=Ad (ts:=acc) n
  refine⟨fun b o e1 e2=>?_,fun b us e1=>?_,?_⟩
  ·have:=f.kp.trans (CA (a:=p)) b o e1 e2
   rw[e] at this;exact this
  ·obtain⟨us',e2⟩:=f.own b us e1
   rw[BC (nb b us e1)] at e2
   exact⟨us',e2⟩
  ·have:=f.ok.drop (a:=p)
   rw[e] at this;exact this
 ·have:=f.ok.rep (a:=p) AJ
  rw[Ad n] at this
  exact this
theorem Uw(hc:Z.X.calm=true)(ok:LcOk Z.X csc nc cap)(h:WI Z ρ O tg iter (Uu Z ρ elt tg ifs csc nc cap fun acc O'=>Φ (.lst acc) O'))
  (hs:∀x,foldedSetIterable iter Z.X.env x=pure x:=by intro _;rfl):WE Z ρ O (.ListComp elt [⟨tg,iter,ifs,0⟩] csc pos) Φ:=
 PE.weak (Yd hc ok h Yv Ut Yw hs) fun σ H Q q=>Uv h q
theorem Jy{i:Nat}{x:Str}{px spos:Pos}{Ψ:Es}(hsw:swapsWith (.ListComp elt [⟨tg,iter,ifs,0⟩] csc pos) (some (.Name x px)) spos.line Z.X.env=pure true)(hN:Z.X.N.Nodup)(hc:Z.X.calm=true)(ok:LcOk Z.X csc nc cap)
  (h:WI Z ρ O tg iter (Uu Z ρ elt tg ifs csc nc cap fun acc O'=>Ψ.nx (ρ.set i (some (.lst acc))) O')) (hx:Z.X.N[i]?=some x:=by rfl) (hk:Z.X.env.scope.names.lookup x=some .local:=by rfl)
  (hs:∀x,foldedSetIterable iter Z.X.env x=pure x:=by intro _;rfl):WS Z ρ O (.Assign [.Name x px] (.ListComp elt [⟨tg,iter,ifs,0⟩] csc pos) spos) Ψ:=
 PS.weak (PH hN hx hk hsw hc ok h Yv Ut Yw hs) fun D σ H q=>Uv (Φ:=fun t O'=>Ψ.nx (ρ.set i (some t)) O') h ⟨q.1,fun v H' t O' p f r=>q.2.nx _ O' _ H' p ⟨(q.1.step f).rl.set r,(q.1.step f).fr⟩ f.kp⟩
end
def bO:T→String
 | .non=> "NoneType" | .bl _=> "bool" | .int _=> "int" | .str _=> "str" | .tup _=> "tuple" | .lst _=> "list" | .frz _=> "list" | .dct=> "dict" | .raw _=> "object"
def CY:T→Bool
 | .raw _=>true
 |_=>false
def QA:T→Bool
 | .int _=>true
 | .bl _=>true
 |_=>false
def Lc:T→Bool
 | .bl _=>true
 |_=>false
def Mu:T→Bool
 | .tup _=>true
 |_=>false
def Ld(K:PySem.W.Frag)(c:String)(g:T→Bool):Prop:=∀t,CY t=false→PySem.W.kitOne K (.type (bO t)) (.type c)=some (g t)
section
variable{K:PySem.W.Frag}{O:AQ}{H:Hp}{v:V}{t:T}
theorem Rep.ty(r:Rep K O H v t)(hp:CY t=false):TyOf K H v (.type (bO t)):=by
 cases r with
 |non=>exact .non
 |bl b=>exact .bl b
 |int i=>exact .int i
 |str i=>exact .str i
 |tup h=>exact .tup h
 |lst h=>exact .lst h
 |frz h=>exact .frz h
 |dct h=>exact .dK h
 |raw v=>cases hp
theorem cZ(K:PySem.W.Frag):PySem.W.kitOne K (.type "NoneType") (.type "int")=some false:=by kernel_rfl
theorem cb(K:PySem.W.Frag):PySem.W.kitOne K (.type "bool") (.type "int")=some true:=by kernel_rfl
theorem cf(K:PySem.W.Frag):PySem.W.kitOne K (.type "int") (.type "int")=some true:=by rfl
theorem cg(K:PySem.W.Frag):PySem.W.kitOne K (.type "str") (.type "int")=some false:=by kernel_rfl
theorem cj(K:PySem.W.Frag):PySem.W.kitOne K (.type "tuple") (.type "int")=some false:=by kernel_rfl
theorem cA(K:PySem.W.Frag):PySem.W.kitOne K (.type "list") (.type "int")=some false:=by kernel_rfl
theorem cq(K:PySem.W.Frag):PySem.W.kitOne K (.type "dict") (.type "int")=some false:=by kernel_rfl
theorem Iu:Ld K "int" QA:=fun t h=>by
 cases t with
 |non=>exact cZ K
 |bl b=>exact cb K
 |int i=>exact cf K
 |str i=>exact cg K
 |tup i=>exact cj K
 |lst i=>exact cA K
 |frz i=>exact cA K
 |dct=>exact cq K
 |raw v=>cases h
theorem cu(K:PySem.W.Frag):PySem.W.kitOne K (.type "NoneType") (.type "bool")=some false:=by kernel_rfl
theorem cw(K:PySem.W.Frag):PySem.W.kitOne K (.type "bool") (.type "bool")=some true:=by rfl
theorem dA(K:PySem.W.Frag):PySem.W.kitOne K (.type "int") (.type "bool")=some false:=by kernel_rfl
theorem dB(K:PySem.W.Frag):PySem.W.kitOne K (.type "str") (.type "bool")=some false:=by kernel_rfl
theorem dC(K:PySem.W.Frag):PySem.W.kitOne K (.type "tuple") (.type "bool")=some false:=by kernel_rfl
theorem cB(K:PySem.W.Frag):PySem.W.kitOne K (.type "list") (.type "bool")=some false:=by kernel_rfl
theorem dD(K:PySem.W.Frag):PySem.W.kitOne K (.type "dict") (.type "bool")=some false:=by kernel_rfl
theorem Gf:Ld K "bool" Lc:=fun t h=>by
 cases t with
 |non=>exact cu K
 |bl b=>exact cw K
 |int i=>exact dA K
 |str i=>exact dB K
 |tup i=>exact dC K
 |lst i=>exact cB K
 |frz i=>exact cB K
 |dct=>exact dD K
 |raw v=>cases h
theorem dE(K:PySem.W.Frag):PySem.W.kitOne K (.type "NoneType") (.type "tuple")=some false:=by kernel_rfl
theorem dF(K:PySem.W.Frag):PySem.W.kitOne K (.type "bool") (.type "tuple")=some false:=by kernel_rfl
theorem dG(K:PySem.W.Frag):PySem.W.kitOne K (.type "int") (.type "tuple")=some false:=by kernel_rfl
theorem dH(K:PySem.W.Frag):PySem.W.kitOne K (.type "str") (.type "tuple")=some false:=by kernel_rfl
theorem dI(K:PySem.W.Frag):PySem.W.kitOne K (.type "tuple") (.type "tuple")=some true:=by rfl
theorem cC(K:PySem.W.Frag):PySem.W.kitOne K (.type "list") (.type "tuple")=some false:=by kernel_rfl
theorem dJ(K:PySem.W.Frag):PySem.W.kitOne K (.type "dict") (.type "tuple")=some false:=by kernel_rfl
theorem EO:Ld K "tuple" Mu:=fun t h=>by
 cases t with
 |non=>exact dE K
 |bl b=>exact dF K
 |int i=>exact dG K
 |str i=>exact dH K
 |tup i=>exact dI K
 |lst i=>exact cC K
 |frz i=>exact cC K
 |dct=>exact dJ K
 |raw v=>cases h
theorem Wa{c:String}{g:T→Bool}(hk:Ld K c g)(hp:CY t=false):CP K (Yg K) [t,.raw (.ty c)] O (.bl (g t)):=fun Φ p H vs Q ok r q=>by
 obtain⟨v,w,rfl,r1,r2⟩:=r.two_inv
 cases r2.raw_inv
 exact⟨v,.ty c,.type (bO t),.type c,g t,rfl,rfl,.inl (r1.ty hp),hk t hp,q _ H _ O p (.refl ok) (.bl _)⟩
theorem QB:bootBuiltins "int" =some (.type "int"):=by decide+kernel
theorem QC:bootBuiltins "bool" =some (.type "bool"):=by decide+kernel
theorem Dv:bootBuiltins "tuple" =some (.type "tuple"):=by decide+kernel
theorem Ux:bootBuiltins "list" =some (.type "list"):=by decide+kernel
theorem bP:bootBuiltins "set" =some (.type "set"):=by decide+kernel
theorem Wb:bootBuiltins "range" =some (.type "range"):=by decide+kernel
theorem HL:bootBuiltins "isinstance" =some (.builtin "isinstance"):=by decide+kernel
theorem bQ:bootBuiltins "max" =some (.builtin "max"):=by decide+kernel
theorem bS:bootBuiltins "min" =some (.builtin "min"):=by decide+kernel
theorem QD:bootBuiltins "len" =some (.builtin "len"):=by decide+kernel
theorem bT:bootBuiltins "all" =some (.builtin "all"):=by decide+kernel
theorem bU:bootBuiltins "any" =some (.builtin "any"):=by decide+kernel
theorem Mv:bootBuiltins "sorted" =some (.builtin "sorted"):=by decide+kernel
theorem Reps.bls:∀{vs:List V} {ns:List Bool},Reps K O H vs (ns.map T.bl)→vs=ns.map V.bl
 |_,[],r=>r.nil_inv
 |_,n::ns,r=>by
  obtain⟨v,vs',rfl,h,r⟩:=Reps.cons_inv r
  rw[h.bl_inv,Reps.bls r]
  rfl
end
section
variable{Z:Zx}{ρ:List (Option T)}{O:AQ}{e a b c:Expr}{es:List Expr}{Φ:BR}{pos p:Pos}{t ta tb:T}{ts us:List T}{i j:Int}{x:Str}{lo hi:Expr}
theorem FF{cn:String}{g:T→Bool}(mI:Z.X.mg "isinstance" =none)(mC:Z.X.mg x=none)(bC:bootBuiltins x=some (.type cn))(hk:Ld Z.K cn g)(h:ET Z ρ O e t)(hp:CY t=false){p1:Pos}(hgi:Gl Z.X "isinstance":=by rfl)(hgc:Gl Z.X x:=by rfl)
  (hn:x≠"__name__":=by decide) (hd:(x==("__debug__" :Str))=false:=by decide)
  (he:starEach [e,.Name x p1] Z.X.env=(false,eval e Z.X.env)::starEach [.Name x p1] Z.X.env:=by rfl):ET Z ρ O (.Call (.Name "isinstance" p) [e,.Name x p1] [] pos) (.bl (g t)):=
 BG BF mI HL (AN h (AN (Yo mC bC hgc hn hd) AC) he) (Wa hk hp) hgi (by decide) (by decide) he
theorem DT{cn:String}{g:T→Bool}(mI:Z.X.mg "isinstance" =none)(mC:Z.X.mg x=none)(bC:bootBuiltins x=some (.type cn))(hk:Ld Z.K cn g)(h:ET Z ρ O e t)(hp:CY t=false){p1:Pos}(hgi:Gl Z.X "isinstance":=by rfl)(hgc:Gl Z.X x:=by rfl)
  (hn:x≠"__name__":=by decide) (hd:(x==("__debug__" :Str))=false:=by decide)
  (he:starEach [e,.Name x p1] Z.X.env=(false,eval e Z.X.env)::starEach [.Name x p1] Z.X.env:=by rfl):EB Z ρ O (.Call (.Name "isinstance" p) [e,.Name x p1] [] pos) (g t):=
 EL (FF mI mC bC hk h hp hgi hgc hn hd he)
theorem Iv(m:Z.X.mg "len" =none)(h:ET Z ρ O e (.tup ts))(hg:Gl Z.X "len":=by rfl)(he:starEach [e] Z.X.env=(false,eval e Z.X.env)::starEach [] Z.X.env:=by rfl):ET Z ρ O (.Call (.Name "len" p) [e] [] pos) (.int ts.length):=
 BG Ba m QD (AN h AC he) (fun Φ q H vs Q ok r k=>by
  obtain⟨v,rfl,r1⟩:=r.one_inv
  obtain⟨a,xs,rfl,h1,r1⟩:=r1.tup_inv
  refine⟨a,xs,rfl,.inr (.inl (.inl h1)),?_⟩
  rw[r1.length]
  exact k _ H _ O q (.refl ok) (.int _)) hg (by decide) (by decide) he
theorem CD(m:Z.X.mg "len" =none)(h:ET Z ρ O e (.lst ts))(hg:Gl Z.X "len":=by rfl)(he:starEach [e] Z.X.env=(false,eval e Z.X.env)::starEach [] Z.X.env:=by rfl):ET Z ρ O (.Call (.Name "len" p) [e] [] pos) (.int ts.length):=
 BG Ba m QD (AN h AC he) (fun Φ q H vs Q ok r k=>by
  obtain⟨v,rfl,r1⟩:=r.one_inv
  obtain⟨a,xs,rfl,h1,_,r1⟩:=r1.lst_inv
  refine⟨a,xs,rfl,.inl (.inl (.inl h1)),?_⟩
  rw[r1.length]
  exact k _ H _ O q (.refl ok) (.int _)) hg (by decide) (by decide) he
theorem ER{l:Addr}(m:Z.X.mg "len" =none)(h:ET Z ρ O e (.raw (.ref l)))(ho:O l=some ts)(hg:Gl Z.X "len":=by rfl)(he:starEach [e] Z.X.env=(false,eval e Z.X.env)::starEach [] Z.X.env:=by rfl):ET Z ρ O (.Call (.Name "len" p) [e] [] pos) (.int ts.length):=
 BG Ba m QD (AN h AC he) (fun Φ q H vs Q ok r k=>by
  obtain⟨v,rfl,r1⟩:=r.one_inv
  cases r1.raw_inv
  obtain⟨xs,h1,r1⟩:=ok l ts ho
  refine⟨l,xs,rfl,.inl (.inl (.inl h1)),?_⟩
  rw[r1.length]
  exact k _ H _ O q (.refl ok) (.int _)) hg (by decide) (by decide) he
theorem Le{bs:List Bool}(m:Z.X.mg "all" =none)(hc:Z.X.calm=true)(h:ET Z ρ O e (.lst (bs.map T.bl)))(hg:Gl Z.X "all":=by rfl)(he:starEach [e] Z.X.env=(false,eval e Z.X.env)::starEach [] Z.X.env:=by rfl):ET Z ρ O (.Call (.Name "all" p) [e] [] pos) (.bl (bs.all id)):=
 BG (Pn hc) m bT (AN h AC he) (fun Φ q H vs Q ok r k=>by
  obtain⟨v,rfl,r1⟩:=r.one_inv
  obtain⟨a,xs,rfl,h1,_,r1⟩:=r1.lst_inv
  cases r1.bls
  exact⟨a,bs,rfl,.inl (.inl (.inl h1)),k _ H _ O q (.refl ok) (.bl _)⟩) hg (by decide) (by decide) he
theorem Wc{bs:List Bool}(m:Z.X.mg "any" =none)(hc:Z.X.calm=true)(h:ET Z ρ O e (.lst (bs.map T.bl)))(hg:Gl Z.X "any":=by rfl)(he:starEach [e] Z.X.env=(false,eval e Z.X.env)::starEach [] Z.X.env:=by rfl):ET Z ρ O (.Call (.Name "any" p) [e] [] pos) (.bl (bs.any id)):=
 BG (Po hc) m bU (AN h AC he) (fun Φ q H vs Q ok r k=>by
  obtain⟨v,rfl,r1⟩:=r.one_inv
  obtain⟨a,xs,rfl,h1,_,r1⟩:=r1.lst_inv
  cases r1.bls
  exact⟨a,bs,rfl,.inl (.inl (.inl h1)),k _ H _ O q (.refl ok) (.bl _)⟩) hg (by decide) (by decide) he
theorem Sx(m:Z.X.mg "min" =none)(hc:Z.X.calm=true)(h:ET Z ρ O a (.int i))(h2:ET Z ρ O b (.int j))(hg:Gl Z.X "min":=by rfl)(he:starEach [a,b] Z.X.env=(false,eval a Z.X.env)::starEach [b] Z.X.env:=by rfl)(he2:starEach [b] Z.X.env=(false,eval b Z.X.env)::starEach [] Z.X.env:=by rfl)(hpl:(backTo pos (starEach [b] Z.X.env)).any (·.1)=false:=by rfl):ET Z ρ O (.Call (.Name "min" p) [a,b] [] pos) (.int (min i j)):=
 BG (Nj hc) m bS (AN h (AN h2 AC he2) he) (fun Φ q H vs Q ok r k=>by
  obtain⟨v,w,rfl,r1,r2⟩:=r.two_inv
  cases r1.int_inv;cases r2.int_inv
  refine⟨i,j,rfl,?_⟩
  have:(if j<i then j else i)=min i j:=by split<;>omega
  rw[this]
  exact k _ H _ O q (.refl ok) (.int _)) hg (by decide) (by decide) he hpl
theorem Fg(m:Z.X.mg "max" =none)(hc:Z.X.calm=true)(h:ET Z ρ O a (.int i))(h2:ET Z ρ O b (.int j))(hg:Gl Z.X "max":=by rfl)(he:starEach [a,b] Z.X.env=(false,eval a Z.X.env)::starEach [b] Z.X.env:=by rfl)(he2:starEach [b] Z.X.env=(false,eval b Z.X.env)::starEach [] Z.X.env:=by rfl)(hpl:(backTo pos (starEach [b] Z.X.env)).any (·.1)=false:=by rfl):ET Z ρ O (.Call (.Name "max" p) [a,b] [] pos) (.int (max i j)):=
 BG (Ni hc) m bQ (AN h (AN h2 AC he2) he) (fun Φ q H vs Q ok r k=>by
  obtain⟨v,w,rfl,r1,r2⟩:=r.two_inv
  cases r1.int_inv;cases r2.int_inv
  refine⟨i,j,rfl,?_⟩
  have:(if j>i then j else i)=max i j:=by split<;>omega
  rw[this]
  exact k _ H _ O q (.refl ok) (.int _)) hg (by decide) (by decide) he hpl
theorem Sy{k:Bool}(m:Z.X.mg "int" =none)(h:ET Z ρ O e (.bl k))(hg:Gl Z.X "int":=by rfl)(he:starEach [e] Z.X.env=(false,eval e Z.X.env)::starEach [] Z.X.env:=by rfl):ET Z ρ O (.Call (.Name "int" p) [e] [] pos) (.int (if k then 1 else 0)):=
 Bb Nk m QB (AN h AC he) (fun Φ q H vs Q ok r k=>by
  obtain⟨v,rfl,r1⟩:=r.one_inv
  cases r1.bl_inv
  exact .inr ⟨_,rfl,k _ H _ O q (.refl ok) (.int _)⟩) hg (by decide) (by decide) he
theorem Jz(m:Z.X.mg "tuple" =none)(h:WE Z ρ O e fun t O'=>∃ts,t=.lst ts∧Φ (.tup ts) O')(hg:Gl Z.X "tuple":=by rfl)(he:starEach [e] Z.X.env=(false,eval e Z.X.env)::starEach [] Z.X.env:=by rfl):WE Z ρ O (.Call (.Name "tuple" p) [e] [] pos) Φ:=
 Hu FP m Dv (Cu (Dd h (by
  rintro t O' ⟨ts,rfl,q⟩
  refine Av fun H vs Q ok r k=>?_
  obtain⟨v,rfl,r1⟩:=r.one_inv
  obtain⟨a,xs,rfl,h1,_,r1⟩:=r1.lst_inv
  exact⟨a,xs,rfl,.inl (.inl h1),fun p hp=>k _ _ _ O' q (.new ok hp) (.tup AF (r1.kp (Au ok hp) ok))⟩)) he) hg (by decide) (by decide) he
theorem QE(m:Z.X.mg "tuple" =none)(h:ET Z ρ O e (.lst ts))(hg:Gl Z.X "tuple":=by rfl)(he:starEach [e] Z.X.env=(false,eval e Z.X.env)::starEach [] Z.X.env:=by rfl):ET Z ρ O (.Call (.Name "tuple" p) [e] [] pos) (.tup ts):=fun Φ q=>Jz m (h _ ⟨ts,rfl,q⟩) hg he
theorem QF(m:Z.X.mg "list" =none)(h:ET Z ρ O e (.tup ts))(hg:Gl Z.X "list":=by rfl)(he:starEach [e] Z.X.env=(false,eval e Z.X.env)::starEach [] Z.X.env:=by rfl):ET Z ρ O (.Call (.Name "list" p) [e] [] pos) (.lst ts):=
 Bb LS m Ux (AN h AC he) (fun Φ q H vs Q ok r k=>by
  obtain⟨v,rfl,r1⟩:=r.one_inv
  obtain⟨a,xs,rfl,h1,r1⟩:=r1.tup_inv
  exact⟨a,xs,rfl,.inr (.inl (.inl h1)),fun p hp=>k _ _ _ O q (.new ok hp) (.lst AF (ok.none_of hp) (r1.kp (Au ok hp) ok))⟩) hg (by decide) (by decide) he
end
def FG(ts:List T)(lo hi:Option Int):List T:=(ts.drop (HT.En ts.length 0 lo)).take (HT.En ts.length ts.length hi-HT.En ts.length 0 lo)
section
variable{K:PySem.W.Frag}{O:AQ}{H:Hp}
theorem Reps.cut{vs:List V}{ts:List T}{lo hi:Option Int}(r:Reps K O H vs ts):Reps K O H (JY vs lo hi) (FG ts lo hi):=by
 unfold JY FG
 rw[r.length]
 exact(r.drop _).take _
end
section
variable{Z:Zx}{ρ:List (Option T)}{O:AQ}{e a b c:Expr}{es:List Expr}{Φ:BR}{pos p p2:Pos}{t ta tb:T}{ts us:List T}{i j:Int}{x:Str}{lo hi:Expr}
theorem Cy(hl:ts.length+us.length≤sizeLine){K:PySem.W.Frag}:RP K Vn (.lst ts) (.lst us) O (.lst (ts++us)):=fun Φ p H v w Q ok r1 r2 q=>by
 obtain⟨a,xs,rfl,h1,_,r1⟩:=r1.lst_inv
 obtain⟨b,ys,rfl,h2,_,r2⟩:=r2.lst_inv
 exact⟨a,b,xs,ys,rfl,rfl,h1,h2,by rw[r1.length,r2.length];exact hl,fun l hq=>q _ _ _ O p (.new ok hq) (.lst AF (ok.none_of hq) ((r1.append r2).kp (Au ok hq) ok))⟩
theorem CF(ha:ET Z ρ O a (.lst ts))(hb:ET Z ρ O b (.lst us))(hl:ts.length+us.length≤sizeLine):ET Z ρ O (.BinOp a .Add b pos) (.lst (ts++us)):=EJ Cf (Cy hl) ha hb
theorem Wd{K:PySem.W.Frag}{ns ms:List Int}:RP K (YY K) (.tup (ns.map T.int)) (.tup (ms.map T.int)) O (.bl (HT.BE ns ms)):=fun Φ p H v w Q ok r1 r2 q=>by
 obtain⟨a,xs,rfl,h1,r1⟩:=r1.tup_inv
 obtain⟨b,ys,rfl,h2,r2⟩:=r2.tup_inv
 cases r1.ints
 cases r2.ints
 exact⟨a,b,ns,ms,rfl,rfl,.inl (.inl h1),.inl (.inl h2),q _ H _ O p (.refl ok) (.bl _)⟩
theorem We{ns ms:List Int}(hu:Z.X.A.units<cLine)(ha:ET Z ρ O a (.tup (ns.map T.int)))(hb:ET Z ρ O b (.tup (ms.map T.int))):ET Z ρ O (.Compare a [.Lt] [b] pos) (.bl (HT.BE ns ms)):=GV (Vh hu) (Af _) Wd ha hb
theorem Wf:ET Z ρ O (.Dict [] [] pos) .dct:=fun Φ q pins s σ H Q I k=>
 have big:sysModules<s.heap.objs.size:=Nat.lt_trans (by decide) (show mainGlobals<s.heap.objs.size from(I.mod.glob.keeps I.bk).lt)
 have hf:H s.heap.objs.size=none:=I.hok.fresh (Nat.le_refl _)
 wpAny_Dict_empty ⟨.ref s.heap.objs.size,_,I.laid (a:=s.heap.objs.size) (o:=.dK []) (t':=s.toks) (fun _ _ e=>Heap.get?_push_of_some _ e) (Nat.le_refl _) ⟨Nat.zero_le _,beq_eq_false_iff_ne.mpr (Ne.symm (Nat.ne_of_lt big)),[],.nil,Heap.DictOf.new s.heap⟩,rfl,k.2 _ _ _ O q (.new k.1.ok hf) (.dct AF)⟩
end
def AE(p:Int×Int):T:=.tup [.int p.1,.int p.2]
def Yx(p q:Int×Int):Prop:=p.1<q.1∨(p.1=q.1∧p.2<q.2)
section
variable{K:PySem.W.Frag}{O:AQ}{H:Hp}
theorem Gh:∀{ps:List (Int×Int)} {xs:List V},Reps K O H xs (ps.map AE)→∃qs:List (List Int×Addr),xs=qs.map (fun p=>V.ref p.2)∧qs.map (·.1)=ps.map (fun p=> [p.1,p.2])∧∀k x,(k,x)∈qs→H x=some (.tup (k.map V.int))
 | [],xs,r=> ⟨[],r.nil_inv,rfl,fun _ _ h=>by cases h⟩
 |p::ps,xs,r=>by
  obtain⟨v,vs',rfl,h,r'⟩:=Reps.cons_inv r
  obtain⟨a,ys,rfl,ha,r2⟩:=h.tup_inv
  cases Reps.ints (ns:=[p.1,p.2]) r2
  obtain⟨qs,rfl,e,hk⟩:=Gh r'
  refine⟨([p.1,p.2],a)::qs,rfl,by rw[List.map_cons,List.map_cons,e],fun k x h=>?_⟩
  rcases List.mem_cons.mp h with h|h
  ·cases h;exact ha
  ·exact hk k x h
theorem Gj:∀{qs:List (List Int×Addr)} {ps:List (Int×Int)},qs.map (·.1)=ps.map (fun p=> [p.1,p.2])→(∀k x,(k,x)∈qs→H x=some (.tup (k.map V.int)))→Reps K O H (qs.map fun p=>V.ref p.2) (ps.map AE)
 | [],[],_,_=> .nil
 | [],p::ps,e,_=>by cases e
 |q::qs,[],e,_=>by cases e
 | (k,x)::qs,p::ps,e,h=>by
  rw[List.map_cons,List.map_cons] at e
  injection e with e1 e2
  have e1:k=[p.1,p.2]:=e1
  have hx:=h k x (List.mem_cons_self ..)
  rw[e1] at hx
  exact .cons (.tup hx (.cons (.int _) (.cons (.int _) .nil))) (Gj e2 fun k x hk=>h k x (List.mem_cons_of_mem _ hk))
end
theorem Mw:∀{ys:List (List Int×Addr)},(∀k x,(k,x)∈ys→∃i j:Int,k=[i,j])→∃ps:List (Int×Int),ys.map (·.1)=ps.map (fun p=> [p.1,p.2])
 | [],_=> ⟨[],rfl⟩
 | (k,x)::ys,h=>by
  obtain⟨i,j,e⟩:=h k x (List.mem_cons_self ..)
  obtain⟨ps,e2⟩:=Mw fun k x hk=>h k x (List.mem_cons_of_mem _ hk)
  exact⟨(i,j)::ps,by rw[List.map_cons,List.map_cons,e,e2]⟩
section
variable{Z:Zx}{ρ:List (Option T)}{O:AQ}{e:Expr}{Φ:BR}{pos p p1 pos1:Pos}
theorem Iw{ps:List (Int×Int)}(m:Z.X.mg "sorted" =none)(m2:Z.X.mg "set" =none)(hc:Z.X.calm=true)(hu:Z.X.A.units+8<cLine)(h:ET Z ρ O e (.lst (ps.map AE)))(hl:ps.length≤300)(hb:∀q∈ps,0≤q.2∧q.2<65536)
  (k:∀qs:List (Int×Int),qs.Pairwise Yx→(∀q,q∈qs↔q∈ps)→qs.length≤ps.length→Φ (.lst (qs.map AE)) O) (hg:Gl Z.X "sorted":=by rfl) (hg2:Gl Z.X "set":=by rfl) (he:starEach [e] Z.X.env=(false,eval e Z.X.env)::starEach [] Z.X.env:=by rfl)
  (he2:starEach [Expr.Call (.Name "set" p1) [e] [] pos1] Z.X.env=(false,eval (.Call (.Name "set" p1) [e] [] pos1) Z.X.env)::starEach [] Z.X.env:=by rfl):WE Z ρ O (.Call (.Name "sorted" p) [.Call (.Name "set" p1) [e] [] pos1] [] pos) Φ:=by
 refine PE.weak (Ar (Ii hc) hg m Mv (AM (Em (OE hc hu) hg2 m2 bP (FW (ρ:=ρ)) (by decide) (by decide) he) Ax he2) (by decide) (by decide) he2) fun σ H Q q=>?_
 refine⟨O,_,AN h AC he (fun ts O'=>ts=[.lst (ps.map AE)]∧O'=O) ⟨rfl,rfl⟩,q.1,?_⟩
 rintro vs H1 _ _ ⟨rfl,rfl⟩ f r
 obtain⟨v,rfl,r1⟩:=r.one_inv
 obtain⟨a,xs,rfl,h1,_,r1⟩:=r1.lst_inv
 obtain⟨qs,rfl,eq,hk⟩:=Gh r1
 have lq:qs.length=ps.length:=by
  have:=congrArg List.length eq
  simpa using this
 refine⟨a,qs,rfl,.inl (.inl h1),fun k x hx=> .inl (.inl (hk k x hx)),by omega,fun l xs hl1 so nd=>?_⟩
 obtain⟨s1,s2,s3⟩:=so
 have f1:=Frm.new (o:=SetO Z.X.prog Z.X.w l xs) f.ok hl1
 have hk2:∀k x,(k,x)∈xs→upd H1 l (SetO Z.X.prog Z.X.w l xs) x=some (.tup (k.map V.int)):=fun k x hx=>by
  have:=hk k x (s1 _ hx)
  rw[AG (AL this hl1)];exact this
 have mem1:∀k x,(k,x)∈qs→∃q∈ps,k=[q.1,q.2]:=fun k x hx=>by
  have:k∈qs.map (·.1):=List.mem_map.mpr ⟨(k,x),hx,rfl⟩
  rw[eq] at this
  obtain⟨q,h1,h2⟩:=List.mem_map.mp this
  exact⟨q,h1,h2.symm⟩
 have two:∀k x,(k,x)∈xs→∃i j,k=[i,j]∧0≤j∧j<65536:=fun k x hx=>by
  obtain⟨q,h1,h2⟩:=mem1 k x (s1 _ hx)
  exact⟨q.1,q.2,h2,hb q h1⟩
 refine⟨l,xs,rfl,AF,fun k x hx=> .inl (.inl (hk2 k x hx)),by omega,two,fun d ys hd pm pw=>?_⟩
 obtain⟨rs,er⟩:=Mw (ys:=ys) fun k x hx=>by
  obtain⟨i,j,e,_⟩:=two k x (pm.mem_iff.mp hx)
  exact⟨i,j,e⟩
 have f2:=Frm.new (o:=.lst (ys.map fun p=>V.ref p.2)) f1.ok hd
 have hk3:∀k x,(k,x)∈ys→upd (upd H1 l (SetO Z.X.prog Z.X.w l xs)) d (.lst (ys.map fun p=>V.ref p.2)) x=some (.tup (k.map V.int)):=fun k x hx=>by
  have:=hk2 k x (pm.mem_iff.mp hx)
  rw[AG (AL this hd)];exact this
 have memr:∀z,z∈rs↔∃x,([z.1,z.2],x)∈ys:=fun z=>by
  constructor
  ·intro hz
   have:[z.1,z.2]∈ys.map (·.1):=by rw[er];exact List.mem_map.mpr ⟨z,hz,rfl⟩
   obtain⟨⟨k,x⟩,h1,h2⟩:=List.mem_map.mp this
   have h2:k=_:=h2
   subst h2
   exact⟨x,h1⟩
  ·rintro⟨x,hx⟩
   have:[z.1,z.2]∈ys.map (·.1):=List.mem_map.mpr ⟨_,hx,rfl⟩
   rw[er] at this
   obtain⟨w,h1,h2⟩:=List.mem_map.mp this
   injection h2 with e1 e2
   injection e2 with e2 _
   have:w=z:=Prod.ext e1 e2
   rw[←this];exact h1
 have ndy:(ys.map (·.1)).Nodup:=(pm.map _).nodup_iff.mpr nd
 refine q.2 _ _ _ _ (k rs ?_ (fun z=>?_) ?_) (f.trans (f1.trans f2)) (.lst AF (f1.ok.none_of hd) (Gj er hk3))
 ·--strictly rising
  have pw':rs.Pairwise fun x y=>65536*x.1+x.2≤65536*y.1+y.2:=by
   have h3:(ys.map (·.1)).Pairwise fun x y=>65536*x.getD 0 0+x.getD 1 0≤65536*y.getD 0 0+y.getD 1 0:=List.pairwise_map.mpr pw
   rw[er] at h3
   exact(List.pairwise_map (f:=fun(p:Int×Int)=> [p.1,p.2]) (R:=fun x y=>65536*x.getD 0 0+x.getD 1 0≤65536*y.getD 0 0+y.getD 1 0)).mp h3
  have nd':rs.Pairwise fun x y=>x≠y:=by
   have h3:(ys.map (·.1)).Pairwise (·≠·):=ndy
   rw[er] at h3
   exact(List.pairwise_map.mp h3).imp fun hxy z=>hxy (by rw[z])
  refine(pw'.and nd').imp_of_mem fun{x y} hx hy ⟨h1,h2⟩=>?_
  have bnd:∀z,z∈rs→0≤z.2∧z.2<65536:=fun z hz=>by
   obtain⟨v,hv⟩:=(memr z).mp hz
   obtain⟨i,j,e,hj⟩:=two _ v (pm.mem_iff.mp hv)
   injection e with e1 e2
   injection e2 with e2 _
   omega
  have b1:=bnd x hx
  have b2:=bnd y hy
  unfold Yx
  have:¬(x.1=y.1∧x.2=y.2):=fun z=>h2 (Prod.ext z.1 z.2)
  omega
 ·rw[memr]
  constructor
  ·rintro⟨x,hx⟩
   obtain⟨w,h1,h2⟩:=mem1 _ x (s1 _ (pm.mem_iff.mp hx))
   injection h2 with e1 e2
   injection e2 with e2 _
   have:z=w:=Prod.ext e1 e2
   rw[this];exact h1
  ·intro hz
   have:[z.1,z.2]∈qs.map (·.1):=by rw[eq];exact List.mem_map.mpr ⟨z,hz,rfl⟩
   obtain⟨⟨k,x⟩,h1,h2⟩:=List.mem_map.mp this
   have h2:k=_:=h2
   subst h2
   obtain⟨x',hx'⟩:=s2 _ _ h1
   exact⟨x',pm.mem_iff.mpr hx'⟩
 ·have e1:rs.length=ys.length:=by
   have:=congrArg List.length er
   simpa using this.symm
  have e2:=pm.length_eq
  omega
end
theorem XFly.mono{X:Cx}{W W':St→XK}(x:XFly X W)(h:∀σ cls H',W' σ cls none H'→W σ cls none H'):XFly X W':=⟨fun pins σ H s e s' I c=>x.fly pins σ H s e s' I (by
 obtain⟨y,cls,H',e1,f,q⟩:=c
 exact⟨y,cls,H',e1,f,h σ cls H' q⟩)⟩
theorem Iy{X:Cx}{Oe:AQ}{He:Hp}:XFly X (zc X Oe He).W:=⟨fun pins σ H s e s' I c=>by
 obtain⟨y,cls,H',e1,f,_,O',z,_⟩:=c
 exact z.elim⟩
abbrev zB(P:Program)(w:World)(K:PySem.W.Frag)(mg:Str→Option Value)(base:Heap)(N:List Str)(qual:Str)(sc:Scope)(f:Addr)(cdv:Value)(A:Around)(outer:List Env)(s:Shared)(H:Hp)(E:XK)(O:AQ)(Ξ:Value→AQ→Prop):Zx:=
 ⟨Be (CXe P w) P w K mg base N qual sc f cdv A outer s H E,O,H,Ξ⟩
def CU(N:List Str)(ts:List T):List (Option T):=ts.map some++List.replicate (N.length-ts.length) none
theorem ES{K:PySem.W.Frag}{O:AQ}{H:Hp}{N:List Str}{vs:List V}{ts:List T}(r:Reps K O H vs ts):Rl K O H (start N vs) (CU N ts):=by
 refine⟨by simp[start,CU,r.length],fun i t e=>?_⟩
 unfold CU at e
 by_cases hi:i<ts.length
 ·rw[List.getElem?_append_left (by simpa using hi),List.getElem?_map] at e
  cases ht:ts[i]? with
  |none=>rw[ht] at e;cases e
  |some u=>
   rw[ht] at e
   cases e
   obtain⟨v,h1,h2⟩:=r.get ht
   refine⟨v,?_,h2⟩
   unfold start
   rw[List.getElem?_append_left (by simpa[r.length] using hi),List.getElem?_map,h1]
   rfl
 ·rw[List.getElem?_append_right (by simpa using hi),List.getElem?_replicate] at e
  split at e<;>cases e
theorem Aj{P:Program}{w:World}{K:PySem.W.Frag}{mg:Str→Option Value}{base:Heap}{x qual:Str}{st:Stmt}{f:Addr}{fd:FuncData}{N ps:List Str}{k:Nat}{sp:DI}(F:Fun K x qual st f fd)(S:FnScope N ps (AA st))(len:∀ts O Φ Ξ,sp ts O Φ Ξ→ts.length=ps.length)
  (h:∀(cdv:Value) (A:Around) (outer:List Env) (s:Shared) (H:Hp) (E:XK) (O:AQ) (Ξ:Value→AQ→Prop),Room k (A.deeper (envOfC qual (AA st) s.heap.objs.size f cdv))→XFly (zB P w K mg base N qual (AA st) f cdv A outer s H E O Ξ).X (zB P w K mg base N qual (AA st) f cdv A outer s H E O Ξ).W→
   ∀ts Φ,sp ts O Φ Ξ→Gb (zB P w K mg base N qual (AA st) f cdv A outer s H E O Ξ) (CU N ts) O (Aa st) {nx:=fun _ O'=>Φ .non O',rt:=Φ}):FnOk P w K mg base (CXe P w) (k+1) f fd ps (Du K sp):=by
 refine F.okX S (fun vs H Q E h=>?_) (fun cdv A outer s H vs Q E hr h1=>?_)
 ·obtain⟨ts,O,Φ,Ξ,r,_,q,_⟩:=h
  rw[r.length];exact len ts O Φ Ξ q
 ·obtain⟨ts,O,Φ,Ξ,r,ok,q,acc,ex⟩:=h1
  refine⟨_,h cdv A outer s H E O Ξ hr (XFly.mono BQ.f ?_) ts Φ q,⟨ES r,.refl ok⟩,?_⟩
  ·rintro σ cls H' ⟨_,O',x,f⟩
   exact ex cls O' H' x f
  ·exact⟨fun ρ' O' σ' H' p a _=>acc _ _ _ O' p a.fr .non,fun v H' t O' p f r=>acc v H' t O' p f r,fun _ _ _ _ z=>z.elim,fun _ _ _ _ z=>z.elim⟩
theorem FnT.mono{P:Program}{w:World}{K:PySem.W.Frag}{mg:Str→Option Value}{base:Heap}{x:Str}{j k:Nat}{ps:List Str}{s:DI}(G:FnT P w K mg base x j ps s)(h:j≤k):FnT P w K mg base x k ps s:=by
 obtain⟨f,fd,F,r⟩:=G.ex
 exact⟨f,fd,F.mono h,r⟩
structure Fi(K:PySem.W.Frag)(x:Str)(st:Stmt)(f:Addr)(fd:FuncData):Prop where
 F:Fun K x x st f fd
 a:PySem.W.nsIn K mainGlobals x=some (some (.ref f))
def Fx(K:PySem.W.Frag)(x:Str)(st:Stmt):Prop:=∃f fd,Fi K x st f fd
def Zn(K:PySem.W.Frag)(x:Str):Prop:=PySem.W.nsIn K mainGlobals x=some none
def Cn(K:PySem.W.Frag)(x:Str)(C:Addr):Prop:=PySem.W.nsIn K mainGlobals x=some (some (.ref C))
structure Mg(P:Program)(w:World)(K:PySem.W.Frag)(mg:Str→Option Value)(base:Heap):Prop where
 mm:∀{x:Str} {v:Value},PySem.W.nsIn K mainGlobals x=some (some v)→mg x=some v
section
variable{P:Program}{w:World}{K:PySem.W.Frag}{mg:Str→Option Value}{base:Heap}{x:Str}{st:Stmt}{f:Addr}{fd:FuncData}{ps:List Str}{k:Nat}
theorem fi{oc:Value}{od:Option Addr}{kV doc pm:Value}{an:Option Addr}{cdv ct:Value}{osl:Array (Option Value)}(a:PySem.W.nsIn K mainGlobals x=some (some (.ref f)))(l:K.lookup f=some ⟨oc,od,.func (PySem.W.fnOf x x (Cg st) (Aa st) (AA st) .none kV doc pm an cdv ct),osl⟩)(q:PySem.W.codeIn K cdv x=true)(h:PySem.W.keepIn K (.ref f)=true):
  Fx K x st:=⟨f,_,⟨⟨⟨oc,od,kV,doc,pm,an,cdv,ct,osl,rfl,l,q⟩,h⟩,a⟩⟩
abbrev Bi(x:Str)(st:Stmt)(ps:List Str)(us:List Value):Prop:=∀(kV doc pm:Value) (an:Option Addr) (cdv ct:Value),bindArgs (PySem.W.fnOf x x (Cg st) (Aa st) (AA st) .none kV doc pm an cdv ct) ⟨us,[]⟩=pure (ps.zip us)
theorem Fi.b1(h:Fi K x st f fd)(hl:ps.length=1)(q:∀a,Bi x st ps [a]):Binds K fd ps []:=h.F.binds fun _ _ _ _ _ _ us e=>match us,e.trans hl with| [a],_=>q a ..
theorem Fi.b2(h:Fi K x st f fd)(hl:ps.length=2)(q:∀a b,Bi x st ps [a,b]):Binds K fd ps []:=h.F.binds fun _ _ _ _ _ _ us e=>match us,e.trans hl with| [a,b],_=>q a b ..
theorem Fi.b3(h:Fi K x st f fd)(hl:ps.length=3)(q:∀a b c,Bi x st ps [a,b,c]):Binds K fd ps []:=h.F.binds fun _ _ _ _ _ _ us e=>match us,e.trans hl with| [a,b,c],_=>q a b c ..
theorem Fi.t{s:DI}(h:Fi K x st f fd)(M:Mg P w K mg base)(ok:FnOk P w K mg base (CXe P w) k f fd ps (Du K s))(b:Binds K fd ps []):FnT P w K mg base x k ps s:=⟨f,fd,ok,M.mm h.a,h.F.kp,b⟩
structure Xk(K:PySem.W.Frag)(C CR c0 c1 c2 c3 c4 c5 c6 c7:Addr)(b0 b1 b2 b3 b4 b5 b6 b7:Bool):Prop where
 e0:PySem.W.kitOne K (.ref C) (.ref c0)=some b0
 e1:PySem.W.kitOne K (.ref C) (.ref c1)=some b1
 e2:PySem.W.kitOne K (.ref C) (.ref c2)=some b2
 e3:PySem.W.kitOne K (.ref C) (.ref c3)=some b3
 e4:PySem.W.kitOne K (.ref C) (.ref c4)=some b4
 e5:PySem.W.kitOne K (.ref C) (.ref c5)=some b5
 e6:PySem.W.kitOne K (.ref C) (.ref c6)=some b6
 e7:PySem.W.kitOne K (.ref C) (.ref c7)=some b7
 kR:PySem.W.kitOne K (.ref C) (.ref CR)=some true
 nR:(Value.ref C==Value.ref CR)=false
 ve:PySem.W.kitOne K (.ref C) (.type "ValueError")=some true
 g1:PySem.W.findIn K (.ref C) "__getattribute__" =some (some (.builtin "BaseException.__getattribute__"))
 g2:PySem.W.findIn K (.ref C) "__getattr__" =some none
 g3:PySem.W.mroIn K C (.type "BaseException")=some true
 g4:PySem.W.mroIn K C (.type "object")=some true
 g5:PySem.W.findIn K (.ref C) "__class__" =some (some (.builtin "object.__class__"))
structure Xg(K:PySem.W.Frag)(CR:Addr):Prop where
 bR:PySem.W.mroIn K CR (.type "BaseException")=some true
 g6:PySem.W.specialIn K (.builtin "object.__class__") "__get__" =some (some (.builtin "getset_descriptor.__get__"))
 g7:PySem.W.takesIn K (.builtin "object.__class__")=some true
theorem Xk.kit{C CR c0 c1 c2 c3 c4 c5 c6 c7:Addr}{b0 b1 b2 b3 b4 b5 b6 b7:Bool}(x:Xk K C CR c0 c1 c2 c3 c4 c5 c6 c7 b0 b1 b2 b3 b4 b5 b6 b7):PySem.W.kitCls K (.ref C) (.ref CR)=some true:=by
 have h:=x.kR
 unfold PySem.W.kitOne at h
 rw[x.nR,if_neg Bool.false_ne_true] at h
 exact h
end
def Uy(S:Scope)(N:List Str)(csc:Scope)(cap:List (Str×Nat)):Bool:=
 decide (csc.kind=.function)&&csc.names.all (fun y=>decide (y.2=.cell→csc.names.lookup y.1=some .cell))&&csc.names.all (fun y=>decide (y.2=.local→csc.names.lookup y.1=some .local))&&csc.names.all (fun y=>decide (y.2=.free→S.names.lookup y.1=some .cell∨S.names.lookup y.1=some .free))&&cap.all (fun p=>decide (N[p.2]?=some p.1∧csc.names.lookup p.1=some .free))
theorem Dj{X:Cx}{csc:Scope}{nc:List Str}{cap:List (Str×Nat)}(S:Scope)(N:List Str)(chk:Uy S N csc cap=true)(h1:X.env.scope=S:=by rfl)(h2:X.N=N:=by rfl):LcOk X csc nc cap:=by
 unfold Uy at chk
 simp only[Bool.and_eq_true,List.all_eq_true,decide_eq_true_eq] at chk
 obtain⟨⟨⟨⟨c1,c2⟩,c3⟩,c4⟩,c5⟩:=chk
 exact⟨c1,c2,c3,by rw[h1];exact c4,by rw[h2];exact c5⟩
section
variable{Z:Zx}{ρ:List (Option T)}{O:AQ}{elt tg iter:Expr}{ifs:List Expr}{csc:Scope}{nc:List Str}{cap:List (Str×Nat)}{Φ:BR}{pos:Pos}{α:Type}
theorem QG{F:List T→AQ→Prop}(xs:List α)(f g:α→T)(hl:xs.length≤sizeLine)(h:∀x,x∈xs→∃ρ4,∀X' Oe He,LcCx Z.X csc (Ao nc cap) X'→∀O',(WG (zc X' Oe He) nc.length (HJ nc ρ cap) O' tg (f x) ρ4∧ET (zc X' Oe He) ρ4 O' elt (g x)))(fin:F (xs.map g) O):Uu Z ρ elt tg [] csc nc cap F (xs.map f) O:=by
 refine⟨fun i acc O'=>O'=O∧acc=(xs.take i).map g,⟨rfl,by simp⟩,?_,?_⟩
 ·rintro i t acc O' p e ⟨rfl,rfl⟩ np
  rw[List.getElem?_map] at e
  cases ex:xs[i]? with
  |none=>rw[ex] at e;cases e
  |some x=>
   rw[ex] at e
   cases e
   obtain⟨ρ4,w⟩:=h x (List.mem_of_getElem? ex)
   have hi:=(List.getElem?_eq_some_iff.mp ex).1
   refine⟨ρ4,fun X' Oe He is=> ⟨(w X' Oe He is _).1,Sw (Nq fun X' Oe He is=> (w X' Oe He is _).2 _ ⟨_,rfl,np,?_,rfl,?_⟩)⟩⟩
   ·simp;omega
   ·rw[List.take_add_one,ex];simp
 ·rintro acc O' ⟨rfl,rfl⟩
  rw[List.length_map,List.take_length]
  exact fin
theorem FQ{F:List T→AQ→Prop}{c:Expr}(xs:List α)(f g:α→T)(q:α→Bool)(hl:xs.length≤sizeLine)(h:∀x,x∈xs→∃ρ4,∀X' Oe He,LcCx Z.X csc (Ao nc cap) X'→∀O',(WG (zc X' Oe He) nc.length (HJ nc ρ cap) O' tg (f x) ρ4∧EB (zc X' Oe He) ρ4 O' c (q x)∧(q x=true→ET (zc X' Oe He) ρ4 O' elt (g x))))(fin:F ((xs.filter q).map g) O):Uu Z ρ elt tg [c] csc nc cap F (xs.map f) O:=by
 refine⟨fun i acc O'=>O'=O∧acc=((xs.take i).filter q).map g,⟨rfl,by simp⟩,?_,?_⟩
 ·rintro i t acc O' p e ⟨rfl,rfl⟩ np
  rw[List.getElem?_map] at e
  cases ex:xs[i]? with
  |none=>rw[ex] at e;cases e
  |some x=>
   rw[ex] at e
   cases e
   obtain⟨ρ4,w⟩:=h x (List.mem_of_getElem? ex)
   have hi:=(List.getElem?_eq_some_iff.mp ex).1
   refine⟨ρ4,fun X' Oe He is=> ⟨(w X' Oe He is _).1,Mt ((w X' Oe He is _).2.1 _ ?_)⟩⟩
   cases hq:q x with
   |true=>
    refine Nq fun X' Oe He is=> (w X' Oe He is _).2.2 hq _ ⟨_,rfl,np,?_,rfl,?_⟩
    ·have:=List.length_filter_le q (xs.take i)
     simp at this ⊢;omega
    ·rw[List.take_add_one,ex];simp[hq]
   |false=>
    refine Ku ⟨_,rfl,np,rfl,?_⟩
    rw[List.take_add_one,ex];simp[hq]
 ·rintro acc O' ⟨rfl,rfl⟩
  rw[List.length_map,List.take_length]
  exact fin
theorem Bq(nc:List Str)(cap:List (Str×Nat))(xs:List α)(f g:α→T)(hc:Z.X.calm=true)(ok:LcOk Z.X csc nc cap)(hi:EI Z ρ O tg iter (xs.map f))(hl:xs.length≤sizeLine)(h:∀x,x∈xs→∃ρ4,∀X' Oe He,LcCx Z.X csc (Ao nc cap) X'→∀O',(WG (zc X' Oe He) nc.length (HJ nc ρ cap) O' tg (f x) ρ4∧ET (zc X' Oe He) ρ4 O' elt (g x)))
  (hs:∀x,foldedSetIterable iter Z.X.env x=pure x:=by intro _;rfl):ET Z ρ O (.ListComp elt [⟨tg,iter,[],0⟩] csc pos) (.lst (xs.map g)):=fun Φ p=>Uw hc ok (hi _ (QG xs f g hl h p)) hs
theorem Lf(nc:List Str)(cap:List (Str×Nat)){c:Expr}(xs:List α)(f g:α→T)(q:α→Bool)(hc:Z.X.calm=true)(ok:LcOk Z.X csc nc cap)(hi:EI Z ρ O tg iter (xs.map f))(hl:xs.length≤sizeLine)(h:∀x,x∈xs→∃ρ4,∀X' Oe He,LcCx Z.X csc (Ao nc cap) X'→∀O',(WG (zc X' Oe He) nc.length (HJ nc ρ cap) O' tg (f x) ρ4∧EB (zc X' Oe He) ρ4 O' c (q x)∧(q x=true→ET (zc X' Oe He) ρ4 O' elt (g x))))
  (hs:∀x,foldedSetIterable iter Z.X.env x=pure x:=by intro _;rfl):ET Z ρ O (.ListComp elt [⟨tg,iter,[c],0⟩] csc pos) (.lst ((xs.filter q).map g)):=fun Φ p=>Uw hc ok (hi _ (FQ xs f g q hl h p)) hs
end
section
variable{Z:Zx}{ρ:List (Option T)}{O:AQ}{e:Expr}{es:List Expr}{Φ:BR}{Ψ:Es}{pos p:Pos}{ts:List T}{x:Str}
theorem EA.wa{Φ:LV}(h:EA Z ρ O es ts)(p:Φ ts O):WA Z ρ O es Φ:=h Φ p
theorem EI.wi{tg iter:Expr}{Φ:LV}(h:EI Z ρ O tg iter ts)(p:Φ ts O):WI Z ρ O tg iter Φ:=h Φ p
theorem Cz{l:Addr}(hl:Z.Oe l=none)(h:WE Z ρ O e fun t O'=>Ψ.rt t (DF O' l)):WS Z ρ O (.Return (some e) pos) Ψ:=PS.weak (Ek h) fun D σ H q=> ⟨q.1,fun v H' t O' p f r=>by
 have f':=q.1.fr.trans f
 refine q.2.rt v H' t _ p ⟨f'.kp.trans CA,fun b us e=>?_,f'.ok.drop⟩ (r.kp CA f'.ok)
 obtain⟨us',e'⟩:=f'.own b us e
 have:b≠l:=fun z=>by rw[z,hl] at e;cases e
 exact⟨us',by rw[DR this];exact e'⟩⟩
theorem Hw{l:Addr}(m:Z.X.mg "tuple" =none)(ho:O l=some ts)(h:ET Z ρ O e (.raw (.ref l)))(hg:Gl Z.X "tuple":=by rfl)(he:starEach [e] Z.X.env=(false,eval e Z.X.env)::starEach [] Z.X.env:=by rfl):ET Z ρ O (.Call (.Name "tuple" p) [e] [] pos) (.tup ts):=
 Bb FP m Dv (AN h AC he) (fun Φ q H vs Q ok r k=>by
  obtain⟨v,rfl,r1⟩:=r.one_inv
  cases r1.raw_inv
  obtain⟨xs,h1,r1⟩:=ok l ts ho
  exact⟨l,xs,rfl,.inl (.inl h1),fun p hp=>k _ _ _ O q (.new ok hp) (.tup AF (r1.kp (Au ok hp) ok))⟩) hg (by decide) (by decide) he
theorem QH{k:Nat}{f:Addr}{fd:FuncData}{ps:List Str}{sp:Sp}(F:FnOk Z.X.prog Z.X.w Z.X.K Z.X.mg Z.X.base (CXe Z.X.prog Z.X.w) k f fd ps sp)(hm:Z.X.mg x=some (.ref f))(hk:PySem.W.keepIn Z.X.K (.ref f)=true)(hb:Binds Z.X.K fd ps [])(hr:Room k Z.X.A)(xf:XFly Z.X Z.W)(h:EA Z ρ O (e::es) ts)
  (w:∀σ H vs Q,Asr Z ρ O σ H→Reps Z.K O H vs ts→Acc Z.K O H Φ Q→sp vs H Q (Z.W σ)) (hg:Gl Z.X x:=by rfl)
  (hdb:(x==("__debug__" :Str))=false:=by decide) (he:starEach (e::es) Z.X.env=(false,eval e Z.X.env)::starEach es Z.X.env:=by rfl) (hpl:(backTo pos (starEach es Z.X.env)).any (·.1)=false:=by rfl):WE Z ρ O (.Call (.Name x p) (e::es) [] pos) Φ:=by
 refine PE.weak (GE xf F hr hg hm hk hb (FW (ρ:=ρ)) hdb he hpl) fun σ H Q q=>?_
 refine⟨O,_,h (fun us O'=>us=ts∧O'=O) ⟨rfl,rfl⟩,q.1,?_⟩
 rintro vs H1 _ _ ⟨rfl,rfl⟩ f r
 exact w σ H1 vs Q (q.1.step f) r (q.2.step f)
end
def CG:Expr→Bool
 | .Starred .. =>false
 |_=>true
theorem FH{e:Expr}{es:List Expr}{env:Env}(h:CG e=true):starEach (e::es) env=(false,eval e env)::starEach es env:=by
 cases e<;>first|rfl|cases h
section
variable{Z:Zx}{ρ:List (Option T)}{O:AQ}{e:Expr}{es:List Expr}{t:T}{ts:List T}
theorem AH(h:ET Z ρ O e t)(hr:EA Z ρ O es ts)(hn:CG e=true:=by rfl):EA Z ρ O (e::es) (t::ts):=AN h hr (FH hn)
theorem FI{Φ:LV}(h:WE Z ρ O e fun t O1=>WA Z ρ O1 es fun ts O2=>Φ (t::ts) O2)(hn:CG e=true:=by rfl):WA Z ρ O (e::es) Φ:=Cu h (FH hn)
theorem Fh{a b:Expr}{i j:Int}{k:Nat}{pos:Pos}(ha:ET Z ρ O a (.int i))(hb:ET Z ρ O b (.int j))(h1:CG a=true:=by rfl)(h2:CG b=true:=by rfl):ET Z ρ O (.Tuple [a,b] k pos) (AE (i,j)):=Dt (AH ha (AH hb AC h2) h1) (by show 2≤sizeLine;decide)
end
theorem QI{O:AQ}{p:Addr}{xs:List T}(h:O p=some xs):BM O p xs=O:=by
 funext b
 by_cases hb:b=p
 ·rw[hb,AJ,h]
 ·rw[BC hb]
theorem Lg{O:AQ}{p l:Addr}{xs:List T}(h:O p=some xs)(hl:O l=none):p≠l:=fun z=>by rw[z,hl] at h;cases h
def Wg:Expr→Bool
 | .ListComp .. =>false
 | .SetComp .. =>false
 | .DictComp .. =>false
 |_=>true
theorem QJ{e:Expr}{t:Option Expr}{l:Nat}{env:Env}(h:Wg e=true):swapsWith e t l env=pure false:=by
 cases e<;>first|rfl|cases h
section
variable{Z:Zx}{ρ:List (Option T)}{O:AQ}{e:Expr}{es:List Expr}{t:T}{ts:List T}{Φ:BR}{Ψ:Es}{pos p2:Pos}{x:Str}
theorem Sz(i:Nat)(h:EA Z ρ O es ts)(hl:ts.length≤sizeLine)(k:Ψ.nx (ρ.set i (some (.lst ts))) O)(hN:Z.X.N.Nodup){pos':Pos}(hi:Z.X.N[i]?=some x:=by rfl)(hx:SB Z.X.env.scope x:=by first|exact Or.inl rfl|exact Or.inr rfl)
  (hf:Z.X.fn x=true∨Z.X.env.scope.names.lookup x=some .local:=by first|exact .inl rfl|exact .inr rfl):WS Z ρ O (.Assign [.Name x pos'] (.List es p2) pos) Ψ:=
 AO i (ET.we (BN h hl) k) hN hi hx (QJ rfl) hf
structure HEA(Z:Zx)(ρ:List (Option T))(O:AQ)(es:List Expr)(ts:List T):Prop where
 out:EA Z ρ O es ts
structure HET(Z:Zx)(ρ:List (Option T))(O:AQ)(e:Expr)(t:T):Prop where
 out:ET Z ρ O e t
theorem HEA.nil:HEA Z ρ O [] []:=⟨AC⟩
theorem HEA.cons(h:HET Z ρ O e t)(hr:HEA Z ρ O es ts)(hn:CG e=true:=by rfl):HEA Z ρ O (e::es) (t::ts):=⟨AH h.out hr.out hn⟩
theorem HET.str{y:Str}{j:Nat}:HET Z ρ O (.Constant (.str y) j pos) (.str y):=⟨AK⟩
theorem TB(i:Nat)(h:HEA Z ρ O es ts)(hl:ts.length≤sizeLine)(k:Ψ.nx (ρ.set i (some (.lst ts))) O)(hN:Z.X.N.Nodup){pos':Pos}(hi:Z.X.N[i]?=some x)(hx:SB Z.X.env.scope x)
  (hf:Z.X.fn x=true∨Z.X.env.scope.names.lookup x=some .local):WS Z ρ O (.Assign [.Name x pos'] (.List es p2) pos) Ψ:=Sz i h.out hl k hN hi hx hf
structure HS(Z:Zx)(ρ:List (Option T))(O:AQ)(ss:List Stmt)(Ψ:Es):Prop where
 out:Gb Z ρ O ss Ψ
theorem AY{s:Stmt}{ss:List Stmt}(h:WS Z ρ O s {Ψ with nx:=fun ρ' O'=>HS Z ρ' O' ss Ψ}):HS Z ρ O (s::ss) Ψ:=
 ⟨AD (Fe h (fun _ _ z=>z.out) (fun _ _ z=>z) (fun _ _ z=>z) (fun _ _ z=>z))⟩
theorem Br{s:Stmt}(h:WS Z ρ O s Ψ):HS Z ρ O [s] Ψ:=⟨AI h⟩
theorem KA{k:Bool}{c:Expr}{ea ss:List Stmt}(hc:EB Z ρ O c k)(h1:k=true→HS Z ρ O ea {Ψ with nx:=fun ρ' O'=>HS Z ρ' O' ss Ψ})(h2:k=false→HS Z ρ O ss Ψ):HS Z ρ O (.If c ea [] pos::ss) Ψ:=
 AY (AU hc (fun h=> (h1 h).out) (fun h=>AW (h2 h)))
theorem Mx{P:Program}{w:World}{K:PySem.W.Frag}{mg:Str→Option Value}{base:Heap}{x qual:Str}{st:Stmt}{f:Addr}{fd:FuncData}{N ps:List Str}{k:Nat}{sp:DI}(F:Fun K x qual st f fd)(S:FnScope N ps (AA st))(len:∀ts O Φ Ξ,sp ts O Φ Ξ→ts.length=ps.length)
  (h:∀(cdv:Value) (A:Around) (outer:List Env) (s:Shared) (H:Hp) (E:XK) (O:AQ) (Ξ:Value→AQ→Prop),Room k (A.deeper (envOfC qual (AA st) s.heap.objs.size f cdv))→XFly (zB P w K mg base N qual (AA st) f cdv A outer s H E O Ξ).X (zB P w K mg base N qual (AA st) f cdv A outer s H E O Ξ).W→
   ∀ts Φ,sp ts O Φ Ξ→HS (zB P w K mg base N qual (AA st) f cdv A outer s H E O Ξ) (CU N ts) O (Aa st) {nx:=fun _ O'=>Φ .non O',rt:=Φ}):FnOk P w K mg base (CXe P w) (k+1) f fd ps (Du K sp):=
 Aj F S len fun cdv A outer s H E O Ξ hr xf ts Φ q=> (h cdv A outer s H E O Ξ hr xf ts Φ q).out
end
section
variable{X:Cx}{a b c d:Expr}{ta tb tc td:TE}{pos:Pos}
end
section
variable{Z:Zx}{ρ:List (Option T)}{O:AQ}{a b c d:Expr}{pos:Pos}{i j k l:Int}
end
end L2.TL
namespace L2
open PySem PySem.Spec PySem.Calls PyProof.Rows
section
variable{prog:Program}{w:World}{A:Around}{E:Value→Shared→Prop}{s:Shared}
theorem Lh{l:Addr}{o:Obj}{vs:List Value}{n:Nat}{ns:List Int}{Q:Value→Shared→Prop}(ho:s.heap.get? l=some o)(hc:o.cls=.type "tuple")(hd:o.data=.seq vs.toArray n)(hI:IntsAre vs ns)(h64:vs.length<64)
  (h:∀(h':Heap) (a:Addr) (out:List Value) (ms:List Int) (c:Nat),s.heap.get? a=none→h'.get? a=some (seqObj "list" out.toArray c)→(∀b o,s.heap.get? b=some o→h'.get? b=some o)→IntsAre out ms→ms.Perm ns→ms.Pairwise (·≤·)→Q (.ref a) {s with heap:=h'}):
  wpAny (model prog w) A (call (.builtin "sorted") [.ref l]) Q E s:=by
 refine Calls.call_function_entry kind_sorted plain_sorted entry_sorted (args_sorted1 _) ?_
 unfold Builtin.«sorted»
 refine wpAny_bind (m:=checkCount "sorted" 1 1 _) (wpAny_pure ?_)
 refine wpAny_bind (wpAny_collect_seq l (.inr rfl) ho hc hd (fun h1 hk1=>?_) (by rw[List.size_toArray,sizeLine_eq];omega))
 show wpAny _ _ (newList vs>>=_) _ _ _
 refine wpAny_bind (wpAny_newList ?_ (by rw[sizeLine_eq];omega))
 have hoL:(h1.push (seqObj "list" vs.toArray 0)).get? h1.objs.size=some (seqObj "list" vs.toArray 0):=Heap.get?_push_size _ rfl
 show wpAny _ _ _ _ _ {s with heap:=h1.push (seqObj "list" vs.toArray 0)}
 refine wpAny_bind (wpAny_holding (wpAny_call_entry slot_list_sort ⟨_,hoL,rfl⟩ entry_list_sort (list_sort_tree hoL hI h64 fun out ms a1 a2 a3=> ⟨_,rfl,?_⟩) (args_list_sort _)))
 refine wpAny_pure ⟨_,rfl,?_⟩
 obtain⟨c,hcat⟩:=sortedHeap_at (out:=out) hoL
 refine h _ h1.objs.size out.toList ms c ?_ hcat (fun b o e=>?_) a1 a2 a3
 ·cases e:s.heap.get? h1.objs.size with
  |none=>rfl
  |some o'=>exact absurd (Heap.lt_size (hk1 _ _ e)) (Nat.lt_irrefl _)
 ·have hlt:=Heap.lt_size (hk1 b o e)
  rw[sortedHeap_old (Nat.ne_of_lt hlt) (by rw[size_push'];exact Nat.lt_succ_of_lt hlt)]
  exact Heap.get?_push_of_some _ (hk1 b o e)
end
section
variable{X:Cx}
def Wh(K:PySem.W.Frag):List V→Hp→VK→Prop:=fun xs H Q=>∃(a:Addr) (ns:List Int),xs=[.ref a]∧Fs K H a (ns.map V.int)∧ns.length<64∧∀(p:Addr) (ms:List Int),H p=none→ms.Perm ns→ms.Pairwise (·≤·)→Q (.ref p) (upd H p (.lst (ms.map V.int)))
theorem Iz:Aw X (.builtin "sorted") (Wh X.K):=by
 intro pins s σ H xs us Q I r h
 obtain⟨a,ns,rfl,hS,hl,q⟩:=h
 obtain⟨u,rfl,ru⟩:=Vals.one r
 cases ru
 obtain⟨its,rv,⟨o,e1,e2,n,e3⟩,_⟩:=I.tuple hS
 have hi:=Bg rv
 have hlen:its.length<64:=by have:=rv.length;simp at this;omega
 refine Lh e1 e2 e3 hi hlen fun h' b out ms c hb hg hk hI pm pw=>?_
 have hf:H b=none:=I.hok.none_of hb
 refine⟨.ref b,upd H b (.lst (ms.map V.int)),I.laidF (t':=s.toks) hk hb ⟨?_,out,c,Eo hI,hg⟩,rfl,q b ms hf pm pw⟩
 rw[List.length_map,pm.length_eq,sizeLine_eq]
 omega
theorem Hx:∀{ns ms:List Int},LB (ns.map V.int) (ms.map V.int)=decide (ns=ms)
 | [],[]=>rfl
 | [],_::_=>rfl
 |_::_,[]=>rfl
 |n::ns,m::ms=>by
  show(FS (V.int n) (V.int m)&&LB (ns.map V.int) (ms.map V.int))=_
  rw[Hx (ns:=ns) (ms:=ms)]
  have:FS (V.int n) (V.int m)=(n==m):=rfl
  rw[this]
  by_cases h1:n=m
  ·subst h1
   by_cases h2:ns=ms
   ·subst h2;simp
   ·simp[h2]
  ·simp[h1]
theorem Hy{ns:List Int}:(ns.map V.int).all Bj=true:=by
 rw[List.all_eq_true]
 intro x hx
 obtain⟨n,_,rfl⟩:=List.mem_map.mp hx
 rfl
def cD(K:PySem.W.Frag)(g:Bool→Bool):R2:=fun x y H Q=>∃(a b:Addr) (ns ms:List Int),x=.ref a∧y=.ref b∧SqL K H a (ns.map V.int)∧SqL K H b (ms.map V.int)∧Q (.bl (g (decide (ns=ms)))) H
theorem Wi(hu:X.A.units<cLine):Bv X (compareOp .NotEq) (cD X.K (!·)):=by
 intro pins s σ H x y v u Q I rx ry h
 obtain⟨a,b,ns,ms,rfl,rfl,ha,hb,q⟩:=h
 by_cases hl:ns.length=ms.length
 ·refine Vx hu pins s σ H _ _ v u Q I rx ry ⟨a,b,_,_,rfl,rfl,ha,hb,Hy,Hy,by simpa using hl,?_⟩
  rw[Hx];exact q
 ·cases rx;cases ry
  obtain⟨its,r1,p1,z1⟩:=I.list ha
  obtain⟨its2,r2,p2,z2⟩:=I.list hb
  have l1:=r1.length
  have l2:=r2.length
  refine SeqAt.RcNeAt.lists_lengths p1.isList p2.isList ?_ hu _ _ _ _ ⟨.bl _,H,I,rfl,?_⟩
  ·simp only[List.size_toArray,bne_iff_ne,ne_eq]
   simp at l1 l2
   omega
  ·have:decide (ns=ms)=false:=decide_eq_false fun z=>hl (by rw[z])
   rw[this] at q
   exact q
end
end L2
namespace L2.TL
open PySem PySem.Spec PySem.Calls PyProof.Rows
mutual
def dT:T→PyData
 | .non=> .none
 | .bl b=> .bool b
 | .int i=> .int i
 | .str x=> .str x
 | .tup ts=> .tuple (dTs ts)
 | .lst ts=> .list (dTs ts)
 | .frz _=> .none
 | .dct=> .none
 | .raw _=> .none
def dTs:List T→List PyData
 | []=> []
 |t::ts=>dT t::dTs ts
end
section
variable{K:PySem.W.Frag}{O:AQ}{H:Hp}{P:Program}{w:World}{h:Heap}
end
section
variable{X:Cx}
end
theorem DU:∀{ps:List (Int×Int)},PyData.depthAll (dTs (ps.map AE))≤2
 | []=>by decide
 |p::ps=>by
  have ih:=DU (ps:=ps)
  show max (dT (AE p)).depth (PyData.depthAll (dTs (ps.map AE)))≤2
  refine Nat.max_le.mpr ⟨?_,ih⟩
  simp[AE,dT,dTs,PyData.depth,PyData.depthAll]
theorem OJ{n:Int}{ps:List (Int×Int)}:(dT (.tup [.int n,.tup (ps.map AE)])).depth≤100:=by
 have h:=DU (ps:=ps)
 simp[dT,dTs,PyData.depth,PyData.depthAll]
 omega
theorem XOk.mono{X:Cx}{W W':St→XK}(x:XOk X W)(h:∀σ cls H',W' σ cls none H'→W σ cls none H'):XOk X W':=
 ⟨fun pins σ H s h' y C I m q=>x.made pins σ H s h' y C I m (h σ _ H q),(XFly.mono x.f h).fly,x.own,fun pins σ H s y C t dx fs I a b c d q=>x.madeF pins σ H s y C t dx fs I a b c d (h σ _ H q)⟩
theorem TC{P:Program}{w:World}{K:PySem.W.Frag}{mg:Str→Option Value}{base:Heap}{x qual:Str}{st:Stmt}{f:Addr}{fd:FuncData}{N ps:List Str}{k:Nat}{sp:DI}(F:Fun K x qual st f fd)(S:FnScope N ps (AA st))(len:∀ts O Φ Ξ,sp ts O Φ Ξ→ts.length=ps.length)
  (h:∀(cdv:Value) (A:Around) (outer:List Env) (s:Shared) (H:Hp) (E:XK) (O:AQ) (Ξ:Value→AQ→Prop),Room k (A.deeper (envOfC qual (AA st) s.heap.objs.size f cdv))→XOk (zB P w K mg base N qual (AA st) f cdv A outer s H E O Ξ).X (zB P w K mg base N qual (AA st) f cdv A outer s H E O Ξ).W→
   ∀ts Φ,sp ts O Φ Ξ→Gb (zB P w K mg base N qual (AA st) f cdv A outer s H E O Ξ) (CU N ts) O (Aa st) {nx:=fun _ O'=>Φ .non O',rt:=Φ}):FnOk P w K mg base (CXe P w) (k+1) f fd ps (Du K sp):=by
 refine F.okX S (fun vs H Q E h=>?_) (fun cdv A outer s H vs Q E hr h1=>?_)
 ·obtain⟨ts,O,Φ,Ξ,r,_,q,_⟩:=h
  rw[r.length];exact len ts O Φ Ξ q
 ·obtain⟨ts,O,Φ,Ξ,r,ok,q,acc,ex⟩:=h1
  refine⟨_,h cdv A outer s H E O Ξ hr (XOk.mono BQ ?_) ts Φ q,⟨ES r,.refl ok⟩,?_⟩
  ·rintro σ cls H' ⟨_,O',x,f⟩
   exact ex cls O' H' x f
  ·exact⟨fun ρ' O' σ' H' p a _=>acc _ _ _ O' p a.fr .non,fun v H' t O' p f r=>acc v H' t O' p f r,fun _ _ _ _ z=>z.elim,fun _ _ _ _ z=>z.elim⟩
theorem Frm.same{K:PySem.W.Frag}{O O':AQ}{H H' H'':Hp}(f:Frm K O H O' H')(s:Same H' H''):Frm K O H O' H'' where
 kp:=fun b o h n=> ⟨s b o (f.kp b o h n).1,(f.kp b o h n).2⟩
 own:=f.own
 ok:=fun a ts e=>by
  obtain⟨xs,h,r⟩:=f.ok a ts e
  exact⟨xs,s _ _ h,r.mono (fun b o h _=>s b o h) fun b xs h n=> ⟨s b _ h,n⟩⟩
theorem FJ{K:PySem.W.Frag}{O:AQ}{H:Hp}:∀(ns:List Int),Reps K O H (ns.map V.int) (ns.map T.int)
 | []=> .nil
 |n::ns=> .cons (.int n) (FJ ns)
section
variable{Z:Zx}{ρ:List (Option T)}{O:AQ}{e a b:Expr}{es:List Expr}{Ψ:Es}{Φ:BR}{pos p:Pos}{t:T}{ts:List T}
def JA(C:Addr)(y:Str):Sp:=fun vs H Q _=>∃x,vs=[.ref x]∧Rd H x (Dp C x)∧∀H',Same H H'→Q (.str y) H'
theorem _root_.L2.Rd.upd{H:Hp}{x p:Addr}{u o:HO}(h:Rd H x u)(hp:H p=none):Rd (upd H p o) x u:=by
 rcases h with h| ⟨o',h⟩
 ·exact .inl (by rw[AG (AL h hp)];exact h)
 ·exact .inr ⟨o',by rw[AG (AL h hp)];exact h⟩
theorem _root_.L2.Rd.same{H H':Hp}{x:Addr}{u:HO}(h:Rd H x u)(s:Same H H'):Rd H' x u:=by
 rcases h with h| ⟨o',h⟩
 ·exact .inl (s _ _ h)
 ·exact .inr ⟨o',s _ _ h⟩
theorem Li{ns:List Int}(m:Z.X.mg "sorted" =none)(h:ET Z ρ O e (.tup (ns.map T.int)))(hl:ns.length<64)(k:∀ms:List Int,ms.Perm ns→ms.Pairwise (·≤·)→Φ (.lst (ms.map T.int)) O)(hg:Gl Z.X "sorted":=by rfl)
  (he:starEach [e] Z.X.env=(false,eval e Z.X.env)::starEach [] Z.X.env:=by rfl):WE Z ρ O (.Call (.Name "sorted" p) [e] [] pos) Φ:=
 Jv Iz m Mv (AN h AC he _ (fun H vs Q ok r q=>by
  obtain⟨v,rfl,r1⟩:=r.one_inv
  obtain⟨a,xs,rfl,h1,r1⟩:=r1.tup_inv
  cases r1.ints
  exact⟨a,ns,rfl,.inl (.inl h1),hl,fun p ms hp pm pw=>q _ _ _ O (k ms pm pw) (.new ok hp) (.lst AF (ok.none_of hp) (FJ ms))⟩)) hg (by decide) (by decide) he
end
section
variable{Z:Zx}{ρ:List (Option T)}{O:AQ}{e:Expr}{es:List Expr}{t:T}{ts us:List T}{Φ:BR}{Ψ:Es}{pos p2 p3 p4:Pos}{x:Str}
end
section
variable{Z:Zx}{ρ:List (Option T)}{O:AQ}{es:List Expr}{ts:List T}{Ψ:Es}{pos p:Pos}{tg iter:Expr}{body:List Stmt}
structure HWE(Z:Zx)(ρ:List (Option T))(O:AQ)(e:Expr)(Φ:BR):Prop where
 out:WE Z ρ O e Φ
theorem TF(hp:PassesOwn (model Z.X.prog Z.X.w) Z.X.A Z.X.env Z.X.xe)(hc:Z.X.calm=true)(h:HWE Z ρ O iter fun t O'=>∃ts,t=.lst ts∧∃I:Nat→Lb,I 0 ρ O'∧
  (∀i t ρ' O',ts[i]?=some t→I i ρ' O'→∃ρ2,WG Z Z.X.N.length ρ' O' tg t ρ2∧HS Z ρ2 O' body {nx:=I (i+1),rt:=Ψ.rt,bk:=Ψ.nx,ct:=I (i+1)})∧∀ρ' O',I ts.length ρ' O'→Ψ.nx ρ' O')
  (hs:∀x,foldedSetIterable iter Z.X.env x=pure x):WS Z ρ O (.For tg iter body [] pos) Ψ:=
 FE hp hc (Ms (Dd h.out (by
  rintro t O' ⟨ts,e,I,i0,st,fin⟩
  refine⟨ts,e,I,i0,fun i t ρ' O' e x=>?_,fin⟩
  obtain⟨ρ2,a,b⟩:=st i t ρ' O' e x
  exact⟨ρ2,a,b.out⟩))) hs
theorem Yy{P:Program}{w:World}{K:PySem.W.Frag}{mg:Str→Option Value}{base:Heap}{x qual:Str}{st:Stmt}{f:Addr}{fd:FuncData}{N ps:List Str}{k:Nat}{sp:Sp}(F:Fun K x qual st f fd)(S:FnScope N ps (AA st))(len:∀vs H Q E,sp vs H Q E→vs.length=ps.length)
  (h:∀(cdv:Value) (A:Around) (outer:List Env) (s:Shared) (H:Hp) (vs:List V) (Q:VK) (E:XK),Room k (A.deeper (envOfC qual (AA st) s.heap.objs.size f cdv))→sp vs H Q E→
   ∃ts O Φ Ξ,Reps K O H vs ts∧OwnOk K O H∧(XFly (zB P w K mg base N qual (AA st) f cdv A outer s H E O Ξ).X (zB P w K mg base N qual (AA st) f cdv A outer s H E O Ξ).W→HS (zB P w K mg base N qual (AA st) f cdv A outer s H E O Ξ) (CU N ts) O (Aa st) {nx:=fun _ O'=>Φ .non O',rt:=Φ})∧Acc K O H Φ Q∧∀cls O' H',Ξ cls O'→Frm K O H O' H'→E cls none H'):FnOk P w K mg base (CXe P w) (k+1) f fd ps sp:=by
 refine F.okX S len (fun cdv A outer s H vs Q E hr h1=>?_)
 obtain⟨ts,O,Φ,Ξ,r,ok,q,acc,ex⟩:=h cdv A outer s H vs Q E hr h1
 refine⟨_,(q (XFly.mono BQ.f ?_)).out,⟨ES r,.refl ok⟩,?_⟩
 ·rintro σ cls H' ⟨_,O',x,f⟩
  exact ex cls O' H' x f
 ·exact⟨fun ρ' O' σ' H' p a _=>acc _ _ _ O' p a.fr .non,fun v H' t O' p f r=>acc v H' t O' p f r,fun _ _ _ _ z=>z.elim,fun _ _ _ _ z=>z.elim⟩
end
def Xw:AQ:=fun _=>none
theorem QK{K:PySem.W.Frag}{H:Hp}:OwnOk K Xw H:=fun a ts e=>by cases e
theorem Uz{K:PySem.W.Frag}{H H':Hp}{O':AQ}{a:Addr}{xs:List V}(k:Kp Xw H O' H')(h:SqL K H a xs):SqL K H' a xs:=by
 rcases h with h|h
 ·refine .inl ?_
  rcases h with h| ⟨o,h⟩
  ·exact .inl (k a _ h rfl).1
  ·exact .inr ⟨o,(k a _ h rfl).1⟩
 ·exact .inr h
section
variable{Z:Zx}{ρ:List (Option T)}{O:AQ}{e lo hi:Expr}{p p2 pos:Pos}{Φ:BR}
theorem Wj{a:Addr}{ns:List Int}{i j:Int}(ho:Z.Oe=Xw)(hS:SqL Z.K Z.He a (ns.map V.int))(h:ET Z ρ O e (.raw (.ref a)))(h1:ET Z ρ O lo (.int i))(h2:ET Z ρ O hi (.int j))
  (k:∀ms:List Int,ms.length≤ns.length→Φ (.lst (ms.map T.int)) O):WE Z ρ O (.Subscript e (.Slice (some lo) (some hi) none p2) pos) Φ:=by
 refine PE.weak (Bh EC (Ac (ρ:=ρ)) (Bw (Ac (ρ:=ρ))) (Bw (Ac (ρ:=ρ)))) fun σ H0 Q q=>?_
 refine⟨O,_,h (fun t O'=>t=.raw (.ref a)∧O'=O) ⟨rfl,rfl⟩,q.1,?_⟩
 rintro v H1 _ _ ⟨rfl,rfl⟩ f1 r1
 refine⟨_,_,h1 (fun t O'=>t=.int i∧O'=_) ⟨rfl,rfl⟩,q.1.step f1,?_⟩
 rintro v2 H2 _ _ ⟨rfl,rfl⟩ f2 r2
 refine⟨i,r2.int_inv,_,_,h2 (fun t O'=>t=.int j∧O'=_) ⟨rfl,rfl⟩,q.1.step (f1.trans f2),?_⟩
 rintro v3 H3 _ _ ⟨rfl,rfl⟩ f3 r3
 refine⟨j,r3.int_inv,a,ns.map V.int,r1.raw_inv,Uz (ho▸(q.1.step (f1.trans (f2.trans f3))).fr.kp) hS,fun l hl=>?_⟩
 have ff:=f1.trans (f2.trans f3)
 have e:JY (ns.map V.int) (some i) (some j)=((ns.drop (HT.En (ns.map V.int).length 0 (some i))).take (HT.En (ns.map V.int).length (ns.map V.int).length (some j)-HT.En (ns.map V.int).length 0 (some i))).map V.int:=by
  unfold JY
  rw[←List.map_drop,←List.map_take]
 rw[e]
 refine q.2 _ _ _ _ (k _ ?_) (ff.trans (.new ff.ok hl)) (.lst AF (ff.ok.none_of hl) ((FJ _).kp (Au ff.ok hl) ff.ok))
 rw[List.length_take,List.length_drop]
 omega
theorem Yz{K:PySem.W.Frag}{g:Bool→Bool}{ns ms:List Int}:RP K (cD K g) (.lst (ns.map T.int)) (.lst (ms.map T.int)) O (.bl (g (decide (ns=ms)))):=fun Φ p H v w Q ok r1 r2 q=>by
 obtain⟨a,xs,rfl,h1,_,r1⟩:=r1.lst_inv
 obtain⟨b,ys,rfl,h2,_,r2⟩:=r2.lst_inv
 cases r1.ints
 cases r2.ints
 exact⟨a,b,ns,ms,rfl,rfl,.inl (.inl h1),.inl (.inl h2),q _ H _ O p (.refl ok) (.bl _)⟩
theorem Wl{K:PySem.W.Frag}{x y:Str}:RP K au (.str x) (.str y) O (.bl (!decide (x=y))):=fun Φ p H v w Q ok r1 r2 q=>by
 cases r1.str_inv
 cases r2.str_inv
 have e:decide (V.str x=V.str y)=decide (x=y):=by
  by_cases h:x=y
  ·subst h;simp
  ·have:V.str x≠V.str y:=fun z=>h (by injection z)
   simp[h]
 refine⟨rfl,?_⟩
 rw[e]
 exact q _ H _ O p (.refl ok) (.bl _)
theorem ZA:bootBuiltins "repr" =some (.builtin "repr"):=by decide+kernel
end
mutual
def De:T→Bool
 | .non=>true
 | .bl _=>true
 | .int _=>true
 | .str x=>PyData.strOk x
 | .tup ts=>rdBs ts
 | .lst ts=>rdBs ts
 | .frz _=>false
 | .dct=>false
 | .raw _=>false
def rdBs:List T→Bool
 | []=>true
 |t::ts=>De t&&rdBs ts
end
theorem KB:∀{ts:List T},rdBs ts=true↔∀t∈ts,De t=true
 | []=>by unfold rdBs;simp
 |t::ts=>by unfold rdBs;simp[KB (ts:=ts)]
mutual
theorem Dw:∀(t:T),De t=true→(dT t).canLay0=true
 | .non,_=>rfl
 | .bl _,_=>rfl
 | .int _,_=>rfl
 | .str x,h=>by unfold De at h;exact h
 | .tup ts,h=>rds_lay ts (by unfold De at h;exact h)
 | .lst ts,h=>rds_lay ts (by unfold De at h;exact h)
 | .frz _,h=>by unfold De at h;cases h
 | .dct,h=>by unfold De at h;cases h
 | .raw _,h=>by unfold De at h;cases h
theorem rds_lay:∀(ts:List T),rdBs ts=true→PyData.canLayAll0 (dTs ts)=true
 | [],_=>rfl
 |t::ts,h=>by
  unfold rdBs at h
  rw[Bool.and_eq_true] at h
  show(PyData.canLay0 (dT t)&&PyData.canLayAll0 (dTs ts))=true
  rw[Dw t h.1,rds_lay ts h.2];rfl
end
section
variable{K:PySem.W.Frag}{O:AQ}{H:Hp}{P:Program}{w:World}{h:Heap}
mutual
theorem Rep.rd (hok:HOk P w H h):∀{v:V} {t:T} {u:Value},Rep K O H v t→De t=true→RelV v u→∃as,Reads h u (dT t) as
 |_,_,_,.non,_,r=>by cases r;exact⟨_,.none⟩
 |_,_,_,.bl b,_,r=>by cases r;exact⟨_,.bool b⟩
 |_,_,_,.int i,_,r=>by obtain⟨t,rfl⟩:=r;exact⟨_,.int i t⟩
 |_,_,_,.str x,_,r=>by obtain⟨t,rfl⟩:=r;exact⟨_,.str x t⟩
 |_,_,_,.tup (ts:=ts) e q,g,r=>by
  cases r
  obtain⟨_,its,rv,⟨o,e1,e2,n,e3⟩⟩:=(show ObjOk P w H h _ (.tup _) from hok _ _ e)
  obtain⟨as,ra⟩:=Reps.rd hok q (by unfold De at g;exact g) rv
  exact⟨_,.tuple (vs:=its.toArray) e1 e2 e3 (by simpa using ra)⟩
 |_,_,_,.lst (ts:=ts) e _ q,g,r=>by
  cases r
  obtain⟨_,its,n,rv,e1⟩:=(show ObjOk P w H h _ (.lst _) from hok _ _ e)
  obtain⟨as,ra⟩:=Reps.rd hok q (by unfold De at g;exact g) rv
  exact⟨_,.list (vs:=its.toArray) e1 rfl rfl (by simpa using ra)⟩
 |_,_,_,.frz _ _,g,_=>by unfold De at g;cases g
 |_,_,_,.dct _,g,_=>by unfold De at g;cases g
 |_,_,_,.raw v,g,_=>by unfold De at g;cases g
theorem Reps.rd (hok:HOk P w H h):∀{vs:List V} {ts:List T} {us:List Value},Reps K O H vs ts→rdBs ts=true→Vals vs us→∃as,ReadsAll h us (dTs ts) as
 |_,_,_,.nil,_,r=>by cases r;exact⟨_,.nil⟩
 |_,_,_,.cons a b,g,.cons r1 r2=>by
  unfold rdBs at g
  rw[Bool.and_eq_true] at g
  obtain⟨as,x⟩:=Rep.rd hok a g.1 r1
  obtain⟨bs,y⟩:=Reps.rd hok b g.2 r2
  exact⟨_,.cons x y⟩
end
end
section
variable{X:Cx}
def rD(K:PySem.W.Frag)(g:PyData→PyData→Bool):R2:=fun x y H Q=>∃O t u,Rep K O H x t∧Rep K O H y u∧De t=true∧De u=true∧(dT t).depth≤100∧Q (.bl (g (dT t) (dT u))) H
theorem Lj(hu:X.A.units+101<cLine):Bv X (compareOp .NotEq) (rD X.K fun a b=>!PyData.eqv a b):=by
 intro pins s σ H x y v u Q I rx ry h
 obtain⟨O,t,t',r1,r2,g1,g2,hd,q⟩:=h
 obtain⟨as,ra⟩:=Rep.rd I.hok r1 g1 rx
 obtain⟨bs,rb⟩:=Rep.rd I.hok r2 g2 ry
 exact SeqAt.compareNe_reads ra rb (Dw t g1) (Dw t' g2) (by omega) ⟨.bl _,H,I,rfl,q⟩
def cE(K:PySem.W.Frag)(g:Bool→Bool):R2:=fun x y H Q=>∃O t us,Rep K O H x t∧(Rep K O H y (.tup us)∨Rep K O H y (.lst us))∧De t=true∧rdBs us=true∧(dT t).depth≤100∧Q (.bl (g ((dTs us).any fun y=>PyData.eqv y (dT t)))) H
theorem ZC(hu:X.A.units+102<cLine):Bv X (compareOp .In) (cE X.K id):=by
 intro pins s σ H x y v u Q I rx ry h
 obtain⟨O,t,us,r1,r2,g1,g2,hd,q⟩:=h
 obtain⟨as,ra⟩:=Rep.rd I.hok r1 g1 rx
 rcases r2 with r2|r2
 ·obtain⟨bs,rb⟩:=Rep.rd I.hok r2 (by unfold De;exact g2) ry
  exact SeqAt.in_tuple_reads rb ra (rds_lay us g2) (Dw t g1) (by omega) ⟨.bl _,H,I,rfl,q⟩
 ·obtain⟨bs,rb⟩:=Rep.rd I.hok r2 (by unfold De;exact g2) ry
  exact SeqAt.in_list_reads rb ra (rds_lay us g2) (Dw t g1) (by omega) ⟨.bl _,H,I,rfl,q⟩
end
section
variable{K:PySem.W.Frag}{O:AQ}{t u:T}{us:List T}
theorem Wm{g:PyData→PyData→Bool}(h1:De t=true)(h2:De u=true)(hd:(dT t).depth≤100):RP K (rD K g) t u O (.bl (g (dT t) (dT u))):=fun Φ p H v w Q ok r1 r2 q=>
 ⟨O,t,u,r1,r2,h1,h2,hd,q _ H _ O p (.refl ok) (.bl _)⟩
theorem Wn{g:Bool→Bool}(h1:De t=true)(h2:rdBs us=true)(hd:(dT t).depth≤100):RP K (cE K g) t (.tup us) O (.bl (g ((dTs us).any fun y=>PyData.eqv y (dT t)))):=fun Φ p H v w Q ok r1 r2 q=>
 ⟨O,t,us,r1,.inl r2,h1,h2,hd,q _ H _ O p (.refl ok) (.bl _)⟩
end
theorem JB(p:Int×Int):De (AE p)=true:=by simp[AE,De,rdBs]
theorem Gk:∀{ps:List (Int×Int)},rdBs (ps.map AE)=true
 | []=>rfl
 |p::ps=>by
  show(De (AE p)&&rdBs (ps.map AE))=true
  rw[JB,Gk];rfl
theorem KC(p q:Int×Int):PyData.eqv (dT (AE p)) (dT (AE q))=decide (p=q):=by
 show((p.1==q.1)&&((p.2==q.2)&&true))=decide (p=q)
 rw[Bool.eq_iff_iff]
 simp only[Bool.and_true,Bool.and_eq_true,beq_iff_eq,decide_eq_true_eq]
 exact⟨fun h=>Prod.ext h.1 h.2,fun h=>by rw[h];exact⟨rfl,rfl⟩⟩
theorem FK:∀{ps qs:List (Int×Int)},PyData.eqvAll (dTs (ps.map AE)) (dTs (qs.map AE))=decide (ps=qs)
 | [],[]=>rfl
 | [],_::_=>rfl
 |_::_,[]=>rfl
 |p::ps,q::qs=>by
  show(PyData.eqv (dT (AE p)) (dT (AE q))&&PyData.eqvAll (dTs (ps.map AE)) (dTs (qs.map AE)))=_
  rw[KC,FK,Bool.eq_iff_iff,Bool.and_eq_true,decide_eq_true_eq,decide_eq_true_eq,decide_eq_true_eq]
  exact⟨fun h=>by rw[h.1,h.2],fun h=>by injection h with a b;exact⟨a,b⟩⟩
abbrev Gm(n:Int)(ps:List (Int×Int)):T:=.tup [.int n,.tup (ps.map AE)]
theorem QL{n:Int}{ps:List (Int×Int)}:De (Gm n ps)=true:=by
 show rdBs [.int n,.tup (ps.map AE)]=true
 show(true&&(rdBs (ps.map AE)&&true))=true
 rw[Gk];rfl
theorem TH{n m:Int}{ps qs:List (Int×Int)}:PyData.eqv (dT (Gm n ps)) (dT (Gm m qs))=(decide (n=m)&&decide (ps=qs)):=by
 show((n==m)&&(PyData.eqvAll (dTs (ps.map AE)) (dTs (qs.map AE))&&true))=_
 rw[FK,Bool.and_true]
 rfl
end L2.TL
namespace L2
open PySem PySem.Spec PySem.Calls PyProof.Rows
section
variable{X:Cx}
def VA(K:PySem.W.Frag):R2:=fun x y H Q=>∃(a:Addr) (i:Int) (v:V),x=.ref a∧y=.int i∧SqL K H a [v]∧(i=0∨i=1)∧∀p,H p=none→Q (.ref p) (upd H p (.lst (List.replicate i.toNat v)))
theorem TJ:Bv X (binaryOp .Mult) (VA X.K):=by
 intro pins s σ H x y v u Q I rx ry h
 obtain⟨a,i,e,rfl,rfl,ha,hi,q⟩:=h
 cases rx
 obtain⟨tk,rfl⟩:=ry
 obtain⟨its,rv,p,_⟩:=I.list ha
 obtain⟨⟨cls,d,data,sl⟩,k,ho,hc,hdd,hd⟩:=id p
 simp only at hc hd
 subst hc hd
 obtain⟨u1,rfl,ru⟩:=Vals.one rv
 have hf:=I.hok.fresh (Nat.le_refl s.heap.objs.size)
 refine wpAny_binaryOp_repeat_ref (T:="list") (U:="int") (by decide) ⟨_,ho,rfl⟩ (fun s'=>typeIs_int s' i tk) noFill_list_mul F.fills_int_mul F.slot_int_rmul repeat_list F.slot_int_index.lookup
  (call_meets F.slot_int_rmul (typeIs_int s i tk) F.entry_int_rmul (F.args_int_rmul_2 _ _) (lm_int_rmul_list_any i tk a [u1].toArray k d sl)
   ⟨ho,rfl,⟨_,ho,rfl⟩,call_meets F.slot_list_mul ⟨_,ho,rfl⟩ F.entry_list_mul (F.args_list_mul_2 _ _)
    (lm_list_mul_any a [u1].toArray k d sl i tk (by simp[Builtin.List.listFitsIndex];omega) (by simp;omega) (by simp[Builtin.List.listTooLong,sizeLine];omega)) ⟨ho,?_⟩⟩)
 rcases hi with rfl|rfl
 ·exact⟨.ref _,_,I.laid (t':=s.toks) (o:=.lst []) (fun b ob q=>Heap.get?_push_of_some _ q) (Nat.le_refl _) ⟨Nat.zero_le _,[],0,.nil,Heap.get?_push_size _ rfl⟩,rfl,q _ hf⟩
 ·exact⟨.ref _,_,I.laid (t':=s.toks) (o:=.lst [e]) (fun b ob q=>Heap.get?_push_of_some _ q) (Nat.le_refl _) ⟨by show 1≤sizeLine;rw[sizeLine_eq];decide,[u1],0,.cons ru .nil,Heap.get?_push_size _ rfl⟩,rfl,q _ hf⟩
variable{e:Expr}{te:TE}{p2 p3 p4 pos:Pos}
end
end L2
namespace L2.TL
open PySem PySem.Spec PySem.Calls PyProof.Rows
section
variable{Z:Zx}{ρ:List (Option T)}{O:AQ}{e a b:Expr}{es:List Expr}{Ψ:Es}{Φ:BR}{pos p p1 pos1 p2 p3 p4:Pos}{t ta tb:T}{ts us:List T}{x:Str}
theorem TK{K:PySem.W.Frag}{i:Int}(hi:i=0∨i=1):RP K (VA K) (.lst [t]) (.int i) O (.lst (List.replicate i.toNat t)):=fun Φ p H v w Q ok r1 r2 q=>by
 obtain⟨a,xs,rfl,h1,_,r1⟩:=r1.lst_inv
 obtain⟨v,rfl,g⟩:=r1.one_inv
 refine⟨a,i,v,rfl,r2.int_inv,.inl (.inl h1),hi,fun l hl=>q _ _ _ O p (.new ok hl) (.lst AF (ok.none_of hl) ?_)⟩
 rcases hi with rfl|rfl
 ·exact .nil
 ·exact .one (g.kp (Au ok hl) ok)
theorem OK{o:Expr}{apos cpos:Pos}(h:WE Z ρ O o fun t O1=>∃a,t=.raw (.ref a)∧(∃ts,O1 a=some ts)∧WE Z ρ O1 e fun u O2=>∃ts us,u=.lst us∧O2 a=some ts∧ts.length+us.length≤sizeLine∧Φ .non (BM O2 a (ts++us)))
  (hbase:attributeBase o "extend" Z.X.env (eval o Z.X.env)=eval o Z.X.env:=by rfl)
  (hfew:((backTo cpos (starEach [e] Z.X.env)).all (fun x=>!x.1)&&(backToKw cpos (keywordEach [] Z.X.env)).all (fun x=>x.1.isSome)
   &&decide ([e].length+([]:List Keyword).length+(if([]:List Keyword).isEmpty then 0 else 1)<30))=true:=by rfl)
  (hline:(apos.endLine==cpos.line)=true:=by rfl) (hs:starEach [e] Z.X.env=(false,eval e Z.X.env)::starEach [] Z.X.env:=by rfl) (hplain:(backTo cpos (starEach [] Z.X.env)).any (·.1)=false:=by rfl):WE Z ρ O (.Call (.Attribute o "extend" apos) [e] [] cpos) Φ:=by
 refine Hv PySem.F.plainAttrs_list PySem.F.slot_list_extend PySem.F.type_list_extend Nm (Dd h ?_) hbase hfew hline hs hplain
 rintro t O1 ⟨a,rfl,⟨ts,hts⟩,w⟩
 refine⟨Mq hts,Cu (Dd w ?_) hs⟩
 rintro u O2 ⟨us,vs,rfl,h1,h2,p⟩
 refine Av fun H v ws Q ok r1 r2 q=>?_
 cases r1.raw_inv
 obtain⟨w,rfl,r3⟩:=r2.one_inv
 obtain⟨c,ys,rfl,hc,_,r3⟩:=r3.lst_inv
 obtain⟨xs,hx,r⟩:=ok a us h1
 exact⟨a,c,xs,ys,rfl,rfl,hx,hc,by rw[r.length,r3.length];exact h2,q _ _ _ _ p (.put ok h1 (r.append r3)) .non⟩
def Hz:T→Bool
 | .non=>true
 |_=>false
theorem DV{j:Nat}(hr:CY t=false)(ha:ET Z ρ O a t):EB Z ρ O (.Compare a [.Is] [.Constant .none j p1] pos) (Hz t):=BD On (Af _) (fun Φ p H v w Q ok r1 r2 q=>by
 refine⟨r2.non_inv,?_⟩
 have e:decide (v=V.non)=Hz t:=by
  cases r1<;>first|rfl|cases hr
 rw[e]
 exact q _ H _ O p (.refl ok) (.bl _)) ha BU
def bV(C:Addr)(t:T):Sp:=fun vs H Q _=>∃x,vs=[.ref x]∧Rd H x (Dp C x)∧∀v H',Same H H'→(∀(K:PySem.W.Frag) (O:AQ),Rep K O H' v t)→Q v H'
end
section
variable{Z:Zx}{ρ:List (Option T)}{O O1 O2:AQ}{c:Expr}{body ss:List Stmt}{Ψ:Es}{pos:Pos}
end
section
variable{O:AQ}{rs:List (Addr×List T)}{r:Addr×List T}{p q l:Addr}{us vs:List T}
end
section
variable{X:Cx}
end
section
variable{Z:Zx}{ρ:List (Option T)}{O:AQ}{a b:Expr}{t:T}{Φ:BR}{pos:Pos}{i:Int}
end
section
variable{Z:Zx}{ρ:List (Option T)}{O:AQ}{body:List Stmt}{Ψ:Es}{pos:Pos}
end
end L2.TL
namespace L2
open PySem PySem.Spec PySem.Calls PyProof.Rows Builtin.ObjectAttr
structure XfC(K:PySem.W.Frag)(C f:Addr):Prop where
 ob:∃nm q N R sn sub ab col dd k0 k1 k2 k3 k5,K.lookup C=some (excClassObj nm q C N [.ref R] (.ref R::FU) true sn sub ab col dd k0 k1 k2 k3 k5 "ValueError.__new__")∧PySem.W.excIn K R FU "ValueError.__new__" =true
 ini:PySem.W.findIn K (.ref C) "__init__" =some (some (.ref f))
 fn:PySem.W.typeIn K (.ref f)=some (.type "function")
 sa:PySem.W.findIn K (.ref C) "__setattr__" =some (some (.builtin "object.__setattr__"))
section
variable{prog:Program}{w:World}{A:Around}{E:Value→Shared→Prop}{s:Shared}{K:PySem.W.Frag}{x dx C f:Addr}{name:Str}{v:Value}
theorem XfC.cls(c:XfC K C f):∃cd R,PySem.W.clsIn K C=some cd∧cd.hasDict=true∧cd.mro=.ref C::.ref R::FU:=by
 obtain⟨nm,q,N,R,sn,sub,ab,col,dd,k0,k1,k2,k3,k5,e,_⟩:=c.ob
 have z:PySem.W.clsIn K C=some {name:=nm,bases:=[.ref R],mro:=.ref C::.ref R::FU,ns:=N,qualname:=q,hasDict:=true,slotNames:=sn,subclasses:=sub,abstract:=ab,collection:=col,hasDel:=false}:=by
  unfold PySem.W.clsIn;rw[e]
 exact⟨_,R,z,rfl,rfl⟩
theorem Lk(self:Value)(C R:Addr):refuseLoop self "__setattr__" (.ref C::.ref R::FU)=pure ():=by
 rw[refuseLoop_ref,refuseLoop_ref]
 exact PySem.F.store_ValueError.passes self
theorem TM{R:Result→Shared→Prop}{ox:Obj}{od:Option Obj}{tk:Tok}(X:K.In s.heap)(I:PySem.W.InstAt s.heap x ox C od)(c:XfC K C f)(ht:PySem.W.findIn K (.ref C) name=some none)
  (h:wpAny (model prog w) A.in1 (storeInOwnDict (.ref x) (.ref C) (.str name tk) name v false) (fun fin s'=>match fin with| .done f=>R (.ok f) s'| .again c'=>c'.quiet=true∧codeAny (model prog w) A c' R s') (fun e s'=>R (.error e) s') s):
  codeAny (model prog w) A (.call (.builtin "object.__setattr__") ⟨[.ref x,.str name tk,v],[]⟩) R s:=by
 obtain⟨cd,Rr,hc,hd,hm⟩:=c.cls
 have z:PySem.W.mroIn K C (.type "object")=some true:=by
  unfold PySem.W.mroIn;rw[hc,Option.bind_some,hm];rfl
 have yes:PySem.W.Looks (model prog w) s.heap (isInstance (.ref x) (.type "object")) true:=I.type.andThen (PySem.W.looks_mroIn X z)
 have ck:∀{Q:Unit→Shared→Prop} {E':Value→Shared→Prop},Q () s→wpAny (model prog w) A.in1 (checkBuiltinCall "object.__setattr__" ⟨[.ref x,.str name tk,v],[]⟩) Q E' s:=fun{Q E'} q=>
  @PySem.W.check_slot (model prog w) A.in1 E' s "object.__setattr__" "object" "__setattr__" (.ref x) [.str name tk,v] [] Q PySem.F.store_ValueError.kind PySem.F.store_ValueError.split yes (PySem.F.store_ValueError.args (.ref x) (.str name tk) v) q
 refine codeAny_call_builtin PySem.F.store_ValueError.slot.plain PySem.F.store_ValueError.entry (ck ?_)
 have lm:PySem.W.Looks (model prog w) s.heap (mroOf (.ref C)) cd.mro:=(PySem.W.looks_clsIn X hc).andThen .now
 rw[PySem.W.osa_eq,refuse_eq]
 refine wpAny_bind (wpAny_bind (I.type.here (wpAny_bind (lm.here ?_))))
 rw[hm,Lk]
 refine wpAny_pure (wpAny_bind (I.type.here (wpAny_bind ((PySem.W.looks_findIn X ht).here (wpAny_bind (wpAny_pure ?_))))))
 exact h
abbrev Gn(C:Addr)(d:Option Addr)(vs:Array Value):Obj:=⟨.ref C,d,.fields vs,#[]⟩
theorem QM{vs:Array Value}{Q:Unit→Shared→Prop}(X:K.In s.heap)(hx:s.heap.get? x=some (Gn C none vs))(c:XfC K C f)(ht:PySem.W.findIn K (.ref C) name=some none)
  (h:∀h' d tk,s.heap.objs.size≤d→d≠x→h'.get? x=some (Gn C (some d) vs)→h'.Ns1 d (fun y=>if y=name then some v else none)→(∀b o,b≠x→s.heap.get? b=some o→h'.get? b=some o)→Q () {s with heap:=h',toks:=tk}):
  wpAny (model prog w) A (setAttr (.ref x) name v) Q E s:=by
 obtain⟨cd,Rr,hc,hd,hm⟩:=c.cls
 have I:PySem.W.InstAt s.heap x (Gn C none vs) C none:=⟨hx,rfl,rfl,trivial⟩
 refine PySem.W.set_plain X I c.sa ?_
 refine TM (s:={s with toks:=s.toks+1}) X I c ht ?_
 unfold storeInOwnDict
 refine wpAny_bind (wpAny_pure ?_)
 rw[if_neg (show¬(Value.ref C==Value.type "module")=true from by simp)]
 refine wpAny_bind ?_
 show wpAny _ _ (instanceDict x true) _ _ _
 unfold instanceDict
 refine wpAny_bind (wpAny_loadPart hx ?_)
 refine wpAny_bind (PySem.W.Looks.here (s:={s with toks:=s.toks+1}) (PySem.W.looks_clsIn X hc) ?_)
 rw[hd,if_neg (by decide)]
 have hx1:(s.heap.push {cls:=.type "dict",data:=.dict #[]}).get? x=some (Gn C none vs):=Heap.get?_push_of_some _ hx
 have ne:s.heap.objs.size≠x:=Nat.ne_of_gt (Heap.lt_size hx)
 dsimp only
 rw[if_neg (by simp[typeHasDict])]
 refine wpAny_bind (wpAny_alloc (wpAny_bind (wpAny_update hx1 (wpAny_pure (a:=some s.heap.objs.size) ?_))))
 have hd1:((s.heap.push {cls:=.type "dict",data:=.dict #[]}).update x fun o=> {o with dict:=some s.heap.objs.size}).get? s.heap.objs.size=some {cls:=.type "dict",data:=.dict #[]}:=
  (Heap.get?_update_other _ _ ne.symm).trans (Heap.get?_push_size _ rfl)
 have hx2:((s.heap.push {cls:=.type "dict",data:=.dict #[]}).update x fun o=> {o with dict:=some s.heap.objs.size}).get? x=some (Gn C (some s.heap.objs.size) vs):=Heap.get?_update_self _ hx1 rfl
 show wpAny _ _ (storeInDict s.heap.objs.size (.str name s.toks) name v) _ _ _
 unfold storeInDict newKeyGuard
 refine wpAny_bind (wpAny_pure (wpAny_bind (wpAny_nsSet1 (Heap.Ns1.of_empty ⟨_,#[],_,hd1,rfl,fun e he=>absurd he (by simp),fun _=>rfl⟩) fun h' n' sb=>?_)))
 obtain⟨oD,esD,epD,hoD,hdD,hcD⟩:=n'.count (Within.cons name v Within.nil)
 refine wpAny_bind (wpAny_lookBehind hoD (by rw[hdD];exact pastItsLine_dict (Nat.le_trans hcD (by rw[List.length_cons,List.length_nil,sizeLine_eq];omega))) ?_)
 refine wpAny_pure (h h' s.heap.objs.size _ (Nat.le_refl _) ne ((sb.2 x ne.symm).trans hx2) n' fun b o hb e=>?_)
 have hbs:b≠s.heap.objs.size:=Nat.ne_of_lt (Heap.lt_size e)
 exact(sb.2 b hbs).trans ((Heap.get?_update_other _ _ (Ne.symm hb)).trans (Heap.get?_push_of_some _ e))
end
section
variable{prog:Program}{w:World}{A:Around}{E:Value→Shared→Prop}{s:Shared}{K:PySem.W.Frag}{x dx C f:Addr}{name:Str}{v:Value}
theorem TN{ox:Obj}{mA:Str→Option Value}{b:Bool}{Q:Value→Shared→Prop}(X:K.In s.heap)(k:ExcCls K C)(hx:s.heap.get? x=some ox)(hc:ox.cls=.ref C)(hno:PySem.W.notCls ox=true)(hd:ox.dict=some dx)(hn:s.heap.Ns1 dx mA)(hh:PySem.W.hasDictIn K C=true)
  (ha:PySem.W.findIn K (.ref C) name=some none) (hv:mA name=some v) (hv':PySem.W.handedIn v=true) (h:Q v {s with toks:=s.toks+1}):wpAny (model prog w) A (getAttr (.ref x) name b) Q E s:=by
 obtain⟨od,hod,hl⟩:=HW hn
 have J:PySem.W.InstAt s.heap x ox C (some od):=⟨hx,hc,hno,by rw[hd];exact hod⟩
 have L4:=PySem.W.looks_find (M:=model prog w) X J (PySem.W.findObj_own hh ha rfl (by rw[hl,hv]))
 have L0:=J.type (M:=model prog w)
 have L1:=PySem.W.looks_findIn (M:=model prog w) X k.ga
 have L2:=PySem.W.looks_findIn (M:=model prog w) X k.gn
 have L3:=PySem.W.looks_mroIn (M:=model prog w) X k.be
 obtain⟨hp,g,d,t,os⟩:=s
 have hb:bindSpecial (.builtin "BaseException.__getattribute__") (.ref x)=pure (.builtin "BaseException.__getattribute__",[.ref x]):=PySem.F.excAttr_ValueError.ga.bind _
 have e1:builtinKind "BaseException.__getattribute__" =some .slot:=by decide+kernel
 have e2:splitId "BaseException.__getattribute__" =some ("BaseException","__getattribute__"):=by decide+kernel
 have e3:(Value.builtin "BaseException.__getattribute__" ==Value.builtin "object.__getattribute__")=false:=by decide+kernel
 unfold getAttr getAttrBy
 refine wpAny_bind (wpAny_mkText (wpAny_holding (wpAny_bind (L0.at (wpAny_bind (L1.at ?_))))))
 dsimp only
 rw[e3,Bool.and_false,if_neg Bool.false_ne_true]
 unfold getAttrByItsOwn hookBefore
 refine wpAny_bind (L2.at ?_)
 refine wpAny_bind (wpAny_attempt (wpAny_holding ?_))
 unfold callGetattribute
 rw[show onTheHeap (.builtin "BaseException.__getattribute__")=false from rfl,Bool.and_false,if_neg Bool.false_ne_true]
 unfold boundAndCalled
 rw[hb]
 show wpAny _ _ (call (.builtin "BaseException.__getattribute__") [.ref x,.str name t]) _ _ _
 refine wpAny_call (codeAny_call_builtin PySem.F.excAttr_ValueError.ga.plain PySem.F.entry_bexc_ga ?_)
 have e4:=PySem.F.args_bexc_ga (.ref x) (.str name t)
 simp only[checkBuiltinCall,e1,e2]
 refine wpAny_bind ?_
 unfold isInstance
 refine wpAny_bind (L0.at (L3.at ?_))
 rw[if_neg (by decide)]
 refine wpAny_of_eq e4 ?_
 show wpAny _ _ (typeOf (.ref x)>>=fun tp=>Builtin.ObjectAttr.find (.ref x) tp name>>=_) _ _ _
 refine wpAny_bind (L0.at (wpAny_bind (L4.at (wpAny_pure ?_))))
 show wpAny _ _ (handedOut v) _ _ _
 rw[PySem.W.handedOut_of hv']
 exact wpAny_pure h
end
section
variable{prog:Program}{w:World}{A:Around}{E:Value→Shared→Prop}{s:Shared}{K:PySem.W.Frag}{C f:Addr}
theorem XfC.own(c:XfC K C f){h:Heap}(X:K.In h):∃nm q N R sn sub ab col dd k0 k1 k2 k3 k5,h.get? C=some (excClassObj nm q C N [.ref R] (.ref R::FU) true sn sub ab col dd k0 k1 k2 k3 k5 "ValueError.__new__")∧OwnTail h FU (.ref R::FU):=by
 obtain⟨nm,q,N,R,sn,sub,ab,col,dd,k0,k1,k2,k3,k5,e,r⟩:=c.ob
 obtain⟨bm,N',nm',qn',bs',hd',sn',sub',ab',col',dd',j0,j1,j2,j3,j5,mN,hC,hN,hni,T⟩:=Se X r
 exact⟨nm,q,N,R,sn,sub,ab,col,dd,k0,k1,k2,k3,k5,X _ _ e,.own hC hN hni .base⟩
theorem TQ{us:List Value}{Q:Value→Shared→Prop}(X:K.In s.heap)(c:XfC K C f)(hl:us.length≤sizeLine)
  (h:codeAny (model prog w) (A.under (.builtin "type.__call__" ⟨.ref C::us,[]⟩)) (.call (.ref f) ⟨.ref (s.heap.objs.size+1)::us,[]⟩)
   (fun r s'=>match r with| .ok (.ret u)=>u=.none∧Q (.ref (s.heap.objs.size+1)) s'| .ok _=>False| .error e=>E e s')
   {s with heap:=(s.heap.push {cls:=.type "tuple",data:=.seq us.toArray}).push (Gn C none #[.ref s.heap.objs.size,.none,.none,.none,.bool false,.none])}):
  wpAny (model prog w) A (call (.ref C) us) Q E s:=by
 obtain⟨nm,q,N,R,sn,sub,ab,col,dd,k0,k1,k2,k3,k5,hC,T⟩:=c.own X
 have F:=PySem.F.excBase_ValueError
 obtain⟨hp,g,d,t,os⟩:=s
 have f1:=tc_lookup
 have f2:=tc_bind (.ref C)
 have hT:(⟨hp,g,d,t,os⟩:Shared).TypeIs (.ref C) "type":=⟨_,hC,rfl⟩
 refine wpAny_call (codeAny_of_tree ?_)
 show wpAny _ _ (callAny (.ref C) _) _ _ _
 repeat (any_goals (first|assumption| (with_reducible refine wpAny_loadPart_at hC ?_)|wp_step))
 refine⟨rfl,?_⟩
 refine codeAny_call_builtin_at (Code.quiet_builtin _ (by decide+kernel)) entry_typeCall (wpAny_check_type_call_sub hC ?_)
 repeat (first| (with_reducible refine wpAny_loadPart_at hC ?_)| (with_reducible refine wpAny_madeBy_exc hC ?_)|wp_step)
 refine codeAny_call_builtin_code (Code.quiet_builtin _ F.quiet) (wpAny_check_new_subT F T hC ?_)
 refine codeAny_exc_new_subT F T hC ?_ hl
 have kp:∀b o,hp.get? b=some o→((hp.push {cls:=.type "tuple",data:=.seq us.toArray}).push (Gn C none #[.ref hp.objs.size,.none,.none,.none,.bool false,.none])).get? b=some o:=fun b o e=>Heap.get?_push_of_some _ (Heap.get?_push_of_some _ e)
 have X2:K.In ((hp.push {cls:=.type "tuple",data:=.seq us.toArray}).push (Gn C none #[.ref hp.objs.size,.none,.none,.none,.bool false,.none])):=X.keeps kp
 have hx:((hp.push {cls:=.type "tuple",data:=.seq us.toArray}).push (Gn C none #[.ref hp.objs.size,.none,.none,.none,.bool false,.none])).get? (hp.objs.size+1)=some (Gn C none #[.ref hp.objs.size,.none,.none,.none,.bool false,.none]):=by
  have z:=Heap.get?_push_size (hp.push {cls:=.type "tuple",data:=.seq us.toArray}) (o:=Gn C none #[.ref hp.objs.size,.none,.none,.none,.bool false,.none]) rfl
  rw[Heap.size_push] at z
  exact z
 have I2:PySem.W.InstAt ((hp.push {cls:=.type "tuple",data:=.seq us.toArray}).push (Gn C none #[.ref hp.objs.size,.none,.none,.none,.bool false,.none])) (hp.objs.size+1) (Gn C none #[.ref hp.objs.size,.none,.none,.none,.bool false,.none]) C none:=⟨hx,rfl,rfl,trivial⟩
 show wpAny _ _ (isInstance (.ref (hp.objs.size+1)) (.ref C)>>=_) _ _ _
 refine wpAny_bind ?_
 unfold isInstance
 refine wpAny_bind (I2.type.at ?_)
 refine wpAny_isSubtype_exc (kp _ _ hC) ?_
 rw[show(Value.ref C::.ref R::FU).contains (.ref C)=true from by simp,Bool.not_true,if_neg Bool.false_ne_true]
 refine wpAny_bind (wpAny_holding ?_)
 refine PySem.W.special_fn X2 I2 c.ini c.fn ?_
 refine wpAny_call (codeAny_mono h fun r s' z=>?_)
 cases r with
 |error e=>exact z
 |ok fl=>
  cases fl with
  |ret u=>
   obtain⟨rfl,z⟩:=z
   exact wpAny_pure z
  |next=>exact z.elim
  |brk=>exact z.elim
  |cont=>exact z.elim
end
def bW(C x:Addr)(d:Option Addr)(vs:Array Value)(h:Heap):Prop:=h.get? x=some (Gn C d vs)
def IA(C x:Addr)(d:Option Addr)(vs:Array Value):HO:=.ext (bW C x d vs)
abbrev IB(t:Addr):Array Value:=#[.ref t,.none,.none,.none,.bool false,.none]
theorem QN{P:Program}{w:World}{H:Hp}{h:Heap}{C x:Addr}{d:Option Addr}{vs:Array Value}(e:h.get? x=some (Gn C d vs)):ObjOk P w H h x (IA C x d vs):=⟨e,⟨_,e⟩,fun _ _ q k=>k _ q⟩
section
variable{X:Cx}{pins:List (Addr×Obj)}{σ:St}{H:Hp}{s:Shared}
theorem Inv.untrack{x:Addr}{o:HO}{φ:Heap→Prop}(I:Inv X pins σ (upd H x o) s)(hx:H x=none)(ho:o=.ext φ)(hs0:X.s₀.heap.get? x=none):Inv X pins σ H s:=by
 subst ho
 have ne:∀b u,(upd H x (.ext φ)) b=some u→(∀z,u≠.ext z)→b≠x∧H b=some u:=fun b u e z=>by
  have n:b≠x:=fun q=>by rw[q,AF] at e;exact z φ (Option.some.inj e).symm
  exact⟨n,by rw[AG n] at e;exact e⟩
 have nn:∀b,(upd H x (.ext φ)) b=none→H b=none:=fun b e=>by
  have n:b≠x:=fun q=>by rw[q,AF] at e;cases e
  rw[AG n] at e;exact e
 refine⟨I.ok,I.os,I.bare,⟨I.base.keep,I.base.slot,fun b o e n hb=>nn b (I.base.free b o e n hb),I.base.there,fun b xs e=> (ne b _ (I.base.tups b xs e) (fun _ z=>nomatch z)).2,fun b o u e=> (ne b _ (I.base.frzs b o u e) (fun _ z=>nomatch z)).2,fun b ps e=>?_⟩,I.loc,I.cell,nn _ I.free,fun y c e=>nn _ (I.freeC y c e),fun p hp=>?_,fun b u e=>?_,I.len⟩
 ·obtain⟨m,q⟩:=I.base.tbls b ps e
  exact⟨m,(ne b _ q fun _ z=>nomatch z).2⟩
 ·obtain⟨a,b,r⟩:=I.pin p hp
  exact⟨a,nn _ b,r⟩
 ·have n:b≠x:=fun q=>by rw[q,hx] at e;cases e
  exact(I.hok b u (by rw[AG n];exact e)).stay (fun _ _ _ q=>q) (fun c q=> (ne c _ q fun _ z=>nomatch z).2) fun c xs q=> (ne c _ q fun _ z=>nomatch z).2
theorem Inv.dicted{C x d:Addr}{vs:Array Value}{fs:List (Str×V)}{h':Heap}{t':Nat}(I:Inv X pins σ H s)(hx:H x=some (IA C x none vs))(hd:s.heap.objs.size≤d)(dn:d≠x)(e1:h'.get? x=some (Gn C (some d) vs))(e2:Vv d fs h')(k:∀b o,b≠x→s.heap.get? b=some o→h'.get? b=some o):
  Inv X pins σ (upd (upd H x (IA C x (some d) vs)) d (JP d fs)) {s with heap:=h',toks:=t'}:=by
 have hdn:H d=none:=I.hok.fresh hd
 have nx:∀b u,H b=some u→(∀z,u≠.ext z)→b≠x∧b≠d:=fun b u e z=> ⟨fun q=>by rw[q,hx] at e;exact z _ (Option.some.inj e).symm,fun q=>by rw[q,hdn] at e;cases e⟩
 have st:∀b u,H b=some u→(∀z,u≠.ext z)→upd (upd H x (IA C x (some d) vs)) d (JP d fs) b=some u:=fun b u e z=>by rw[AG (nx b u e z).2,AG (nx b u e z).1];exact e
 refine I.un ⟨fun b o e n _ _=>k b o (fun q=>by rw[q,hx] at n;cases n) e,fun b o e n _ _=> ⟨o.slots,k b o (fun q=>by rw[q,hx] at n;cases n) e⟩,fun b o e n _=>?_,fun b o e _=>?_,fun b xs e=>st b _ e (fun _ z=>nomatch z),fun b o u e=>st b _ e (fun _ z=>nomatch z),fun b ps e=> ⟨#[],by rw[st b _ e fun _ z=>nomatch z];simp⟩⟩ ?_
 ·rw[AG (Nat.ne_of_lt (Nat.lt_of_lt_of_le (Heap.lt_size e) hd)),AG (fun q=>by rw[q,hx] at n;cases n)]
  exact n
 ·by_cases q:b=x
  ·exact⟨_,by rw[q];exact e1⟩
  ·exact⟨o,k b o q e⟩
 ·intro b u e
  by_cases q:b=d
  ·rw[q,AF] at e;cases e
   rw[q];exact Vw e2
  ·rw[AG q] at e
   by_cases q2:b=x
   ·rw[q2,AF] at e;cases e
    rw[q2];exact QN e1
   ·rw[AG q2] at e
    refine(I.hok b u e).stay (fun c v hc z=>k c v ?_ z) (fun c z=>st c _ z fun _ z=>nomatch z) fun c xs z=>st c _ z fun _ z=>nomatch z
    rintro rfl
    rcases hc with rfl|hc
    ·exact q2 rfl
    ·rw[hx] at hc;cases hc
end
section
variable{X:Cx}{o value:Expr}{n:Str}{pos pos':Pos}{ta tv:TE}
def bX(K:PySem.W.Frag)(ta tv:TE)(n:Str):TS:=fun D σ H=>tv σ H fun y H1=>ta σ H1 fun u H2=>∃x C f vs,u=.ref x∧H2 x=some (IA C x none vs)∧XfC K C f∧PySem.W.findIn K (.ref C) n=some none∧∀d,H2 d=none→d≠x→D.nx σ (upd (upd H2 x (IA C x (some d) vs)) d (JP d [(n,y)]))
theorem Wo(ha:PE X o ta)(hv:PE X value tv)(hs:swapsWith value (some (.Attribute o n pos')) pos.line X.env=pure false):PS X (.Assign [.Attribute o n pos'] value pos) (bX X.K ta tv n):=by
 intro pins s σ H D I h
 refine plainObj_wpAny_Assign_Attribute (Ae (hv pins s σ H _ I h) fun u s1 ⟨y,H1,I1,ry,q⟩=>Ae (ha pins s1 σ H1 _ I1 q) fun ov s2 ⟨z,H2,I2,rz,x,C,f,vs,ex,hx,c,hn,q2⟩=>?_) hs
 subst ex
 obtain rfl:ov=Value.ref x:=rz
 obtain⟨e,_,_⟩:=(show ObjOk X.prog X.w H2 s2.heap x (IA C x none vs) from I2.hok x _ hx)
 refine QM I2.kIn e c hn fun h' d tk hd dn e1 e2 k=> ⟨σ,_,I2.dicted hx hd dn e1 ⟨_,e2,fun g=>?_,fun g hg=>?_⟩ k,q2 d (I2.hok.fresh hd) dn⟩
 ·show OZ (List.lookup g [(n,y)]) (if g=n then some u else none)
  by_cases q:g=n
  ·rw[if_pos q,q]
   simp only[List.lookup,beq_self_eq_true]
   exact ry
  ·rw[if_neg q]
   have b:(g==n)=false:=beq_eq_false_iff_ne.mpr q
   simp only[List.lookup,b]
   trivial
 ·by_cases q:g=n
  ·rw[q];simp
  ·exact absurd (if_neg q) hg
end
def QO(C:Addr)(ns:List Str):Sp:=fun vs H Q _=>∃(x t:Addr) (is:List Int),vs=.ref x::is.map V.int∧is.length=ns.length∧H x=some (IA C x none (IB t))∧∀d,H d=none→d≠x→Q .non (upd (upd H x (IA C x (some d) (IB t))) d (JP d (ns.zip (is.map V.int))))
theorem Ll{M:Model}{A:Around}{E:Value→Shared→Prop}{env:Env}{s:Shared}{x:Sem Value}{Q:Flow→Shared→Prop}{K:PySem.W.Frag}{C f:Addr}(c:XfC K C f)(hh:A.handled=none)
  (h:wpAny M A x (fun v s1=>∃e t d,v=.ref e∧K.In s1.heap∧s1.heap.get? e=some (Gn C d (IB t))∧E (.ref e) s1) E s):wpAny M A (raiseStmt env (some x) none) Q E s:=by
 unfold raiseStmt
 refine wpAny_bind (wpAny_mono h (fun v s1 h1=>?_) fun _ _ z=>z)
 obtain⟨e,t,dd,rfl,X,he,hE⟩:=h1
 obtain⟨nm,q,N,R,sn,sub,ab,col,dd',k0,k1,k2,k3,k5,hC,T⟩:=c.own X
 obtain⟨hp,g,d,tk,os⟩:=s1
 have hcB:(Value.ref C::.ref R::FU).contains (.type "BaseException")=true:=by simp
 repeat (first| (with_reducible refine wpAny_loadPart_at he ?_)| (with_reducible refine wpAny_loadPart_at hC ?_)| ((with_reducible refine wpAny_isSubtype_exc hC ?_);rw[hcB])|wp_step)
 exact wpAny_raiseNew_none hh hE
theorem OL{X:Cx}{W:St→XK}{x:Str}{C f:Addr}{fd:FuncData}{ps ns:List Str}{k:Nat}{np cpos pos:Pos}{e:Expr}{es:List Expr}{t:TA}(xo:XOk X W)(hc:X.calm=true)(c:XfC X.K C f)(hkp:PySem.W.keepIn X.K (.ref C)=true)
  (F:FnOk X.prog X.w X.K X.mg X.base (CXe X.prog X.w) k f fd ps (QO C ns)) (hr:Room (k+1) X.A) (hb:Binds X.K fd ps []) (hl:ns.length≤10) (hg:Gl X x) (hm:X.mg x=some (.ref C)) (ha:PA X (e::es) t)
  (hdb:(x==("__debug__" :Str))=false:=by decide) (he:starEach (e::es) X.env=(false,eval e X.env)::starEach es X.env:=by rfl) (hpl:(backTo cpos (starEach es X.env)).any (·.1)=false:=by rfl):
  PS X (.Raise (some (.Call (.Name x np) (e::es) [] cpos)) none pos) (fun D σ H=>t σ H fun vs H1=>∃(is:List Int) (fs:Str),vs=is.map V.int∧is.length=ns.length∧Uh fs=ns.zip (is.map V.int)∧∀d,H1 d=none→W σ (.str fs C) none (upd H1 d (JP d (Uh fs)))):=by
 intro pins s σ H D I h
 rw[arm_exec_Raise]
 refine wpAny_bind (wpAny_standAt (Ll c (I.ok.hd hc) (wpAny_bind (Ae (Q:=fun v s1=>∃e t d,v=.ref e∧X.K.In s1.heap∧s1.heap.get? e=some (Gn C d (IB t))∧X.xe (.ref e) s1) ?_ fun v s3 q3=>wpAny_bind (wpAny_standAt (wpAny_pure q3))))))
 refine wpAny_Call_Name_kw (DZ I hg hm ?_ hdb)
 refine PySem.W.callWith_K (h₀:=X.base) I.ok.mod.kin hkp (Ae (ha cpos pins s σ H _ I h) fun us s1 ⟨vs,H1,I1,r,is,fs,ev,el,ef,q⟩=> ⟨I1.kIn,?_⟩) he hpl
 subst ev
 have lu:us.length=ns.length:=by rw[←r.length,List.length_map];exact el
 have hx0:H1 (s1.heap.objs.size+1)=none:=I1.hok.fresh (Nat.le_succ _)
 have kp:∀b o,s1.heap.get? b=some o→((s1.heap.push {cls:=.type "tuple",data:=.seq us.toArray}).push (Gn C none (IB s1.heap.objs.size))).get? b=some o:=fun b o z=>Heap.get?_push_of_some _ (Heap.get?_push_of_some _ z)
 have gx:((s1.heap.push {cls:=.type "tuple",data:=.seq us.toArray}).push (Gn C none (IB s1.heap.objs.size))).get? (s1.heap.objs.size+1)=some (Gn C none (IB s1.heap.objs.size)):=by
  have z:=Heap.get?_push_size (s1.heap.push {cls:=.type "tuple",data:=.seq us.toArray}) (o:=Gn C none (IB s1.heap.objs.size)) rfl
  rw[Heap.size_push] at z
  exact z
 have I2:Inv X pins σ (upd H1 (s1.heap.objs.size+1) (IA C (s1.heap.objs.size+1) none (IB s1.heap.objs.size))) {s1 with heap:=(s1.heap.push {cls:=.type "tuple",data:=.seq us.toArray}).push (Gn C none (IB s1.heap.objs.size))}:=
  I1.laid (t':=s1.toks) kp (Nat.le_succ _) (QN gx)
 have r2:Vals (V.ref (s1.heap.objs.size+1)::is.map V.int) (Value.ref (s1.heap.objs.size+1)::us):=.cons rfl r
 have hsp:QO C ns (V.ref (s1.heap.objs.size+1)::is.map V.int) (upd H1 (s1.heap.objs.size+1) (IA C (s1.heap.objs.size+1) none (IB s1.heap.objs.size))) (fun v H'=>v=.non∧∃d,H1 d=none∧d≠s1.heap.objs.size+1∧H'=upd (upd H1 (s1.heap.objs.size+1) (IA C (s1.heap.objs.size+1) (some d) (IB s1.heap.objs.size))) d (JP d (ns.zip (is.map V.int)))) E0:=by
  refine⟨_,_,is,rfl,el,AF,fun d hd dn=> ⟨rfl,d,?_,dn,?_⟩⟩
  ·rw[AG dn] at hd;exact hd
  ·rw[SF]
 have hlp:(Value.ref (s1.heap.objs.size+1)::us++[]).length=ps.length:=by
  have z:=F.len _ _ _ _ hsp
  rw[List.append_nil,←z,List.length_cons,List.length_cons,List.length_map,lu,el]
 show wpAny _ _ (call (.ref C) us) _ _ _
 refine TQ I1.kIn c (by rw[lu,sizeLine_eq];omega) ?_
 refine codeAny_mono (F.run _ X.stack _ _ ⟨Value.ref (s1.heap.objs.size+1)::us,[]⟩ (Value.ref (s1.heap.objs.size+1)::us) _ _ E0 (hr.make C us []) (I2.env0.make C us []) (by
  have z:=hb _ (Value.ref (s1.heap.objs.size+1)::us) I2.kIn hlp
  rw[List.append_nil] at z;exact z) r2 hsp) fun r' s' hq'=>?_
 cases r' with
 |error e=>exact(CXe.never hq').elim
 |ok fl=>
  cases fl with
  |ret u=>
   obtain⟨v,H',I3,rv,ev,d,hd,dn,eH⟩:=I2.after hq'
   subst ev eH
   refine⟨rv,_,s1.heap.objs.size,some d,rfl,I3.kIn,?_,?_⟩
   ·have z:upd (upd H1 (s1.heap.objs.size+1) (IA C (s1.heap.objs.size+1) (some d) (IB s1.heap.objs.size))) d (JP d (ns.zip (is.map V.int))) (s1.heap.objs.size+1)=some (IA C (s1.heap.objs.size+1) (some d) (IB s1.heap.objs.size)):=by rw[AG (Ne.symm dn),AF]
    obtain⟨z,_,_⟩:=(show ObjOk X.prog X.w _ s'.heap _ (IA C (s1.heap.objs.size+1) (some d) (IB s1.heap.objs.size)) from I3.hok _ _ z)
    exact z
   ·have hs0:X.s₀.heap.get? (s1.heap.objs.size+1)=none:=Heap.get?_none_of_le (Nat.le_trans I1.sz (Nat.le_succ _))
    have ec:upd (upd H1 (s1.heap.objs.size+1) (IA C (s1.heap.objs.size+1) (some d) (IB s1.heap.objs.size))) d (JP d (ns.zip (is.map V.int)))=upd (upd H1 d (JP d (ns.zip (is.map V.int)))) (s1.heap.objs.size+1) (IA C (s1.heap.objs.size+1) (some d) (IB s1.heap.objs.size)):=by
     funext b
     unfold upd
     by_cases q1:b=d
     ·rw[if_pos q1,if_neg (fun z=>dn (q1.symm.trans z)),if_pos q1]
     ·rw[if_neg q1,if_neg q1]
    have z:upd (upd H1 (s1.heap.objs.size+1) (IA C (s1.heap.objs.size+1) (some d) (IB s1.heap.objs.size))) d (JP d (ns.zip (is.map V.int))) (s1.heap.objs.size+1)=some (IA C (s1.heap.objs.size+1) (some d) (IB s1.heap.objs.size)):=by rw[AG (Ne.symm dn),AF]
    obtain⟨gx',_,_⟩:=(show ObjOk X.prog X.w _ s'.heap _ (IA C (s1.heap.objs.size+1) (some d) (IB s1.heap.objs.size)) from I3.hok _ _ z)
    rw[ec] at I3
    have hx1:upd H1 d (JP d (ns.zip (is.map V.int))) (s1.heap.objs.size+1)=none:=by rw[AG (Ne.symm dn)];exact hx0
    have I4:=I3.untrack hx1 rfl hs0
    rw[←ef] at I4 hx1
    exact xo.madeF pins σ _ s' _ C _ d fs I4 hx1 hs0 gx' AF (q d hd)
  |next=>exact False.elim hq'
  |brk=>exact False.elim hq'
  |cont=>exact False.elim hq'
end L2
namespace L2.TL
open PySem PySem.Spec PySem.Calls PyProof.Rows
structure XCl(P:Program)(w:World)(K:PySem.W.Frag)(mg:Str→Option Value)(base:Heap)(x:Str)(C f:Addr)(ns:List Str):Prop where
 c:XfC K C f
 kp:PySem.W.keepIn K (.ref C)=true
 m:mg x=some (.ref C)
 fn:∃fd ps,FnOk P w K mg base (CXe P w) 1 f fd ps (QO C ns)∧Binds K fd ps []
 ek:ExcCls K C
 nf:∀n∈ns,PySem.W.findIn K (.ref C) n=some none
 len:ns.length≤10
theorem XCl.hd{P:Program}{w:World}{K:PySem.W.Frag}{mg:Str→Option Value}{base:Heap}{x:Str}{C f:Addr}{ns:List Str}(c:XCl P w K mg base x C f ns):PySem.W.hasDictIn K C=true:=by
 obtain⟨cd,R,h1,h2,_⟩:=c.c.cls
 unfold PySem.W.hasDictIn
 rw[h1];exact h2
theorem DA(i:Int):Uh ⟨([1,Ye i]:List Nat).toArray⟩=[(("row" :Str),V.int i)]:=by show[(("row" :Str),V.int (Vu (Ye i)))]=_;rw[Sd]
abbrev TR(C:Addr)(i:Int):Value:=.str ⟨([1,Ye i]:List Nat).toArray⟩ C
section
variable{Z:Zx}{ρ:List (Option T)}{O:AQ}{e a b:Expr}{es:List Expr}{Ψ:Es}{Φ:BR}{pos p:Pos}{t:T}{ts:List T}{x:Str}
theorem Bd{C f:Addr}{ns:List Str}{is:List Int}{fs:Str}{np cpos:Pos}(xo:XOk Z.X Z.W)(hc:Z.X.calm=true)(c:XCl Z.X.prog Z.X.w Z.X.K Z.X.mg Z.X.base x C f ns)(hr:Room 2 Z.X.A)(ha:EA Z ρ O (e::es) (is.map T.int))(hil:is.length=ns.length)(hfs:Uh fs=ns.zip (is.map V.int))(h:Z.Xi (.str fs C) O)(hg:Gl Z.X x:=by rfl)
  (hdb:(x==("__debug__" :Str))=false:=by decide) (he:starEach (e::es) Z.X.env=(false,eval e Z.X.env)::starEach es Z.X.env:=by rfl) (hpl:(backTo cpos (starEach es Z.X.env)).any (·.1)=false:=by rfl):WS Z ρ O (.Raise (some (.Call (.Name x np) (e::es) [] cpos)) none pos) Ψ:=by
 obtain⟨fd,ps,F,hb⟩:=c.fn
 refine PS.weak (OL xo hc c.c c.kp F hr hb c.len hg c.m (FW (ρ:=ρ)) hdb he hpl) fun D σ H q=>?_
 refine⟨O,_,ha (fun ts O'=>ts=is.map T.int∧O'=O) ⟨rfl,rfl⟩,q.1,fun vs H1 ts O1 p f r=>?_⟩
 obtain⟨rfl,rfl⟩:=p
 exact⟨is,fs,r.ints,hil,hfs,fun d hd=> ⟨rfl,O1,h,(q.1.fr.trans f).trans (.new f.ok hd)⟩⟩
def _root_.L2.TL.Zx.Wr(Z:Zx)(ρ:List (Option T)):St→XK:=fun σ cls d H'=>d=none∧∃O',Z.Xi cls O'∧Frm Z.K Z.Oe Z.He O' H'∧Rl Z.K O' H' σ ρ
theorem QP{k:Nat}{ps:List Str}{s:DI}(G:FnT Z.X.prog Z.X.w Z.X.K Z.X.mg Z.X.base x k ps s)(hr:Room k Z.X.A)(xf:XFly Z.X (Z.Wr ρ))(h:WA Z ρ O (e::es) fun ts O1=>s ts O1 Φ Z.Xi)(hg:Gl Z.X x:=by rfl)
  (hdb:(x==("__debug__" :Str))=false:=by decide) (he:starEach (e::es) Z.X.env=(false,eval e Z.X.env)::starEach es Z.X.env:=by rfl) (hpl:(backTo pos (starEach es Z.X.env)).any (·.1)=false:=by rfl):WE Z ρ O (.Call (.Name x p) (e::es) [] pos) Φ:=by
 obtain⟨f,fd,F,hm,hk,hb⟩:=G.ex
 refine PE.weak (GE xf F hr hg hm hk hb (FW (ρ:=ρ)) hdb he hpl) fun σ H Q q=>?_
 exact⟨O,_,h,q.1,fun vs H1 ts O1 p f r=> ⟨ts,O1,Φ,Z.Xi,r,f.ok,p,q.2.step f,fun cls O' H' x f'=> ⟨rfl,O',x,(q.1.fr.trans f).trans f',(q.1.rl.kp f.kp q.1.ok).kp f'.kp f.ok⟩⟩⟩
theorem Rl.unset{K:PySem.W.Frag}{O:AQ}{H:Hp}{σ:St}{ρ:List (Option T)}{i:Nat}(r:Rl K O H σ ρ):Rl K O H (σ.set i none) (ρ.set i none):=⟨by simpa using r.1,fun j u e=>by
 by_cases hj:j=i
 ·subst hj
  have hl:j<ρ.length:=by
   have:=(List.getElem?_eq_some_iff.mp e).1
   simpa using this
  rw[List.getElem?_set_self hl] at e
  cases e
 ·rw[List.getElem?_set_ne (Ne.symm hj)] at e ⊢
  exact r.2 j u e⟩
def cF(i:Nat)(Ψ:Es):Es:={nx:=fun ρ' O'=>Ψ.nx (ρ'.set i none) O',rt:=Ψ.rt,bk:=fun ρ' O'=>Ψ.bk (ρ'.set i none) O',ct:=fun ρ' O'=>Ψ.ct (ρ'.set i none) O'}
abbrev zH(Z:Zx)(x:Addr)(O:AQ)(H:Hp):Zx:=⟨Ui Z.X x,O,H,fun _ _=>False⟩
theorem TU{i:Nat}{n bx:Str}{B:Addr}{np hpos:Pos}{body suite:List Stmt}{b₀:Stmt}(Cs:Value→AQ→Prop)
  (hbody:∀pins E' H,Frm Z.K Z.Oe Z.He O H→XFly (Bz Z.X pins E') (Zx.Wr ⟨Bz Z.X pins E',O,H,Cs⟩ ρ)→Gb ⟨Bz Z.X pins E',O,H,Cs⟩ ρ O body Ψ)
  (kc:∀cls O',Cs cls O'→∃C,(cls=.ref C∨∃fs,cls=.str fs C)∧PySem.W.kitCls Z.X.K (.ref C) (.ref B)=some true)
  (hsuite:∀y cls O' C x o H',Cs cls O'→HK cls C x H' o→Frm Z.K Z.Oe Z.He O' H'→H' x=none→Gb (zH Z y O' (upd H' x o)) (ρ.set i (some (.raw (.ref x)))) O' (b₀::suite) (cF i Ψ))
  (hst:Z.X.stack=Z.X.env::Z.X.outer) (hex:Z.X.ex=[]) (hfr:Z.X.env.frame=some Z.X.env.locals) (hN:Z.X.N.Nodup) (hi:Z.X.N[i]?=some n) (hk:Z.X.env.scope.names.lookup n=some .local) (hmB:Z.X.mg bx=some (.ref B)) (hbe:PySem.W.mroIn Z.X.K B (.type "BaseException")=some true)
  (hgB:Gl Z.X bx) (hd2:(bx==("__debug__" :Str))=false):
  WS Z ρ O (.Try body [.ExceptHandler (some (.Name bx np)) (some n) (b₀::suite) hpos] [] [] pos) Ψ:=by
 have hb1:∀(W:St→XK) (X':Cx),TryIs Z.X X'→XFly X' W→PSs X' body (fun D σ H=>tS Z ρ O Ψ D σ H∧∀(σ':St) cls O' H',Cs cls O'→Frm Z.K O H O' H'→Rl Z.K O' H' σ' ρ→W σ' cls none H'):=by
  rintro W X' ⟨pins0,E',rfl⟩ xf
  intro pins s σ H D I ⟨⟨a,acc⟩,hw⟩
  refine hbody pins0 E' H a.fr ⟨fun pins1 σ1 H1 s1 e s2 I1 c=>xf.fly pins1 σ1 H1 s1 e s2 I1 ?_⟩ pins s σ H D I ⟨⟨a.rl,.refl a.ok⟩,⟨fun ρ' O' σ' H' p a' k=>acc.nx ρ' O' σ' H' p ⟨a'.rl,a.fr.trans a'.fr⟩ k,fun v H' t O' p f r=>acc.rt v H' t O' p (a.fr.trans f) r,fun ρ' O' σ' H' p a' k=>acc.bk ρ' O' σ' H' p ⟨a'.rl,a.fr.trans a'.fr⟩ k,fun ρ' O' σ' H' p a' k=>acc.ct ρ' O' σ' H' p ⟨a'.rl,a.fr.trans a'.fr⟩ k⟩⟩
  obtain⟨x,cls,H',e1,fl,_,O',hc,f,rl⟩:=c
  exact⟨x,cls,H',e1,fl,hw σ1 cls O' H' hc f rl⟩
 have hh1:∀y,PSs (Ui Z.X y) (b₀::suite) (fun D σ H=>∃z cls O' C o H',Cs cls O'∧HK cls C z H' o∧Frm Z.K Z.Oe Z.He O' H'∧H' z=none∧tS (zH Z z O' (upd H' z o)) (ρ.set i (some (.raw (.ref z)))) O' (cF i Ψ) D σ H):=by
  rintro y pins s σ H D I ⟨z,cls,O',C,o,H',c,hk',f,hz,q⟩
  exact hsuite y cls O' C z o H' c hk' f hz pins s σ _ D I ⟨⟨q.1.rl,q.1.fr⟩,⟨fun ρ' O' σ' H' p a k=>q.2.nx ρ' O' σ' H' p ⟨a.rl,a.fr⟩ k,q.2.rt,fun ρ' O' σ' H' p a k=>q.2.bk ρ' O' σ' H' p ⟨a.rl,a.fr⟩ k,fun ρ' O' σ' H' p a k=>q.2.ct ρ' O' σ' H' p ⟨a.rl,a.fr⟩ k⟩⟩
 refine PS.weak (PM (i:=i) hst hex hfr hN hi hk hgB hmB hbe hb1 hh1 hd2) fun D σ H q=>?_
 refine⟨q,?_⟩
 intro σ' cls O' H' hc f rl
 obtain⟨C,h1,h2⟩:=kc cls O' hc
 refine⟨C,h1,h2,fun z o hz hk'=> ⟨z,cls,O',C,o,H',hc,hk',q.1.fr.trans f,hz,⟨(rl.kp (Au f.ok hz) f.ok).set (.raw _),.refl (Frm.new f.ok hz).ok⟩,?_⟩⟩
 have g:Frm Z.K Z.Oe Z.He O' (upd H' z o):=(q.1.fr.trans f).trans (.new f.ok hz)
 have k0:TL.Kp O H O' (upd H' z o):=f.kp.trans (Au f.ok hz)
 exact⟨fun ρ2 O2 σ2 H2 p a2 k2=>q.2.nx _ O2 _ H2 p ⟨Rl.unset a2.rl,g.trans a2.fr⟩ (k0.trans k2),fun v H2 t O2 p f2 r=>q.2.rt v H2 t O2 p (g.trans f2) r,
  fun ρ2 O2 σ2 H2 p a2 k2=>q.2.bk _ O2 _ H2 p ⟨Rl.unset a2.rl,g.trans a2.fr⟩ (k0.trans k2),fun ρ2 O2 σ2 H2 p a2 k2=>q.2.ct _ O2 _ H2 p ⟨Rl.unset a2.rl,g.trans a2.fr⟩ (k0.trans k2)⟩
end
end L2.TL
namespace L2
open PySem PySem.Spec PySem.Calls PyProof.Rows
theorem TV{X:Cx}{e:Expr}{f:Str}{pos:Pos}{te:TE}(he:PE X e te)(hb:attributeBase e f X.env (eval e X.env)=eval e X.env):PE X (.Attribute e f pos) (fun σ H Q=>te σ H fun u H1=>∃(x C:Addr) (ox:Obj) (dx:Addr) (vs:Array Value) (fs:List (Str×V)) (i:Int),u=.ref x∧H1 x=some (.frz ox (Dp C x))∧ox=⟨.ref C,some dx,.fields vs,ox.slots⟩∧H1 dx=some (JP dx fs)∧ExcCls X.K C∧PySem.W.hasDictIn X.K C=true∧PySem.W.findIn X.K (.ref C) f=some none∧fs.lookup f=some (.int i)∧Q (.int i) H1):=by
 intro pins s σ H Q I h
 refine SQ hb (Ae (he pins s σ H _ I h) fun u s1 ⟨z,H1,I1,rz,x,C,ox,dx,vs,fs,i,ez,hx,eo,hdx,k,hh,hn,hl,q⟩=>?_)
 subst ez
 obtain rfl:u=Value.ref x:=rz
 obtain⟨e1,_⟩:=(show ObjOk X.prog X.w H1 s1.heap x (.frz ox (Dp C x)) from I1.hok x _ hx)
 obtain⟨⟨mA,n1,r,_⟩,_,_⟩:=(show ObjOk X.prog X.w H1 s1.heap dx (JP dx fs) from I1.hok dx _ hdx)
 have rf:=r f
 rw[hl] at rf
 cases em:mA f with
 |none=>rw[em] at rf;exact rf.elim
 |some u=>
  rw[em] at rf
  obtain⟨tk,rfl⟩:=(show∃tk,u=Value.int i tk from rf)
  have eo1:ox.cls=.ref C:=by rw[eo]
  have eo2:PySem.W.notCls ox=true:=by rw[eo];rfl
  have eo3:ox.dict=some dx:=by rw[eo]
  exact TN I1.kIn k e1 eo1 eo2 eo3 n1 hh hn em rfl ⟨.int i,H1,I1.tok _,⟨tk,rfl⟩,q⟩
end L2
namespace L2.TL
open PySem PySem.Spec PySem.Calls PyProof.Rows
structure ExF(Z:Zx)(x C:Addr)(fs:List (Str×V)):Prop where
 ex:∃ox dx vs,Z.He x=some (.frz ox (Dp C x))∧ox=⟨.ref C,some dx,.fields vs,ox.slots⟩∧Z.He dx=some (JP dx fs)∧Z.Oe x=none∧Z.Oe dx=none
structure ExC(Z:Zx)(x C:Addr):Prop where
 rd:Rd Z.He x (Dp C x)
 no:Z.Oe x=none
section
variable{Z:Zx}{ρ:List (Option T)}{O O':AQ}{e a b:Expr}{es:List Expr}{Ψ:Es}{Φ:BR}{pos p:Pos}{t:T}{ts:List T}{x y C D:Addr}{H':Hp}{o:HO}{cls:Value}{fs:Str}
theorem HK.exc(h:HK cls C x H' o)(f:Frm Z.K Z.Oe Z.He O' H')(hz:H' x=none):ExC (zH Z y O' (upd H' x o)) x C:=by
 refine⟨?_,f.ok.none_of hz⟩
 rcases h with⟨_,rfl⟩| ⟨_,ox,_,_,_,rfl,_⟩
 ·exact .inl AF
 ·exact .inr ⟨ox,AF⟩
theorem HK.cls_of(h:HK (.str fs C) D x H' o):D=C:=by
 rcases h with⟨e,_⟩| ⟨_,_,_,_,e,_⟩
 ·cases e
 ·cases e;rfl
theorem HK.exf(h:HK (.str fs C) D x H' o)(f:Frm Z.K Z.Oe Z.He O' H')(hz:H' x=none):ExF (zH Z y O' (upd H' x o)) x C (Uh fs):=by
 rcases h with⟨e,_⟩| ⟨_,ox,dx,vs,e,rfl,eo,hd⟩
 ·cases e
 ·cases e
  exact⟨ox,dx,vs,AF,eo,by show upd H' x _ dx=_;rw[AG (AL hd hz)];exact hd,f.ok.none_of hz,f.ok.free hd (fun _ z=>nomatch z)⟩
theorem My{n:Str}{i:Int}{gs:List (Str×V)}(k:ExcCls Z.K C)(hh:PySem.W.hasDictIn Z.K C=true)(hn:PySem.W.findIn Z.K (.ref C) n=some none)(hx:ExF Z x C gs)(h:ET Z ρ O e (.raw (.ref x)))(hl:gs.lookup n=some (.int i))(hb:attributeBase e n Z.X.env (eval e Z.X.env)=eval e Z.X.env:=by rfl):ET Z ρ O (.Attribute e n pos) (.int i):=fun Φ p=>
 PE.weak (TV (Ac (ρ:=ρ)) hb) fun σ H Q q=>by
  refine⟨O,_,h (fun t O'=>t=.raw (.ref x)∧O'=O) ⟨rfl,rfl⟩,q.1,fun v H1 t O1 p1 f r=>?_⟩
  obtain⟨rfl,rfl⟩:=p1
  obtain⟨ox,dx,vs,h1,h2,h3,h4,h5⟩:=hx.ex
  have kk:=(q.1.fr.trans f).kp
  exact⟨x,C,ox,dx,vs,gs,i,r.raw_inv,(kk _ _ h1 h4).1,h2,(kk _ _ h3 h5).1,k,hh,hn,hl,q.2 _ _ _ O1 p f (.int i)⟩
theorem IC{k:Nat}{f:Addr}{fd:FuncData}{ps:List Str}{sp:Sp}{g:Str}(F:FnH Z.X.prog Z.X.w Z.X.K Z.X.mg Z.X.base k f fd ps sp)(hm:Z.X.mg g=some (.ref f))(hk:PySem.W.keepIn Z.X.K (.ref f)=true)(hb:Binds Z.X.K fd ps [])(hr:RoomH k Z.X.A)(h:EA Z ρ O (e::es) ts)
  (w:∀σ H vs Q,Asr Z ρ O σ H→Reps Z.K O H vs ts→Acc Z.K O H Φ Q→sp vs H Q E0) (hg:Gl Z.X g:=by rfl) (hdb:(g==("__debug__" :Str))=false:=by decide) (he:starEach (e::es) Z.X.env=(false,eval e Z.X.env)::starEach es Z.X.env:=by rfl) (hpl:(backTo pos (starEach es Z.X.env)).any (·.1)=false:=by rfl):
  WE Z ρ O (.Call (.Name g p) (e::es) [] pos) Φ:=by
 refine PE.weak (PN F hr hg hm hk hb (FW (ρ:=ρ)) hdb he hpl) fun σ H Q q=>?_
 refine⟨O,_,h (fun ts' O'=>ts'=ts∧O'=O) ⟨rfl,rfl⟩,q.1,fun vs H1 ts1 O1 p1 f1 r=>?_⟩
 obtain⟨rfl,rfl⟩:=p1
 exact w σ H1 vs Q (q.1.step f1) r (q.2.step f1)
theorem QQ{k:Nat}{f:Addr}{fd:FuncData}{ps:List Str}{g:Str}(F:FnH Z.X.prog Z.X.w Z.X.K Z.X.mg Z.X.base k f fd ps (bV C t))(hm:Z.X.mg g=some (.ref f))(hk:PySem.W.keepIn Z.X.K (.ref f)=true)(hb:Binds Z.X.K fd ps [])(hr:RoomH k Z.X.A)(hx:ExC Z x C)(h:ET Z ρ O e (.raw (.ref x)))
  (hg:Gl Z.X g:=by rfl) (hdb:(g==("__debug__" :Str))=false:=by decide) (he:starEach [e] Z.X.env=(false,eval e Z.X.env)::starEach [] Z.X.env:=by rfl) (hpl:(backTo pos (starEach [] Z.X.env)).any (·.1)=false:=by rfl):ET Z ρ O (.Call (.Name g p) [e] [] pos) t:=fun Φ p=>
 IC F hm hk hb hr (AN h AC he) (fun σ H vs Q a r acc=>by
  obtain⟨v,rfl,r1⟩:=r.one_inv
  cases r1.raw_inv
  have rd:Rd H x (Dp C x):=by
   rcases hx.rd with z| ⟨o',z⟩
   ·exact .inl (a.fr.kp _ _ z hx.no).1
   ·exact .inr ⟨o',(a.fr.kp _ _ z hx.no).1⟩
  exact⟨x,rfl,rd,fun v H2 sm rp=>acc v H2 t O p (Frm.same (.refl a.ok) sm) (rp _ _)⟩) hg hdb he hpl
structure FnHT(P:Program)(w:World)(K:PySem.W.Frag)(mg:Str→Option Value)(base:Heap)(x:Str)(k:Nat)(ps:List Str)(s:DI):Prop where
 ex:∃f fd,FnH P w K mg base k f fd ps (Du K s)∧mg x=some (.ref f)∧PySem.W.keepIn K (.ref f)=true∧Binds K fd ps []
theorem Wp{k:Nat}{ps:List Str}{g:Str}{φ:List T→T→Prop}(G:FnHT Z.X.prog Z.X.w Z.X.K Z.X.mg Z.X.base g k ps (Mp φ))(hr:RoomH k Z.X.A)(h:EA Z ρ O (e::es) ts)(hs:φ ts t)(hg:Gl Z.X g:=by rfl)(hdb:(g==("__debug__" :Str))=false:=by decide)
  (he:starEach (e::es) Z.X.env=(false,eval e Z.X.env)::starEach es Z.X.env:=by rfl) (hpl:(backTo pos (starEach es Z.X.env)).any (·.1)=false:=by rfl):ET Z ρ O (.Call (.Name g p) (e::es) [] pos) t:=fun Φ p=>by
 obtain⟨f,fd,F,hm,hk,hb⟩:=G.ex
 exact IC F hm hk hb hr h (fun σ H vs Q a r acc=> ⟨ts,O,Φ,fun _ _=>False,r,a.ok,⟨t,hs,p⟩,acc,fun _ _ _ z=>z.elim⟩) hg hdb he hpl
end
abbrev zD(P:Program)(w:World)(K:PySem.W.Frag)(mg:Str→Option Value)(base:Heap)(N:List Str)(qual:Str)(sc:Scope)(f:Addr)(cdv:Value)(A:Around)(outer:List Env)(s:Shared)(H:Hp)(O:AQ):Zx:=⟨Sf P w K mg base N qual sc f cdv A outer s H,O,H,fun _ _=>False⟩
theorem ZD{P:Program}{w:World}{K:PySem.W.Frag}{mg:Str→Option Value}{base:Heap}{x qual:Str}{st:Stmt}{f:Addr}{fd:FuncData}{N ps:List Str}{k:Nat}{sp:Sp}(F:Fun K x qual st f fd)(S:FnScope N ps (AA st))(len:∀vs H Q E,sp vs H Q E→vs.length=ps.length)
  (h:∀(cdv:Value) (A:Around) (outer:List Env) (s:Shared) (H:Hp) (vs:List V) (Q:VK),RoomH k (A.deeper (envOfC qual (AA st) s.heap.objs.size f cdv))→sp vs H Q E0→
   ∃ts O Φ,Reps K O H vs ts∧OwnOk K O H∧Gb (zD P w K mg base N qual (AA st) f cdv A outer s H O) (CU N ts) O (Aa st) {nx:=fun _ O'=>Φ .non O',rt:=Φ}∧Acc K O H Φ Q):FnH P w K mg base (k+1) f fd ps sp:=by
 refine F.okH S len fun cdv A outer s H vs Q hr hsp=>?_
 obtain⟨ts,O,Φ,r,ok,q,acc⟩:=h cdv A outer s H vs Q hr hsp
 exact⟨_,q,⟨ES r,.refl ok⟩,⟨fun ρ' O' σ' H' p a _=>acc _ _ _ O' p a.fr .non,fun v H' t O' p f r=>acc v H' t O' p f r,fun _ _ _ _ z=>z.elim,fun _ _ _ _ z=>z.elim⟩⟩
theorem TX{P:Program}{w:World}{K:PySem.W.Frag}{mg:Str→Option Value}{base:Heap}{x qual:Str}{st:Stmt}{f:Addr}{fd:FuncData}{N ps:List Str}{k:Nat}{sp:DI}(F:Fun K x qual st f fd)(S:FnScope N ps (AA st))(len:∀ts O Φ Ξ,sp ts O Φ Ξ→ts.length=ps.length)
  (h:∀(cdv:Value) (A:Around) (outer:List Env) (s:Shared) (H:Hp) (O:AQ),RoomH k (A.deeper (envOfC qual (AA st) s.heap.objs.size f cdv))→∀ts Φ Ξ,sp ts O Φ Ξ→Gb (zD P w K mg base N qual (AA st) f cdv A outer s H O) (CU N ts) O (Aa st) {nx:=fun _ O'=>Φ .non O',rt:=Φ}):FnH P w K mg base (k+1) f fd ps (Du K sp):=
 ZD F S (fun vs H Q E ⟨ts,O,Φ,Ξ,r,_,s,_⟩=>r.length.trans (len ts O Φ Ξ s)) fun cdv A outer s H vs Q hr ⟨ts,O,Φ,Ξ,r,ok,sp,acc,_⟩=> ⟨ts,O,Φ,r,ok,h cdv A outer s H O hr ts Φ Ξ sp,acc⟩
section
variable{P:Program}{w:World}{K:PySem.W.Frag}{mg:Str→Option Value}{base:Heap}
theorem QR{C:Addr}{ns:List Str}{ps:List Str}(h:ps.length=ns.length+1):∀vs H Q E,QO C ns vs H Q E→vs.length=ps.length:=fun vs H Q E ⟨x,t,is,e,l,_⟩=>by
 rw[e,List.length_cons,List.length_map,l,h]
end
def ZE:Stmt→List Stmt
 | .ClassDef _ _ _ b _ _ _ _ _ _ _=>b
 |_=> []
structure Ini(K:PySem.W.Frag)(C:Addr)(q:Str)(st:Stmt)(f:Addr)(fd:FuncData):Prop where
 F:Fun K "__init__" q st f fd
 c:XfC K C f
 kp:PySem.W.keepIn K (.ref C)=true
def cG(K:PySem.W.Frag)(C:Addr)(q:Str)(st:Stmt):Prop:=∃f fd,Ini K C q st f fd
section
variable{P:Program}{w:World}{K:PySem.W.Frag}{mg:Str→Option Value}{base:Heap}{C R f:Addr}{q x:Str}{st:Stmt}{fd:FuncData}
theorem ini{nm qn:Str}{N:Addr}{sn:List Str}{sub:List Value}{ab:Bool}{col:Option Bool}{dd:Option Addr}{k0 k1 k2 k3 k5:Option Value}{oc:Value}{od:Option Addr}{kV doc pm:Value}{an:Option Addr}{cdv ct:Value}{osl:Array (Option Value)}
  (l:K.lookup C=some (excClassObj nm qn C N [.ref R] (.ref R::FU) true sn sub ab col dd k0 k1 k2 k3 k5 "ValueError.__new__")) (r:PySem.W.excIn K R FU "ValueError.__new__" =true) (i:PySem.W.findIn K (.ref C) "__init__" =some (some (.ref f))) (t:PySem.W.typeIn K (.ref f)=some (.type "function"))
  (s:PySem.W.findIn K (.ref C) "__setattr__" =some (some (.builtin "object.__setattr__"))) (k:PySem.W.keepIn K (.ref C)=true) (fl:K.lookup f=some ⟨oc,od,.func (PySem.W.fnOf "__init__" q (Cg st) (Aa st) (AA st) .none kV doc pm an cdv ct),osl⟩) (fq:PySem.W.codeIn K cdv q=true) (fk:PySem.W.keepIn K (.ref f)=true):cG K C q st:=
 ⟨f,_,⟨⟨⟨oc,od,kV,doc,pm,an,cdv,ct,osl,rfl,fl,fq⟩,fk⟩,⟨⟨nm,qn,N,R,sn,sub,ab,col,dd,k0,k1,k2,k3,k5,l,r⟩,i,t,s⟩,k⟩⟩
end
end L2.TL
namespace K71
open PySem L2
def kE(P:Params)(x:Str)(n:Tok)(v:Value):DictEntry:=⟨PyData.keyHash P x,.str x n,v⟩
def tp(i:Nat):Stmt:=PySem.Challenge.pw_noshortring_k71_texts_that_write_none.main.body.getD i (.Pass ⟨0,0,0,0⟩)
def kF(x:Str)(i:Nat)(m:Str)(t:Tok)(c:Addr):Obj:=⟨.type "function",none,.func (PySem.W.fnOf x x (Cg (tp i)) (Aa (tp i)) (AA (tp i)) .none .none .none (.str m t) none (.ref c) .none),#[]⟩
def ti(i:Nat):Stmt:=(L2.TL.ZE (tp i)).getD 0 (.Pass ⟨0,0,0,0⟩)
def kG(x:Str)(i:Nat)(m:Str)(t:Tok)(c:Addr):Obj:=⟨.type "function",none,.func (PySem.W.fnOf "__init__" x (Cg (ti i)) (Aa (ti i)) (AA (ti i)) .none .none .none (.str m t) none (.ref c) .none),#[]⟩
def kC(x:Str)(a b c:Tok)(vs:List Value):Obj:=⟨.type "code",none,.fields ((Value.str x a::.str x b::.str "/claim/cut.py" c::vs).toArray),#[]⟩
def kD(x:Str)(a b c:Tok)(l n:Int)(r:Addr)(g:Int)(q:Addr)(z:Int)(k:Tok)(vs:List Value):Obj:=kC x a b c (.int l 0::.int n 0::.int 0 0::.int 0 0::.int 3 0::.ref r::.bool true::.int g 0::.ref q::(vs++[.int z 0,.int l 0,.str "/claim/cut.py" k]))
def Kk:Params→PySem.W.Frag:=fun P=> (nat_lit 3,⟨(.type "dict"),none,(.dict #[kE P "__name__" 165 (.str "law_noshortring_k71_texts_that_write_none" 417),kE P "__doc__" 166 .none,kE P "__package__" 167 .none,kE P "__loader__" 168 (.builtin "__main__.__loader__#opaque"),kE P "__spec__" 169 .none,kE P "__annotations__" 170 (.ref 6),kE P "__builtins__" 171 (.ref 4),kE P "__file__" 173 (.str "/claim/cut.py" 172),kE P "__cached__" 174 .none,kE P "RingError" 206 (.ref 24),kE P "NoPlace" 222 (.ref 37),kE P "NoNumber" 238 (.ref 49),kE P "NoLine" 254 (.ref 61),kE P "NoRing" 270 (.ref 73),kE P "NotEven" 286 (.ref 85),kE P "NoWeb" 311 (.ref 104),kE P "NoText" 336 (.ref 123),kE P "TooGreat" 363 (.ref 142),kE P "is_whole" 374 (.ref 151),kE P "MOST_PLACES" 376 (.int 16 375),kE P "FIGURES" 380 (.str "0123456789" 379),kE P "MOST_FIGURES" 382 (.int 20 381),kE P "number_in" 388 (.ref 156),kE P "numbers_behind" 394 (.ref 161),kE P "goes_on" 403 (.ref 168),kE P "web_read" 416 (.ref 175),kE P "_law_cell_at" 426 (.ref 182),kE P "_law_next" 433 (.ref 189),kE P "_law_pen_of" 441 (.ref 196),kE P "_law_draw" 450 (.ref 203),kE P "_law_whole" 457 (.ref 210),kE P "_law_kind_of" 465 (.ref 217),kE P "_law_web_of" 471 (.ref 222),kE P "_law_round" 477 (.ref 227),kE P "_law_some_web" 483 (.ref 232),kE P "_law_tuples_are" 489 (.ref 237),kE P "_law_web_is" 497 (.ref 244),kE P "_law_text_of" 503 (.ref 249),kE P "_law_value" 509 (.ref 254),kE P "_law_signs_of" 516 (.ref 261),kE P "_law_told" 524 (.ref 268),kE P "_law_pair_of" 534 (.ref 275),kE P "_law_due_of" 546 (.ref 282),kE P "_law_right" 555 (.ref 289),kE P "_law_odd_row" 572 (.ref 296),kE P "_law_spoilt_of" 583 (.ref 303),kE P "law" 597 (.ref 310)] 47),#[]⟩)::
  (nat_lit 23,⟨(.type "dict"),none,(.dict #[kE P "__module__" 196 (.str "noshortring.errors" 187),kE P "__firstlineno__" 200 (.int 2 199),kE P "__static_attributes__" 201 (.ref 22),kE P "__weakref__" 203 (.ref 25),kE P "__doc__" 204 .none] 3),#[]⟩)::
  (nat_lit 24,⟨(.type "type"),none,(.cls ⟨"RingError",[(.type "ValueError")],[(.ref 24),(.type "ValueError"),(.type "Exception"),(.type "BaseException"),(.type "object")],23,"RingError",true,[],[(.ref 37),(.ref 49),(.ref 61),(.ref 73),(.ref 85),(.ref 104),(.ref 123),(.ref 142)],false,none,false⟩),#[(some (.ref 15)),none,(some (.str "RingError" 189)),(some (.str "RingError" 197)),(some (.builtin "ValueError.__new__")),(some (.bool true))]⟩)::
  (nat_lit 37,⟨(.type "type"),none,(.cls ⟨"NoPlace",[(.ref 24)],[(.ref 37),(.ref 24),(.type "ValueError"),(.type "Exception"),(.type "BaseException"),(.type "object")],36,"NoPlace",true,[],[],false,none,false⟩),#[(some (.ref 28)),none,(some (.str "NoPlace" 207)),(some (.str "NoPlace" 215)),(some (.builtin "ValueError.__new__")),(some (.bool true))]⟩)::
  (nat_lit 49,⟨(.type "type"),none,(.cls ⟨"NoNumber",[(.ref 24)],[(.ref 49),(.ref 24),(.type "ValueError"),(.type "Exception"),(.type "BaseException"),(.type "object")],48,"NoNumber",true,[],[],false,none,false⟩),#[(some (.ref 40)),none,(some (.str "NoNumber" 223)),(some (.str "NoNumber" 231)),(some (.builtin "ValueError.__new__")),(some (.bool true))]⟩)::
  (nat_lit 61,⟨(.type "type"),none,(.cls ⟨"NoLine",[(.ref 24)],[(.ref 61),(.ref 24),(.type "ValueError"),(.type "Exception"),(.type "BaseException"),(.type "object")],60,"NoLine",true,[],[],false,none,false⟩),#[(some (.ref 52)),none,(some (.str "NoLine" 239)),(some (.str "NoLine" 247)),(some (.builtin "ValueError.__new__")),(some (.bool true))]⟩)::
  (nat_lit 73,⟨(.type "type"),none,(.cls ⟨"NoRing",[(.ref 24)],[(.ref 73),(.ref 24),(.type "ValueError"),(.type "Exception"),(.type "BaseException"),(.type "object")],72,"NoRing",true,[],[],false,none,false⟩),#[(some (.ref 64)),none,(some (.str "NoRing" 255)),(some (.str "NoRing" 263)),(some (.builtin "ValueError.__new__")),(some (.bool true))]⟩)::
  (nat_lit 85,⟨(.type "type"),none,(.cls ⟨"NotEven",[(.ref 24)],[(.ref 85),(.ref 24),(.type "ValueError"),(.type "Exception"),(.type "BaseException"),(.type "object")],84,"NotEven",true,[],[],false,none,false⟩),#[(some (.ref 76)),none,(some (.str "NotEven" 271)),(some (.str "NotEven" 279)),(some (.builtin "ValueError.__new__")),(some (.bool true))]⟩)::
  (nat_lit 104,⟨(.type "type"),none,(.cls ⟨"NoWeb",[(.ref 24)],[(.ref 104),(.ref 24),(.type "ValueError"),(.type "Exception"),(.type "BaseException"),(.type "object")],103,"NoWeb",true,[],[],false,none,false⟩),#[(some (.ref 88)),none,(some (.str "NoWeb" 287)),(some (.str "NoWeb" 295)),(some (.builtin "ValueError.__new__")),(some (.bool true))]⟩)::
  (nat_lit 119,⟨(.type "code"),none,(.fields #[(.str "__init__" 324),(.str "NoText.__init__" 325),(.str "/claim/cut.py" 326),(.int 20 0),(.int 2 0),(.int 0 0),(.int 0 0),(.int 3 0),(.ref 114),(.bool true),(.int 181 0),(.ref 115),.none,(.ref 116),(.ref 117),(.ref 118),(.int 329 0),(.int 20 0),(.str "/claim/cut.py" 330)]),#[]⟩)::
  (nat_lit 120,kG "NoText.__init__" 8 "noshortring.errors" 187 119)::
  (nat_lit 122,⟨(.type "dict"),none,(.dict #[kE P "__module__" 319 (.str "noshortring.errors" 187),kE P "__firstlineno__" 323 (.int 18 322),kE P "__init__" 331 (.ref 120),kE P "__static_attributes__" 333 (.ref 121),kE P "__doc__" 334 .none] 2),#[]⟩)::
  (nat_lit 123,⟨(.type "type"),none,(.cls ⟨"NoText",[(.ref 24)],[(.ref 123),(.ref 24),(.type "ValueError"),(.type "Exception"),(.type "BaseException"),(.type "object")],122,"NoText",true,[],[],false,none,false⟩),#[(some (.ref 107)),none,(some (.str "NoText" 312)),(some (.str "NoText" 320)),(some (.builtin "ValueError.__new__")),(some (.bool true))]⟩)::
  (nat_lit 142,⟨(.type "type"),none,(.cls ⟨"TooGreat",[(.ref 24)],[(.ref 142),(.ref 24),(.type "ValueError"),(.type "Exception"),(.type "BaseException"),(.type "object")],141,"TooGreat",true,[],[],false,none,false⟩),#[(some (.ref 126)),none,(some (.str "TooGreat" 337)),(some (.str "TooGreat" 345)),(some (.builtin "ValueError.__new__")),(some (.bool true))]⟩)::
  (nat_lit 150,kD "is_whole" 366 367 368 28 3 145 181 146 372 373 [.none,(.ref 147),(.ref 148),(.ref 149)])::
  (nat_lit 151,kF "is_whole" 11 "noshortring.common" 364 150)::
  (nat_lit 155,kD "number_in" 383 384 385 36 1 152 181 153 386 387 [.none,.none,.none,(.ref 154)])::
  (nat_lit 156,kF "number_in" 16 "noshortring.texts" 377 155)::
  (nat_lit 160,kD "numbers_behind" 389 390 391 42 3 157 181 158 392 393 [.none,.none,.none,(.ref 159)])::
  (nat_lit 161,kF "numbers_behind" 17 "noshortring.texts" 377 160)::
  (nat_lit 167,kD "goes_on" 395 396 397 48 3 162 181 163 401 402 [.none,(.ref 164),(.ref 165),(.ref 166)])::
  (nat_lit 168,kF "goes_on" 18 "noshortring.texts" 377 167)::
  (nat_lit 174,kD "web_read" 404 405 406 52 1 169 181 170 414 415 [.none,(.ref 171),(.ref 172),(.ref 173)])::
  (nat_lit 175,kF "web_read" 19 "noshortring.texts" 377 174)::
  (nat_lit 181,kD "_law_cell_at" 419 420 421 69 2 176 181 177 424 425 [.none,(.ref 178),(.ref 179),(.ref 180)])::
  (nat_lit 182,kF "_law_cell_at" 21 "law_noshortring_k71_texts_that_write_none" 417 181)::
  (nat_lit 188,kD "_law_next" 427 428 429 73 1 183 181 184 431 432 [.none,(.ref 185),(.ref 186),(.ref 187)])::
  (nat_lit 189,kF "_law_next" 22 "law_noshortring_k71_texts_that_write_none" 417 188)::
  (nat_lit 195,kD "_law_pen_of" 434 435 436 76 1 190 181 191 439 440 [.none,(.ref 192),(.ref 193),(.ref 194)])::
  (nat_lit 196,kF "_law_pen_of" 23 "law_noshortring_k71_texts_that_write_none" 417 195)::
  (nat_lit 202,kD "_law_draw" 442 443 444 79 2 197 181 198 448 449 [.none,(.ref 199),(.ref 200),(.ref 201)])::
  (nat_lit 203,kF "_law_draw" 24 "law_noshortring_k71_texts_that_write_none" 417 202)::
  (nat_lit 209,kD "_law_whole" 451 452 453 86 1 204 181 205 455 456 [.none,(.ref 206),(.ref 207),(.ref 208)])::
  (nat_lit 210,kF "_law_whole" 25 "law_noshortring_k71_texts_that_write_none" 417 209)::
  (nat_lit 216,kD "_law_kind_of" 458 459 460 88 1 211 181 212 463 464 [.none,(.ref 213),(.ref 214),(.ref 215)])::
  (nat_lit 217,kF "_law_kind_of" 26 "law_noshortring_k71_texts_that_write_none" 417 216)::
  (nat_lit 221,kD "_law_web_of" 466 467 468 94 2 218 181 219 469 470 [.none,.none,.none,(.ref 220)])::
  (nat_lit 222,kF "_law_web_of" 27 "law_noshortring_k71_texts_that_write_none" 417 221)::
  (nat_lit 226,kD "_law_round" 472 473 474 96 3 223 181 224 475 476 [.none,.none,.none,(.ref 225)])::
  (nat_lit 227,kF "_law_round" 28 "law_noshortring_k71_texts_that_write_none" 417 226)::
  (nat_lit 231,kD "_law_some_web" 478 479 480 98 2 228 181 229 481 482 [.none,.none,.none,(.ref 230)])::
  (nat_lit 232,kF "_law_some_web" 29 "law_noshortring_k71_texts_that_write_none" 417 231)::
  (nat_lit 236,kD "_law_tuples_are" 484 485 486 124 2 233 181 234 487 488 [.none,.none,.none,(.ref 235)])::
  (nat_lit 237,kF "_law_tuples_are" 30 "law_noshortring_k71_texts_that_write_none" 417 236)::
  (nat_lit 243,kD "_law_web_is" 490 491 492 128 2 238 181 239 495 496 [.none,(.ref 240),(.ref 241),(.ref 242)])::
  (nat_lit 244,kF "_law_web_is" 31 "law_noshortring_k71_texts_that_write_none" 417 243)::
  (nat_lit 248,kD "_law_text_of" 498 499 500 132 1 245 181 246 501 502 [.none,.none,.none,(.ref 247)])::
  (nat_lit 249,kF "_law_text_of" 32 "law_noshortring_k71_texts_that_write_none" 417 248)::
  (nat_lit 253,kD "_law_value" 504 505 506 135 1 250 181 251 507 508 [.none,.none,.none,(.ref 252)])::
  (nat_lit 254,kF "_law_value" 33 "law_noshortring_k71_texts_that_write_none" 417 253)::
  (nat_lit 260,kD "_law_signs_of" 510 511 512 141 0 255 181 256 514 515 [.none,(.ref 257),(.ref 258),(.ref 259)])::
  (nat_lit 261,kF "_law_signs_of" 34 "law_noshortring_k71_texts_that_write_none" 417 260)::
  (nat_lit 267,kD "_law_told" 517 518 519 144 1 262 181 263 522 523 [.none,(.ref 264),(.ref 265),(.ref 266)])::
  (nat_lit 268,kF "_law_told" 35 "law_noshortring_k71_texts_that_write_none" 417 267)::
  (nat_lit 274,kD "_law_pair_of" 525 526 527 151 2 269 181 270 532 533 [.none,(.ref 271),(.ref 272),(.ref 273)])::
  (nat_lit 275,kF "_law_pair_of" 36 "law_noshortring_k71_texts_that_write_none" 417 274)::
  (nat_lit 281,kD "_law_due_of" 535 536 537 157 1 276 181 277 544 545 [.none,(.ref 278),(.ref 279),(.ref 280)])::
  (nat_lit 282,kF "_law_due_of" 37 "law_noshortring_k71_texts_that_write_none" 417 281)::
  (nat_lit 288,kD "_law_right" 547 548 549 171 1 283 181 284 553 554 [.none,(.ref 285),(.ref 286),(.ref 287)])::
  (nat_lit 289,kF "_law_right" 38 "law_noshortring_k71_texts_that_write_none" 417 288)::
  (nat_lit 295,kD "_law_odd_row" 556 557 558 177 2 290 181 291 570 571 [.none,(.ref 292),(.ref 293),(.ref 294)])::
  (nat_lit 296,kF "_law_odd_row" 39 "law_noshortring_k71_texts_that_write_none" 417 295)::
  (nat_lit 302,kD "_law_spoilt_of" 573 574 575 192 2 297 181 298 581 582 [.none,(.ref 299),(.ref 300),(.ref 301)])::
  (nat_lit 303,kF "_law_spoilt_of" 40 "law_noshortring_k71_texts_that_write_none" 417 302)::
  (nat_lit 309,kD "law" 584 585 586 205 1 304 181 305 595 596 [.none,(.ref 306),(.ref 307),(.ref 308)])::
  (nat_lit 310,kF "law" 41 "law_noshortring_k71_texts_that_write_none" 417 309)::[]
def ka:List Addr:=[3,23,24,37,49,61,73,85,104,119,120,122,123,142,150,151,155,156,160,161,167,168,174,175,181,182,188,189,195,196,202,203,209,210,216,217,221,222,226,227,231,232,236,237,243,244,248,249,253,254,260,261,267,268,274,275,281,282,288,289,295,296,302,303,309,310]
abbrev kq:Program:=PySem.W.view PySem.Challenge.pw_noshortring_k71_texts_that_write_none [1,2,3,4,5,6,7,8,9,11,12,14,15,16,17,18,19,21,22,23,24,25,26,27,28,29,30,31,32,33,34,35,36,37,38,39,40,41]
theorem bY:(fun(_:Params→PySem.W.Frag) (_:Program)=>true) Kk PySem.Challenge.pw_noshortring_k71_texts_that_write_none=true:=by k_qdec
abbrev oS(s:Shared):=PySem.W.openSeen kq [] (importedModules PySem.Challenge.pw_noshortring_k71_texts_that_write_none.main.body) (fun s=>PySem.W.xlAt kq [] s&&PySem.W.recOk [] s) true s
abbrev oE(w:World):=PySem.W.openEnds treeTable PySem.Challenge.pw_noshortring_k71_texts_that_write_none w 5784
theorem ZF(w:World):(oE w).map (fun s=> ((oS s).1,(oS s).2.2.2.2.1))=some ((PySem.W.openGood kq []).1,(PySem.W.openGood kq []).2.2.2.2.1):=by
 delta oE oS kq
 rw[PySem.W.Fast.te7861173658741569928,PySem.W.Fast.te14364793385576792824,PySem.W.Fast.te4187177175401517315]
 delta PySem.W.Fast.tw4187177175401517315 PySem.W.openGood
 dsimp only
 kernel_rfl
theorem ZG(w:World):(oE w).map (fun s=> ((oS s).2.1,(oS s).2.2.1,(oS s).2.2.2.2.2.2.1,(oS s).2.2.2.2.2.2.2.2))=some ((PySem.W.openGood kq []).2.1,(PySem.W.openGood kq []).2.2.1,(PySem.W.openGood kq []).2.2.2.2.2.2.1,(PySem.W.openGood kq []).2.2.2.2.2.2.2.2):=by
 delta oE oS kq
 rw[PySem.W.Fast.te7861173658741569928,PySem.W.Fast.te14364793385576792824,PySem.W.Fast.te4187177175401517315,PySem.W.Fast.te5923862056798008813]
 delta PySem.W.Fast.tw4187177175401517315 PySem.W.openGood
 dsimp only
 kernel_rfl
theorem ZH(w:World):(oE w).map (fun s=> ((oS s).2.2.2.1))=some ((PySem.W.openGood kq []).2.2.2.1):=by
 delta oE oS kq
 rw[PySem.W.Fast.te7861173658741569928,PySem.W.Fast.te14364793385576792824,PySem.W.Fast.te4187177175401517315]
 delta PySem.W.Fast.tw4187177175401517315 PySem.W.openGood
 dsimp only
 kernel_rfl
theorem ZI(w:World):(oE w).map (fun s=> ((oS s).2.2.2.2.2.1))=some ((PySem.W.openGood kq []).2.2.2.2.2.1):=by
 delta oE oS kq
 rw[PySem.W.Fast.te7861173658741569928,PySem.W.Fast.te14364793385576792824,PySem.W.Fast.te4187177175401517315]
 delta PySem.W.Fast.tw4187177175401517315 PySem.W.openGood
 dsimp only
 kernel_rfl
theorem ZJ(w:World):(oE w).map (fun s=> ((oS s).2.2.2.2.2.2.2.1,ka.map s.heap.get?))=some ((PySem.W.openGood kq []).2.2.2.2.2.2.2.1,(Kk w.params).map fun(p:Addr×Obj)=>some p.2):=by
 delta oE oS kq
 rw[PySem.W.Fast.te16814517440714230755,PySem.W.Fast.te7861173658741569928,PySem.W.Fast.te14364793385576792824,PySem.W.Fast.te4187177175401517315]
 delta PySem.W.Fast.tw4187177175401517315 PySem.W.openGood
 dsimp only
 kernel_rfl
theorem left:PySem.W.LeftO PySem.Challenge.pw_noshortring_k71_texts_that_write_none kq [] (fun s=>PySem.W.xlAt kq [] s&&PySem.W.recOk [] s) (fun s=>ka.map s.heap.get?) (fun w=> (Kk w.params).map fun(p:Addr×Obj)=>some p.2) 5784:=by
 intro w
 have h0:=ZF w
 have h1:=ZG w
 have h2:=ZH w
 have h3:=ZI w
 have h4:=ZJ w
 show(oE w).map (fun s=> (oS s,ka.map s.heap.get?))=_
 revert h0 h1 h2 h3 h4
 cases oE w with
 |none=>intro h;cases h
 |some s=>
  intro h0 h1 h2 h3 h4
  have h0:=Option.some.inj h0
  simp only[Prod.mk.injEq] at h0
  have h1:=Option.some.inj h1
  simp only[Prod.mk.injEq] at h1
  have h2:=Option.some.inj h2
  have h3:=Option.some.inj h3
  have h4:=Option.some.inj h4
  simp only[Prod.mk.injEq] at h4
  exact congrArg some (Prod.ext (Prod.ext (h0.1) (Prod.ext (h1.1) (Prod.ext (h1.2.1) (Prod.ext (h2) (Prod.ext (h0.2) (Prod.ext (h3) (Prod.ext (h1.2.2.1) (Prod.ext (h4.1) (h1.2.2.2))))))))) (h4.2))
end K71
namespace Gr
open L2.TL
variable{ps:List (Int×Int)}{n:Int}{S:List Int}{v u:Int}{d e s k:Nat}{fs gs:List (Option Nat)}{aI ds:List Int}
end Gr
namespace L2
open PySem PySem.Spec PyProof.Rows
section
variable{X:Cx}
theorem OM:bootBuiltins "enumerate" =some (.type "enumerate"):=by decide+kernel
end
end L2
namespace L2.TL
open PySem PySem.Spec PyProof.Rows
section
variable{Z:Zx}{ρ:List (Option T)}{O:AQ}{a:Expr}{ts:List T}{p pos:Pos}
end
section
variable{Z:Zx}{ρ:List (Option T)}{O:AQ}{elt tg iter:Expr}{csc:Scope}{nc:List Str}{cap:List (Str×Nat)}{pos:Pos}
end
open PySem.Calls
section
variable{X:Cx}
end
section
variable{Z:Zx}{ρ:List (Option T)}{O:AQ}{e a b hi:Expr}{p p2 pos:Pos}{t:T}{ts:List T}{i:Int}{Φ:BR}
theorem QS(m:Z.X.mg "repr" =none)(h:ET Z ρ O e (.int i))(hl:i.natAbs.log2<1920)(hgl:Gl Z.X "repr":=by rfl)(he:starEach [e] Z.X.env=(false,eval e Z.X.env)::starEach [] Z.X.env:=by rfl):ET Z ρ O (.Call (.Name "repr" p) [e] [] pos) (.str (toString i)):=
 BG HH m ZA (AN h AC he) (fun Φ q H vs Q ok r k=>by
  obtain⟨v,rfl,r1⟩:=r.one_inv
  cases r1.int_inv
  exact⟨i,rfl,hl,k _ H _ O q (.refl ok) (.str _)⟩) hgl (by decide) (by decide) he
theorem QT(h:ET Z ρ O e (.lst ts))(h2:ET Z ρ O hi (.int i)):ET Z ρ O (.Subscript e (.Slice none (some hi) none p2) pos) (.lst (FG ts none (some i))):=fun Φ k=>by
 refine PE.weak (Bh EC (Ac (ρ:=ρ)) Dc (Bw (Ac (ρ:=ρ)))) fun σ H0 Q q=>?_
 refine⟨O,_,h (fun t O'=>t=.lst ts∧O'=O) ⟨rfl,rfl⟩,q.1,?_⟩
 rintro v H1 _ _ ⟨rfl,rfl⟩ f1 r1
 refine⟨_,_,h2 (fun t O'=>t=.int i∧O'=_) ⟨rfl,rfl⟩,q.1.step f1,?_⟩
 rintro v2 H2 _ _ ⟨rfl,rfl⟩ f2 r2
 obtain⟨a,xs,rfl,h1,_,r1⟩:=(r1.kp f2.kp f1.ok).lst_inv
 have ff:=f1.trans f2
 exact⟨i,r2.int_inv,a,xs,rfl,.inl (.inl h1),fun l hl=>q.2 _ _ _ _ k (ff.trans (.new ff.ok hl)) (.lst AF (ff.ok.none_of hl) ((r1.cut).kp (Au ff.ok hl) ff.ok))⟩
end
open PySem.Builtin PySem.Builtin.Str
section
variable{X:Cx}
theorem ID:∀(l:List (Str×Tok)),Vals ((l.map (·.1)).map V.str) (strValues l)
 | []=> .nil
 | (x,t)::l=> .cons ⟨t,rfl⟩ (ID l)
theorem Mz:∀{xs:List Str} {us:List Value},Vals (xs.map V.str) us→∃l,l.map (·.1)=xs∧us=strValues l
 | [],_,.nil=> ⟨[],rfl,rfl⟩
 |x::xs,_,.cons ⟨t,e⟩ r=>by
  obtain⟨l,h1,h2⟩:=Mz r
  subst e h2
  exact⟨(x,t)::l,by rw[List.map_cons,h1],rfl⟩
def Wq:V→List V→Hp→VK→Prop:=fun x vs H Q=>∃i j,x=.str i∧vs=[.str j]∧(j.length==0)=false∧i.length≤sizeLine∧(Txt.split i j).length≤sizeLine∧∀p,H p=none→Q (.ref p) (upd H p (.lst ((Txt.split i j).map V.str)))
theorem KE:Vm X "str.split" Wq:=by
 intro pins s σ H x vs v us Q I rx rv h
 obtain⟨i,j,rfl,rfl,hj,hi,hz,q⟩:=h
 obtain⟨t,rfl⟩:=rx
 obtain⟨u,rfl,tu,rfl⟩:=rv.one
 have hf:=I.hok.fresh (Nat.le_refl s.heap.objs.size)
 have fin:∀(l:List (Str×Tok)) (k:Nat),l.map (·.1)=Txt.split i j→EP X pins σ Q (.ref s.heap.objs.size) {s with toks:=k,heap:=s.heap.push {cls:=.type "list",data:=.seq (strValues l).toArray}}:=fun l k e=>
  ⟨.ref _,_,I.laid (t':=k) (o:=.lst ((Txt.split i j).map V.str)) (fun b ob q=>Heap.get?_push_of_some _ q) (Nat.le_refl _) ⟨by rw[List.length_map];exact hz,strValues l,0,by rw[←e];exact ID l,Heap.get?_push_size _ rfl⟩,rfl,q _ hf⟩
 cases h1:(decide (i.length<j.length)||decide (strKind i<strKind j))
 ·cases hf:(occurrences i j 0 i.length (i.length+1)).isEmpty
  ·have e:Txt.split i j=partsBetween i (occurrences i j 0 i.length (i.length+1)) j.length:=(if_neg (ne_true_of_eq_false h1)).trans (if_neg (ne_true_of_eq_false hf))
   refine call_meets F.slot_str_split (typeIs_str _ _ _) F.entry_str_split (F.args_str_split_2 _ _) (meets_str_split_sep i j t tu h1 hj hf hi (e▸hz)) ?_
   show EP X pins σ Q _ {s with toks:=_,heap:=s.heap.push {cls:=.type "list",data:=.seq (strsFrom s.toks (partsBetween i (occurrences i j 0 i.length (i.length+1)) j.length)).toArray}}
   rw[strsFrom_eq]
   exact fin _ _ ((numbered_texts _ _).trans e.symm)
  ·exact call_meets F.slot_str_split (typeIs_str _ _ _) F.entry_str_split (F.args_str_split_2 _ _) (meets_str_split_not_found i j t tu h1 hj hf) (fin [(i,t)] s.toks ((if_neg (ne_true_of_eq_false h1)).trans (if_pos hf)).symm)
 ·exact call_meets F.slot_str_split (typeIs_str _ _ _) F.entry_str_split (F.args_str_split_2 _ _) (meets_str_split_cannot_occur i j t tu h1) (fin [(i,t)] s.toks (if_pos h1).symm)
def ZK(K:PySem.W.Frag):V→List V→Hp→VK→Prop:=fun x vs H Q=>∃i a xs,x=.str i∧vs=[.ref a]∧SqL K H a (xs.map V.str)∧JoinOk i xs=true∧Q (.str (Txt.join i xs)) H
theorem NA:Vm X "str.join" (ZK X.K):=by
 intro pins s σ H x vs v us Q I rx rv h
 obtain⟨i,a,xs,rfl,rfl,ha,hok,q⟩:=h
 obtain⟨t,rfl⟩:=rx
 obtain⟨u,rfl,ru⟩:=rv.one
 cases ru
 obtain⟨its,r,p,hz⟩:=I.list ha
 obtain⟨l,rfl,rfl⟩:=Mz r
 obtain⟨o,n,ho,hc,hdd,hd⟩:=id p
 unfold JoinOk at hok
 rw[Bool.not_eq_true'] at hok
 exact call_meets F.slot_str_join (typeIs_str _ _ _) F.entry_str_join (F.args_str_join_2 _ _) (meets_str_join_list i t a l hok) ⟨⟨o,ho,hc,n,hd⟩,post_join l ⟨joinFit_length hok,fun t' k=> ⟨.str _,H,I.tok _,⟨_,rfl⟩,q⟩⟩⟩
end
section
variable{Z:Zx}{ρ:List (Option T)}{O:AQ}{a b o e:Expr}{t:T}{Φ:BR}{pos p apos cpos:Pos}{i j:Str}{xs:List Str}
theorem Fj{K:PySem.W.Frag}{x:Str}:bL K "str" O (.str x):=fun H v ok r=>by cases r.str_inv;rfl
theorem Reps.ofStrs{K:PySem.W.Frag}{O:AQ}{H:Hp}:∀(xs:List Str),Reps K O H (xs.map V.str) (xs.map T.str)
 | []=> .nil
 |x::xs=> .cons (.str x) (Reps.ofStrs xs)
theorem Reps.strs{K:PySem.W.Frag}{O:AQ}{H:Hp}:∀{vs:List V} {xs:List Str},Reps K O H vs (xs.map T.str)→vs=xs.map V.str
 |_,[],r=>r.nil_inv
 |_,x::xs,r=>by
  obtain⟨v,vs,rfl,r1,r2⟩:=Reps.cons_inv r
  cases r1.str_inv
  rw[Reps.strs r2];rfl
theorem DW(h:ET Z ρ O o (.str i))(h2:ET Z ρ O e (.str j))(hj:(j.length==0)=false)(hi:i.length≤sizeLine)(hz:(Txt.split i j).length≤sizeLine)(hbase:attributeBase o "split" Z.X.env (eval o Z.X.env)=eval o Z.X.env:=by rfl)
  (hfew:((backTo cpos (starEach [e] Z.X.env)).all (fun x=>!x.1)&&(backToKw cpos (keywordEach [] Z.X.env)).all (fun x=>x.1.isSome)&&decide ([e].length+([]:List Keyword).length+(if([]:List Keyword).isEmpty then 0 else 1)<30))=true:=by rfl) (hline:(apos.endLine==cpos.line)=true:=by rfl)
  (hs:starEach [e] Z.X.env=(false,eval e Z.X.env)::starEach [] Z.X.env:=by rfl) (hplain:(backTo cpos (starEach [] Z.X.env)).any (·.1)=false:=by rfl):
  ET Z ρ O (.Call (.Attribute o "split" apos) [e] [] cpos) (.lst ((Txt.split i j).map T.str)):=fun Φ q=>
 Hv PySem.F.plainAttrs_str PySem.F.slot_str_split PySem.F.type_str_split KE (ET.we h ⟨Fj,EA.wa (AN h2 AC hs) fun H v vs Q ok r1 r2 acc=>by
  cases r1.str_inv
  obtain⟨u,rfl,r3⟩:=r2.one_inv
  cases r3.str_inv
  exact⟨i,j,rfl,rfl,hj,hi,hz,fun l hl=>acc _ _ _ _ q (.new ok hl) (.lst AF (ok.none_of hl) (Reps.ofStrs _))⟩⟩) hbase hfew hline hs hplain
theorem JC(h:ET Z ρ O o (.str i))(h2:ET Z ρ O e (.lst (xs.map T.str)))(hok:JoinOk i xs=true)(hbase:attributeBase o "join" Z.X.env (eval o Z.X.env)=eval o Z.X.env:=by rfl)
  (hfew:((backTo cpos (starEach [e] Z.X.env)).all (fun x=>!x.1)&&(backToKw cpos (keywordEach [] Z.X.env)).all (fun x=>x.1.isSome)&&decide ([e].length+([]:List Keyword).length+(if([]:List Keyword).isEmpty then 0 else 1)<30))=true:=by rfl) (hline:(apos.endLine==cpos.line)=true:=by rfl)
  (hs:starEach [e] Z.X.env=(false,eval e Z.X.env)::starEach [] Z.X.env:=by rfl) (hplain:(backTo cpos (starEach [] Z.X.env)).any (·.1)=false:=by rfl):
  ET Z ρ O (.Call (.Attribute o "join" apos) [e] [] cpos) (.str (Txt.join i xs)):=fun Φ q=>
 Hv PySem.F.plainAttrs_str PySem.F.slot_str_join PySem.F.type_str_join NA (ET.we h ⟨Fj,EA.wa (AN h2 AC hs) fun H v vs Q ok r1 r2 acc=>by
  cases r1.str_inv
  obtain⟨u,rfl,r3⟩:=r2.one_inv
  obtain⟨a,ys,rfl,h1,_,r4⟩:=r3.lst_inv
  cases r4.strs
  exact⟨i,a,xs,rfl,rfl,.inl (.inl h1),hok,acc _ H _ O q (.refl ok) (.str _)⟩⟩) hbase hfew hline hs hplain
theorem QU:bootBuiltins "str" =some (.type "str"):=by decide+kernel
theorem Fk{i:Int}(m:Z.X.mg "str" =none)(h:ET Z ρ O e (.int i))(hl:i.natAbs.log2<1920)(hgl:Gl Z.X "str":=by rfl)(he:starEach [e] Z.X.env=(false,eval e Z.X.env)::starEach [] Z.X.env:=by rfl):ET Z ρ O (.Call (.Name "str" p) [e] [] pos) (.str (toString i)):=
 Bb IS m QU (AN h AC he) (fun Φ q H vs Q ok r k=>by
  obtain⟨v,rfl,r1⟩:=r.one_inv
  cases r1.int_inv
  exact⟨i,rfl,hl,k _ H _ O q (.refl ok) (.str _)⟩) hgl (by decide) (by decide) he
theorem Ak(ha:ET Z ρ O a (.str i))(hb:ET Z ρ O b (.str j))(hl:i.length+j.length≤sizeLine):ET Z ρ O (.BinOp a .Add b pos) (.str (i++j)):=
 EJ Km (fun Φ p H v w Q ok r1 r2 q=> ⟨i,j,r1.str_inv,r2.str_inv,hl,q _ H _ O p (.refl ok) (.str _)⟩) ha hb
end
section
variable{X:Cx}
theorem HM:Aw X (.type "int") (fun xs H Q=>∃x n,xs=[.str x]∧intText? x=some n∧x.length≤640∧Q (.int n) H):=by
 intro pins s σ H xs us Q I r h
 obtain⟨x,n,rfl,hn,hl,q⟩:=h
 obtain⟨u,rfl,t,rfl⟩:=DC r
 exact PySem.W.KIN.call_text hn hl ⟨.int n,H,I.tok _,⟨_,rfl⟩,q⟩
end
section
variable{Z:Zx}{ρ:List (Option T)}{O:AQ}{a b o e:Expr}{t:T}{Φ:BR}{pos p apos cpos:Pos}{i j:Str}{xs:List Str}
theorem NB{x:Str}{n:Int}(m:Z.X.mg "int" =none)(h:ET Z ρ O e (.str x))(hn:intText? x=some n)(hl:x.length≤640)(hgl:Gl Z.X "int":=by rfl)(he:starEach [e] Z.X.env=(false,eval e Z.X.env)::starEach [] Z.X.env:=by rfl):ET Z ρ O (.Call (.Name "int" p) [e] [] pos) (.int n):=
 Bb HM m QB (AN h AC he) (fun Φ q H vs Q ok r k=>by
  obtain⟨v,rfl,r1⟩:=r.one_inv
  cases r1.str_inv
  exact⟨x,n,rfl,hn,hl,k _ H _ O q (.refl ok) (.int _)⟩) hgl (by decide) (by decide) he
end
section
variable{Z:Zx}{ρ:List (Option T)}{O:AQ}{e elt tg iter:Expr}{ifs:List Expr}{csc:Scope}{nc:List Str}{cap:List (Str×Nat)}{Φ:BR}{pos:Pos}
end
end L2.TL
namespace L2
open PySem PySem.Spec PySem.Calls PyProof.Rows
section
variable{prog:Program}{w:World}{A:Around}{R:Result→Shared→Prop}{I:Addr}{fp wr:List Addr}{n:Nat}{P:Nat→Value→Prop}{St:Nat→Heap→Prop}
end
section
variable{prog:Program}{w:World}{A:Around}{E:Value→Shared→Prop}{s:Shared}
end
section
variable{M:Model}{A:Around}{E:Value→Shared→Prop}{s:Shared}
end
section
variable{X:Cx}
end
end L2
namespace L2.TL
open PySem PySem.Spec PySem.Calls PyProof.Rows
section
variable{Z:Zx}{ρ:List (Option T)}{O:AQ}{e:Expr}{p pos kp np:Pos}{ns:List Int}{j:Nat}
def DX:Option Int→T
 |none=> .non
 |some m=> .int m
end
end L2.TL
namespace L2
open PySem PySem.Spec PySem.Calls PyProof.Rows
section
variable{prog:Program}{w:World}{A:Around}{R:Result→Shared→Prop}{I:Addr}{fp wr:List Addr}{n:Nat}{P:Nat→Value→Prop}{St:Nat→Heap→Prop}
end
section
variable{prog:Program}{w:World}{A:Around}{E:Value→Shared→Prop}{s:Shared}
end
section
variable{X:Cx}
end
end L2
namespace L2.TL
open PySem PySem.Spec PySem.Calls PyProof.Rows
section
variable{Z:Zx}{ρ:List (Option T)}{O:AQ}{e:Expr}{p pos kp np:Pos}{ns:List Int}{j:Nat}
end
end L2.TL
namespace L2
open PySem PySem.Spec PyProof.Rows
open Sem (wp)
section
variable{prog:Program}{w:World}{A:Around}{E:Value→Shared→Prop}{s:Shared}
theorem Gp(a b:Value):checkTypeCall "enumerate" ⟨[a],[("start",b)]⟩=pure ():=by kernel_rfl
theorem HN(a b:Value):checkBuiltinCall "enumerate.__new__" ⟨[.type "enumerate",a],[("start",b)]⟩=pure ():=by kernel_rfl
theorem Gq(obj a b:Value):argsOk "object.__init__" ⟨[obj,a],[("start",b)]⟩:=by unfold argsOk;kernel_rfl
theorem KG(l:Addr)(k:Nat)(hk:k<1000)(t:Tok)(items:Array Value)(n:Nat)(dct:Option Addr)(sl:Array (Option Value)):
  Meets (Builtin.«enumerate.__new__» ⟨[.type "enumerate",.ref l],[("start",.int k t)]⟩) (fun _ R s=>s.heap.get? l=some {cls:=.type "list",dict:=dct,data:=.seq items n,slots:=sl}∧
   R (.ok (.ret (.ref (s.heap.push {cls:=.type "list_iterator",data:=.fields #[.ref l,.int 0 0]}).objs.size)))
    {s with heap:=(s.heap.push {cls:=.type "list_iterator",data:=.fields #[.ref l,.int 0 0]}).push {cls:=.type "enumerate",data:=.fields #[.none,.bool false,.ref s.heap.objs.size,rawInt k,.none,.none]}}):=
 .of_wp fun prog w A R s h=>by
  obtain⟨hp,g,d,tk,os⟩:=s;obtain⟨hl,h⟩:=h
  have hsub:=sub_enumerate
  have hL:Heap.IsList (Shared.heap ⟨hp,g,d,tk,os⟩) l items:=⟨_,hl,rfl,n,rfl⟩
  wp_walk using AutoSeq1.wpAny_loadPart' hl
  refine wpAny_stack_any fun st=>wpAny_pure ?_
  have hfit:Builtin.SmallTypes.fitsIndex (k:Int)=true:=by unfold Builtin.SmallTypes.fitsIndex;simp;omega
  split
  ·rename_i c _ _ _ _ _
   cases(c==Value.type "enumerate")
   ·dsimp only
    simp only[if_false,Bool.false_eq_true]
    refine wpAny_bind ?_
    refine wpAny_of_eq (a:=(Value.ref l,some (Value.int k t))) ?_ ?_
    ·kernel_rfl
    dsimp only
    refine wpAny_bind ?_
    refine wpAny_of_eq (a:=Value.int k t) ?_ ?_
    ·rfl
    dsimp only
    refine wpAny_bind ?_
    refine wpAny_of_eq (a:=some (k:Int)) ?_ ?_
    ·rfl
    dsimp only
    rw[if_neg (show¬((!Builtin.SmallTypes.fitsIndex (k:Int))=true) by rw[hfit];decide)]
    wp_walk using AutoSeq1.wpAny_loadPart' hl,wpAny_pyIter_list hL
    exact⟨_,rfl,h⟩
   ·dsimp only
    simp only[if_true]
    refine wpAny_bind ?_
    refine wpAny_of_eq (a:=(Value.ref l,some (Value.int k t))) ?_ ?_
    ·kernel_rfl
    dsimp only
    refine wpAny_bind ?_
    refine wpAny_of_eq (a:=Value.int k t) ?_ ?_
    ·rfl
    dsimp only
    refine wpAny_bind ?_
    refine wpAny_of_eq (a:=some (k:Int)) ?_ ?_
    ·rfl
    dsimp only
    rw[if_neg (show¬((!Builtin.SmallTypes.fitsIndex (k:Int))=true) by rw[hfit];decide)]
    wp_walk using AutoSeq1.wpAny_loadPart' hl,wpAny_pyIter_list hL
    exact⟨_,rfl,h⟩
  ·dsimp only
   simp only[if_false,Bool.false_eq_true]
   refine wpAny_bind ?_
   refine wpAny_of_eq (a:=(Value.ref l,some (Value.int k t))) ?_ ?_
   ·kernel_rfl
   dsimp only
   refine wpAny_bind ?_
   refine wpAny_of_eq (a:=Value.int k t) ?_ ?_
   ·rfl
   dsimp only
   refine wpAny_bind ?_
   refine wpAny_of_eq (a:=some (k:Int)) ?_ ?_
   ·rfl
   dsimp only
   rw[if_neg (show¬((!Builtin.SmallTypes.fitsIndex (k:Int))=true) by rw[hfit];decide)]
   wp_walk using AutoSeq1.wpAny_loadPart' hl,wpAny_pyIter_list hL
   exact⟨_,rfl,h⟩
end
section
variable{prog:Program}{w:World}{A:Around}{E:Value→Shared→Prop}{s:Shared}
theorem TY{T newId:String}{self a:Value}{kw:List (Str×Value)}(hl:typeLookup (.type T) "__init__" =pure (some (.builtin "object.__init__")))
  (hm:Bind.madeBy (.type T)=pure (some newId)) (hne:(some newId !=some "object.__new__")=true):
  Meets (Builtin.«object.__init__» ⟨[self,a],kw⟩) (fun _ R s=>s.TypeIs self T∧R (.ok (.ret .none)) s):=by
 refine Meets.of_wp fun prog w A R s hs=>?_
 obtain⟨hT,hq⟩:=hs
 repeat (any_goals (first|assumption|wp_step))
 exact⟨_,rfl,hq⟩
theorem KH{T newId initId:String}{Bn Bi:Builtin}{args:List Value}{kw:List (Str×Value)}{S:PySem.Spec}{Q Q₁:Value→Shared→Prop}(ft:TypeCalled T newId initId)
  (hct:checkTypeCall T ⟨args,kw⟩=pure ()) (hcn:checkBuiltinCall newId ⟨.type T::args,kw⟩=pure ())
  (entryN:entryFor table newId=some Bn) (entryI:entryFor table initId=some Bi) (g:Meets (Bn ⟨.type T::args,kw⟩) S)
  (h:S A.in1 (wants Q₁ E) s)
  (hnext:∀obj s₁,Q₁ obj s₁→s₁.TypeIs obj T∧argsOk initId ⟨obj::args,kw⟩∧∃Si,Meets (Bi ⟨obj::args,kw⟩) Si∧Si A.in1 (wants (fun r s₂=>r=.none∧Q obj s₂) E) s₁):
  wpAny (model prog w) A (call (.type T) args kw) Q E s:=by
 obtain⟨c,tl,hmro⟩:=ft.mro
 have hmade:=ft.made
 have hsub:=ft.sub
 refine wpAny_call (codeAny_of_tree ?_)
 show wpAny _ _ (callAny (.type T) _) _ _ _
 refine wpAny_pure ⟨Code.quiet_builtin _ (by decide+kernel),codeAny_builtin F.entry_type_call ?_⟩
 rw[Around.under_plain (weight_type_call_type T args kw) (units_type_call_type T args kw)]
 have h1:=ft.notType
 have h2:=ft.canCreate
 repeat (any_goals (first|assumption|wp_step))
 refine codeAny_mono (codeAny_call_builtin ft.plain entryN (wpAny_of_eq hcn (g prog w A.in1 _ s h))) fun r s₁ hr=>?_
 cases r with
 |error e=>exact hr
 |ok fl=>
  cases fl with
  |ret obj=>
   obtain⟨hT,hok,Si,gi,hsi⟩:=hnext _ _ hr
   have hli:=ft.init.lookup
   have hbi:=ft.init.bind obj
   repeat (any_goals (first|assumption|wp_step))
   refine codeAny_mono (codeAny_call_builtin ft.init.plain entryI (ft.init.check _ _ _ _ _ _ _ _ hT hok (gi prog w A.in1 _ s₁ hsi))) fun r₂ s₂ hr₂=>?_
   cases r₂ with
   |error e=>exact hr₂
   |ok fl₂=>
    cases fl₂ with
    |ret r=>
     obtain⟨rfl,hq⟩:=hr₂
     repeat (any_goals (first|assumption|wp_step))
    |_=>exact hr₂.elim
  |_=>exact hr.elim
theorem Lm{l:Addr}{k:Nat}{t:Tok}{items:Array Value}{Q:Value→Shared→Prop}(hk:k<1000)(hL:s.heap.IsList l items)
  (h:∀h',IsEnum h' (s.heap.objs.size+1) s.heap.objs.size k .none→h'.IsListIter s.heap.objs.size l 0→
   (∀b o,s.heap.get? b=some o→h'.get? b=some o)→Q (.ref (s.heap.objs.size+1)) {s with heap:=h'}):
  wpAny (model prog w) A (call (.type "enumerate") [.ref l] [("start",.int k t)]) Q E s:=by
 obtain⟨⟨c,dct,dt,sl⟩,hl,hc,n,hd⟩:=hL
 replace hc:c=.type "list":=hc
 replace hd:dt=.seq items n:=hd
 subst hc hd
 refine KH (Q₁:=fun obj s₁=>s₁.TypeIs obj "enumerate"∧Q obj s₁) F.called_enumerate (Gp _ _) (HN _ _) F.entry_enumerate_new F.entry_object_init (KG l k hk t items n dct sl) ⟨hl,?_⟩ fun obj _ hq=>
  ⟨hq.1,Gq _ _ _,_,TY F.called_enumerate.init.lookup F.called_enumerate.made (by decide),hq.1,rfl,hq.2⟩
 have hz:(s.heap.push {cls:=.type "list_iterator",data:=.fields #[.ref l,.int 0 0]}).objs.size=s.heap.objs.size+1:=Heap.size_push ..
 show _∧_
 rw[hz]
 have he:IsEnum ((s.heap.push {cls:=.type "list_iterator",data:=.fields #[.ref l,.int 0 0]}).push
   {cls:=.type "enumerate",data:=.fields #[.none,.bool false,.ref s.heap.objs.size,rawInt k,.none,.none]}) (s.heap.objs.size+1) s.heap.objs.size k .none:=by
  have:=Heap.get?_push_size (s.heap.push {cls:=.type "list_iterator",data:=.fields #[.ref l,.int 0 0]})
   (o:={cls:=.type "enumerate",data:=.fields #[.none,.bool false,.ref s.heap.objs.size,rawInt k,.none,.none]}) rfl
  rw[hz] at this;exact this
 exact⟨⟨_,he,rfl⟩,h _ he ⟨_,Heap.get?_push_of_some _ (Heap.get?_push_size _ rfl),rfl,rfl⟩ fun b o x=>Heap.get?_push_of_some _ (Heap.get?_push_of_some _ x)⟩
end
section
variable{prog:Program}{w:World}{A:Around}{E:Value→Shared→Prop}{s:Shared}
theorem KI{it:Addr}{fp:List Addr}{n:Nat}{P:Nat→Value→Prop}{St:Nat→Heap→Prop}(k:Nat)(D:Draws prog w A it fp n P St):Draws prog w A it fp (k+n) (fun j v=>P (j-k) v) (fun j h=>k≤j∧St (j-k) h) where
 live:=fun i h st=>D.live _ h st.2
 frame:=fun i h h' st f=> ⟨st.1,D.frame _ h h' st.2 f⟩
 item:=fun i s Q E hi st hQ=>D.item (i-k) s Q E (by have:=st.1;omega) st.2 fun x h' tk hp hs sb=>hQ x h' tk hp ⟨by have:=st.1;omega,by rw[show i+1-k=i-k+1 by have:=st.1;omega];exact hs⟩ sb
 done:=fun s Q E st hE=>D.done s Q E (by have:=st.2;rwa[Nat.add_sub_cancel_left] at this) hE
theorem Ln{h:Heap}{l it:Addr}{items:Array Value}{i:Nat}(hl:h.IsList l items)(hit:h.IsListIter it l i):l≠it:=by
 rintro rfl
 obtain⟨o,e,c,_⟩:=hl
 obtain⟨o',e',c',_⟩:=hit
 rw[e] at e';cases e'
 rw[c] at c'
 injection c' with c''
 exact absurd c'' (by decide)
theorem Lo{h:Heap}{l e it:Addr}{items:Array Value}{i:Int}{old:Value}(hl:h.IsList l items)(he:IsEnum h e it i old):e≠l:=by
 rintro rfl
 obtain⟨o,q,c,_⟩:=hl
 have q':=he
 unfold IsEnum at q'
 rw[q] at q';cases q'
 injection c with c''
 exact absurd c'' (by decide)
theorem Lp{e it l:Addr}{k i:Nat}{items:Array Value}{x old:Value}{Q:Option Value→Shared→Prop}(hh:A.handled=none)
  (he:IsEnum s.heap e it ((k+i:Nat):Int) old) (hit:s.heap.IsListIter it l i) (hl:s.heap.IsList l items) (hx:items[i]?=some x) (hne:e≠it)
  (hQ:∀h' tk,IsEnumOut h' e it (((k+i:Nat):Int)+1) x s.heap.objs.size→h'.IsListIter it l (i+1)→
   h'.get? s.heap.objs.size=some {cls:=.type "tuple",data:=.seq #[.int ((k+i:Nat):Int) tk,x]}→
   (∀b o,b≠e→b≠it→s.heap.get? b=some o→h'.get? b=some o)→Q (some (.ref s.heap.objs.size)) {s with heap:=h',toks:=tk+1}):
  wpAny (model prog w) A (pyNext (.ref e)) Q E s:=by
 have hi:i<items.size:=by
  rcases Nat.lt_or_ge i items.size with h|h
  ·exact h
  ·rw[Array.getElem?_eq_none h] at hx;cases hx
 refine wpAny_pyNext_enum_itemD (i:=k+i) (KI k (Draws.list (A:=A.in1) hh it l (Ln hl hit) items)) he ⟨Nat.le_add_right _ _,by rw[Nat.add_sub_cancel_left];exact⟨hit,hl⟩⟩ (by omega) hne (by simp[hne,Lo hl he]) fun x' h' tk px a b c d q=>?_
 have px:items[k+i-k]?=some x':=px
 rw[Nat.add_sub_cancel_left,hx] at px;cases px
 have b:=b.2
 rw[show k+i+1-k=i+1 by omega] at b
 exact hQ h' tk a b.1 c q
theorem Lq{e it l:Addr}{i:Nat}{c:Int}{items:Array Value}{old:Value}{Q:Option Value→Shared→Prop}(hh:A.handled=none)
  (he:IsEnum s.heap e it c old) (hit:s.heap.IsListIter it l i) (hl:s.heap.IsList l items) (hx:items[i]?=none)
  (hQ:∀h',Heap.ExtBut it s.heap h'→Q none {s with heap:=h'}):wpAny (model prog w) A (pyNext (.ref e)) Q E s:=by
 have hT:s.TypeIs (.ref e) "enumerate":=⟨_,he,rfl⟩
 unfold pyNext
 refine wpAny_bind (wpAny_attempt (wpAny_callSpecial?_slot (name:=Str.ofString "__next__") hT F.slot_enumerate_next (wpAny_call_entry F.slot_enumerate_next hT F.entry_enumerate_next ?_ (F.args_enumerate_next_1 _))))
 show wpAny _ _ (field (.ref e) 2>>=_) _ _ _
 refine wpAny_bind (wpAny_field he rfl (x:=.ref it) rfl ?_)
 refine wpAny_bind (wpAny_nextOf_list_end hh hit hl hx fun h' x he' hx'=>?_)
 obtain⟨o,ho,hc⟩:=hx'
 exact wpAny_bind (wpAny_isInstance (T:="StopIteration") (b:=true) ⟨o,ho,hc⟩ isSubtype_stop (wpAny_pure (hQ _ he')))
end
section
variable{M:Model}{A:Around}{E:Value→Shared→Prop}{s:Shared}
theorem JD{pos:Pos}{id:String}{k:Str}{x y:Sem Value}{Q:Value→Shared→Prop}
  (h:wpAny M A x (fun v s₁=>wpAny M A y (fun d s₂=>wpAny M A (call (.type id) [v] [(k,d)]) Q E s₂) E s₁) E s):
  wpAny M A (callWith pos (.type id) [] [(false,x)] [(some k,y)]) Q E s:=by
 unfold callWith
 refine wpAny_bind (wpAny_holding (evalArgs_kw rfl (Calls.spliced_cons (wpAny_mono h (fun v s₁ h₁=>?_) fun _ _ e=>e))))
 refine Calls.spliced_nil (wpAny_evalAll_cons (wpAny_mono h₁ (fun d s₂ h₂=>wpAny_evalAll_nil ?_) fun _ _ e=>e))
 refine wpAny_bind (wpAny_standAt ?_)
 refine wpAny_bind (wpAny_pure ?_)
 exact wpAny_bind (wpAny_mono h₂ (fun r s₃ hr=>wpAny_bind (wpAny_holding (wpAny_point (wpAny_pure hr)))) fun _ _ e=>e)
end
def bZ(K:PySem.W.Frag)(k0:Nat)(a:Addr):It:=⟨fun i H=>∃xs x,SqL K H a xs∧xs[i]?=some x,
 fun i H v H'=>∃p x,H p=none∧v=.ref p∧H'=upd H p (.tup [.int ((k0+i:Nat):Int),x])∧∀xs,SqL K H a xs→xs[i]?=some x,fun i H=>∃xs,SqL K H a xs∧xs.length≤i⟩
section
variable{X:Cx}
theorem Lr{P:Program}{w:World}{K:PySem.W.Frag}{es:List Expr}{k:Nat}{pos:Pos}{k0:Nat}{e it a:Addr}(hne:e≠it):
  Turn P w K (.Tuple es k pos) (bZ K k0 a) [e,it] e (fun i h=> (∃old,IsEnum h e it ((k0+i:Nat):Int) old)∧h.IsListIter it a i) where
 mem:=by simp
 obj:=fun i h st b hb=>by
  obtain⟨⟨old,s1⟩,⟨o2,e2,c2,d2⟩⟩:=st
  simp only[List.mem_cons,List.not_mem_nil,or_false] at hb
  rcases hb with rfl|rfl
  ·exact⟨_,s1,fun v q=>by have q:Data.fields _=Data.cell v:=q;cases q⟩
  ·exact⟨o2,e2,fun v q=>by rw[d2] at q;cases q⟩
 keep:=fun i h h' st kk=>by
  obtain⟨⟨old,s1⟩,s2⟩:=st
  exact⟨⟨old,kk e (by simp) _ s1⟩,s2.at fun o q=>kk it (by simp) o q⟩
 item:=by
  intro X hP hw hK hc i pins s σ H E I hf st hg
  subst hP hw hK
  obtain⟨xs,x,hq,hx⟩:=hg
  obtain⟨its,rv,p,hz⟩:=I.list hq
  obtain⟨u,hu,ru⟩:=rv.get hx
  obtain⟨⟨old,s1⟩,s2⟩:=st
  refine Lp (I.ok.hd hc) s1 s2 p.isList (x:=u) (by simpa using hu) hne fun h1 tk z1 a1 n1 k1=>?_
  refine⟨_,rfl,wpAny_letOwnedTupleGo_enum (s:={s with heap:=h1,toks:=tk+1}) z1 fun h2 z2 sb2=>?_⟩
  have hlt:∀v o,s.heap.get? v=some o→v≠s.heap.objs.size:=fun v o q=>Nat.ne_of_lt (Heap.lt_size q)
  have zs:e≠s.heap.objs.size:=hlt e _ s1
  have up2:∀v o,v≠e→h1.get? v=some o→h2.get? v=some o:=fun v o hv q=> (sb2.2 v hv).trans q
  have hT:H s.heap.objs.size=none:=I.hok.fresh (Nat.le_refl _)
  have kk:∀v o,v∉[e,it]→s.heap.get? v=some o→h2.get? v=some o:=fun v o hv q=>by
   simp only[List.mem_cons,List.not_mem_nil,or_false,not_or] at hv
   exact up2 v o hv.1 (k1 v o hv.1 hv.2 q)
  have I1:Inv X pins σ (upd H s.heap.objs.size (.tup [.int ((k0+i:Nat):Int),x])) {s with heap:=h2,toks:=tk+1}:=by
   have ne:∀v o,s.heap.get? v=some o→upd H s.heap.objs.size (.tup [.int ((k0+i:Nat):Int),x]) v=H v:=fun v o q=>AG (hlt v o q)
   refine I.call' (s':={s with heap:=h2,toks:=tk+1}) (ch:=[e,it]) rfl ⟨fun v o q _ _ hv=>kk v o hv q,fun v o q _ _ hv=> ⟨o.slots,kk v o hv q⟩,fun v o q n _=>by rw[ne v o q];exact n,fun v o q hv=> ⟨o,kk v o hv q⟩,fun v xs q=>?_,fun v o xs q=>?_,fun v ps q=>?_⟩ ?_ I.bare fun v hv=>?_
   ·rw[AG (AL q hT)];exact q
   ·rw[AG (AL q hT)];exact q
   ·exact⟨#[],by rw[AG (AL q hT),q];simp⟩
   ·intro v o q
    by_cases hv:v=s.heap.objs.size
    ·subst hv
     rw[AF] at q;cases q
     exact⟨by show 2≤sizeLine;decide,[.int ((k0+i:Nat):Int) tk,u],.cons ⟨_,rfl⟩ (.cons ru .nil),⟨_,up2 _ _ (Ne.symm zs) n1,rfl,_,rfl⟩⟩
    ·rw[AG hv] at q
     refine(I.hok v o q).stay (fun c w' hc' r=>kk c w' (fun hm=>?_) r) (fun c r=>by rw[AG (AL r hT)];exact r) fun c xs r=>by rw[AG (AL r hT)];exact r
     have hn:=(hf c hm).1
     rcases hc' with rfl|hc'
     ·rw[q] at hn;cases hn
     ·rw[hc'] at hn;cases hn
   ·obtain⟨_,q2,q3,q4,q5,q6⟩:=hf v hv
    exact⟨q4,q2,q5,q6⟩
  refine⟨.ref s.heap.objs.size,_,I1,rfl,⟨_,x,hT,rfl,rfl,fun xs' q=>by rw[I.list_inj q hq];exact hx⟩,⟨⟨_,z2⟩,a1.at fun o q=>up2 it o (Ne.symm hne) q⟩,fun v hv=>?_⟩
  have hvo:∃o,s.heap.get? v=some o:=by
   simp only[List.mem_cons,List.not_mem_nil,or_false] at hv
   rcases hv with rfl|rfl
   ·exact⟨_,s1⟩
   ·obtain⟨o,q,_⟩:=s2;exact⟨o,q⟩
  obtain⟨o,q⟩:=hvo
  rw[AG (hlt v o q)]
  exact(hf v hv).1
 done:=by
  intro X hP hw hK hc i pins s σ H E I hf st hg
  subst hP hw hK
  obtain⟨xs,hq,hl⟩:=hg
  obtain⟨its,rv,p,hz⟩:=I.list hq
  have l1:=rv.length
  obtain⟨⟨old,s1⟩,s2⟩:=st
  refine Lq (I.ok.hd hc) s1 s2 p.isList (by simp;omega) fun h' k1=> ⟨rfl,I.turns (t':=s.toks) hf fun v o hv q=>?_⟩
  simp only[List.mem_cons,List.not_mem_nil,or_false,not_or] at hv
  exact k1 v o hv.2 q
 self:=fun _ _ _ _ _ st h=>by obtain⟨⟨old,s1⟩,_⟩:=st;exact wpAny_pyIter_enum s1 h
def Ws(K:PySem.W.Frag)(k0:Nat)(te:TE):TI:=fun σ H R=>te σ H fun v H1=>∃t,v=.ref t∧(∃xs,SqL K H1 t xs)∧R (bZ K k0 t) H1
theorem QV{a:Expr}{te:TE}{p pos tpos kp np:Pos}{es:List Expr}{k j k0:Nat}(hk:k0<1000)(hg:Gl X "enumerate")(hm:X.mg "enumerate" =none)(ha:PE X a te)(hn:TL.CG a=true):
  PI X (.Tuple es k tpos) (.Call (.Name "enumerate" p) [a] [⟨some "start",.Constant (.int (k0:Nat)) j np,kp⟩] pos) (Ws X.K k0 te):=by
 intro pins s σ H R I h
 refine wpAny_Call_Name_kw (Ej I hg hm OM ?_ (by decide) (by decide))
 rw[TL.FH hn]
 refine JD (Ae (ha pins s σ H _ I h) fun u s1 ⟨v,H1,I1,r1,q1⟩=>?_)
 obtain⟨t,rfl,⟨xs,h1⟩,q⟩:=q1
 cases r1
 refine wpAny_bind ?_
 show wpAny _ _ (eval (.Constant (.int (k0:Nat)) j np) X.env) _ _ _
 refine Ae (IL pins s1 σ H1 (fun v H=>v=.int (k0:Nat)∧H=H1) I1 ⟨rfl,rfl⟩) fun d s2 ⟨x,H2,I2,r2,e,eh⟩=>?_
 subst e eh
 obtain⟨tk,rfl⟩:=r2
 refine wpAny_bind (wpAny_standAt (wpAny_pure ?_))
 obtain⟨its,rv,p1,_⟩:=I2.list h1
 refine Lm hk p1.isList fun h' z1 z2 kp=>?_
 refine wpAny_pyIter_enum z1 ?_
 refine⟨_,_,_,_,H2,rfl,I2.kept (t':=s2.toks) kp,Lr (k0:=k0) (Nat.succ_ne_self _),⟨⟨_,z1⟩,z2⟩,fun b hb=>?_,q⟩
 have hge:s2.heap.objs.size≤b:=by
  simp only[List.mem_cons,List.not_mem_nil,or_false] at hb
  rcases hb with rfl|rfl<;>omega
 exact I2.fpOk hge (I2.hok.fresh hge)
end
def ba(x:Str):It:=⟨fun i _=>i<x.cps.size,fun i H v H'=>H'=H∧∃c,x.cps[i]?=some c∧v=.str ⟨#[c]⟩,fun i _=>x.cps.size≤i⟩
theorem QW{P:Program}{w:World}{K:PySem.W.Frag}{tg:Expr}(x:Str)(t:Tok)(it:Addr):Turn P w K tg (ba x) [it] it (fun i h=>h.IsStrIter it "str_ascii_iterator" x t i) where
 mem:=by simp
 obj:=fun i h st b hb=>by
  have e:b=it:=by simpa using hb
  subst e
  obtain⟨o,e,c,d⟩:=st
  exact⟨o,e,fun v z=>by rw[d] at z;cases z⟩
 keep:=fun i h h' st k=>by
  obtain⟨o,e,r⟩:=st
  exact⟨o,k it (by simp) o e,r⟩
 item:=by
  intro X hP hw hK hc i pins s σ H E I hf st hg
  subst hP hw hK
  have hg:i<x.cps.size:=hg
  obtain⟨f0,f1,f2,f3,f4,f5⟩:=hf it (by simp)
  refine wpAny_pyNext_ascii_item st (c:=x.cps[i]) (by simp[hg]) fun h' st' sb=>?_
  have I1:Inv X pins σ H {s with heap:=h',toks:=s.toks+1}:=I.turned (t':=s.toks+1) (fun b o hb e=> (sb.2 b hb).trans e) f0 f1 f3 f4 f5
  obtain⟨o,e,c,d⟩:=id st'
  exact⟨_,rfl,MN (s:={s with heap:=h',toks:=s.toks+1}) e c d (by decide) ⟨.str _,H,I1,⟨_,rfl⟩,⟨rfl,_,by simp[hg],rfl⟩,st',fun b hb=> (hf b hb).1⟩⟩
 done:=by
  intro X hP hw hK hc i pins s σ H E I hf st hg
  subst hP hw hK
  have hg:x.cps.size≤i:=hg
  obtain⟨f0,f1,f2,f3,f4,f5⟩:=hf it (by simp)
  exact wpAny_pyNext_ascii_end (I.ok.hd hc) st (by simp[hg]) fun h' eb=> ⟨rfl,I.turned (t':=s.toks) (fun b o hb e=>eb b o hb e) f0 f1 f3 f4 f5⟩
 self:=fun _ _ _ _ _ st h=>wpAny_pyIter_striter_ascii st h
section
variable{X:Cx}{tg:Expr}
def bb(tl:TE):TI:=fun σ H R=>tl σ H fun v H1=>∃x,v=.str x∧x.cps.all (· <128)=true∧R (ba x) H1
theorem Wu{l:Expr}{tl:TE}(hl:PE X l tl):PI X tg l (bb tl):=by
 intro pins s σ H R I h
 refine Ae (hl pins s σ H _ I h) fun v s1 ⟨x,H1,I1,r1,q1⟩=>?_
 obtain⟨x,e,ha,q⟩:=q1
 subst e
 obtain⟨t,rfl⟩:=r1
 refine wpAny_pyIter_ascii ha ?_
 refine⟨s1.heap.objs.size,[s1.heap.objs.size],_,_,H1,rfl,I1.kept (t':=s1.toks) fun b o e=>Heap.get?_push_of_some _ e,QW x t _,⟨_,Heap.get?_push_size _ rfl,rfl,rfl⟩,fun b hb=>?_,q⟩
 have e:b=s1.heap.objs.size:=by simpa using hb
 subst e
 exact I1.fpOk (Nat.le_refl _) (I1.hok.fresh (Nat.le_refl _))
end
end L2
namespace L2.TL
open PySem PySem.Spec PyProof.Rows
section
variable{Z:Zx}{ρ:List (Option T)}{O:AQ}{a tg:Expr}{ts:List T}{p pos:Pos}
def DG(k0:Nat)(ts:List T):List T:=ts.zipIdx.map fun x=> .tup [.int ((k0+x.2:Nat):Int),x.1]
theorem Ls{k0:Nat}{K:PySem.W.Frag}{H:Hp}{l:Addr}{xs:List V}(ok:OwnOk K O H)(h1:H l=some (.lst xs))(n:O l=none)(r1:Reps K O H xs ts):Jw K (bZ K k0 l) O H (DG k0 ts):=fun O' H' k ok'=>by
 have g1:SqL K H' l xs:=.inl (.inl (k.lst h1 n).1)
 have q1:=r1.kp k ok
 have hl:(DG k0 ts).length=ts.length:=by simp[DG]
 refine⟨fun i hi=>?_,fun i x H'' y t e=>?_,fun i hi=> ⟨xs,g1,?_⟩⟩
 ·rw[hl] at hi
  obtain⟨v,e1,_⟩:=q1.get (i:=i) (t:=ts[i]'hi) (by simp)
  exact⟨xs,v,g1,e1⟩
 ·obtain⟨p,v,hp,rfl,rfl,a1⟩:=y
  unfold DG at e
  rw[List.getElem?_map,List.getElem?_zipIdx] at e
  cases et:ts[i]? with
  |none=>rw[et] at e;cases e
  |some t1=>
   rw[et] at e
   have e:T.tup [.int ((k0+(0+i):Nat):Int),t1]=t:=Option.some.inj e
   rw[Nat.zero_add] at e
   subst e
   obtain⟨v',e1,rv⟩:=q1.get et
   have z1:=a1 xs g1
   rw[e1] at z1;cases z1
   exact⟨.new ok' hp,.tup AF ((Reps.cons (.int _) (.one rv)).kp (Au ok' hp) ok')⟩
 ·rw[hl] at hi
  rw[r1.length]
  omega
theorem QX{tes:List Expr}{tk j k0:Nat}{tpos np kp:Pos}(hk:k0<1000)(hm:Z.X.mg "enumerate" =none)(h1:ET Z ρ O a (.lst ts))(hn:CG a=true)(hg:Gl Z.X "enumerate":=by rfl):EI Z ρ O (.Tuple tes tk tpos) (.Call (.Name "enumerate" p) [a] [⟨some "start",.Constant (.int (k0:Nat)) j np,kp⟩] pos) (DG k0 ts):=fun Φ q=>
 PI.weak (QV hk hg hm (h1 (fun t O'=>t=.lst ts∧O'=O) ⟨rfl,rfl⟩) hn) fun σ H R k=> ⟨k.1,by
  rintro v H' _ _ ⟨rfl,rfl⟩ f r
  obtain⟨l,xs,rfl,g1,n,r1⟩:=r.lst_inv
  exact⟨l,rfl,⟨xs,.inl (.inl g1)⟩,k.2 _ H' _ _ q f (Ls f.ok g1 n r1)⟩⟩
def BW(x:Str):List T:=x.cps.toList.map fun c=> .str ⟨#[c]⟩
theorem QY{K:PySem.W.Frag}{H:Hp}{x:Str}:Jw K (ba x) O H (BW x):=fun O' H' k ok'=>by
 have hl:(BW x).length=x.cps.size:=by simp[BW]
 refine⟨fun i hi=>?_,fun i v H'' y t e=>?_,fun i hi=>?_⟩
 ·rw[hl] at hi;exact hi
 ·obtain⟨rfl,c,hc,rfl⟩:=y
  unfold BW at e
  rw[List.getElem?_map] at e
  rw[show x.cps.toList[i]?=some c by simpa using hc] at e
  cases e
  exact⟨.refl ok',.str _⟩
 ·rw[hl] at hi;exact hi
theorem QZ{x:Str}(ha:x.cps.all (· <128)=true)(h1:ET Z ρ O a (.str x)):EI Z ρ O tg a (BW x):=fun Φ q=>
 PI.weak (Wu (h1 (fun t O'=>t=.str x∧O'=O) ⟨rfl,rfl⟩)) fun σ H R k=> ⟨k.1,by
  rintro v H' _ _ ⟨rfl,rfl⟩ f r
  exact⟨x,r.str_inv,ha,k.2 _ H' _ _ q f QY⟩⟩
end
open PySem.Calls
section
variable{K:PySem.W.Frag}{O O':AQ}{H:Hp}
end
section
variable{Z:Zx}{ρ:List (Option T)}{O:AQ}{e a b:Expr}{es:List Expr}{Ψ:Es}{Φ:BR}{pos p:Pos}{t:T}{ts ts' us:List T}{x:Str}{l:Addr}
end
end L2.TL
namespace K71
open PySem L2 L2.TL PySem.Spec PyProof.Rows
def top(i:Nat):Stmt:=PySem.Challenge.pw_noshortring_k71_texts_that_write_none.main.body.getD i (.Pass ⟨0,0,0,0⟩)
abbrev JE:Stmt:=top 11
abbrev Gu:Stmt:=top 27
abbrev JF:Stmt:=top 28
abbrev DH:Stmt:=top 29
abbrev CZ:Stmt:=top 30
abbrev JG:Stmt:=top 31
abbrev TZ:Stmt:=top 16
abbrev EU:Stmt:=top 17
abbrev NC:Stmt:=top 18
abbrev Qa:Stmt:=top 19
abbrev ND:Stmt:=top 32
abbrev NF:Stmt:=top 26
abbrev Qb:Stmt:=top 33
abbrev Lu:Stmt:=top 34
abbrev KJ:Stmt:=top 35
abbrev JH:Stmt:=top 36
abbrev Ta:Stmt:=top 37
abbrev Lv:Stmt:=top 38
abbrev Qc:Stmt:=top 39
abbrev Wv:Stmt:=top 40
abbrev ON:Stmt:=top 41
structure Txt(mg:Str→Option Value):Prop where
 nInt:mg "int" =none
 nBool:mg "bool" =none
 nTuple:mg "tuple" =none
 nList:mg "list" =none
 nSet:mg "set" =none
 nRange:mg "range" =none
 nIsi:mg "isinstance" =none
 nMax:mg "max" =none
 nMin:mg "min" =none
 nLen:mg "len" =none
 nAll:mg "all" =none
 nSorted:mg "sorted" =none
 nRepr:mg "repr" =none
 nVE:mg "ValueError" =none
 nEnum:mg "enumerate" =none
 nStr:mg "str" =none
 nAny:mg "any" =none
 iMP:∃t:Tok,mg "MOST_PLACES" =some (.int 16 t)
 iMF:∃t:Tok,mg "MOST_FIGURES" =some (.int 20 t)
 iFg:∃t:Tok,mg "FIGURES" =some (.str "0123456789" t)
def cH(t:T)(a b:Int):Bool:=match t with
 | .int i=>decide (a≤i)&&decide (i≤b)
 |_=>false
def IE(n:Int)(p:Int×Int):Prop:=0≤p.1∧p.1<p.2∧p.2<n
theorem EW.cast{Z:Zx}{ρ:List (Option T)}{O:AQ}{e:Expr}{k l:Bool}(h:EW Z ρ O e k)(z:k=l):EW Z ρ O e l:=z▸h
theorem EB.cast{Z:Zx}{ρ:List (Option T)}{O:AQ}{e:Expr}{k l:Bool}(h:EB Z ρ O e k)(z:k=l):EB Z ρ O e l:=z▸h
theorem ET.cast{Z:Zx}{ρ:List (Option T)}{O:AQ}{e:Expr}{k l:T}(h:ET Z ρ O e k)(z:k=l):ET Z ρ O e l:=z▸h
section
variable{P:Program}{w:World}{K:PySem.W.Frag}{mg:Str→Option Value}{base:Heap}
def NG:DI:=Mp fun ts r=>∃t a b,ts=[t,.int a,.int b]∧CY t=false∧r=.bl (cH t a b)
theorem Tc:FnScope ["thing","least","most"] ["thing","least","most"] (AA JE):=⟨rfl,rfl,rfl,by decide+kernel,rfl,by decide+kernel,by decide+kernel⟩
theorem Qd{f:Addr}{fd:FuncData}(F:Fun K "is_whole" "is_whole" JE f fd)(T:Txt mg):FnOk P w K mg base (CXe P w) 1 f fd ["thing","least","most"] (Du K NG):=by
 refine Aj F Tc ?_ ?_
 ·rintro ts O Φ Ξ ⟨r,⟨t,a,b,rfl,_⟩,_⟩
  rfl
 ·rintro cdv A outer s H E O Ξ hr xf _ Φ ⟨_,⟨t,a,b,rfl,ht,rfl⟩,q⟩
  refine AD (AU (EW.eb (An (BJ (DT T.nIsi T.nInt QB Iu (ev 0) ht)) fun _=>BV (DT T.nIsi T.nBool QC Gf (ev 0) ht))) (fun h=>AI (AS (Mk _ ?_))) (fun h=>AW ?_))
  ·have:cH t a b=false:=by
    cases t<;>first|rfl|cases h
   rw[this] at q;exact q
  ·cases t with
   |int i=>exact AI (AS (Ss (ev 1) (ev 0) (ev 2) (by with_unfolding_all rfl) _ q))
   |bl i=>cases h
   |raw i=>cases ht
   |_=>cases h
end
abbrev Qe:Stmt:=top 21
abbrev Qf:Stmt:=top 22
abbrev Ww:Stmt:=top 23
abbrev Qg:Stmt:=top 24
abbrev Fl:Stmt:=top 25
def EV(xs:List T):Prop:=∃a b c:Int,xs=[.int a,.int b,.int c]∧0≤a∧0≤c∧c<2147483648
section
variable{P:Program}{w:World}{K:PySem.W.Frag}{mg:Str→Option Value}{base:Heap}
def FL(K:PySem.W.Frag):Sp:=fun vs H Q _=>∃(a:Addr) (ns:List Int),vs=[.ref a,.int 0]∧SqL K H a (ns.map V.int)∧∀i,Q (.int i) H
theorem Wx:FnScope ["_law_script","_law_k"] ["_law_script","_law_k"] (AA Qe):=⟨rfl,rfl,rfl,by decide+kernel,rfl,by decide+kernel,by decide+kernel⟩
theorem Td{f:Addr}{fd:FuncData}(F:Fun K "_law_cell_at" "_law_cell_at" Qe f fd)(T:Txt mg):FnOk P w K mg base (CXe P w) 1 f fd ["_law_script","_law_k"] (FL K):=by
 refine F.okX Wx (fun vs H Q E h=>?_) (fun cdv A outer s H vs Q E hr h=>?_)
 ·obtain⟨a,ns,rfl,_⟩:=h
  rfl
 ·obtain⟨a,ns,rfl,hS,k⟩:=h
  refine⟨_,DL (Oh (FY MQ (pv 1) (Ar Ba (by rfl) T.nLen QD (AM (pv 0) Ax)) (Af _)) (Da (Ek (Ox Bx (pv 0) (pv 1) (fun _ _=>rfl)))) IM) (Da (Ek IL)),?_⟩
  refine⟨_,rfl,_,rfl,a,_,rfl,.inl hS,_,_,rfl,rfl,_,rfl,?_⟩
  refine Vp (fun h1=>?_) (fun h1=>?_)
  ·have h1:(0:Int)< ((ns.map V.int).length:Int):=by simpa using h1
   cases ns with
   |nil=>simp at h1
   |cons n ns=>exact⟨_,rfl,_,rfl,a,_,0,.int n,rfl,rfl,hS,BP (j:=0) rfl,k n⟩
  ·exact k 0
def Qh:DI:=fun ts O Φ _=>∃n:Int,ts=[.int n]∧∀m:Int,0≤m→m<2147483629→Φ (.int m) O
theorem Qi:FnScope ["_law_seed"] ["_law_seed"] (AA Qf):=⟨rfl,rfl,rfl,by decide+kernel,rfl,by decide+kernel,by decide+kernel⟩
theorem Te{f:Addr}{fd:FuncData}(F:Fun K "_law_next" "_law_next" Qf f fd):FnOk P w K mg base (CXe P w) 1 f fd ["_law_seed"] (Du K Qh):=by
 refine Aj F Qi ?_ ?_
 ·rintro ts O Φ Ξ ⟨n,rfl,_⟩
  rfl
 ·rintro cdv A outer s H E O Ξ hr xf _ Φ ⟨n,rfl,q⟩
  have b1:=Int.emod_nonneg (n+7919) (show(2147483647:Int)≠0 by decide)
  have b2:=Int.emod_lt_of_pos (n+7919) (show(0:Int)<2147483647 by decide)
  refine AD (AO 0 (ET.we (FB (Ai (ev 0) AB) AB (by decide)) ?_) Qi.nd)
  exact AI (AS (ET.we (FB (Ai (Ai (FA (ev 0) (ev 0) (.inl ⟨by omega,by omega⟩)) (FA AB (ev 0) (.inl ⟨by decide,by decide⟩))) AB) AB (by decide)) (q _ (Int.emod_nonneg _ (by decide)) (Int.emod_lt_of_pos _ (by decide)))))
def VB:DI:=fun ts O Φ _=>∃c:Int,ts=[.int c]∧∀(p:Addr) (xs:List T),O p=none→EV xs→Φ (.raw (.ref p)) (BM O p xs)
theorem VC:FnScope ["_law_cell","_law_left"] ["_law_cell"] (AA Ww):=⟨rfl,rfl,rfl,by decide+kernel,rfl,by decide+kernel,by decide+kernel⟩
theorem Wy{f:Addr}{fd:FuncData}(F:Fun K "_law_pen_of" "_law_pen_of" Ww f fd)(T:Txt mg):FnOk P w K mg base (CXe P w) 1 f fd ["_law_cell"] (Du K VB):=by
 refine Aj F VC ?_ ?_
 ·rintro ts O Φ Ξ ⟨n,rfl,_⟩
  rfl
 ·rintro cdv A outer s H E O Ξ hr xf _ Φ ⟨n,rfl,q⟩
  refine AD (AO 1 (ET.we (Fg T.nMax rfl (ev 0) (Ez AB (ev 0))) ?_) VC.nd)
  refine AI (AS (EK (EA.wa (AN (ev 1) (AN (Sy T.nInt (Yp (ev 1) (WM AB AB ⟨by decide,by decide,by decide⟩))) (AN (FB (ev 1) AB (by decide)) AC))) ⟨by show 3≤sizeLine;decide,fun a ha=>q a _ ha ?_⟩)))
  have b1:=Int.emod_nonneg (max n (0-n)) (show(1000003:Int)≠0 by decide)
  have b2:=Int.emod_lt_of_pos (max n (0-n)) (show(0:Int)<1000003 by decide)
  exact⟨_,_,_,rfl,by omega,b1,by omega⟩
def BX:DI:=fun ts O Φ _=>∃(p:Addr) (xs:List T) (m:Int),ts=[.raw (.ref p),.int m]∧O p=some xs∧EV xs∧0<m∧m≤1000000000∧∀(r:Int) (xs':List T),0≤r→r<m→EV xs'→Φ (.int r) (BM O p xs')
theorem Qj:FnScope ["_law_pen","_law_many","_law_found"] ["_law_pen","_law_many"] (AA Qg):=⟨rfl,rfl,rfl,by decide+kernel,rfl,by decide+kernel,by decide+kernel⟩
theorem Tf{f:Addr}{fd:FuncData}(F:Fun K "_law_draw" "_law_draw" Qg f fd)(G:FnT P w K mg base "_law_next" 1 ["_law_seed"] Qh):FnOk P w K mg base (CXe P w) 2 f fd ["_law_pen","_law_many"] (Du K BX):=by
 refine Aj F Qj ?_ ?_
 ·rintro ts O Φ Ξ ⟨p,xs,m,rfl,_⟩
  rfl
 ·rintro cdv A outer s H E O Ξ hr xf _ Φ ⟨p,_,m,rfl,hp,⟨a,b,c,rfl,a0,c0,c1⟩,m0,m1,q⟩
  refine AD (AU (CS (Cv hp (ev 0) AB) AB) (fun h=>?_) (fun h=>AW ?_))
  ·refine AD (AO 2 (ET.we (FB (Cv hp (ev 0) AB) (ev 1) m0) ?_) Qj.nd)
   refine AD (Px (ET.we (Fc (Cv hp (ev 0) AB) (ev 1) ⟨m0,by omega⟩) (ET.we (ev 0) ⟨p,rfl,ET.we AB ⟨_,0,0,rfl,hp,rfl,?_⟩⟩)))
   exact AI (AS (ET.we (ev 2) (q _ _ (Int.emod_nonneg _ (by omega)) (Int.emod_lt_of_pos _ m0) ⟨a/m,b,c,rfl,Int.ediv_nonneg a0 (by omega),c0,c1⟩)))
  ·refine AD (Px (BK G hr xf (Cu (CB El (BK G hr xf (EA.wa (AN (Cv hp (ev 0) AB) AC) ⟨c,rfl,fun u u0 u1=>?_⟩))))))
   refine ET.we AB (GX _ (Av ⟨u+7,rfl,fun r r0 r1=>ET.we (ev 0) ⟨p,rfl,ET.we AB ⟨_,2,2,rfl,hp,rfl,?_⟩⟩⟩))
   exact AI (AS (ET.we (FB (Fc (Cv AJ (ev 0) AB) AB ⟨by decide,by decide⟩) (ev 1) m0) (q _ _ (Int.emod_nonneg _ (by omega)) (Int.emod_lt_of_pos _ m0) ⟨a,b,r,rfl,a0,r0,by omega⟩)))
def Ca:DI:=Mp fun ts r=>∃t,ts=[t]∧CY t=false∧r=.bl (QA t&&!Lc t)
theorem KL:FnScope ["_law_found"] ["_law_found"] (AA Fl):=⟨rfl,rfl,rfl,by decide+kernel,rfl,by decide+kernel,by decide+kernel⟩
theorem OO{f:Addr}{fd:FuncData}(F:Fun K "_law_whole" "_law_whole" Fl f fd)(T:Txt mg):FnOk P w K mg base (CXe P w) 1 f fd ["_law_found"] (Du K Ca):=by
 refine Aj F KL ?_ ?_
 ·rintro ts O Φ Ξ ⟨r,⟨t,rfl,_⟩,_⟩
  rfl
 ·rintro cdv A outer s H E O Ξ hr xf _ Φ ⟨_,⟨t,rfl,ht,rfl⟩,q⟩
  exact AI (AS (ET.we (Im (FF T.nIsi T.nInt QB Iu (ev 0) ht) fun _=>Ga (Pv (FF T.nIsi T.nBool QC Gf (ev 0) ht))) q))
end
theorem AX:(1000:Nat)<sizeLine:=by decide
def PO(O0:AQ)(p:Addr)(O:AQ):Prop:=∃xs,O=BM O0 p xs∧EV xs
theorem PO.at{O0 O:AQ}{p:Addr}(h:PO O0 p O):∃xs,O p=some xs∧EV xs:=by
 obtain⟨xs,rfl,px⟩:=h
 exact⟨xs,AJ,px⟩
theorem PO.step{O0 O:AQ}{p:Addr}{xs:List T}(h:PO O0 p O)(px:EV xs):PO O0 p (BM O p xs):=by
 obtain⟨ys,rfl,_⟩:=h
 exact⟨xs,Cq,px⟩
theorem PO.start{O:AQ}{p:Addr}{xs:List T}(h:O p=some xs)(px:EV xs):PO O p O:=⟨xs,(QI h).symm,px⟩
section
variable{P:Program}{w:World}{K:PySem.W.Frag}{mg:Str→Option Value}{base:Heap}
section
variable{Z:Zx}{ρ:List (Option T)}{O O0 O1:AQ}{a b:Expr}{Φ:BR}{pos q:Pos}{p c:Addr}{m:Int}{acc:List T}
theorem BA(G:FnT Z.X.prog Z.X.w Z.X.K Z.X.mg Z.X.base "_law_draw" 2 ["_law_pen","_law_many"] BX)(hr:Room 2 Z.X.A)(xf:XFly Z.X Z.W)(po:PO O0 p O)(ha:ET Z ρ O a (.raw (.ref p)))(hb:ET Z ρ O b (.int m))(m0:0<m)(m1:m≤1000000000)(k:∀r O',0≤r→r<m→PO O0 p O'→Φ (.int r) O')(hg:Gl Z.X "_law_draw":=by rfl)
  (he:starEach [a,b] Z.X.env=(false,eval a Z.X.env)::starEach [b] Z.X.env:=by rfl) (he2:starEach [b] Z.X.env=(false,eval b Z.X.env)::starEach [] Z.X.env:=by rfl) (hpl:(backTo pos (starEach [b] Z.X.env)).any (·.1)=false:=by rfl):WE Z ρ O (.Call (.Name "_law_draw" q) [a,b] [] pos) Φ:=by
 obtain⟨xs,hp,px⟩:=po.at
 exact BK G hr xf (EA.wa (AN ha (AN hb AC he2) he) ⟨p,xs,m,rfl,hp,px,m0,m1,fun r xs' r0 r1 px'=>k r _ r0 r1 (po.step px')⟩) hg (by decide) he hpl
theorem Cb(G:FnT Z.X.prog Z.X.w Z.X.K Z.X.mg Z.X.base "_law_draw" 2 ["_law_pen","_law_many"] BX)(hr:Room 2 Z.X.A)(xf:XFly Z.X Z.W)(po:PO O0 p O)(hc:O c=none)(ha:ET Z ρ (BM O c acc) a (.raw (.ref p)))(hb:ET Z ρ (BM O c acc) b (.int m))(m0:0<m)(m1:m≤1000000000)(k:∀r O',0≤r→r<m→PO O0 p O'→O' c=none→Φ (.int r) (BM O' c acc))(hg:Gl Z.X "_law_draw":=by rfl)
  (he:starEach [a,b] Z.X.env=(false,eval a Z.X.env)::starEach [b] Z.X.env:=by rfl) (he2:starEach [b] Z.X.env=(false,eval b Z.X.env)::starEach [] Z.X.env:=by rfl) (hpl:(backTo pos (starEach [b] Z.X.env)).any (·.1)=false:=by rfl):WE Z ρ (BM O c acc) (.Call (.Name "_law_draw" q) [a,b] [] pos) Φ:=by
 obtain⟨xs,hp,px⟩:=po.at
 have hpc:p≠c:=Lg hp hc
 refine BK G hr xf (EA.wa (AN ha (AN hb AC he2) he) ⟨p,xs,m,rfl,by rw[BC hpc];exact hp,px,m0,m1,fun r xs' r0 r1 px'=>?_⟩) hg (by decide) he hpl
 rw[Pz hpc]
 exact k r _ r0 r1 (po.step px') (by rw[BC (Ne.symm hpc)];exact hc)
end
end
def mm(p:Int×Int):Int×Int:=(min p.1 p.2,max p.1 p.2)
section
variable{P:Program}{w:World}{K:PySem.W.Frag}{mg:Str→Option Value}{base:Heap}{CP CL:Addr}
def bf(p:Int×Int):Prop:=(0≤p.1∧p.1<65536)∧0≤p.2∧p.2<65536
end
theorem dM:bootBuiltins "ValueError" =some (.type "ValueError"):=by decide+kernel
theorem EX{H H':Hp}{p:Addr}{o:HO}(s:Same H H')(hp:H' p=none):Same H (upd H' p o):=fun b u e=>by
 rw[AG (AL (s b u e) hp)];exact s b u e
structure Asks(K:PySem.W.Frag)(mg:Str→Option Value)(CN:Addr)(x:Str)(b:Bool):Prop where
 ex:∃C,mg x=some (.ref C)∧PySem.W.kitOne K (.ref CN) (.ref C)=some b
structure Kinds(K:PySem.W.Frag)(mg:Str→Option Value)(CN:Addr)(b0 b1 b2 b3 b4 b5 b6 b7:Bool):Prop where
 a0:Asks K mg CN "NoPlace" b0
 a1:Asks K mg CN "NoNumber" b1
 a2:Asks K mg CN "NoLine" b2
 a3:Asks K mg CN "NoRing" b3
 a4:Asks K mg CN "NotEven" b4
 a5:Asks K mg CN "NoWeb" b5
 a6:Asks K mg CN "NoText" b6
 a7:Asks K mg CN "TooGreat" b7
 ve:PySem.W.kitOne K (.ref CN) (.type "ValueError")=some true
 eN:ExcCls K CN
section
variable{P:Program}{w:World}{K:PySem.W.Frag}{mg:Str→Option Value}{base:Heap}{CP:Addr}
theorem Lw:FnScope ["_law_e","_law_marks"] ["_law_e"] (AA NF):=⟨rfl,rfl,rfl,by decide+kernel,rfl,by decide+kernel,by decide+kernel⟩
theorem Tg{f:Addr}{fd:FuncData}{b0 b1 b2 b3 b4 b5 b6 b7:Bool}{y:Str}{j:Nat}(F:Fun K "_law_kind_of" "_law_kind_of" NF f fd)(T:Txt mg)(U:Kinds K mg CP b0 b1 b2 b3 b4 b5 b6 b7)(hc:(([.bl b0,.bl b1,.bl b2,.bl b3]++[.bl b4,.bl b5,.bl b6,.bl b7]:List V).countP fun z=>FS z (.bl true))=1)(hj:([.bl b0,.bl b1,.bl b2,.bl b3]++[.bl b4,.bl b5,.bl b6,.bl b7]:List V)[j]?=some (.bl true))(hno:∀m z,m<j→([.bl b0,.bl b1,.bl b2,.bl b3]++[.bl b4,.bl b5,.bl b6,.bl b7]:List V)[m]?=some z→FS z (.bl true)=false)(hw:([.str "place",.str "number",.str "line",.str "ring",.str "even",.str "web",.str "text",.str "great"]:List V)[j]?=some (.str y)):FnH P w K mg base 1 f fd ["_law_e"] (JA CP y):=by
 obtain⟨c0,m0,k0⟩:=U.a0.ex
 obtain⟨c1,m1,k1⟩:=U.a1.ex
 obtain⟨c2,m2,k2⟩:=U.a2.ex
 obtain⟨c3,m3,k3⟩:=U.a3.ex
 obtain⟨c4,m4,k4⟩:=U.a4.ex
 obtain⟨c5,m5,k5⟩:=U.a5.ex
 obtain⟨c6,m6,k6⟩:=U.a6.ex
 obtain⟨c7,m7,k7⟩:=U.a7.ex
 refine F.okH Lw (fun vs H Q E h=>?_) (fun cdv A outer s H vs Q hr h=>?_)
 ·obtain⟨x,rfl,_⟩:=h
  rfl
 ·obtain⟨x,rfl,hx,k⟩:=h
  refine⟨_,DL (Kh (i:=1) Lw.nd rfl (Or.inl rfl) (Fw
    (AM (Ar BF (by rfl) T.nIsi HL (AM (pv 0) (AM (BO (v:=.ref c0) (by rfl) m0 rfl) Ax)))
    (AM (Ar BF (by rfl) T.nIsi HL (AM (pv 0) (AM (BO (v:=.ref c1) (by rfl) m1 rfl) Ax)))
    (AM (Ar BF (by rfl) T.nIsi HL (AM (pv 0) (AM (BO (v:=.ref c2) (by rfl) m2 rfl) Ax)))
    (AM (Ar BF (by rfl) T.nIsi HL (AM (pv 0) (AM (BO (v:=.ref c3) (by rfl) m3 rfl) Ax))) Ax))))))
   (DL (Kh (i:=1) Lw.nd rfl (Or.inl rfl) (Uc Cf (pv 1) (Fw
    (AM (Ar BF (by rfl) T.nIsi HL (AM (pv 0) (AM (BO (v:=.ref c4) (by rfl) m4 rfl) Ax)))
    (AM (Ar BF (by rfl) T.nIsi HL (AM (pv 0) (AM (BO (v:=.ref c5) (by rfl) m5 rfl) Ax)))
    (AM (Ar BF (by rfl) T.nIsi HL (AM (pv 0) (AM (BO (v:=.ref c6) (by rfl) m6 rfl) Ax)))
    (AM (Ar BF (by rfl) T.nIsi HL (AM (pv 0) (AM (BO (v:=.ref c7) (by rfl) m7 rfl) Ax))) Ax)))))))
   (DL (Oh (Ua (Of (JT (Ar BF (by rfl) T.nIsi HL (AM (pv 0) (AM (ML (v:=.ty "ValueError") (by rfl) T.nVE dM rfl) Ax))) (fun _=>rfl)))
     (Od (FY Om (PB PySem.F.plainAttrs_list PySem.F.slot_list_count PySem.F.type_list_count PP (pv 1) (AM Oc Ax)) IL (Af _)))).pt
     (Da (Ek CJ)) IM)
   (Da (Ek (Ox Bx (Fw (AM CJ (AM CJ (AM CJ (AM CJ (AM CJ (AM CJ (AM CJ (AM CJ Ax)))))))))
    (PB PySem.F.plainAttrs_list PySem.F.slot_list_index PySem.F.type_list_index PQ (pv 1) (AM Oc Ax)) (fun _ _=>rfl)))))),?_⟩
  refine⟨_,rfl,_,.ref c0,_,_,b0,rfl,rfl,.inr ⟨x,CP,rfl,rfl,hx,U.eN⟩,k0,?_⟩
  refine⟨_,rfl,_,.ref c1,_,_,b1,rfl,rfl,.inr ⟨x,CP,rfl,rfl,hx,U.eN⟩,k1,?_⟩
  refine⟨_,rfl,_,.ref c2,_,_,b2,rfl,rfl,.inr ⟨x,CP,rfl,rfl,hx,U.eN⟩,k2,?_⟩
  refine⟨_,rfl,_,.ref c3,_,_,b3,rfl,rfl,.inr ⟨x,CP,rfl,rfl,hx,U.eN⟩,k3,(by show 4≤sizeLine;decide),fun p hp=>?_⟩
  have hx1:Rd (upd H p (.lst [.bl b0,.bl b1,.bl b2,.bl b3])) x (Dp CP x):=hx.upd hp
  refine⟨_,rfl,?_⟩
  refine⟨_,rfl,_,.ref c4,_,_,b4,rfl,rfl,.inr ⟨x,CP,rfl,rfl,hx1,U.eN⟩,k4,?_⟩
  refine⟨_,rfl,_,.ref c5,_,_,b5,rfl,rfl,.inr ⟨x,CP,rfl,rfl,hx1,U.eN⟩,k5,?_⟩
  refine⟨_,rfl,_,.ref c6,_,_,b6,rfl,rfl,.inr ⟨x,CP,rfl,rfl,hx1,U.eN⟩,k6,?_⟩
  refine⟨_,rfl,_,.ref c7,_,_,b7,rfl,rfl,.inr ⟨x,CP,rfl,rfl,hx1,U.eN⟩,k7,(by show 4≤sizeLine;decide),fun p2 hp2=>?_⟩
  have np:p≠p2:=fun z=>by rw[z,AF] at hp2;cases hp2
  refine⟨p,p2,_,_,rfl,rfl,(by rw[AG np];exact AF),AF,(by show 8≤sizeLine;decide),fun p3 hp3=>?_⟩
  have s1:Same H (upd H p (.lst [.bl b0,.bl b1,.bl b2,.bl b3])):=EX (Same.refl H) hp
  have s2:=EX (o:=.lst [.bl b4,.bl b5,.bl b6,.bl b7]) s1 hp2
  have s3:=EX (o:=.lst ([.bl b0,.bl b1,.bl b2,.bl b3]++[.bl b4,.bl b5,.bl b6,.bl b7])) s2 hp3
  refine⟨_,rfl,_,.ty "ValueError",_,_,true,rfl,rfl,.inr ⟨x,CP,rfl,rfl,hx.same s3,U.eN⟩,U.ve,true,rfl,?_⟩
  refine Ku ?_
  refine⟨_,rfl,.inl ⟨rfl,_,SqL.of AF⟩,p3,_,_,rfl,rfl,SqL.of AF,rfl,rfl,rfl,_,rfl,?_⟩
  have ec:(!decide (V.int ((([.bl b0,.bl b1,.bl b2,.bl b3]++[.bl b4,.bl b5,.bl b6,.bl b7]:List V).countP fun z=>FS z (.bl true):Nat):Int)=V.int 1))=false:=by rw[hc];rfl
  rw[ec]
  refine Ku ?_
  refine⟨(by show 8≤sizeLine;decide),fun p4 hp4=>?_⟩
  have n4:p3≠p4:=fun z=>by rw[z,AF] at hp4;cases hp4
  refine⟨_,rfl,.inl ⟨rfl,_,SqL.of (by rw[AG n4];exact AF)⟩,p3,_,_,j,rfl,rfl,SqL.of (by rw[AG n4];exact AF),rfl,rfl,⟨.bl true,hj,rfl⟩,hno,?_⟩
  exact⟨p4,_,(j:Int),_,rfl,rfl,SqL.of AF,BP hw,k _ (EX s3 hp4)⟩
theorem ZL{xs:List V}{j:Nat}(h:((List.range j).all fun m=>match xs[m]? with|some z=>!FS z (.bl true)|none=>true)=true):∀m z,m<j→xs[m]?=some z→FS z (.bl true)=false:=fun m z hm e=>by
 have:=List.all_eq_true.mp h m (List.mem_range.mpr hm)
 rw[e] at this
 simpa using this
theorem JI{f:Addr}{fd:FuncData}(F:Fun K "_law_kind_of" "_law_kind_of" NF f fd)(T:Txt mg)(U:Kinds K mg CP false false false false false false true false):FnH P w K mg base 1 f fd ["_law_e"] (JA CP "text"):=Tg (j:=6) F T U rfl rfl (ZL (by decide)) rfl
end
section
variable{P:Program}{w:World}{K:PySem.W.Frag}{mg:Str→Option Value}{base:Heap}{CP CL:Addr}
end
def Wz:Stmt→Expr
 | .Return (some e) _=>e
 | .Assign _ e _=>e
 |_=> .Constant .none 0 ⟨0,0,0,0⟩
def dN:Expr→Scope
 | .Call _ (.ListComp _ _ c _::_) _ _=>c
 | .ListComp _ _ c _=>c
 |_=>AA JE
section
variable{P:Program}{w:World}{K:PySem.W.Frag}{mg:Str→Option Value}{base:Heap}{CP CL:Addr}
theorem XA:(Ao ["_law_a","_law_b"] []).Nodup:=by decide+kernel
theorem ZM:(Ao ["_law_place"] [(("_law_begin" :Str),2),(("_law_step" :Str),1),(("_law_n" :Str),0)]).Nodup:=by decide+kernel
theorem ZN:(Ao ["_law_one"] []).Nodup:=by decide+kernel
theorem ZO:(Ao ["_law_number"] []).Nodup:=by decide+kernel
def Df:DI:=fun ts O Φ _=>∃(n:Int) (ps:List (Int×Int)),ts=[.int n,.lst (ps.map AE)]∧ps.length≤300∧(∀p∈ps,bf p)∧∀rs:List (Int×Int),rs.Pairwise Yx→(∀q,q∈rs↔q∈ps.map mm)→rs.length≤ps.length→Φ (Gm n rs) O
theorem Th:FnScope ["_law_many","_law_ties"] ["_law_many","_law_ties"] (AA Gu):=⟨rfl,rfl,rfl,by decide+kernel,rfl,by decide+kernel,by decide+kernel⟩
theorem OP{f:Addr}{fd:FuncData}(F:Fun K "_law_web_of" "_law_web_of" Gu f fd)(Tx:Txt mg):FnOk P w K mg base (CXe P w) 1 f fd ["_law_many","_law_ties"] (Du K Df):=by
 refine Aj F Th ?_ ?_
 ·rintro ts O Φ Ξ ⟨n,ps,rfl,_⟩
  rfl
 ·rintro cdv A outer s H E O Ξ hr xf _ Φ ⟨n,ps,rfl,hl,hp,q⟩
  have hu:(A.deeper (envOfC "_law_web_of" (AA Gu) s.heap.objs.size f cdv)).units+8<cLine:=by have:=hr.un;omega
  have hz:ps.length≤sizeLine:=Nat.le_trans hl (by decide)
  refine AI (AS (LX (FI (ET.we (ev 0) (FI (Jz Tx.nTuple (Iw (ps:=ps.map mm) Tx.nSorted Tx.nSet rfl hu ?_ (by simpa using hl) ?_ fun qs h1 h2 h3=> ⟨_,rfl,Av ⟨by show 2≤sizeLine;decide,q qs h1 h2 (by simpa using h3)⟩⟩)))))))
  ·rw[List.map_map]
   refine Bq ["_law_a","_law_b"] [] ps AE _ rfl (Dj (AA Gu) ["_law_many","_law_ties"] (by decide+kernel)) (Cw (ev 1)) hz fun x hx=> ⟨[some (.int x.1),some (.int x.2)],fun X' Oe He is O'=>?_⟩
   obtain⟨cl,s',H',fp,rfl⟩:=is
   exact⟨Ip 0 1 rfl XA (by decide) (by decide),Dt (AH (Sx Tx.nMin rfl (ev 0) (ev 1)) (AH (Fg Tx.nMax rfl (ev 0) (ev 1)) AC))⟩
  ·intro z hz
   obtain⟨p,h1,rfl⟩:=List.mem_map.mp hz
   have:=hp p h1
   unfold bf at this
   show 0≤max _ _∧max _ _<65536
   omega
def KM(n st bg:Int):List (Int×Int):=(List.range n.toNat).map fun(i:Nat)=> (bg+(0+(i:Int)),bg+((0+(i:Int))+st)%n)
def Fm:DI:=Mp fun ts r=>∃n st bg,ts=[.int n,.int st,.int bg]∧0<n∧n≤100∧r=.lst ((KM n st bg).map AE)
theorem Ti:FnScope ["_law_n","_law_step","_law_begin"] ["_law_n","_law_step","_law_begin"] (AA JF):=⟨rfl,rfl,rfl,by decide+kernel,rfl,by decide+kernel,by decide+kernel⟩
theorem Qk{f:Addr}{fd:FuncData}(F:Fun K "_law_round" "_law_round" JF f fd)(Tx:Txt mg):FnOk P w K mg base (CXe P w) 1 f fd ["_law_n","_law_step","_law_begin"] (Du K Fm):=by
 refine Aj F Ti ?_ ?_
 ·rintro ts O Φ Ξ ⟨r,⟨n,st,bg,rfl,_⟩,_⟩
  rfl
 ·rintro cdv A outer s H E O Ξ hr xf _ Φ ⟨_,⟨n,st,bg,rfl,n0,n1,rfl⟩,q⟩
  have sb:=AX
  refine AI (AS (ET.we (ET.cast (Bq ["_law_place"] [("_law_begin",2),("_law_step",1),("_law_n",0)] (List.range n.toNat) (fun i=> .int (0+(i:Int))) (fun i=>AE (bg+(0+(i:Int)),bg+((0+(i:Int))+st)%n)) rfl (Dj (AA JF) ["_law_n","_law_step","_law_begin"] (by decide+kernel)) (Bc Tx.nRange (ev 0) ⟨by omega,by omega⟩) (by simp;omega) fun x hx=> ⟨[some (.int (0+(x:Int))),some (.int bg),some (.int st),some (.int n)],fun X' Oe He is O'=>?_⟩) ?_) q))
  ·obtain⟨cl,s',H',fp,rfl⟩:=is
   exact⟨Ab 0 ZM (by decide),Fh (Ai (ev 1) (ev 0)) (Ai (ev 1) (FB (Ai (ev 0) (ev 2)) (ev 3) n0))⟩
  ·unfold KM
   rw[List.map_map]
   rfl
def Ql:DI:=Mp fun ts r=>∃ps:List (Int×Int),ts=[.tup (ps.map AE),.tup (ps.map AE)]∧ps.length≤300∧r=.bl true
theorem XB:FnScope ["_law_found","_law_due"] ["_law_found","_law_due"] (AA CZ):=⟨rfl,rfl,rfl,by decide+kernel,rfl,by decide+kernel,by decide+kernel⟩
def dO:Scope:=dN (Wz ((Aa CZ).getD 1 (.Pass ⟨0,0,0,0⟩)))
theorem KN{α:Type}:∀(xs:List α),(xs.map fun _=>true).all id=true
 | []=>rfl
 |_::xs=>KN xs
theorem Tj{f:Addr}{fd:FuncData}(F:Fun K "_law_tuples_are" "_law_tuples_are" CZ f fd)(Tx:Txt mg)(G:FnT P w K mg base "_law_whole" 1 ["_law_found"] Ca):FnOk P w K mg base (CXe P w) 2 f fd ["_law_found","_law_due"] (Du K Ql):=by
 refine Aj F XB ?_ ?_
 ·rintro ts O Φ Ξ ⟨r,⟨ps,rfl,_⟩,_⟩
  rfl
 ·rintro cdv A outer s H E O Ξ hr xf _ Φ ⟨_,⟨ps,rfl,hl,rfl⟩,q⟩
  have sb:=AX
  have hu:(A.deeper (envOfC "_law_tuples_are" (AA CZ) s.heap.objs.size f cdv)).units+102<cLine:=by have:=hr.un;omega
  have hrd:De (.tup (ps.map AE))=true:=by unfold De;exact Gk
  have hd:(dT (.tup (ps.map AE))).depth≤100:=by
   have:=DU (ps:=ps)
   simp only[dT,PyData.depth]
   omega
  refine AD (AU (k:=false) (EW.eb (EW.cast (An (BJ (DT Tx.nIsi Tx.nTuple Dv EO (ev 0) rfl)) fun _=>BV (BD (Lj (Nat.lt_of_succ_lt hu)) (Af _) (Wm hrd hrd hd) (ev 0) (ev 1))) ?_)) (fun h=>by cases h) (fun _=>AW ?_))
  ·show(!Mu (.tup (ps.map AE))||!PyData.eqvAll (dTs (ps.map AE)) (dTs (ps.map AE)))=false
   rw[FK]
   simp[Mu]
  ·refine AI (AS (ET.we (ET.cast (Le (bs:=ps.map fun _=>true) Tx.nAll rfl ?_) (by rw[KN])) q))
   rw[List.map_map]
   refine Bq ["_law_one"] [] ps AE _ rfl (Dj (AA CZ) ["_law_found","_law_due"] (by decide+kernel)) (Iq (ev 0)) (by omega) fun x hx=> ⟨[some (AE x)],fun X' Oe He is O'=>?_⟩
   obtain⟨cl,s',H',fp,rfl⟩:=is
   refine⟨Ab 0 ZN (by decide),ET.cast (Im (FF Tx.nIsi Tx.nTuple Dv EO (ev 0) rfl) fun _=>Ga (Le (bs:=[true,true]) Tx.nAll rfl ?_)) rfl⟩
   refine Bq ["_law_number"] [] [T.int x.1,T.int x.2] id (fun _=> .bl true) rfl (Dj dO ["_law_one"] (by decide+kernel)) (Iq (ev 0)) (by show 2≤sizeLine;decide) fun y hy=> ⟨[some y],fun X'' Oe' He' is' O''=>?_⟩
   obtain⟨cl',s'',H'',fp',rfl⟩:=is'
   refine⟨Ab 0 ZO (by decide),BB G (hr.mono (by decide)) Iy (AH (ev 0) AC) ?_⟩
   simp only[List.mem_cons,List.not_mem_nil,or_false] at hy
   rcases hy with rfl|rfl
   ·exact⟨_,rfl,rfl,rfl⟩
   ·exact⟨_,rfl,rfl,rfl⟩
def NH:DI:=Mp fun ts r=>∃n ps,ts=[Gm n ps,Gm n ps]∧ps.length≤300∧r=.bl true
theorem Tn:FnScope ["_law_found","_law_due"] ["_law_found","_law_due"] (AA JG):=⟨rfl,rfl,rfl,by decide+kernel,rfl,by decide+kernel,by decide+kernel⟩
theorem OQ{f:Addr}{fd:FuncData}(F:Fun K "_law_web_is" "_law_web_is" JG f fd)(Tx:Txt mg)(G:FnT P w K mg base "_law_whole" 2 ["_law_found"] Ca)(Gt:FnT P w K mg base "_law_tuples_are" 2 ["_law_found","_law_due"] Ql):FnOk P w K mg base (CXe P w) 3 f fd ["_law_found","_law_due"] (Du K NH):=by
 refine Aj F Tn ?_ ?_
 ·rintro ts O Φ Ξ ⟨r,⟨n,ps,rfl,_⟩,_⟩
  rfl
 ·rintro cdv A outer s H E O Ξ hr xf _ Φ ⟨_,⟨n,ps,rfl,hl,rfl⟩,q⟩
  have hu:(A.deeper (envOfC "_law_web_is" (AA JG) s.heap.objs.size f cdv)).units+102<cLine:=by have:=hr.un;omega
  refine AD (AU (k:=false) (EW.eb (EW.cast (An (BJ (DT Tx.nIsi Tx.nTuple Dv EO (ev 0) rfl)) fun _=>An (GY (Iv Tx.nLen (ev 0)) AB) fun _=>An (BJ (EL (BB G hr xf (AH (AZ (ev 0) AB) AC) ⟨_,rfl,rfl,rfl⟩))) fun _=>BV (BD (Lj (Nat.lt_of_succ_lt hu)) (Af _) (Wm QL QL OJ) (ev 0) (ev 1))) ?_)) (fun h=>by cases h) (fun _=>AW ?_))
  ·rw[TH]
   simp[Mu,TL.QA,Lc]
  ·exact AI (AS (ET.we (BB Gt hr xf (AH (AZ (ev 0) AB) (AH (AZ (ev 1) AB) AC)) ⟨ps,rfl,hl,rfl⟩) q))
end
end K71
namespace L2.TL
open PySem PySem.Spec PyProof.Rows PySem.Builtin PySem.Builtin.Str
section
variable{Z:Zx}{ρ:List (Option T)}{O:AQ}{a b e:Expr}{p pos:Pos}{x y:Str}{i:Int}{K:PySem.W.Frag}
theorem XC:RP K aq (.str x) (.str y) O (.bl (x==y)):=fun Φ p H v w Q ok r1 r2 q=>by
 cases r1.str_inv;cases r2.str_inv
 refine⟨rfl,?_⟩
 rw[IQ]
 exact q _ H _ O p (.refl ok) (.bl _)
theorem Qm(ha:ET Z ρ O a (.str x))(hb:ET Z ρ O b (.str y)):EB Z ρ O (.Compare a [.Eq] [b] pos) (x==y):=BD JR (Af _) XC ha hb
theorem FM(ha:ET Z ρ O a (.str x))(hb:ET Z ρ O b (.str y)):EB Z ρ O (.Compare a [.NotEq] [b] pos) (!(x==y)):=BD Om (Af _) Wl ha hb
theorem XD(ha:ET Z ρ O a (.str x))(hb:ET Z ρ O b (.str y))(hm:behindInMarks .In b=false:=by rfl):ET Z ρ O (.Compare a [.In] [b] pos) (.bl (!(occurrences y x 0 y.length 1).isEmpty)):=
 GV Nh hm (fun Φ p H v w Q ok r1 r2 q=> ⟨x,y,r1.str_inv,r2.str_inv,q _ H _ O p (.refl ok) (.bl _)⟩) ha hb
theorem Qn{c:Nat}(ha:ET Z ρ O a (.str x))(hb:ET Z ρ O b (.int i))(hl:x.length≤sizeLine)(e:atI x.cps.toList i=some c)(hs:Ce b:=by exact fun _ _=>rfl):ET Z ρ O (.Subscript a b pos) (.str ⟨#[c]⟩):=
 Mm Vk hs (fun Φ p H v w Q ok r1 r2 q=> ⟨x,i,c,r1.str_inv,r2.int_inv,hl,e,q _ H _ O p (.refl ok) (.str _)⟩) ha hb
theorem EY(m:Z.X.mg "len" =none)(h:ET Z ρ O e (.str x))(hl:x.length≤sizeLine)(hg:Gl Z.X "len":=by rfl)(he:starEach [e] Z.X.env=(false,eval e Z.X.env)::starEach [] Z.X.env:=by rfl):ET Z ρ O (.Call (.Name "len" p) [e] [] pos) (.int x.length):=
 BG Ou m QD (AN h AC he) (fun Φ q H vs Q ok r k=>by
  obtain⟨v,rfl,r1⟩:=r.one_inv
  cases r1.str_inv
  exact⟨_,x.length,rfl,⟨hl,rfl⟩,k _ H _ O q (.refl ok) (.int _)⟩) hg (by decide) (by decide) he
theorem To{n:Str}(hm:∃t:Tok,Z.X.mg n=some (.str x t))(hg:Gl Z.X n:=by rfl)(hd:(n==("__debug__" :Str))=false:=by decide):ET Z ρ O (.Name n pos) (.str x):=by
 cases hm with
 |intro t hm=>exact LW (BO (v:=.str x) hg hm ⟨t,rfl⟩ hd) fun _ _=> .str x
theorem dP(K:PySem.W.Frag):PySem.W.kitOne K (.type "NoneType") (.type "str")=some false:=by kernel_rfl
theorem dQ(K:PySem.W.Frag):PySem.W.kitOne K (.type "bool") (.type "str")=some false:=by kernel_rfl
theorem dR(K:PySem.W.Frag):PySem.W.kitOne K (.type "int") (.type "str")=some false:=by kernel_rfl
theorem dS(K:PySem.W.Frag):PySem.W.kitOne K (.type "str") (.type "str")=some true:=by rfl
theorem dU(K:PySem.W.Frag):PySem.W.kitOne K (.type "tuple") (.type "str")=some false:=by kernel_rfl
theorem cI(K:PySem.W.Frag):PySem.W.kitOne K (.type "list") (.type "str")=some false:=by kernel_rfl
theorem dW(K:PySem.W.Frag):PySem.W.kitOne K (.type "dict") (.type "str")=some false:=by kernel_rfl
def NI:T→Bool
 | .str _=>true
 |_=>false
theorem NJ:Ld K "str" NI:=fun t h=>by
 cases t with
 |non=>exact dP K
 |bl b=>exact dQ K
 |int i=>exact dR K
 |str i=>exact dS K
 |tup i=>exact dU K
 |lst i=>exact cI K
 |frz i=>exact cI K
 |dct=>exact dW K
 |raw v=>cases h
end
theorem EZ(a b:Str):(a++b).cps.toList=a.cps.toList++b.cps.toList:=by
 show(a.cps++b.cps).toList=_
 simp
theorem Fn{a b:Str}(h:a.cps.toList=b.cps.toList):a=b:=by
 cases a;cases b
 simp only[Str.mk.injEq]
 exact Array.ext' h
theorem KO{c:Nat}:∀(a b X Y:List Nat),c∉a→c∉b→a++c::X=b++c::Y→a=b∧X=Y
 | [],[],X,Y,_,_,h=>by simpa using h
 | [],y::b,X,Y,_,hb,h=>by
  simp only[List.nil_append,List.cons_append,List.cons.injEq] at h
  exact absurd (h.1▸List.mem_cons_self ..) hb
 |x::a,[],X,Y,ha,_,h=>by
  simp only[List.nil_append,List.cons_append,List.cons.injEq] at h
  exact absurd (h.1▸List.mem_cons_self ..) ha
 |x::a,y::b,X,Y,ha,hb,h=>by
  simp only[List.cons_append,List.cons.injEq] at h
  obtain⟨e1,e2⟩:=KO a b X Y (fun z=>ha (List.mem_cons_of_mem _ z)) (fun z=>hb (List.mem_cons_of_mem _ z)) h.2
  exact⟨by rw[h.1,e1],e2⟩
theorem Bt{c:Nat}{a b:Str}{r:List Str}:(Str.join ⟨#[c]⟩ (a::b::r)).cps.toList=a.cps.toList++c::(Str.join ⟨#[c]⟩ (b::r)).cps.toList:=by
 rw[join_cons_cons,EZ,EZ]
 simp
theorem IF{c:Nat}:∀(A B:List Str),A≠[]→B≠[]→(∀a∈A,c∉a.cps.toList)→(∀a∈B,c∉a.cps.toList)→Str.join ⟨#[c]⟩ A=Str.join ⟨#[c]⟩ B→A=B
 | [],_,h,_,_,_,_=>absurd rfl h
 |_,[],_,h,_,_,_=>absurd rfl h
 | [a],[b],_,_,_,_,h=>by rw[show a=b from h]
 | [a],b::b2::B,_,_,ha,_,h=>by
  have e:a.cps.toList=_:=(congrArg (fun z:Str=>z.cps.toList) h).trans Bt
  exact absurd (by rw[e];simp) (ha a (List.mem_cons_self ..))
 |a::a2::A,[b],_,_,_,hb,h=>by
  have e:b.cps.toList=_:=(congrArg (fun z:Str=>z.cps.toList) h.symm).trans Bt
  exact absurd (by rw[e];simp) (hb b (List.mem_cons_self ..))
 |a::a2::A,b::b2::B,_,_,ha,hb,h=>by
  have e:=congrArg (fun z:Str=>z.cps.toList) h
  simp only[Bt] at e
  obtain⟨e1,e2⟩:=KO _ _ _ _ (ha a (List.mem_cons_self ..)) (hb b (List.mem_cons_self ..)) e
  rw[Fn e1,IF (a2::A) (b2::B) (by simp) (by simp) (fun z hz=>ha z (List.mem_cons_of_mem _ hz)) (fun z hz=>hb z (List.mem_cons_of_mem _ hz)) (Fn e2)]
theorem Qo(x y:Str):Txt.split x y≠[]:=by
 unfold Txt.split
 split
 ·simp
 ·split
  ·simp
  ·unfold partsBetween
   simp
theorem Lx{c:Nat}{A:List Str}(h0:A≠[])(hA:∀a∈A,c∉a.cps.toList):Txt.split (Txt.join ⟨#[c]⟩ A) ⟨#[c]⟩=A:=by
 have e:Txt.join ⟨#[c]⟩ A=Str.join ⟨#[c]⟩ A:=StrLaws.glued_eq_join _ A
 rw[e]
 exact IF _ A (Qo _ _) h0 (StrLaws.split_free _ c) hA (StrLaws.join_split _ _)
end L2.TL
namespace K71
open PySem L2 L2.TL PySem.Spec PyProof.Rows PySem.Builtin PySem.Builtin.Str
def nT(m:Nat):Str:=Str.ofString (toString (m:Int))
def HP:Str:="0123456789"
def ZP(m:Nat):Bool:=decide (1≤(nT m).length)&&decide ((nT m).length≤20)&&(nT m).cps.toList.all (fun c=>decide (48≤c)&&decide (c≤57)&&decide (c∈HP.cps.toList))&&decide (intText? (nT m)=some (m:Int))&&(!((nT m).cps.toList.head?==some 48)|| (nT m== "0"))
theorem Tp:(List.range 201).all ZP=true:=by decide+kernel
theorem Ly{m:Nat}(h:m≤200):1≤(nT m).length∧(nT m).length≤20∧(∀c∈(nT m).cps.toList,(48≤c∧c≤57)∧c∈HP.cps.toList)∧intText? (nT m)=some (m:Int)∧((nT m).cps.toList.head?=some 48→(nT m== "0")=true):=by
 have e:=List.all_eq_true.mp Tp m (List.mem_range.mpr (by omega))
 unfold ZP at e
 simp only[Bool.and_eq_true,decide_eq_true_eq,List.all_eq_true] at e
 obtain⟨⟨⟨⟨h1,h2⟩,h3⟩,h4⟩,h5⟩:=e
 refine⟨h1,h2,fun c hc=>?_,h4,fun hz=>?_⟩
 ·obtain⟨⟨a,b⟩,d⟩:=h3 c hc
  exact⟨⟨a,b⟩,d⟩
 ·rw[hz] at h5
  simpa using h5
theorem Xx{α:Type}{c:α}{cs:List α}:atI (c::cs) 0=some c:=BP (j:=0) rfl
section
variable{P:Program}{w:World}{K:PySem.W.Frag}{mg:Str→Option Value}{base:Heap}
theorem ZQ:(Ao ["sign"] []).Nodup:=by decide+kernel
theorem ZR:FnScope ["word"] ["word"] (AA TZ):=⟨rfl,rfl,rfl,by decide+kernel,rfl,by decide+kernel,by decide+kernel⟩
end
end K71
namespace L2.TL
open PySem PySem.Spec PyProof.Rows
section
variable{Z:Zx}{ρ:List (Option T)}{O:AQ}{e lo a:Expr}{p1 p2 pos:Pos}{t:T}{ts:List T}{i:Int}
theorem JJ(h:ET Z ρ O e (.lst ts))(h2:ET Z ρ O lo (.int i)):ET Z ρ O (.Subscript e (.Slice (some lo) none none p2) pos) (.lst (FG ts (some i) none)):=fun Φ k=>by
 refine PE.weak (Bh EC (Ac (ρ:=ρ)) (Bw (Ac (ρ:=ρ))) Dc) fun σ H0 Q q=>?_
 refine⟨O,_,h (fun t O'=>t=.lst ts∧O'=O) ⟨rfl,rfl⟩,q.1,?_⟩
 rintro v H1 _ _ ⟨rfl,rfl⟩ f1 r1
 refine⟨_,_,h2 (fun t O'=>t=.int i∧O'=_) ⟨rfl,rfl⟩,q.1.step f1,?_⟩
 rintro v2 H2 _ _ ⟨rfl,rfl⟩ f2 r2
 obtain⟨a,xs,rfl,h1,_,r1⟩:=(r1.kp f2.kp f1.ok).lst_inv
 have ff:=f1.trans f2
 exact⟨i,r2.int_inv,a,xs,rfl,.inl (.inl h1),fun l hl=>q.2 _ _ _ _ k (ff.trans (.new ff.ok hl)) (.lst AF (ff.ok.none_of hl) ((r1.cut).kp (Au ff.ok hl) ff.ok))⟩
theorem KP{ts:List T}{k:Nat}:FG ts (some (k:Int)) none=ts.drop k:=by
 unfold FG
 rw[HT.JX,HT.SR]
 rcases Nat.le_total k ts.length with h|h
 ·rw[Nat.min_eq_left h,List.take_of_length_le (by rw[List.length_drop];exact Nat.le_refl _)]
 ·rw[Nat.min_eq_right h,Nat.sub_self,List.take_zero,List.drop_of_length_le h]
theorem XF{j:Nat}(hr:CY t=false)(ha:ET Z ρ O a t):ET Z ρ O (.Compare a [.Is] [.Constant .none j p1] pos) (.bl (Hz t)):=GV On (Af _) (fun Φ p H v w Q ok r1 r2 q=>by
 refine⟨r2.non_inv,?_⟩
 have e:decide (v=V.non)=Hz t:=by
  cases r1<;>first|rfl|cases hr
 rw[e]
 exact q _ H _ O p (.refl ok) (.bl _)) ha BU
end
end L2.TL
namespace K71
open PySem L2 L2.TL PySem.Spec PyProof.Rows PySem.Builtin PySem.Builtin.Str
theorem KQ:(Str.ofString " ")=⟨#[32]⟩:=by decide+kernel
theorem KR:(Str.ofString "\n")=⟨#[10]⟩:=by decide+kernel
theorem KS{c B:Nat}{A:List Str}(h:∀a∈A,a.length≤B):(Txt.join ⟨#[c]⟩ A).length≤A.length*(B+1):=by
 have e:Txt.join ⟨#[c]⟩ A=Str.join ⟨#[c]⟩ A:=StrLaws.glued_eq_join _ A
 rw[e]
 have h1:=StrLaws.join_length_le ⟨#[c]⟩ A
 have h2:=StrLaws.sumLen_le A h
 have h3:(⟨#[c]⟩:Str).length=1:=rfl
 rw[h3] at h1
 rw[Nat.mul_add]
 omega
section
variable{P:Program}{w:World}{K:PySem.W.Frag}{mg:Str→Option Value}{base:Heap}
theorem ZS:(Ao ["each"] []).Nodup:=by decide+kernel
theorem ZT:(Ao ["number"] []).Nodup:=by decide+kernel
def FX(wd:Str)(ms:List Nat):Str:=Txt.join ⟨#[32]⟩ (wd::ms.map nT)
structure RowOk(wd:Str)(ms:List Nat):Prop where
 few:ms.length≤5
 nums:∀m∈ms,m≤200
 free:∀c∈wd.cps.toList,33≤c
 short:wd.length≤20
theorem Qp{m:Nat}(h:m≤200){c:Nat}(hc:c∈(nT m).cps.toList):48≤c:=((Ly h).2.2.1 c hc).1.1
theorem RowOk.len(r:RowOk wd ms):(FX wd ms).length≤126:=by
 have:=KS (c:=32) (B:=20) (A:=wd::ms.map nT) fun a ha=>by
  rcases List.mem_cons.mp ha with rfl|ha
  ·exact r.short
  ·obtain⟨m,hm,rfl⟩:=List.mem_map.mp ha
   exact(Ly (r.nums m hm)).2.1
 have h2:=r.few
 simp only[List.length_cons,List.length_map] at this
 unfold FX
 omega
theorem Gv:FnScope ["row","word","many","words","numbers"] ["row","word","many"] (AA EU):=⟨rfl,rfl,rfl,by decide+kernel,rfl,by decide+kernel,by decide+kernel⟩
end
theorem Gx{i:Int}(h:0≤i):Str.ofString (toString i)=nT i.toNat:=by unfold nT;rw[Int.toNat_of_nonneg h]
theorem Tq:(Str.ofString "web ").cps.toList=(Str.ofString "web").cps.toList++[32]:=by decide+kernel
theorem Tr:(Str.ofString "tie ").cps.toList=(Str.ofString "tie").cps.toList++[32]:=by decide+kernel
theorem Qq:(Str.ofString " ").cps.toList=[32]:=by decide+kernel
theorem NK{wd:Str}{m k:Nat}:(FX wd [m,k]).cps.toList=wd.cps.toList++32::((nT m).cps.toList++32::(nT k).cps.toList):=by
 unfold FX
 rw[show Txt.join ⟨#[32]⟩ (wd::[m,k].map nT)=Str.join ⟨#[32]⟩ [wd,nT m,nT k] from StrLaws.glued_eq_join _ _,Bt,Bt]
 rfl
theorem Qr{m k:Nat}{a b:Str}(ha:a=nT m)(hb:b=nT k):Str.ofString "web " ++a++Str.ofString " " ++b=FX "web" [m,k]:=by
 subst ha hb
 refine Fn ?_
 simp only[EZ,NK,Tq,Qq]
 simp
theorem Qs{m k:Nat}{a b:Str}(ha:a=nT m)(hb:b=nT k):Str.ofString "tie " ++a++Str.ofString " " ++b=FX "tie" [m,k]:=by
 subst ha hb
 refine Fn ?_
 simp only[EZ,NK,Tr,Qq]
 simp
structure WebS(n:Int)(ps:List (Int×Int)):Prop where
 n0:1≤n
 n1:n≤16
 pr:∀p∈ps,IE n p
 up:ps.Pairwise Yx
 few:ps.length≤200
def ZU(p:Int×Int):Str:=FX "tie" [p.1.toNat,p.2.toNat]
def BZ(n:Int)(ps:List (Int×Int)):List Str:=FX "web" [n.toNat,ps.length]::ps.map ZU
def FR(n:Int)(ps:List (Int×Int)):Str:=Txt.join ⟨#[10]⟩ (BZ n ps)
theorem Qt{n:Int}{ps:List (Int×Int)}(h:WebS n ps):RowOk "web" [n.toNat,ps.length]:=⟨by show 2≤5;decide,by
 have h1:=h.n1;have h2:=h.few
 intro m hm
 simp only[List.mem_cons,List.not_mem_nil,or_false] at hm
 rcases hm with rfl|rfl<;>omega,by decide+kernel,by decide+kernel⟩
theorem Qu{n:Int}{ps:List (Int×Int)}(h:WebS n ps){p:Int×Int}(hp:p∈ps):RowOk "tie" [p.1.toNat,p.2.toNat]:=⟨by show 2≤5;decide,by
 have h1:=h.n1;have h2:=h.pr p hp
 unfold IE at h2
 intro m hm
 simp only[List.mem_cons,List.not_mem_nil,or_false] at hm
 rcases hm with rfl|rfl<;>omega,by decide+kernel,by decide+kernel⟩
theorem KU{n:Int}{ps:List (Int×Int)}(h:WebS n ps):∀a∈BZ n ps,a.length≤126:=fun a ha=>by
 rcases List.mem_cons.mp ha with rfl|ha
 ·exact(Qt h).len
 ·obtain⟨p,hp,rfl⟩:=List.mem_map.mp ha
  exact(Qu h hp).len
theorem KW{wd:Str}{ms:List Nat}(r:RowOk wd ms):10∉(FX wd ms).cps.toList:=fun hc=>by
 have aux:∀A:List Str,(∀a∈A,10∉a.cps.toList)→10∉(Str.join ⟨#[32]⟩ A).cps.toList:=by
  intro A
  induction A with
  |nil=>intro _ h;simp[Str.join,Str.empty] at h
  |cons a A ih=>
   intro hA h
   cases A with
   |nil=>exact hA a (List.mem_cons_self ..) h
   |cons b B=>
    rw[Bt] at h
    rcases List.mem_append.mp h with h|h
    ·exact hA a (List.mem_cons_self ..) h
    ·rcases List.mem_cons.mp h with h|h
     ·cases h
     ·exact ih (fun z hz=>hA z (List.mem_cons_of_mem _ hz)) h
 unfold FX at hc
 rw[show Txt.join ⟨#[32]⟩ (wd::ms.map nT)=Str.join ⟨#[32]⟩ (wd::ms.map nT) from StrLaws.glued_eq_join _ _] at hc
 refine aux _ (fun a ha h=>?_) hc
 rcases List.mem_cons.mp ha with rfl|ha
 ·have:=r.free 10 h;omega
 ·obtain⟨m,hm,rfl⟩:=List.mem_map.mp ha
  have:=Qp (r.nums m hm) h;omega
theorem Lz{n:Int}{ps:List (Int×Int)}(h:WebS n ps):Txt.split (FR n ps) ⟨#[10]⟩=BZ n ps:=Lx (by simp[BZ]) fun a ha=>by
 rcases List.mem_cons.mp ha with rfl|ha
 ·exact KW (Qt h)
 ·obtain⟨p,hp,rfl⟩:=List.mem_map.mp ha
  exact KW (Qu h hp)
theorem Qv{n:Int}{ps:List (Int×Int)}(h:WebS n ps):(FR n ps).length≤30000:=by
 have h1:=KS (c:=10) (B:=126) (KU h)
 have h2:=h.few
 have h3:(BZ n ps).length=ps.length+1:=by simp[BZ]
 unfold FR
 rw[h3] at h1
 omega
theorem OR{n:Int}{ps:List (Int×Int)}(h:WebS n ps):JoinOk ⟨#[10]⟩ (BZ n ps)=true:=by
 unfold JoinOk
 have h2:=h.few
 have h3:(BZ n ps).length=ps.length+1:=by simp[BZ]
 rw[StrLaws.joinFits (KU h) (by rw[h3,show(⟨#[10]⟩:Str).length=1 from rfl];omega)]
 rfl
theorem Dg{i:Int}(h0:0≤i)(h1:i≤200):i.natAbs.log2<1920:=by
 obtain⟨m,rfl⟩:=Int.eq_ofNat_of_zero_le h0
 rw[Int.natAbs_natCast]
 by_cases hm:m=0
 ·subst hm;decide
 ·exact(Nat.log2_lt hm).mpr (Nat.lt_of_le_of_lt (show m≤200 by omega) (by decide+kernel))
theorem Ea{i:Int}(h0:0≤i)(h1:i≤200):(Str.ofString (toString i)).length≤20:=by rw[Gx h0];exact(Ly (by omega)).2.1
section
variable{P:Program}{w:World}{K:PySem.W.Frag}{mg:Str→Option Value}{base:Heap}
theorem bh:(Str.ofString "web ").length=4:=by decide+kernel
theorem ZV:(Str.ofString "tie ").length=4:=by decide+kernel
theorem ZW:(Str.ofString " ").length=1:=by decide+kernel
def NL:DI:=Mp fun ts r=>∃n ps,WebS n ps∧ts=[Gm n ps]∧r=.str (FR n ps)
end
section
variable{P:Program}{w:World}{K:PySem.W.Frag}{mg:Str→Option Value}{base:Heap}
theorem XG:(Ao ["_law_a","_law_b"] []).Nodup:=by decide+kernel
theorem Dh{a b:Str}:(a++b).length=a.length+b.length:=strLen_append ..
theorem Qw:FnScope ["_law_web","_law_rows"] ["_law_web"] (AA ND):=⟨rfl,rfl,rfl,by decide+kernel,rfl,by decide+kernel,by decide+kernel⟩
theorem Ts{f:Addr}{fd:FuncData}(F:Fun K "_law_text_of" "_law_text_of" ND f fd)(Tx:Txt mg):FnOk P w K mg base (CXe P w) 1 f fd ["_law_web"] (Du K NL):=by
 refine Aj F Qw ?_ ?_
 ·rintro ts O Φ Ξ ⟨r,⟨n,ps,_,rfl,_⟩,_⟩
  rfl
 ·rintro cdv A outer s H E O Ξ hr xf _ Φ ⟨_,⟨n,ps,wb,rfl,rfl⟩,q⟩
  have sb:=AX
  have n0:=wb.n0
  have n1:=wb.n1
  have hf:=wb.few
  have hp0:(0:Int)≤(ps.length:Int):=Int.natCast_nonneg _
  have hlen:(ps.map AE).length=ps.length:=List.length_map ..
  have a1:=Ea (i:=n) (by omega) (by omega)
  have a2:=Ea (i:=(ps.length:Int)) hp0 (by omega)
  have l1:=bh
  have l2:=ZW
  have l3:=ZV
  refine AD (AO 1 (ET.we (t:=.lst ((BZ n ps).map T.str)) (ET.cast (CF (BN (ts:=[.str (FX "web" [n.toNat,ps.length])]) (AH (ET.cast (Ak (Ak (Ak AK (Fk Tx.nStr (AZ (ev 0) AB) (Dg (i:=n) (by omega) (by omega))) (by omega)) AK (by rw[Dh];omega)) (Fk Tx.nStr (ET.cast (Iv Tx.nLen (AZ (ev 0) AB)) (by rw[hlen])) (Dg (i:=(ps.length:Int)) hp0 (by omega))) (by rw[Dh,Dh];omega)) ?_) AC) (by show 1≤sizeLine;decide)) (Bq (g:=fun p=> .str (ZU p)) ["_law_a","_law_b"] [] ps AE rfl (Dj (AA ND) ["_law_web","_law_rows"] (by decide+kernel)) (Iq (AZ (ev 0) AB)) (by omega) fun p hp=> ⟨[some (.int p.1),some (.int p.2)],fun X' Oe He is O'=>?_⟩) ?_) ?_) ?_) Qw.nd)
  ·rw[Qr (Gx (by omega)) (Gx hp0),Int.toNat_natCast]
  ·obtain⟨cl,s',H',fp,rfl⟩:=is
   have hq:=wb.pr p hp
   unfold IE at hq
   have b1:=Ea (i:=p.1) (by omega) (by omega)
   have b2:=Ea (i:=p.2) (by omega) (by omega)
   refine⟨Ip 0 1 rfl XG (by decide) (by decide),ET.cast (Ak (Ak (Ak AK (Fk Tx.nStr (ev 0) (Dg (i:=p.1) (by omega) (by omega))) (by omega)) AK (by rw[Dh];omega)) (Fk Tx.nStr (ev 1) (Dg (i:=p.2) (by omega) (by omega))) (by rw[Dh,Dh];omega)) ?_⟩
   rw[Qs (Gx (by omega)) (Gx (by omega))]
   rfl
  ·simp;omega
  ·simp[BZ]
  ·exact AI (AS (ET.we (JC (ET.cast (AK (x:=Str.ofString "\n")) (congrArg T.str KR)) (ev 1) (OR wb)) q))
end
end K71
namespace L2
open PySem PySem.Spec PyProof.Rows
theorem Tt{X:Cx}{a:Expr}{ta:TE}{pos:Pos}(ha:PE X a ta):PE X (.UnaryOp .Not a pos) (fun σ H Q=>ta σ H fun x H'=>∃k,SN X.K x H' k∧Q (.bl (!k)) H'):=by
 intro pins s σ H Q I h
 refine UnaryOp_ (Ae (ha pins s σ H _ I h) fun v s1 ⟨x,H1,I1,r1,q1⟩=>?_)
 obtain⟨k,tr,q⟩:=q1
 exact not_of (wpAny_mono (Ot pins s1 σ H1 x v (fun c H'=>Q (.bl (!c)) H') I1 r1 ⟨k,tr,q⟩) (fun c s2 ⟨H2,I2,q2⟩=> ⟨.bl (!c),H2,I2,rfl,q2⟩) fun _ _ e=>e)
end L2
namespace L2.TL
open PySem PySem.Spec PyProof.Rows
theorem NM{Z:Zx}{ρ:List (Option T)}{O:AQ}{a:Expr}{t:T}{pos:Pos}{k:Bool}(ha:ET Z ρ O a t)(tr:TruT O t k):ET Z ρ O (.UnaryOp .Not a pos) (.bl (!k)):=fun Φ p=>
 PE.weak (Tt Ac) fun σ H Q q=> ⟨O,_,ha (fun t' O'=>t'=t∧O'=O) ⟨rfl,rfl⟩,q.1,fun v H1 t1 O1 ⟨e1,e2⟩ f r=>by
  subst e1;subst e2
  exact⟨k,tr.v r f.ok,q.2 _ H1 _ _ p f (.bl _)⟩⟩
open PySem.Calls
end L2.TL
namespace K71
open PySem L2 L2.TL PySem.Spec PyProof.Rows PySem.Builtin PySem.Builtin.Str
def Dl(x:Str):Prop:=x.cps.all (· <128)=true
theorem Al{x:Str}:Dl x↔∀c∈x.cps.toList,c<128:=by
 unfold Dl
 rw[←Array.all_toList,List.all_eq_true]
 simp
theorem KY{c:Nat}:∀(A:List Str) (a:Str),a∈A→∀d∈a.cps.toList,d∈(Str.join ⟨#[c]⟩ A).cps.toList
 | [],a,h,_,_=>by cases h
 | [b],a,h,d,hd=>by
  rw[List.mem_singleton.mp h] at hd
  show d∈(Str.join _ [b]).cps.toList
  simpa[Str.join] using hd
 |b::b2::B,a,h,d,hd=>by
  rw[Bt]
  rcases List.mem_cons.mp h with rfl|h
  ·exact List.mem_append_left _ hd
  ·exact List.mem_append_right _ (List.mem_cons_of_mem _ (KY (b2::B) a h d hd))
theorem Cc{x:Str}{c:Nat}(h:Dl x):∀a∈Txt.split x ⟨#[c]⟩,Dl a:=fun a ha=>by
 rw[Al] at h ⊢
 intro d hd
 have:=KY (c:=c) (Txt.split x ⟨#[c]⟩) a ha d hd
 rw[StrLaws.join_split] at this
 exact h d this
theorem CH{x:Str}{c:Nat}:∀a∈Txt.split x ⟨#[c]⟩,a.length≤x.length:=fun a ha=>by
 have h:=split_weight x ⟨#[c]⟩ (by show 1≤1;decide)
 have h1:=split_pos x ⟨#[c]⟩
 have h2:∀(L:List Str),a∈L→a.length≤(L.map (·.length)).sum:=fun L=>by
  induction L with
  |nil=>intro h;cases h
  |cons b L ih=>
   intro h
   simp only[List.map_cons,List.sum_cons]
   rcases List.mem_cons.mp h with rfl|h
   ·omega
   ·have:=ih h;omega
 have:=h2 _ ha
 omega
theorem DB{x:Str}{c:Nat}:(Txt.split x ⟨#[c]⟩).length≤x.length+1:=by
 have h:=split_weight x ⟨#[c]⟩ (by show 1≤1;decide)
 omega
theorem Dx{x:Str}{c:Nat}:∃a A,Txt.split x ⟨#[c]⟩=a::A:=by
 cases e:Txt.split x ⟨#[c]⟩ with
 |nil=>have:=split_pos x ⟨#[c]⟩;rw[e] at this;simp at this
 |cons a A=>exact⟨a,A,rfl⟩
theorem Tu:HP.cps.toList=[48,49,50,51,52,53,54,55,56,57]:=by decide+kernel
theorem Tv:(Str.ofString "0")=⟨#[48]⟩:=by decide+kernel
def HQ(x:Str):Bool:=(x.cps.toList.map fun c=>decide (c∈HP.cps.toList)).all id
theorem Qx{x:Str}(h:HQ x=true):NumText.AllDigits x.cps.toList:=fun c hc=>by
 have:=List.all_eq_true.mp h _ (List.mem_map.mpr ⟨c,hc,rfl⟩)
 have:=of_decide_eq_true this
 rw[Tu] at this
 simp only[List.mem_cons,List.not_mem_nil,or_false] at this
 omega
def Dy(x:Str):Bool:=!((x.cps.toList.head?==some 48)&&!(x==Str.ofString "0"))
def CI(x:Str):Bool:=(decide ((1:Int)≤(x.length:Int))&&decide ((x.length:Int)≤20))&&(HQ x&&Dy x)
def Az(x:Str):Option Int:=if CI x=true then some ((NumText.digitsVal x.cps.toList:Nat):Int) else none
theorem NN{x:Str}{i:Int}(h:Az x=some i):0≤i:=by
 unfold Az at h
 split at h
 ·cases h
  exact Int.natCast_nonneg _
 ·cases h
theorem NO{x:Str}(h:(1:Int)≤(x.length:Int)):∃c cs,x.cps.toList=c::cs:=by
 cases e:x.cps.toList with
 |nil=>
  have h0:x.cps.toList.length=0:=by rw[e];rfl
  rw[Array.length_toList] at h0
  have h1:x.length=x.cps.size:=rfl
  omega
 |cons c cs=>exact⟨c,cs,rfl⟩
theorem NP{c:Nat}:((⟨#[c]⟩:Str)==Str.ofString "0")=(some c==some 48):=by
 rw[Tv,Bool.eq_iff_iff,beq_iff_eq,beq_iff_eq]
 simp
section
variable{P:Program}{w:World}{K:PySem.W.Frag}{mg:Str→Option Value}{base:Heap}
def Qy:DI:=Mp fun ts r=>∃x,ts=[.str x]∧Dl x∧x.length≤100000∧r=DX (Az x)
theorem Tw{f:Addr}{fd:FuncData}(F:Fun K "number_in" "number_in" TZ f fd)(Tx:Txt mg):FnOk P w K mg base (CXe P w) 1 f fd ["word"] (Du K Qy):=by
 refine Aj F ZR ?_ ?_
 ·rintro ts O Φ Ξ ⟨r,⟨x,rfl,_⟩,_⟩
  rfl
 ·rintro cdv A outer s H E O Ξ hr xf _ Φ ⟨_,⟨x,rfl,ha,hl,rfl⟩,q⟩
  have hz:x.length≤sizeLine:=Nat.le_trans hl (by decide)
  refine AD (AU (k:=!(decide ((1:Int)≤(x.length:Int))&&decide ((x.length:Int)≤20))||!HQ x) (EW.eb (An (BJ (Su AB (EY Tx.nLen (ev 0) hz) (Ml Tx.iMF))) fun _=>BV (BJ (EL (Le (bs:=x.cps.toList.map fun c=>decide (c∈HP.cps.toList)) Tx.nAll rfl ?_))))) (fun h=>AI (AS (ET.we BU ?_))) fun h=>AW ?_)
  ·rw[List.map_map]
   exact Bq ["sign"] [] x.cps.toList (fun c=> .str ⟨#[c]⟩) _ rfl (Dj (AA TZ) ["word"] (by decide+kernel)) (QZ ha (ev 0)) (by show x.length≤_;exact hz) fun c hc=> ⟨[some (.str ⟨#[c]⟩)],fun X' Oe He is O'=>by
    obtain⟨cl,s',H',fp,rfl⟩:=is
    exact⟨Ab 0 ZQ (by decide),ET.cast (XD (ev 0) (To (x:=HP) Tx.iFg)) (by rw[StrLaws.found_one];rfl)⟩⟩
  ·have:CI x=false:=by
    unfold CI
    cases h1:(decide ((1:Int)≤(x.length:Int))&&decide ((x.length:Int)≤20))
    ·rfl
    ·rw[h1] at h
     have:HQ x=false:=by simpa using h
     rw[this]
     rfl
   unfold Az at q
   rw[if_neg (by rw[this];decide)] at q
   exact q
  ·rw[Bool.or_eq_false_iff] at h
   have h1:(decide ((1:Int)≤(x.length:Int))&&decide ((x.length:Int)≤20))=true:=by simpa using h.1
   have h2:HQ x=true:=by simpa using h.2
   have h3:=Bool.and_eq_true_iff.mp h1
   have l1:=of_decide_eq_true h3.1
   have l2:=of_decide_eq_true h3.2
   obtain⟨c,cs,ec⟩:=NO l1
   have ew:CI x=Dy x:=by unfold CI;rw[h1,h2];rfl
   refine AD (AU (k:=!Dy x) (EB.cast (EW.eb (GZ (Qm (Qn (c:=c) (ev 0) AB hz (by rw[ec];exact Xx)) AK) fun _=>EM (FM (ev 0) AK))) ?_) (fun h=>AI (AS (ET.we BU ?_))) fun h=>AW ?_)
   ·rw[NP]
    unfold Dy
    rw[ec,Bool.not_not]
    rfl
   ·have:CI x=false:=by rw[ew];simpa using h
    unfold Az at q
    rw[if_neg (by rw[this];decide)] at q
    exact q
   ·have:CI x=true:=by rw[ew];simpa using h
    unfold Az at q
    rw[if_pos this] at q
    refine AI (AS (ET.we (NB Tx.nInt (ev 0) (intText_digits (Qx h2) (by rw[ec];simp) (by omega)) (by omega)) q))
def BS(row wd:Str):Option (Int×Int):=match Txt.split row ⟨#[32]⟩ with
 | [w0,a,b]=>if w0=wd then(match Az a,Az b with
  |some i,some j=>some (i,j)
  |_,_=>none) else none
 |_=>none
def Eb:Option (Int×Int)→T
 |some p=>AE p
 |none=> .non
def Qz:DI:=Mp fun ts r=>∃row wd,ts=[.str row,.str wd,.int 2]∧Dl row∧row.length≤90000∧r=Eb (BS row wd)
theorem Tz{x:Option Int}:Hz (DX x)=x.isNone:=by cases x<;>rfl
theorem UA{x:Option Int}:CY (DX x)=false:=by cases x<;>rfl
theorem UB{f:Addr}{fd:FuncData}(F:Fun K "numbers_behind" "numbers_behind" EU f fd)(Tx:Txt mg)(G:FnT P w K mg base "number_in" 1 ["word"] Qy):FnOk P w K mg base (CXe P w) 2 f fd ["row","word","many"] (Du K Qz):=by
 refine Aj F Gv ?_ ?_
 ·rintro ts O Φ Ξ ⟨r,⟨row,wd,rfl,_⟩,_⟩
  rfl
 ·rintro cdv A outer s H E O Ξ hr xf _ Φ ⟨_,⟨row,wd,rfl,ha,hl,rfl⟩,q⟩
  have sz:100001≤sizeLine:=by decide
  have hm:=DB (x:=row) (c:=32)
  have hA:=Cc (c:=32) ha
  have hS:=CH (x:=row) (c:=32)
  refine AD (AO 3 (ET.we (t:=.lst ((Txt.split row ⟨#[32]⟩).map T.str)) (DW (ev 0) (ET.cast (AK (x:=Str.ofString " ")) (congrArg T.str KQ)) rfl (by omega) (by omega)) ?_) Gv.nd)
  unfold BS at q
  obtain⟨w0,ws,eW⟩:=Dx (x:=row) (c:=32)
  rw[eW] at hm hA hS q ⊢
  refine AD (AO 4 (ET.we (t:=.tup (ws.map fun w=>DX (Az w))) (QE Tx.nTuple ?_) ?_) Gv.nd)
  ·refine Bq ["each"] [] ws (fun w=> .str w) _ rfl (Dj (AA EU) ["row","word","many","words","numbers"] (by decide+kernel)) ?_ (by simp at hm;omega) fun w hw=> ⟨[some (.str w)],fun X' Oe He is O'=>?_⟩
   ·rw[show ws.map (fun w=>T.str w)=FG ((w0::ws).map T.str) (some 1) none from by
     rw[show(some (1:Int))=some ((1:Nat):Int) from rfl,KP]
     simp]
    exact Cw (JJ (ev 3) AB)
   ·obtain⟨cl,s',H',fp,rfl⟩:=is
    have h1:=hS w (List.mem_cons_of_mem _ hw)
    exact⟨Ab 0 ZS (by decide),BB G (hr.mono (by decide)) Iy (AH (ev 0) AC) ⟨w,rfl,hA w (List.mem_cons_of_mem _ hw),by omega,rfl⟩⟩
  ·refine AD (AU (k:=!(w0==wd)|| (!decide (((ws.map fun w=>DX (Az w)).length:Int)=2)|| (ws.map fun w=> (Az w).isNone).any id)) (EW.eb (An (FM (x:=w0) (y:=wd) (Bp (ev 3) AB Xx) (ev 1)) fun _=>An (GY (Iv Tx.nLen (ev 4)) (ev 2)) fun _=>BV (EL (Wc (bs:=ws.map fun w=> (Az w).isNone) Tx.nAny rfl ?_)))) (fun h=>AI (AS (ET.we BU ?_))) fun h=>AW ?_)
   ·rw[List.map_map]
    refine Bq ["number"] [] ws (fun w=>DX (Az w)) _ rfl (Dj (AA EU) ["row","word","many","words","numbers"] (by decide+kernel)) (Iq (ev 4)) (by simp at hm;omega) fun w hw=> ⟨[some (DX (Az w))],fun X' Oe He is O'=>?_⟩
    obtain⟨cl,s',H',fp,rfl⟩:=is
    exact⟨Ab 0 ZT (by decide),ET.cast (XF UA (ev 0)) (by rw[Tz];rfl)⟩
   ·have:Eb (match w0::ws with| [w0,a,b]=>if w0=wd then(match Az a,Az b with|some i,some j=>some (i,j)|_,_=>none) else none|_=>none)=.non:=by
     match ws,h with
     | [],_=>rfl
     | [_],_=>rfl
     | [a,b],h=>
      by_cases e:w0=wd
      ·subst e
       cases e1:Az a<;>cases e2:Az b<;>simp[e1,e2,Eb] at h ⊢
      ·simp[e,Eb]
     |_::_::_::_,_=>rfl
    rw[this] at q
    exact q
   ·match ws,h with
    | [],h=>simp at h
    | [_],h=>simp at h
    | [a,b],h=>
     simp only[List.map_cons,List.map_nil,List.any_cons,List.any_nil,_root_.id,Bool.or_false,Bool.or_eq_false_iff] at h
     have e:w0=wd:=by simpa using h.1
     subst e
     cases e1:Az a with
     |none=>rw[e1] at h;simp at h
     |some i=>
      cases e2:Az b with
      |none=>rw[e2] at h;simp at h
      |some j=>
       simp only[e1,e2,if_true] at q
       exact AI (AS (ET.we (ET.cast (ev 4) (by simp only[List.map_cons,List.map_nil,e1,e2];rfl)) q))
    |_::_::_::_,h=>
     simp at h
     omega
end
theorem RA{b:Bool}(h:(!b)=true):b=false:=by cases b with|false=>rfl|true=>cases h
def OY(n:Int)(qs:List (Int×Int))(p:Int×Int):Bool:=(decide (p.1<p.2)&&decide (p.2<n))&&(match qs.getLast? with
 |none=>true
 |some z=>HT.BE [z.1,z.2] [p.1,p.2])
abbrev Rd:=Sum Int (Int×List (Int×Int))
def RB(n m:Int):List Str→Nat→List (Int×Int)→Rd
 | [],k,ts=>if(ts.length:Int)<m then .inl (k:Int) else .inr (n,ts)
 |r::rs,k,ts=>match BS r "tie" with
  |none=> .inl (k:Int)
  |some p=>if decide ((ts.length:Int)=m)||!OY n ts p then .inl (k:Int) else RB n m rs (k+1) (ts++[p])
def Dm(x:Str):Rd:=match Txt.split x ⟨#[10]⟩ with
 | []=> .inl 0
 |r0::rs=>match BS r0 "web" with
  |none=> .inl 1
  |some p=>if decide (1≤p.1)&&decide (p.1≤16) then RB p.1 p.2 rs 2 [] else .inl 1
section
variable{P:Program}{w:World}{K:PySem.W.Frag}{mg:Str→Option Value}{base:Heap}{CT fi:Addr}
def VD:DI:=fun ts O Φ _=>∃(n:Int) (l:Addr) (qs:List (Int×Int)) (p:Int×Int),ts=[.int n,.raw (.ref l),AE p]∧O l=some (qs.map AE)∧Φ (.bl (OY n qs p)) O
theorem ZX:FnScope ["many","ties","tie"] ["many","ties","tie"] (AA NC):=⟨rfl,rfl,rfl,by decide+kernel,rfl,by decide+kernel,by decide+kernel⟩
theorem XH{f:Addr}{fd:FuncData}(F:Fun K "goes_on" "goes_on" NC f fd)(Tx:Txt mg):FnOk P w K mg base (CXe P w) 1 f fd ["many","ties","tie"] (Du K VD):=by
 refine Aj F ZX ?_ ?_
 ·rintro ts O Φ Ξ ⟨n,l,qs,p,rfl,_⟩
  rfl
 ·rintro cdv A outer s H E O Ξ hr xf _ Φ ⟨n,l,qs,p,rfl,hl,q⟩
  have hu:(A.deeper (envOfC "goes_on" (AA NC) s.heap.objs.size f cdv)).units+8<cLine:=by have:=hr.un;omega
  refine AD (AU (k:=!(decide (p.1<p.2)&&decide (p.2<n))) (BJ (Ju MQ MQ (x:=decide (p.1<p.2)) (y:=decide (p.2<n)) DS (fun _=>DS) (AZ (t:=.int p.1) (ev 2) AB) (AZ (t:=.int p.2) (ev 2) AB) fun _=>ev 0)) (fun h=>AI (AS (ET.we Mk ?_))) fun h=>AW ?_)
  ·have h:=RA h
   unfold OY at q
   rw[h] at q
   exact q
  ·have h:(decide (p.1<p.2)&&decide (p.2<n))=true:=by simpa using h
   unfold OY at q
   rw[h] at q
   rcases List.eq_nil_or_concat qs with rfl| ⟨rs,z,rfl⟩
   ·refine AI (AS (ET.we (ET.cast (Ur (x:=true) (y:=true) (ET.cast (NM (t:=.raw (.ref l)) (k:=false) (ev 1) ⟨_,hl,rfl⟩) rfl) fun h=>by cases h) rfl) q))
   ·rw[List.concat_eq_append,List.getLast?_append] at q
    refine AI (AS (ET.we (ET.cast (Ur (x:=false) (y:=HT.BE [z.1,z.2] [p.1,p.2]) (ET.cast (NM (t:=.raw (.ref l)) (k:=true) (ev 1) ⟨_,hl,by simp⟩) rfl) fun _=>Ga (We (ns:=[z.1,z.2]) (ms:=[p.1,p.2]) (Nat.lt_of_le_of_lt (Nat.le_add_right _ 8) hu) (Cv hl (ev 1) (LY AB) ?_) (ev 2))) rfl) q))
    rw[List.concat_eq_append,List.map_append]
    exact Ow (α:=T) _ _
def ZY:List Str:=["text","rows","head","ties","number","row","tie"]
def ZZ(CT:Addr)(r:Rd)(O:AQ)(Φ:BR)(Ξ:Value→AQ→Prop):Prop:=match r with
 | .inl k=>Ξ (TR CT k) O
 | .inr z=>Φ (Gm z.1 z.2) O
def NQ(CT:Addr):DI:=fun ts O Φ Ξ=>∃t,ts=[t]∧((NI t=false∧CY t=false∧Ξ (TR CT 0) O)∨∃x,t=.str x∧Dl x∧x.length≤80000∧ZZ CT (Dm x) O Φ Ξ)
theorem Di:FnScope ZY ["text"] (AA Qa):=⟨rfl,rfl,rfl,by decide+kernel,rfl,by decide+kernel,by decide+kernel⟩
theorem RC{rs:List Str}{i:Nat}{t:T}(e:(DG 2 (rs.map T.str))[i]?=some t):∃r,rs[i]?=some r∧t=.tup [.int ((2+i:Nat):Int),.str r]:=by
 unfold DG at e
 rw[List.getElem?_map,List.getElem?_zipIdx,List.getElem?_map] at e
 cases ep:rs[i]? with
 |none=>rw[ep] at e;cases e
 |some p=>
  rw[ep] at e
  have e:=(Option.some.inj e).symm
  refine⟨p,rfl,?_⟩
  rw[e]
  simp
theorem RD{ts:List T}{k:Nat}:(DG k ts).length=ts.length:=by simp[DG]
theorem RE{f:Addr}{fd:FuncData}(F:Fun K "web_read" "web_read" Qa f fd)(Tx:Txt mg)(c:XCl P w K mg base "NoText" CT fi ["row"])(Gw:FnT P w K mg base "is_whole" 2 ["thing","least","most"] NG)(G:FnT P w K mg base "numbers_behind" 2 ["row","word","many"] Qz)(Gg:FnT P w K mg base "goes_on" 2 ["many","ties","tie"] VD):FnOk P w K mg base (CXe P w) 3 f fd ["text"] (Du K (NQ CT)):=by
 refine TC F Di ?_ ?_
 ·rintro ts O Φ Ξ ⟨t,rfl,_⟩
  rfl
 ·rintro cdv A outer s H E O Ξ hr xo _ Φ ⟨t,rfl,q⟩
  have xf:=xo.f
  have sz:100001≤sizeLine:=by decide
  rcases q with⟨h1,h2,q⟩| ⟨x,rfl,ha,hl,q⟩
  ·exact AD (AU (k:=true) (EB.cast (BJ (DT (t:=t) Tx.nIsi Tx.nStr QU NJ (ev 0) h2)) (by rw[h1];rfl)) (fun _=>AI (Bd xo rfl c hr (is:=[0]) (AH AB AC) rfl (DA 0) q)) (fun h=>by cases h))
  refine AD (AU (k:=false) (BJ (DT (t:=.str x) Tx.nIsi Tx.nStr QU NJ (ev 0) rfl)) (fun h=>by cases h) fun _=>AW ?_)
  have hm:=DB (x:=x) (c:=10)
  have hA:=Cc (c:=10) ha
  have hS:=CH (x:=x) (c:=10)
  refine AD (AO 1 (ET.we (t:=.lst ((Txt.split x ⟨#[10]⟩).map T.str)) (DW (ev 0) (ET.cast (AK (x:=Str.ofString "\n")) (congrArg T.str KR)) rfl (by omega) (by omega)) ?_) Di.nd)
  obtain⟨r0,rs,eR⟩:=Dx (x:=x) (c:=10)
  unfold Dm at q
  rw[eR] at hm hA hS q ⊢
  have h0:=hS r0 (List.mem_cons_self ..)
  refine AD (AO 2 (ET.we (t:=Eb (BS r0 "web")) (BB G hr xf (AH (Bp (t:=.str r0) (ev 1) AB Xx) (AH AK (AH AB AC))) ⟨r0,"web",rfl,hA r0 (List.mem_cons_self ..),by omega,rfl⟩) ?_) Di.nd)
  cases eh:BS r0 "web" with
  |none=>
   simp only[eh] at q
   exact AD (AU (k:=true) (EB.cast (EW.eb (An (y:=true) (DV (t:=.non) rfl (ev 2)) fun h=>by cases h)) rfl) (fun _=>AI (Bd xo rfl c hr (is:=[1]) (AH AB AC) rfl (DA 1) q)) (fun h=>by cases h))
  |some p=>
   simp only[eh] at q
   refine AD (AU (k:=!(decide (1≤p.1)&&decide (p.1≤16))) (EB.cast (EW.eb (An (DV (t:=AE p) rfl (ev 2)) fun _=>BV (BJ (EL (BB Gw hr xf (AH (AZ (t:=.int p.1) (ev 2) AB) (AH AB (AH (Ml Tx.iMP) AC))) ⟨.int p.1,1,16,rfl,rfl,rfl⟩))))) rfl) (fun h=>?_) fun h=>AW ?_)
   ·have h:=RA h
    rw[if_neg (by rw[h];decide)] at q
    exact AI (Bd xo rfl c hr (is:=[1]) (AH AB AC) rfl (DA 1) q)
   ·have h:(decide (1≤p.1)&&decide (p.1≤16))=true:=by simpa using h
    rw[if_pos h] at q
    refine AD (AO 3 (EK (Av ⟨Nat.zero_le _,fun l hlO=>?_⟩)) Di.nd)
    have ne0:O l=none:=hlO
    have ed:FG ((r0::rs).map T.str) (some 1) none=rs.map T.str:=by
     rw[show(some (1:Int))=some ((1:Nat):Int) from rfl,KP]
     simp
    refine AD (FE BQ.own rfl (EI.wi (ts:=DG 2 (rs.map T.str)) (Eq.subst (motive:=fun z=>EI _ _ _ _ _ (DG 2 z)) ed (QX (k0:=2) (by decide) Tx.nEnum (JJ (ev 1) AB) rfl)) ⟨fun j ρ' O'=>j≤rs.length∧∃(v4 v5 v6:Option T) (ts:List (Int×Int)),ρ'=[some (.str x),some (.lst ((r0::rs).map T.str)),some (AE p),some (.raw (.ref l)),v4,v5,v6]∧O'=BM O l (ts.map AE)∧ts.length=j∧ZZ CT (RB p.1 p.2 (rs.drop j) (2+j) ts) O Φ Ξ,⟨by omega,_,_,_,[],rfl,rfl,rfl,q⟩,?_,?_⟩))
    ·rintro j t _ _ e ⟨_,v4,v5,v6,ts,rfl,rfl,htl,q⟩
     obtain⟨r,er,rfl⟩:=RC e
     have hj:j<rs.length:=(List.getElem?_eq_some_iff.mp er).1
     have hrm:r∈r0::rs:=List.mem_cons_of_mem _ (List.mem_of_getElem? er)
     have h1:=hS r hrm
     have hrl:rs.length≤x.length:=by simp at hm;omega
     have edr:rs.drop j=r::rs.drop (j+1):=by
      rw[List.drop_eq_getElem_cons hj]
      congr 1
      rw[List.getElem?_eq_getElem hj] at er
      exact Option.some.inj er
     rw[edr,RB] at q
     refine⟨[some (.str x),some (.lst ((r0::rs).map T.str)),some (AE p),some (.raw (.ref l)),some (.int ((2+j:Nat):Int)),some (.str r),v6],Ip 4 5 rfl Di.nd (by show 4<7;decide) (by show 5<7;decide),?_⟩
     refine AD (AO 6 (ET.we (t:=Eb (BS r "tie")) (BB G hr xf (AH (ev 5) (AH AK (AH AB AC))) ⟨r,"tie",rfl,hA r hrm,by omega,rfl⟩) ?_) Di.nd)
     cases ep:BS r "tie" with
     |none=>
      simp only[ep] at q
      refine AD (AU (k:=true) (EB.cast (EW.eb (An (y:=true) (DV (t:=.non) rfl (ev 6)) fun h=>by cases h)) rfl) (fun _=>?_) (fun h=>by cases h))
      refine EN (p:=l) (n:=3) (ts:=ts.map AE) AJ hlO rfl ?_
      rw[Ad ne0]
      exact AI (Bd xo rfl c hr (is:=[((2+j:Nat):Int)]) (AH (ev 4) AC) rfl (DA _) q)
     |some p'=>
      simp only[ep] at q
      refine AD (AU (k:=decide ((ts.length:Int)=p.2)||!OY p.1 ts p') (EB.cast (EW.eb (An (DV (t:=AE p') rfl (ev 6)) fun _=>An (CS (ER Tx.nLen (ev 3) AJ) (AZ (t:=.int p.2) (ev 2) AB)) fun _=>BV (BJ (EL (Fd (t:=.bl (OY p.1 ts p')) Gg hr xf (AH (AZ (t:=.int p.1) (ev 2) AB) (AH (ev 3) (AH (ev 6) AC))) fun Φ' h=> ⟨p.1,l,ts,p',rfl,AJ,h⟩))))) ?_) (fun h=>?_) (fun h=>AW ?_))
      ·rw[List.length_map]
       rfl
      ·rw[if_pos h] at q
       refine EN (p:=l) (n:=3) (ts:=ts.map AE) AJ hlO rfl ?_
       rw[Ad ne0]
       exact AI (Bd xo rfl c hr (is:=[((2+j:Nat):Int)]) (AH (ev 4) AC) rfl (DA _) q)
      ·rw[if_neg (by rw[h];decide)] at q
       refine AI (Ff (FD (ET.we (ev 3) ⟨l,rfl,⟨_,AJ⟩,ET.we (ev 6) ⟨_,AJ,by rw[List.length_map];omega,⟨by omega,_,_,_,ts++[p'],rfl,?_,by simp[htl],?_⟩⟩⟩)))
       ·rw[Cq,List.map_append]
        rfl
       ·rw[show 2+(j+1)=2+j+1 from rfl]
        exact q
    ·rintro _ _ ⟨_,v4,v5,v6,ts,rfl,rfl,htl,q⟩
     have e:(DG 2 (rs.map T.str)).length=rs.length:=by rw[RD,List.length_map]
     rw[e] at htl q
     rw[List.drop_length,RB] at q
     refine AD (AU (k:=decide ((ts.length:Int)<p.2)) (EB.cast (Mn (ER Tx.nLen (ev 3) AJ) (AZ (t:=.int p.2) (ev 2) AB)) (by rw[List.length_map])) (fun h=>?_) fun h=>AW ?_)
     ·rw[if_pos (of_decide_eq_true h)] at q
      refine EN (p:=l) (n:=3) (ts:=ts.map AE) AJ hlO rfl ?_
      rw[Ad ne0]
      have e2:(((r0::rs).map T.str).length:Int)+1=((2+rs.length:Nat):Int):=by simp;omega
      refine AI (Bd xo rfl c hr (is:=[(((r0::rs).map T.str).length:Int)+1]) (AH (Ai (CD Tx.nLen (ev 1)) AB) AC) rfl (DA _) ?_)
      rw[e2]
      exact q
     ·rw[if_neg (of_decide_eq_false h)] at q
      refine AI (Cz (l:=l) hlO (ET.we (Dt (AH (AZ (t:=.int p.1) (ev 2) AB) (AH (Hw Tx.nTuple AJ (ev 3)) AC))) ?_))
      rw[Ad ne0]
      exact q
end
end K71
namespace L2
open PySem PySem.Spec PyProof.Rows
section
variable{X:Cx}
theorem KZ:Aw X (.type "range") (fun vs H Q=>∃k l:Int,vs=[.int k,.int l]∧∀p,H p=none→Q (.ref p) (upd H p (.rng k l))):=by
 intro pins s σ H vs us Q I r h
 obtain⟨k,l,rfl,q⟩:=h
 obtain⟨u1,u2,rfl,⟨t1,rfl⟩,⟨t2,rfl⟩⟩:=MR r
 have hf:H s.heap.objs.size=none:=I.hok.fresh (Nat.le_refl _)
 exact call_range_2 ⟨.ref s.heap.objs.size,upd H s.heap.objs.size (.rng k l),I.laid (fun b u e=>Heap.get?_push_of_some _ e) (Nat.le_refl _) ⟨_,_,_,Heap.get?_push_size _ rfl⟩,rfl,q _ hf⟩
theorem RF{a b i:Int}:(Builtin.Range.rangePlace? a b 1 i).isSome=(decide (a≤i)&&decide (i<b)):=by
 unfold Builtin.Range.rangePlace?
 by_cases h:a≤i∧i<b
 ·simp[h.1,h.2,Int.emod_one]
 ·by_cases h1:a≤i
  ·have:¬i<b:=fun z=>h ⟨h1,z⟩
   simp[h1,this]
  ·simp[h1]
def Za:R2:=fun x y H Q=>∃(i:Int) (a:Addr) (lo hi:Int),x=.int i∧y=.ref a∧H a=some (.rng lo hi)∧Q (.bl (!(decide (lo≤i)&&decide (i<hi)))) H
theorem UC:Bv X (compareOp .NotIn) Za:=by
 intro pins s σ H x y v u Q I rx ry h
 obtain⟨i,a,lo,hi,rfl,rfl,ha,q⟩:=h
 obtain⟨tk,rfl⟩:=rx
 cases ry
 obtain⟨t1,t2,t3,hr⟩:=(show ObjOk X.prog X.w H s.heap a (.rng lo hi) from I.hok a _ ha)
 have hT:s.TypeIs (.ref a) "range":=⟨_,hr,rfl⟩
 show wpAny _ _ (do return Value.bool (!(←contains (.ref a) (.int i tk)))) _ _ s
 refine wpAny_bind ?_
 unfold contains
 refine wpAny_holding ?_
 show wpAny _ _ (specialOf (.ref a) (Str.ofString "__contains__")>>=_) _ _ s
 refine wpAny_bind (wpAny_specialOf hT PySem.F.slot_range_contains.lookup ?_)
 show wpAny _ _ (if(some (Value.builtin "range.__contains__")==some Value.none)=true then _ else _) _ _ s
 rw[if_neg (by rw[beq_builtin_none];exact Bool.false_ne_true)]
 refine wpAny_bind (wpAny_callSpecialUnlessNone?_slot (name:=Str.ofString "__contains__") hT PySem.F.slot_range_contains
  (wpAny_call_entry PySem.F.slot_range_contains hT PySem.F.entry_range_contains ?_ (PySem.F.args_range_contains_2 _ _)))
 show wpAny _ _ (rule "range.contains.reckoned" >>=_) _ _ s
 refine wpAny_bind (wpAny_rule ?_)
 show wpAny _ _ (Builtin.Range.rangeFields (.ref a)>>=_) _ _ s
 refine wpAny_bind ?_
 show wpAny _ _ (field (.ref a) 0>>=_) _ _ s
 refine wpAny_bind (wpAny_field hr rfl (x:=.int lo t1) rfl ?_)
 refine wpAny_bind (wpAny_of_eq (a:=some lo) rfl ?_)
 refine wpAny_bind (wpAny_field hr rfl (x:=.int hi t2) rfl ?_)
 refine wpAny_bind (wpAny_of_eq (a:=some hi) rfl ?_)
 refine wpAny_bind (wpAny_field hr rfl (x:=.int 1 t3) rfl ?_)
 refine wpAny_bind (wpAny_of_eq (a:=some 1) rfl ?_)
 refine wpAny_pure ?_
 refine wpAny_pure ⟨_,rfl,wpAny_truthy_bool (wpAny_pure ?_)⟩
 rw[RF]
 exact⟨.bl _,H,I,rfl,q⟩
end
end L2
namespace L2.TL
open PySem PySem.Spec PyProof.Rows
section
variable{Z:Zx}{ρ:List (Option T)}{O:AQ}{a b c:Expr}{p pos pos1:Pos}{i k l:Int}
theorem NR(m:Z.X.mg "range" =none)(ha:ET Z ρ O a (.int i))(hb:ET Z ρ O b (.int k))(hc:ET Z ρ O c (.int l))(hg:Gl Z.X "range":=by rfl)
  (he:starEach [b,c] Z.X.env=(false,eval b Z.X.env)::starEach [c] Z.X.env:=by rfl) (he2:starEach [c] Z.X.env=(false,eval c Z.X.env)::starEach [] Z.X.env:=by rfl) (hpl:(backTo pos1 (starEach [c] Z.X.env)).any (·.1)=false:=by rfl)
  (hm:behindInMarks .NotIn (.Call (.Name "range" p) [b,c] [] pos1)=false:=by rfl):EB Z ρ O (.Compare a [.NotIn] [.Call (.Name "range" p) [b,c] [] pos1] pos) (!(decide (k≤i)&&decide (i<l))):=fun Φ q=>by
 refine PT.weak (FY UC (ha (fun t O'=>t=.int i∧O'=O) ⟨rfl,rfl⟩) (Em KZ hg m Wb (FW (ρ:=ρ)) (by decide) (by decide) he hpl) hm) fun σ H Q k'=> ⟨k'.1,?_⟩
 rintro v H1 _ _ ⟨rfl,rfl⟩ f1 r1
 cases r1.int_inv
 refine⟨_,_,AN hb (AN hc AC he2) he (fun ts O'=>ts=[.int k,.int l]∧O'=_) ⟨rfl,rfl⟩,k'.1.step f1,?_⟩
 rintro vs H2 _ _ ⟨rfl,rfl⟩ f2 r
 obtain⟨v1,v2,rfl,q1,q2⟩:=r.two_inv
 cases q1.int_inv
 cases q2.int_inv
 refine⟨k,l,rfl,fun p hp=> ⟨i,p,k,l,rfl,rfl,AF,_,rfl,?_⟩⟩
 have f3:=Frm.new (o:=.rng k l) f2.ok hp
 exact k'.2 _ _ _ q (f1.trans (f2.trans f3))
end
end L2.TL
namespace HT
open PySem PySem.Spec PyProof.Rows
theorem RG(A:Around)(s:Shared)(a:Int)(t:Tok)(c:Int)(u:Tok)(prog:Program)(w:World)(E:Value→Shared→Prop)(Q:Value→Shared→Prop)(h:Q (.bool (decide (c≤a))) s):
  wpAny (model prog w) A (richCompare .GtE (.int a t) (.int c u)) Q E s:=
 (PyProof.Rows.ge_int h:wpAny (model prog w) A (compareOp .GtE (.int a t) (.int c u)) Q E s)
section
open PySem.SeqAt
open PySem.AutoSeq1 (wpAny_loadPart')
open PySem.MeetsSeq PySem.MeetsSeq2 PySem.MeetsSeq3
theorem HR(l b:Addr)(items items2:Array Value)(n n2:Nat)(dd dd2:Option Addr)(sl sl2:Array (Option Value))(ns ms:List Int)(hi:IntsAre items.toList ns)(hj:IntsAre items2.toList ms):
  Meets (Builtin.«tuple.__ge__» ⟨[.ref l,.ref b],[]⟩)
   (fun _ R s=>s.heap.get? l=some {cls:=.type "tuple",dict:=dd,data:=.seq items n,slots:=sl}∧s.heap.get? b=some {cls:=.type "tuple",dict:=dd2,data:=.seq items2 n2,slots:=sl2}∧
    R (.ok (.ret (.bool (BL ms ns)))) s):=
 .of_wp fun prog w A R s h=>by
  obtain⟨hp,g,d,tk,os⟩:=s;obtain⟨hl,hb,h⟩:=h
  have f2:=AutoSeq1.sub_tuple_tuple
  have z1:items.size=ns.length:=by rw[←hi.length];simp
  have z2:items2.size=ms.length:=by rw[←hj.length];simp
  wp_walk using wpAny_loadPart' hl,wpAny_loadPart' hb,wpAny_forIn_list _ (fun rest b s'=>b.1=none∧s'=⟨hp,g,d,tk,os⟩∧∃(vs ws:List Value) (ns' ms':List Int),rest=vs.zip ws∧
   IntsAre vs ns'∧IntsAre ws ms'∧ns'.length+items2.size=ms'.length+items.size∧R (.ok (.ret (.bool (BL ms' ns')))) ⟨hp,g,d,tk,os⟩) _
  case turn=>
   rintro⟨y,x⟩ rest b s' ⟨hb',rfl,vs,ws,ns',ms',hz,hvi,hwi,hlen,hR⟩
   cases hvi with
   |nil=>rw[List.zip_nil_left] at hz;cases hz
   |cons a t hvi'=>
    cases hwi with
    |nil=>rw[List.zip_nil_right] at hz;cases hz
    |cons c u hwi'=>
     rw[List.zip_cons_cons] at hz
     injection hz with hyx hrest
     injection hyx with hy hx
     subst hy hx
     rw[Cp] at hR
     simp only[List.length_cons] at hlen
     obtain⟨e,he,hiff⟩:=JW A.in1 ⟨hp,g,d,tk,os⟩ a t c u
     refine wpAny_bind (he prog w _ _ ?_)
     cases e with
     |true=>
      rw[if_pos (hiff.mp rfl).symm] at hR
      wp_walk
      exact⟨rfl,rfl,_,_,_,_,hrest,hvi',hwi',by omega,hR⟩
     |false=>
      rw[if_neg (fun q=>absurd (hiff.mpr q.symm) Bool.false_ne_true)] at hR
      have hri:=RG A.in1 ⟨hp,g,d,tk,os⟩ a t c u prog w
      wp_walk using hri
      exact⟨_,rfl,by simpa using hR⟩
  case fin=>
   rintro⟨b1,b2⟩ s' ⟨hb',rfl,vs,ws,ns',ms',hz,hvi,hwi,hlen,hR⟩
   simp only at hb'
   subst hb'
   have hv:BL ms' ns'=decide (items.size≥items2.size):=by
    cases hvi with
    |nil=>
     cases hwi with
     |nil=>
      simp only[List.length_nil] at hlen
      rw[HI]
      exact(decide_eq_true (by omega)).symm
     |cons c u hw=>
      simp only[List.length_nil,List.length_cons] at hlen
      rw[GU]
      exact(decide_eq_false (by omega)).symm
    |cons a t hv=>
     cases hwi with
     |nil=>
      simp only[List.length_nil,List.length_cons] at hlen
      rw[GT]
      exact(decide_eq_true (by omega)).symm
     |cons c u hw=>
      rw[List.zip_cons_cons] at hz
      cases hz
   rw[hv] at hR
   wp_walk
   exact⟨_,rfl,by simpa[Builtin.Tuple.tupleCompareSizes] using hR⟩
  case h=>
   exact⟨rfl,rfl,items.toList,items2.toList,ns,ms,rfl,hi,hj,by omega,h⟩
theorem RH(l b:Addr)(items items2:Array Value)(n n2:Nat)(dd dd2:Option Addr)(sl sl2:Array (Option Value))(i:Nat)(hi:items.size≤i):
  Meets (Builtin.«list.__eq__.loop» ⟨[.ref l,.ref b,rawInt i,rawInt 5],[]⟩)
   (fun A R s=>s.heap.get? l=some {cls:=.type "list",dict:=dd,data:=.seq items n,slots:=sl}∧s.heap.get? b=some {cls:=.type "list",dict:=dd2,data:=.seq items2 n2,slots:=sl2}∧
    R (.ok (.ret (.bool (decide (items2.size≤items.size))))) s):=by
 intro prog w A R s h
 obtain⟨hp,g,d,tk,os⟩:=s;obtain⟨hl,hb,h⟩:=h
 wp_walk using wpAny_loadPart' hl,wpAny_loadPart' hb
 have hi1:items[((i:Nat):Int).toNat]?=none:=by simp;omega
 rw[hi1]
 wp_walk using wpAny_loadPart' hl,wpAny_loadPart' hb
 show R (.ok (.ret (.bool (decide (items.size≥items2.size))))) _
 exact h
def Zb(A:Around)(s:Shared)(y x:Value)(b:Bool):Prop:=
 ∀(prog:Program) (w:World) (E:Value→Shared→Prop) (Q:Value→Shared→Prop),Q (.bool b) s→wpAny (model prog w) A (richCompare .GtE y x) Q E s
theorem XI(l b:Addr)(items items2:Array Value)(x y:Value)(n n2:Nat)(dd dd2:Option Addr)(sl sl2:Array (Option Value))(e g:Bool)(hx:items= #[x])(hy:items2= #[y]):
  Meets (Builtin.«list.__eq__.loop» ⟨[.ref l,.ref b,rawInt ((0:Nat):Int),rawInt 5],[]⟩)
   (fun A R s=>s.heap.get? l=some {cls:=.type "list",dict:=dd,data:=.seq items n,slots:=sl}∧s.heap.get? b=some {cls:=.type "list",dict:=dd2,data:=.seq items2 n2,slots:=sl2}∧
    EqAt A.in1 s x y e∧Zb A.in1 s x y g∧R (.ok (.ret (.bool (e||g)))) s):=by
 intro prog w A R s h
 obtain⟨hp,gn,d,tk,os⟩:=s;obtain⟨hl,hb,he,hg,h⟩:=h
 wp_walk using wpAny_loadPart' hl,wpAny_loadPart' hb
 have hi1:items[(((0:Nat):Int)).toNat]?=some x:=by rw[hx];rfl
 have hi2:items2[(((0:Nat):Int)).toNat]?=some y:=by rw[hy];rfl
 rw[hi1,hi2]
 refine wpAny_bind (he prog w _ _ ?_)
 cases e with
 |true=>
  wp_walk
  exact⟨plainId_quiet plain_eq_loop _,codeAny_builtin entry_eq_loop (by
   rw[Around.under_plainId plain_eq_loop _]
   exact RH l b items items2 n n2 dd dd2 sl sl2 1 (by rw[hx];exact Nat.le_refl _) prog w A R _ ⟨hl,hb,by simpa[hx,hy] using h⟩)⟩
 |false=>
  wp_walk using wpAny_loadPart' hl,wpAny_loadPart' hb
  rw[hi1,hi2]
  refine wpAny_bind (hg prog w _ _ ?_)
  wp_walk
  simpa using h
theorem RI(l b:Addr)(items2:Array Value)(n n2:Nat)(dd dd2:Option Addr)(sl sl2:Array (Option Value))(h1:items2.size=1):
  Meets (Builtin.«list.__ge__» ⟨[.ref l,.ref b],[]⟩)
   (fun A R s=>s.heap.get? l=some {cls:=.type "list",dict:=dd,data:=.seq #[] n,slots:=sl}∧s.heap.get? b=some {cls:=.type "list",dict:=dd2,data:=.seq items2 n2,slots:=sl2}∧
    R (.ok (.ret (.bool false))) s):=by
 intro prog w A R s h
 obtain⟨hp,g,d,tk,os⟩:=s;obtain⟨hl,hb,h⟩:=h
 have f2:=AutoSeq1.sub_list_list
 wp_walk using wpAny_loadPart' hl,wpAny_loadPart' hb
 exact⟨plainId_quiet plain_eq_loop _,codeAny_builtin entry_eq_loop (by
  rw[Around.under_plainId plain_eq_loop _]
  exact RH l b #[] items2 n n2 dd dd2 sl sl2 0 (Nat.zero_le _) prog w A R _ ⟨hl,hb,by simpa[h1] using h⟩)⟩
theorem RJ(l b:Addr)(x y:Value)(n n2:Nat)(dd dd2:Option Addr)(sl sl2:Array (Option Value))(e g:Bool):
  Meets (Builtin.«list.__ge__» ⟨[.ref l,.ref b],[]⟩)
   (fun A R s=>s.heap.get? l=some {cls:=.type "list",dict:=dd,data:=.seq #[x] n,slots:=sl}∧s.heap.get? b=some {cls:=.type "list",dict:=dd2,data:=.seq #[y] n2,slots:=sl2}∧
    EqAt A.in1 s x y e∧Zb A.in1 s x y g∧R (.ok (.ret (.bool (e||g)))) s):=by
 intro prog w A R s h
 obtain⟨hp,gn,d,tk,os⟩:=s;obtain⟨hl,hb,he,hg,h⟩:=h
 have f2:=AutoSeq1.sub_list_list
 wp_walk using wpAny_loadPart' hl,wpAny_loadPart' hb
 exact⟨plainId_quiet plain_eq_loop _,codeAny_builtin entry_eq_loop (by
  rw[Around.under_plainId plain_eq_loop _]
  exact XI l b #[x] #[y] x y n n2 dd dd2 sl sl2 e g rfl rfl prog w A R _ ⟨hl,hb,he,hg,h⟩)⟩
theorem MA{prog:Program}{w:World}{A:Around}{E:Value→Shared→Prop}{s:Shared}{l b:Addr}{items items2:Array Value}{ns ms:List Int}{Q:Value→Shared→Prop}(hl:IsTup s.heap l items)(hb:IsTup s.heap b items2)(hi:IntsAre items.toList ns)(hj:IntsAre items2.toList ms)
  (hu:A.units<cLine) (h:Q (.bool (BL ms ns)) s):wpAny (model prog w) A (richCompare .GtE (.ref l) (.ref b)) Q E s:=by
 obtain⟨⟨cls,dd,data,sl⟩,ho,hc,n,hd⟩:=id hl
 obtain⟨⟨cls2,dd2,data2,sl2⟩,ho2,hc2,n2,hd2⟩:=id hb
 simp only at hc hd hc2 hd2
 subst hc hd hc2 hd2
 exact richCompare_meets_room (op:=.GtE) ⟨_,ho,rfl⟩ ⟨_,ho2,rfl⟩ PySem.F.slot_tuple_ge PySem.F.entry_tuple_ge (PySem.F.args_tuple_ge_2 _ _) (HR l b items items2 n n2 dd dd2 sl sl2 ns ms hi hj)
  ⟨ho,ho2,show Value.bool (BL ms ns)≠Value.notImplemented∧Q (.bool (BL ms ns)) s from⟨(fun x=>nomatch x),h⟩⟩ hu
end
end HT
namespace L2.TL
open PySem PySem.Spec PyProof.Rows
theorem Gy:∀ns:List Int,HT.BL ns ns=true
 | []=>rfl
 |n::ns=>by rw[HT.Cp,if_pos rfl];exact Gy ns
theorem RL{A:Around}:A.in1.units≤A.units+1:=by
 first|exact Nat.le_refl _|exact Nat.le_succ _| (unfold Around.in1;simp)
def aL(zs:List (Int×Int))(p:Int×Int):Bool:=match zs with
 | []=>false
 |z::_=>HT.BL [p.1,p.2] [z.1,z.2]
section
variable{X:Cx}
def bj(K:PySem.W.Frag):R2:=fun x y H Q=>∃(O:AQ) (zs:List (Int×Int)) (p:Int×Int),Rep K O H x (.lst (zs.map AE))∧Rep K O H y (.lst [AE p])∧zs.length≤1∧Q (.bl (aL zs p)) H
theorem XJ(hu:X.A.units+101<cLine):Bv X (compareOp .GtE) (bj X.K):=by
 intro pins s σ H x y v u Q I rx ry h
 obtain⟨O,zs,p,r1,r2,hz,q⟩:=h
 obtain⟨a,xs,rfl,ha,_,q1⟩:=r1.lst_inv
 obtain⟨b,ys,rfl,hb,_,q2⟩:=r2.lst_inv
 cases rx;cases ry
 obtain⟨its,v1,p1,_⟩:=I.list (show SqL X.K H a xs from .inl (.inl ha))
 obtain⟨its2,v2,p2,_⟩:=I.list (show SqL X.K H b ys from .inl (.inl hb))
 obtain⟨y1,rfl,q3⟩:=q2.one_inv
 obtain⟨u2,rfl,ru2⟩:=Vals.one v2
 obtain⟨⟨cls,dd,data,sl⟩,ho,hc,n,hd⟩:=p1.isList
 obtain⟨⟨cls2,dd2,data2,sl2⟩,ho2,hc2,n2,hd2⟩:=p2.isList
 simp only at hc hd hc2 hd2
 subst hc hd hc2 hd2
 cases zs with
 |nil=>
  cases q1
  cases v1
  exact richCompare_meets_room (op:=.GtE) ⟨_,ho,rfl⟩ ⟨_,ho2,rfl⟩ PySem.F.slot_list_ge PySem.F.entry_list_ge (PySem.F.args_list_ge_2 _ _) (HT.RI a b _ n n2 dd dd2 sl sl2 rfl)
   ⟨ho,ho2,(fun z=>nomatch z),.bl _,H,I,rfl,q⟩ (by omega)
 |cons z zs=>
  cases zs with
  |cons _ _=>simp at hz
  |nil=>
   obtain⟨x1,rfl,q4⟩:=q1.one_inv
   obtain⟨u1,rfl,ru1⟩:=Vals.one v1
   have hrz:De (AE z)=true:=JB z
   have hrp:De (AE p)=true:=JB p
   obtain⟨as,ra⟩:=Rep.rd I.hok q4 hrz ru1
   obtain⟨bs,rb⟩:=Rep.rd I.hok q3 hrp ru2
   obtain⟨d1,w1,rfl,hd1,g1⟩:=q4.tup_inv
   obtain⟨d2,w2,rfl,hd2,g2⟩:=q3.tup_inv
   cases ru1;cases ru2
   have e1:w1=[z.1,z.2].map V.int:=by
    obtain⟨k1,k2,rfl,k3,k4⟩:=g1.two_inv
    rw[k3.int_inv,k4.int_inv];rfl
   have e2:w2=[p.1,p.2].map V.int:=by
    obtain⟨k1,k2,rfl,k3,k4⟩:=g2.two_inv
    rw[k3.int_inv,k4.int_inv];rfl
   subst e1 e2
   obtain⟨jts,s1,t1,_⟩:=I.tuple (show Fs X.K H d1 _ from .inl (.inl hd1))
   obtain⟨jts2,s2,t2,_⟩:=I.tuple (show Fs X.K H d2 _ from .inl (.inl hd2))
   have fin:(PyData.eqv (dT (AE z)) (dT (AE p))||HT.BL [p.1,p.2] [z.1,z.2])=HT.BL [p.1,p.2] [z.1,z.2]:=by
    rw[KC]
    by_cases hzp:z=p
    ·subst hzp
     rw[Gy]
     simp
    ·rw[decide_eq_false hzp];rfl
   refine richCompare_meets_room (op:=.GtE) ⟨_,ho,rfl⟩ ⟨_,ho2,rfl⟩ PySem.F.slot_list_ge PySem.F.entry_list_ge (PySem.F.args_list_ge_2 _ _) (HT.RJ a b _ _ n n2 dd dd2 sl sl2 (PyData.eqv (dT (AE z)) (dT (AE p))) (HT.BL [p.1,p.2] [z.1,z.2]))
    ⟨ho,ho2,?_,fun prog w E Q' hq=>HT.MA t1 t2 (Bg s1) (Bg s2) ?_ hq,?_⟩ (by omega)
   ·exact SeqAt.eqAt_reads _ _ _ _ _ _ _ _ ra rb (Dw _ hrz) (Dw _ hrp) (by
     have e:X.A.in1.units≤X.A.units+1:=RL
     have e3:(dT (AE z)).depth=1:=rfl
     have e4:=Nat.min_le_left (dT (AE z)).depth (dT (AE p)).depth
     omega)
   ·have e:X.A.in1.units≤X.A.units+1:=RL
    omega
   ·rw[fin]
    exact⟨(fun z=>nomatch z),.bl _,H,I,rfl,q⟩
end
section
variable{Z:Zx}{ρ:List (Option T)}{O:AQ}{a b:Expr}{pos:Pos}{zs:List (Int×Int)}{p:Int×Int}
theorem XM(hu:Z.X.A.units+101<cLine)(hz:zs.length≤1)(ha:ET Z ρ O a (.lst (zs.map AE)))(hb:ET Z ρ O b (.lst [AE p])):EB Z ρ O (.Compare a [.GtE] [b] pos) (aL zs p):=
 BD (XJ hu) (Af _) (fun Φ q H v w Q ok r1 r2 acc=> ⟨O,zs,p,r1,r2,hz,acc _ H _ O q (.refl ok) (.bl _)⟩) ha hb
end
open PySem.Builtin.Str
theorem UD{Z:Zx}{ρ:List (Option T)}{O:AQ}{a b:Expr}{pos:Pos}{x y:Str}(ha:ET Z ρ O a (.str x))(hb:ET Z ρ O b (.str y))(hm:behindInMarks .NotIn b=false:=by rfl):EB Z ρ O (.Compare a [.NotIn] [b] pos) (!(!(occurrences y x 0 y.length 1).isEmpty)):=
 BD IR hm (fun Φ p H v w Q ok r1 r2 q=> ⟨x,y,r1.str_inv,r2.str_inv,q _ H _ O p (.refl ok) (.bl _)⟩) ha hb
end L2.TL
namespace K71
open PySem L2 L2.TL PySem.Spec PyProof.Rows PySem.Builtin PySem.Builtin.Str
theorem XN:((List.range 128).all fun c=>PyData.strOk ⟨#[c]⟩)=true:=by decide+kernel
theorem XO{c:Nat}(h:c<128):De (.str ⟨#[c]⟩)=true:=by
 rw[De]
 exact List.all_eq_true.mp XN c (List.mem_range.mpr h)
def Xy(cs:List Nat):List T:=cs.map fun c=> .str ⟨#[c]⟩
theorem XQ{cs:List Nat}(h:∀c∈cs,c<128):rdBs (Xy cs)=true:=KB.mpr fun t ht=>by
 obtain⟨c,hc,rfl⟩:=List.mem_map.mp ht
 exact XO (h c hc)
theorem NS:∀{cs:List Nat},PyData.depthAll (dTs (Xy cs))=0
 | []=>rfl
 |c::cs=>by
  show PyData.depthAll (dT (.str ⟨#[c]⟩)::dTs (Xy cs))=0
  rw[PyData.depthAll,NS]
  rfl
theorem UE{cs:List Nat}:PyData.eqv (dT (.lst (Xy cs))) (dT (.lst []))=cs.isEmpty:=by
 cases cs with
 |nil=>decide+kernel
 |cons c cs=>
  show PyData.eqvAll (dTs (Xy (c::cs))) []=false
  rfl
theorem MB{x:Str}:(x.cps.toList.filter fun c=>!decide (c∈HP.cps.toList)).isEmpty=HQ x:=by
 unfold HQ
 induction x.cps.toList with
 |nil=>rfl
 |cons c cs ih=>
  rw[List.map_cons,List.all_cons,List.filter_cons]
  by_cases h:c∈HP.cps.toList
  ·rw[decide_eq_true h]
   simpa using ih
  ·rw[decide_eq_false h]
   rfl
section
variable{P:Program}{w:World}{K:PySem.W.Frag}{mg:Str→Option Value}{base:Heap}
theorem Zc:(Ao ["_law_sign"] []).Nodup:=by decide+kernel
theorem Zd:FnScope ["_law_word"] ["_law_word"] (AA Qb):=⟨rfl,rfl,rfl,by decide+kernel,rfl,by decide+kernel,by decide+kernel⟩
def VE:DI:=Mp fun ts r=>∃x,ts=[.str x]∧Dl x∧x.length≤20∧r=DX (Az x)
theorem XR{f:Addr}{fd:FuncData}(F:Fun K "_law_value" "_law_value" Qb f fd)(Tx:Txt mg):FnOk P w K mg base (CXe P w) 1 f fd ["_law_word"] (Du K VE):=by
 refine Aj F Zd ?_ ?_
 ·rintro ts O Φ Ξ ⟨r,⟨x,rfl,_⟩,_⟩
  rfl
 ·rintro cdv A outer s H E O Ξ hr xf _ Φ ⟨_,⟨x,rfl,ha,hl,rfl⟩,q⟩
  have hu:(A.deeper (envOfC "_law_value" (AA Qb) s.heap.objs.size f cdv)).units+101<cLine:=by have:=hr.un;omega
  have hz:x.length≤sizeLine:=Nat.le_trans hl (by decide)
  have hc:=Al.mp ha
  have l20:decide ((x.length:Int)≤20)=true:=decide_eq_true (by omega)
  have l61:decide ((x.length:Int)<61)=true:=decide_eq_true (by omega)
  refine AD (AU (k:=!decide ((1:Int)≤(x.length:Int))||!HQ x) (EB.cast (EW.eb (An (NR Tx.nRange (EY Tx.nLen (ev 0) hz) AB AB) fun _=>BV (BD (Lj hu) (Af _) (Wm (t:=.lst (Xy (x.cps.toList.filter fun c=>!decide (c∈HP.cps.toList)))) (u:=.lst []) (by rw[De];exact XQ fun c h=>hc c (List.mem_filter.mp h).1) rfl (by show PyData.depthAll _+1≤100;rw[NS];decide)) (Lf ["_law_sign"] [] x.cps.toList (fun c=> .str ⟨#[c]⟩) (fun c=> .str ⟨#[c]⟩) (fun c=>!decide (c∈HP.cps.toList)) rfl (Dj (AA Qb) ["_law_word"] (by decide+kernel)) (QZ ha (ev 0)) (by show x.length≤_;exact hz) fun c hcm=> ⟨[some (.str ⟨#[c]⟩)],fun X' Oe He is O'=>?_⟩) (BN AC (Nat.zero_le _))))) ?_) (fun h=>AI (AS (ET.we BU ?_))) fun h=>AW ?_)
  ·obtain⟨cl,s',H',fp,rfl⟩:=is
   exact⟨Ab 0 Zc (by decide),EB.cast (UD (ev 0) AK) (by rw[StrLaws.found_one];rfl),fun _=>ev 0⟩
  ·rw[l61,UE,MB,Bool.and_true]
  ·have:CI x=false:=by
    unfold CI
    rw[l20]
    cases h1:decide ((1:Int)≤(x.length:Int))
    ·rfl
    ·rw[h1] at h
     have:HQ x=false:=by simpa using h
     rw[this]
     rfl
   unfold Az at q
   rw[if_neg (by rw[this];decide)] at q
   exact q
  ·rw[Bool.or_eq_false_iff] at h
   have h1:decide ((1:Int)≤(x.length:Int))=true:=by simpa using h.1
   have h2:HQ x=true:=by simpa using h.2
   obtain⟨c,cs,ec⟩:=NO (of_decide_eq_true h1)
   have ew:CI x=Dy x:=by unfold CI;rw[h1,h2,l20];rfl
   refine AD (AU (k:=!Dy x) (EB.cast (EW.eb (GZ (Qm (Qn (c:=c) (ev 0) AB hz (by rw[ec];exact Xx)) AK) fun _=>EM (FM (ev 0) AK))) ?_) (fun h=>AI (AS (ET.we BU ?_))) fun h=>AW ?_)
   ·rw[NP]
    unfold Dy
    rw[ec,Bool.not_not]
    rfl
   ·have:CI x=false:=by rw[ew];simpa using h
    unfold Az at q
    rw[if_neg (by rw[this];decide)] at q
    exact q
   ·have:CI x=true:=by rw[ew];simpa using h
    unfold Az at q
    rw[if_pos this] at q
    exact AI (AS (ET.we (NB Tx.nInt (ev 0) (intText_digits (Qx h2) (by rw[ec];simp) (by omega)) (by omega)) q))
theorem Ka{x:Str}(h:(20:Int)< (x.length:Int)):Az x=none:=by
 unfold Az CI
 rw[decide_eq_false (show¬((x.length:Int)≤20) by omega),Bool.and_false]
 rfl
def dX:List Str:=["_law_row","_law_word","_law_words","_law_found"]
theorem XS:FnScope dX ["_law_row","_law_word"] (AA JH):=⟨rfl,rfl,rfl,by decide+kernel,rfl,by decide+kernel,by decide+kernel⟩
def Ze:DI:=Mp fun ts r=>∃row wd,ts=[.str row,.str wd]∧Dl row∧row.length≤90000∧r=Eb (BS row wd)
theorem UF{a b:Option Int}:rdBs [DX a,DX b]=true:=by cases a<;>cases b<;>rfl
theorem RM{a b:Option Int}:((dTs [DX a,DX b]).any fun y=>PyData.eqv y (dT .non))=(a.isNone||b.isNone):=by
 cases a<;>cases b<;>simp[dTs,DX,dT,PyData.eqv]
theorem Zf{f:Addr}{fd:FuncData}(F:Fun K "_law_pair_of" "_law_pair_of" JH f fd)(Tx:Txt mg)(G:FnT P w K mg base "_law_value" 1 ["_law_word"] VE):FnOk P w K mg base (CXe P w) 2 f fd ["_law_row","_law_word"] (Du K Ze):=by
 refine Aj F XS ?_ ?_
 ·rintro ts O Φ Ξ ⟨r,⟨row,wd,rfl,_⟩,_⟩
  rfl
 ·rintro cdv A outer s H E O Ξ hr xf _ Φ ⟨_,⟨row,wd,rfl,ha,hl,rfl⟩,q⟩
  have hu:(A.deeper (envOfC "_law_pair_of" (AA JH) s.heap.objs.size f cdv)).units+102<cLine:=by have:=hr.un;omega
  have sz:100001≤sizeLine:=by decide
  have hm:=DB (x:=row) (c:=32)
  have hA:=Cc (c:=32) ha
  have hS:=CH (x:=row) (c:=32)
  refine AD (AO 2 (ET.we (t:=.lst ((Txt.split row ⟨#[32]⟩).map T.str)) (DW (ev 0) (ET.cast (AK (x:=Str.ofString " ")) (congrArg T.str KQ)) rfl (by omega) (by omega)) ?_) XS.nd)
  unfold BS at q
  generalize Txt.split row ⟨#[32]⟩=W at hm hA hS q
  by_cases h3:W.length=3
  ·obtain⟨w0,a,b,rfl⟩:∃w0 a b,W=[w0,a,b]:=by
    match W,h3 with
    | [w0,a,b],_=>exact⟨w0,a,b,rfl⟩
   have sa:=hS a (by simp)
   have sb:=hS b (by simp)
   refine AD (AU (k:=!(w0==wd)|| (decide ((20:Int)< (a.length:Int))||decide ((20:Int)< (b.length:Int)))) (EB.cast (EW.eb (An (GY (CD (ts:=[T.str w0,T.str a,T.str b]) Tx.nLen (ev 2)) AB) fun _=>An (FM (x:=w0) (y:=wd) (Bp (ev 2) AB Xx) (ev 1)) fun _=>An (Mo (EY (x:=a) Tx.nLen (Bp (ev 2) AB (BP (j:=1) rfl)) (by omega)) AB) fun _=>BV (Mo (EY (x:=b) Tx.nLen (Bp (ev 2) AB (BP (j:=2) rfl)) (by omega)) AB))) ?_) (fun h=>AI (AS (ET.we BU ?_))) fun h=>AW ?_)
   ·rfl
   ·have q:Φ .non O:=by
     by_cases e:w0=wd
     ·simp only[if_pos e] at q
      subst e
      have h:decide ((20:Int)< (a.length:Int))=true∨decide ((20:Int)< (b.length:Int))=true:=by simpa using h
      rcases h with h|h
      ·rw[Ka (of_decide_eq_true h)] at q
       exact q
      ·rw[Ka (of_decide_eq_true h)] at q
       revert q
       cases Az a<;>exact fun q=>q
     ·simp only[if_neg e] at q
      exact q
    exact q
   ·rw[Bool.or_eq_false_iff,Bool.or_eq_false_iff] at h
    obtain⟨h1,h2,h3⟩:=h
    have e:w0=wd:=by simpa using h1
    have la:=of_decide_eq_false h2
    have lb:=of_decide_eq_false h3
    simp only[if_pos e] at q
    refine AD (AO 3 (ET.we (t:=.tup [DX (Az a),DX (Az b)]) (Dt (AH (BB G hr xf (AH (Bp (ev 2) AB (BP (j:=1) rfl)) AC) ⟨a,rfl,hA a (by simp),by omega,rfl⟩) (AH (BB G hr xf (AH (Bp (ev 2) AB (BP (j:=2) rfl)) AC) ⟨b,rfl,hA b (by simp),by omega,rfl⟩) AC)) (by show 2≤sizeLine;decide)) ?_) XS.nd)
    refine AI (AS (ET.we (ET.cast (Yt (x:=(Az a).isNone|| (Az b).isNone) (EB.cast (BD (ZC hu) rfl (Wn (t:=.non) (us:=[DX (Az a),DX (Az b)]) rfl UF (by show 0≤100;decide)) BU (ev 3)) RM) (fun _=>BU) (fun _=>ev 3)) ?_) q))
    cases Az a<;>cases Az b<;>rfl
  ·refine AD (AU (k:=true) (EB.cast (EW.eb (An (y:=true) (GY (CD (ts:=W.map T.str) Tx.nLen (ev 2)) AB) fun z=>?_)) ?_) (fun h=>AI (AS (ET.we BU ?_))) (fun h=>by cases h))
   ·have:¬(((W.map T.str).length:Int)=3):=by rw[List.length_map];omega
    rw[decide_eq_false this] at z
    cases z
   ·have:¬(((W.map T.str).length:Int)=3):=by rw[List.length_map];omega
    rw[decide_eq_false this]
    rfl
   ·match W,h3,q with
    | [],_,q=>exact q
    | [_],_,q=>exact q
    | [_,_],_,q=>exact q
    | [_,_,_],h3,_=>exact absurd rfl h3
    |_::_::_::_::_,_,q=>exact q
end
end K71
namespace L2.TL
open PySem PySem.Spec PyProof.Rows
section
variable{Z:Zx}{ρ:List (Option T)}{O:AQ}{e lo a:Expr}{p1 p2 pos:Pos}{t:T}{ts:List T}{i:Int}{l:Addr}
theorem Fo(ho:O l=some ts)(h:ET Z ρ O e (.raw (.ref l)))(h2:ET Z ρ O lo (.int i)):ET Z ρ O (.Subscript e (.Slice (some lo) none none p2) pos) (.lst (FG ts (some i) none)):=fun Φ k=>by
 refine PE.weak (Bh EC (Ac (ρ:=ρ)) (Bw (Ac (ρ:=ρ))) Dc) fun σ H0 Q q=>?_
 refine⟨O,_,h (fun t O'=>t=.raw (.ref l)∧O'=O) ⟨rfl,rfl⟩,q.1,?_⟩
 rintro v H1 _ _ ⟨rfl,rfl⟩ f1 r1
 refine⟨_,_,h2 (fun t O'=>t=.int i∧O'=_) ⟨rfl,rfl⟩,q.1.step f1,?_⟩
 rintro v2 H2 _ _ ⟨rfl,rfl⟩ f2 r2
 cases r1.raw_inv
 have ff:=f1.trans f2
 obtain⟨xs,h1,r3⟩:=ff.ok l ts ho
 exact⟨i,r2.int_inv,l,xs,rfl,.inl (.inl h1),fun p hp=>q.2 _ _ _ _ k (ff.trans (.new ff.ok hp)) (.lst AF (ff.ok.none_of hp) ((r3.cut).kp (Au ff.ok hp) ff.ok))⟩
end
end L2.TL
namespace K71
open PySem L2 L2.TL PySem.Spec PyProof.Rows PySem.Builtin PySem.Builtin.Str
def UG:Rd→T
 | .inl k=> .int k
 | .inr z=>Gm z.1 z.2
theorem Kb{r wd:Str}{p:Int×Int}(h:BS r wd=some p):0≤p.1∧0≤p.2:=by
 unfold BS at h
 split at h
 ·split at h
  ·split at h
   ·rename_i i j e1 e2
    cases h
    exact⟨NN e1,NN e2⟩
   ·cases h
  ·cases h
 ·cases h
def Ec(ts:List (Int×Int)):List (Int×Int):=ts.drop (ts.length-1)
theorem OS{ts:List (Int×Int)}:FG (ts.map AE) (some (-1)) none=(Ec ts).map AE:=by
 unfold FG Ec
 rw[HT.JX]
 have h:HT.En (ts.map AE).length 0 (some (-1))=ts.length-1:=by
  show(if(-1:Int)<0 then((-1:Int)+((ts.map AE).length:Int)).toNat else min (-1:Int).toNat (ts.map AE).length)=_
  rw[if_pos (by decide),List.length_map]
  omega
 rw[h,List.map_drop,List.take_of_length_le (by rw[List.length_drop];omega)]
theorem RN{ts:List (Int×Int)}:(Ec ts).length≤1:=by
 unfold Ec
 rw[List.length_drop]
 omega
theorem UH{a b c d:Int}:HT.BL [a,b] [c,d]=!HT.BE [c,d] [a,b]:=by
 rw[HT.Cp,HT.Bf]
 by_cases h:a=c
 ·rw[if_pos h,if_pos h.symm,HT.Cp,HT.Bf]
  by_cases h2:b=d
  ·rw[if_pos h2,if_pos h2.symm];rfl
  ·rw[if_neg h2,if_neg (fun z=>h2 z.symm),Bool.eq_iff_iff]
   simp
 ·rw[if_neg h,if_neg (fun z=>h z.symm),Bool.eq_iff_iff]
  simp
theorem XT{n:Int}{ts:List (Int×Int)}{p:Int×Int}:(decide (p.1≥p.2)|| (decide (p.2≥n)||aL (Ec ts) p))=!OY n ts p:=by
 have e:aL (Ec ts) p=!(match ts.getLast? with|none=>true|some z=>HT.BE [z.1,z.2] [p.1,p.2]):=by
  rcases List.eq_nil_or_concat ts with rfl| ⟨rs,z,rfl⟩
  ·rfl
  ·have:Ec (rs.concat z)=[z]:=by
    unfold Ec
    rw[List.concat_eq_append,List.length_append]
    simp
   rw[this,List.concat_eq_append,List.getLast?_append]
   exact UH
 unfold OY
 rw[e,Bool.not_and,Bool.not_and]
 have e1:decide (p.1≥p.2)=!decide (p.1<p.2):=by rw[Bool.eq_iff_iff];simp
 have e2:decide (p.2≥n)=!decide (p.2<n):=by rw[Bool.eq_iff_iff];simp
 rw[e1,e2,Bool.or_assoc]
 try rfl
section
variable{P:Program}{w:World}{K:PySem.W.Frag}{mg:Str→Option Value}{base:Heap}{CT CR fi:Addr}
def bo:List Str:=["_law_text","_law_rows","_law_head","_law_ties","_law_k","_law_pair"]
theorem IG:FnScope bo ["_law_text"] (AA Ta):=⟨rfl,rfl,rfl,by decide+kernel,rfl,by decide+kernel,by decide+kernel⟩
def VF:DI:=Mp fun ts r=>∃x,ts=[.str x]∧Dl x∧x.length≤80000∧r=UG (Dm x)
theorem XU{f:Addr}{fd:FuncData}(F:Fun K "_law_due_of" "_law_due_of" Ta f fd)(Tx:Txt mg)(G:FnT P w K mg base "_law_pair_of" 2 ["_law_row","_law_word"] Ze):FnOk P w K mg base (CXe P w) 3 f fd ["_law_text"] (Du K VF):=by
 refine Aj F IG ?_ ?_
 ·rintro ts O Φ Ξ ⟨r,⟨x,rfl,_⟩,_⟩
  rfl
 ·rintro cdv A outer s H E O Ξ hr xf _ Φ ⟨_,⟨x,rfl,ha,hl,rfl⟩,q⟩
  have hu:(A.deeper (envOfC "_law_due_of" (AA Ta) s.heap.objs.size f cdv)).units+101<cLine:=by have:=hr.un;omega
  have sz:100001≤sizeLine:=by decide
  have hm:=DB (x:=x) (c:=10)
  have hA:=Cc (c:=10) ha
  have hS:=CH (x:=x) (c:=10)
  refine AD (AO 1 (ET.we (t:=.lst ((Txt.split x ⟨#[10]⟩).map T.str)) (DW (ev 0) (ET.cast (AK (x:=Str.ofString "\n")) (congrArg T.str KR)) rfl (by omega) (by omega)) ?_) IG.nd)
  obtain⟨r0,rs,eR⟩:=Dx (x:=x) (c:=10)
  unfold Dm at q
  rw[eR] at hm hA hS q ⊢
  have h0:=hS r0 (List.mem_cons_self ..)
  refine AD (AO 2 (ET.we (t:=Eb (BS r0 "web")) (BB G hr xf (AH (Bp (t:=.str r0) (ev 1) AB Xx) (AH AK AC)) ⟨r0,"web",rfl,hA r0 (List.mem_cons_self ..),by omega,rfl⟩) ?_) IG.nd)
  cases eh:BS r0 "web" with
  |none=>
   simp only[eh] at q
   exact AD (AU (k:=true) (EB.cast (EW.eb (An (y:=true) (DV (t:=.non) rfl (ev 2)) fun h=>by cases h)) rfl) (fun _=>AI (AS (ET.we AB q))) (fun h=>by cases h))
  |some p=>
   simp only[eh] at q
   have pp:=Kb eh
   refine AD (AU (k:=!(decide (1≤p.1)&&decide (p.1<17))) (EB.cast (EW.eb (An (DV (t:=AE p) rfl (ev 2)) fun _=>BV (NR Tx.nRange (AZ (t:=.int p.1) (ev 2) AB) AB AB))) rfl) (fun h=>?_) fun h=>AW ?_)
   ·have h:=RA h
    have:(decide (1≤p.1)&&decide (p.1≤16))=false:=by
     rw[←h]
     congr 1
     rw[Bool.eq_iff_iff,decide_eq_true_eq,decide_eq_true_eq]
     omega
    rw[if_neg (by rw[this];decide)] at q
    exact AI (AS (ET.we AB q))
   ·have h:(decide (1≤p.1)&&decide (p.1<17))=true:=by simpa using h
    have:(decide (1≤p.1)&&decide (p.1≤16))=true:=by
     rw[←h]
     congr 1
     rw[Bool.eq_iff_iff,decide_eq_true_eq,decide_eq_true_eq]
     omega
    rw[if_pos this] at q
    refine AD (AO 3 (EK (Av ⟨Nat.zero_le _,fun l hlO=>?_⟩)) IG.nd)
    have ne0:O l=none:=hlO
    have hrl:rs.length≤x.length:=by simp at hm;omega
    have el:(((r0::rs).map T.str).length:Int)=(rs.length:Int)+1:=by simp
    refine AD (FE BQ.own rfl (EI.wi (ts:=Gc 1 rs.length) (Eq.subst (motive:=fun z=>EI _ _ _ _ _ (Gc 1 z)) (show((((r0::rs).map T.str).length:Int)-1).toNat=rs.length by rw[el];omega) (OI (k:=1) (l:=(((r0::rs).map T.str).length:Int)) Tx.nRange AB (CD Tx.nLen (ev 1)) ⟨by decide,by decide,by omega,by rw[el];omega⟩)) ⟨fun j ρ' O'=>j≤rs.length∧∃(v4 v5:Option T) (ts:List (Int×Int)),ρ'=[some (.str x),some (.lst ((r0::rs).map T.str)),some (AE p),some (.raw (.ref l)),v4,v5]∧O'=BM O l (ts.map AE)∧ts.length=j∧(j:Int)≤p.2∧Φ (UG (RB p.1 p.2 (rs.drop j) (2+j) ts)) O,⟨by omega,_,_,[],rfl,rfl,rfl,pp.2,q⟩,?_,?_⟩))
    ·rintro j t _ _ e ⟨_,v4,v5,ts,rfl,rfl,htl,hjm,q⟩
     obtain⟨hj,rfl⟩:=Ge e
     obtain⟨r,er⟩:∃r,rs[j]?=some r:=⟨rs[j],List.getElem?_eq_getElem hj⟩
     have hrm:r∈r0::rs:=List.mem_cons_of_mem _ (List.mem_of_getElem? er)
     have h1:=hS r hrm
     have edr:rs.drop j=r::rs.drop (j+1):=by
      rw[List.drop_eq_getElem_cons hj]
      congr 1
      rw[List.getElem?_eq_getElem hj] at er
      exact Option.some.inj er
     have k1:(1:Int)+(j:Int)+1=((2+j:Nat):Int):=by omega
     rw[edr,RB] at q
     have erow:atI ((r0::rs).map T.str) (1+(j:Int))=some (.str r):=by
      rw[show(1:Int)+(j:Int)=((j+1:Nat):Int) by omega]
      refine BP ?_
      rw[List.getElem?_map,List.getElem?_cons_succ,er]
      rfl
     refine⟨[some (.str x),some (.lst ((r0::rs).map T.str)),some (AE p),some (.raw (.ref l)),some (.int (1+(j:Int))),v5],Ab 4 IG.nd (by show 4<6;decide),?_⟩
     refine AD (AO 5 (ET.we (t:=Eb (BS r "tie")) (BB G hr xf (AH (Bp (t:=.str r) (ev 1) (ev 4) erow) (AH AK AC)) ⟨r,"tie",rfl,hA r hrm,by omega,rfl⟩) ?_) IG.nd)
     cases ep:BS r "tie" with
     |none=>
      simp only[ep] at q
      refine AD (AU (k:=true) (EB.cast (EW.eb (An (Mo (ev 4) (AZ (t:=.int p.2) (ev 2) AB)) fun _=>An (y:=true) (DV (t:=.non) rfl (ev 5)) fun h=>by cases h)) (by simp[Hz])) (fun _=>?_) (fun h=>by cases h))
      refine AI (Cz (l:=l) hlO (ET.we (Ai (ev 4) AB) ?_))
      rw[Ad ne0,k1]
      exact q
     |some p'=>
      simp only[ep] at q
      have ek:decide (1+(j:Int)>p.2)=decide ((ts.length:Int)=p.2):=by
       rw[Bool.eq_iff_iff,decide_eq_true_eq,decide_eq_true_eq,htl]
       omega
      refine AD (AU (k:=decide ((ts.length:Int)=p.2)||!OY p.1 ts p') (EB.cast (EW.eb (An (Mo (ev 4) (AZ (t:=.int p.2) (ev 2) AB)) fun _=>An (DV (t:=AE p') rfl (ev 5)) fun _=>An (Pu (AZ (t:=.int p'.1) (ev 5) AB) (AZ (t:=.int p'.2) (ev 5) AB)) fun _=>An (Pu (AZ (t:=.int p'.2) (ev 5) AB) (AZ (t:=.int p.1) (ev 2) AB)) fun _=>BV (XM (zs:=Ec ts) (p:=p') hu RN (ET.cast (Fo AJ (ev 3) (LY AB)) (congrArg T.lst OS)) (BN (AH (ev 5) AC) (by show 1≤sizeLine;decide))))) ?_) (fun h=>?_) (fun h=>AW ?_))
      ·rw[ek,XT]
       rfl
      ·rw[if_pos h] at q
       refine AI (Cz (l:=l) hlO (ET.we (Ai (ev 4) AB) ?_))
       rw[Ad ne0,k1]
       exact q
      ·rw[if_neg (by rw[h];decide)] at q
       rw[Bool.or_eq_false_iff] at h
       have hne:=of_decide_eq_false h.1
       refine AI (Ff (FD (ET.we (ev 3) ⟨l,rfl,⟨_,AJ⟩,ET.we (ev 5) ⟨_,AJ,by rw[List.length_map];omega,⟨by omega,_,_,ts++[p'],rfl,?_,by simp[htl],?_,?_⟩⟩⟩)))
       ·rw[Cq,List.map_append]
        rfl
       ·rw[htl] at hne
        omega
       ·rw[show 2+(j+1)=2+j+1 from rfl]
        exact q
    ·rintro _ _ ⟨_,v4,v5,ts,rfl,rfl,htl,hjm,q⟩
     rw[CC] at htl hjm q
     rw[List.drop_length,RB] at q
     refine AD (AU (k:=decide ((ts.length:Int)<p.2)) (EB.cast (Mn (ER Tx.nLen (ev 3) AJ) (AZ (t:=.int p.2) (ev 2) AB)) (by rw[List.length_map])) (fun h=>?_) fun h=>AW ?_)
     ·rw[if_pos (of_decide_eq_true h)] at q
      refine AI (Cz (l:=l) hlO (ET.we (Ai (CD Tx.nLen (ev 1)) AB) ?_))
      rw[Ad ne0,el,show(rs.length:Int)+1+1=((2+rs.length:Nat):Int) by omega]
      exact q
     ·rw[if_neg (of_decide_eq_false h)] at q
      refine AI (Cz (l:=l) hlO (ET.we (Dt (AH (AZ (t:=.int p.1) (ev 2) AB) (AH (Hw Tx.nTuple AJ (ev 3)) AC))) ?_))
      rw[Ad ne0]
      exact q
end
end K71
namespace L2
open PySem PySem.Spec
theorem FnH.imp{P:Program}{w:World}{K:PySem.W.Frag}{mg:Str→Option Value}{base:Heap}{k:Nat}{f:Addr}{fd:FuncData}{ps:List Str}{sp sp':Sp}(F:FnH P w K mg base k f fd ps sp)(h:∀vs H Q E,sp' vs H Q E→sp vs H Q E):FnH P w K mg base k f fd ps sp':=
 ⟨fun vs H Q E s=>F.len vs H Q E (h _ _ _ _ s),fun A outer s H args us vs Q r e b v q=>F.run A outer s H args us vs Q r e b v (h _ _ _ _ q)⟩
end L2
namespace L2.TL
open PySem PySem.Spec PyProof.Rows
theorem UI{P:Program}{w:World}{K:PySem.W.Frag}{mg:Str→Option Value}{base:Heap}{k:Nat}{f C:Addr}{fd:FuncData}{ps:List Str}{y:Str}(F:FnH P w K mg base k f fd ps (JA C y)):FnH P w K mg base k f fd ps (bV C (.str y)):=
 F.imp fun _ _ _ _ ⟨x,e,r,q⟩=> ⟨x,e,r,fun H' s=>q _ H' s fun _ _=> .str y⟩
structure Hk(P:Program)(w:World)(K:PySem.W.Frag)(mg:Str→Option Value)(base:Heap)(g:Str)(k:Nat)(ps:List Str)(C:Addr)(t:T):Prop where
 ex:∃f fd,FnH P w K mg base k f fd ps (bV C t)∧mg g=some (.ref f)∧PySem.W.keepIn K (.ref f)=true∧Binds K fd ps []
theorem Zg{Z:Zx}{ρ:List (Option T)}{O:AQ}{e:Expr}{t:T}{x C:Addr}{g:Str}{k:Nat}{ps:List Str}{p pos:Pos}(G:Hk Z.X.prog Z.X.w Z.X.K Z.X.mg Z.X.base g k ps C t)(hr:RoomH k Z.X.A)(hx:ExC Z x C)(h:ET Z ρ O e (.raw (.ref x)))(hg:Gl Z.X g:=by rfl)(hdb:(g==("__debug__" :Str))=false:=by decide)
  (he:starEach [e] Z.X.env=(false,eval e Z.X.env)::starEach [] Z.X.env:=by rfl) (hpl:(backTo pos (starEach [] Z.X.env)).any (·.1)=false:=by rfl):ET Z ρ O (.Call (.Name g p) [e] [] pos) t:=by
 obtain⟨f,fd,F,hm,hk,hb⟩:=G.ex
 exact QQ F hm hk hb hr hx h hg hdb he hpl
end L2.TL
namespace K71
open PySem L2 L2.TL PySem.Spec PyProof.Rows PySem.Builtin PySem.Builtin.Str
def XW(n:Int)(ts:List (Int×Int)):Prop:=∀z,ts.getLast?=some z→(ts.length:Int)≤z.1*16+z.2+1∧0≤z.1∧z.1<z.2∧z.2<n
theorem RO{n:Int}{ts:List (Int×Int)}{p:Int×Int}(hn:n≤16)(h:XW n ts)(hp:0≤p.1∧0≤p.2)(hg:OY n ts p=true):XW n (ts++[p]):=by
 intro z hz
 rw[List.getLast?_append] at hz
 have hz:p=z:=by simpa using hz
 subst hz
 unfold OY at hg
 rw[Bool.and_eq_true,Bool.and_eq_true] at hg
 have g1:=of_decide_eq_true hg.1.1
 have g2:=of_decide_eq_true hg.1.2
 refine⟨?_,hp.1,g1,g2⟩
 rw[List.length_append]
 cases e:ts.getLast? with
 |none=>
  rw[List.getLast?_eq_none_iff] at e
  subst e
  simp
  omega
 |some y=>
  have hy:=h y e
  have hg:=hg.2
  rw[e] at hg
  have hg:HT.BE [y.1,y.2] [p.1,p.2]=true:=hg
  rw[HT.Bf] at hg
  by_cases hyp:y.1=p.1
  ·rw[if_pos hyp,HT.Bf] at hg
   by_cases h2:y.2=p.2
   ·rw[if_pos h2] at hg
    cases hg
   ·rw[if_neg h2] at hg
    have:=of_decide_eq_true hg
    simp
    omega
  ·rw[if_neg hyp] at hg
   have:=of_decide_eq_true hg
   simp
   omega
theorem RQ{n m:Int}(hn:n≤16):∀(rs:List Str) (k:Nat) (ts:List (Int×Int)) (z:Int×List (Int×Int)),XW n ts→RB n m rs k ts=.inr z→z.2.length≤300
 | [],k,ts,z,hf,h=>by
  rw[RB] at h
  split at h
  ·cases h
  ·cases h
   show ts.length≤300
   cases e:ts.getLast? with
   |none=>
    rw[List.getLast?_eq_none_iff] at e
    subst e
    simp
   |some y=>
    have:=hf y e
    omega
 |r::rs,k,ts,z,hf,h=>by
  rw[RB] at h
  cases ep:BS r "tie" with
  |none=>simp only[ep] at h;cases h
  |some p=>
   simp only[ep] at h
   split at h
   ·cases h
   ·rename_i hc
    have hc:(decide ((ts.length:Int)=m)||!OY n ts p)=false:=by simpa using hc
    rw[Bool.or_eq_false_iff] at hc
    exact RQ hn rs (k+1) (ts++[p]) z (RO hn hf (Kb ep) (by simpa using hc.2)) h
theorem RS{x:Str}{z:Int×List (Int×Int)}(h:Dm x=.inr z):z.2.length≤300:=by
 unfold Dm at h
 split at h
 ·cases h
 ·split at h
  ·cases h
  ·split at h
   ·rename_i p _ hc
    have hc:=(Bool.and_eq_true_iff.mp hc).2
    exact RQ (of_decide_eq_true hc) _ _ _ z (fun z hz=>by cases hz) h
   ·cases h
section
variable{P:Program}{w:World}{K:PySem.W.Frag}{mg:Str→Option Value}{base:Heap}{CT CR fi:Addr}
theorem MC{f:Addr}{fd:FuncData}(F:Fun K "_law_whole" "_law_whole" Fl f fd)(T:Txt mg):FnH P w K mg base 1 f fd ["_law_found"] (Du K Ca):=by
 refine TX F KL ?_ ?_
 ·rintro ts O Φ Ξ ⟨r,⟨t,rfl,_⟩,_⟩
  rfl
 ·rintro cdv A outer s H O hr _ Φ Ξ ⟨_,⟨t,rfl,ht,rfl⟩,q⟩
  exact AI (AS (ET.we (Im (FF T.nIsi T.nInt QB Iu (ev 0) ht) fun _=>Ga (Pv (FF T.nIsi T.nBool QC Gf (ev 0) ht))) q))
structure Cat(P:Program)(w:World)(K:PySem.W.Frag)(mg:Str→Option Value)(base:Heap)(CT CR fi:Addr):Prop where
 c:XCl P w K mg base "NoText" CT fi ["row"]
 hk:Hk P w K mg base "_law_kind_of" 1 ["_law_e"] CT (.str "text")
 wh:FnHT P w K mg base "_law_whole" 1 ["_law_found"] Ca
 mR:mg "RingError" =some (.ref CR)
 bR:PySem.W.mroIn K CR (.type "BaseException")=some true
 kt:PySem.W.kitCls K (.ref CT) (.ref CR)=some true
def XX:DI:=fun ts O Φ _=>∃t,ts=[t]∧((NI t=false∧CY t=false∧Φ (.int 0) O)∨∃x,t=.str x∧Dl x∧x.length≤80000∧Φ (UG (Dm x)) O)
theorem Zh:FnScope ["_law_text","_law_e"] ["_law_text"] (AA KJ):=⟨rfl,rfl,rfl,by decide+kernel,rfl,by decide+kernel,by decide+kernel⟩
theorem Zi{f:Addr}{fd:FuncData}(F:Fun K "_law_told" "_law_told" KJ f fd)(B:Cat P w K mg base CT CR fi)(G:FnT P w K mg base "web_read" 3 ["text"] (NQ CT)):FnOk P w K mg base (CXe P w) 4 f fd ["_law_text"] (Du K XX):=by
 refine Aj F Zh ?_ ?_
 ·rintro ts O Φ Ξ ⟨t,rfl,_⟩
  rfl
 ·rintro cdv A outer s H E O Ξ hr xf _ Φ ⟨t,rfl,q⟩
  have hk:=B.c.ek
  refine AI (TU (i:=1) (fun cls O'=>∃k:Int,cls=TR CT k∧O'=O∧Φ (.int k) O) (fun pins E' H1 fr xf1=>?_) (fun cls O' ⟨k,e,_⟩=> ⟨CT,.inr ⟨_,e⟩,B.kt⟩) (fun y cls O' C x o H1 hc h1 fr hz=>?_) rfl rfl rfl Zh.nd rfl rfl B.mR B.bR rfl (by decide))
  ·refine AI (AS (QP (Z:=⟨Bz (zB P w K mg base ["_law_text","_law_e"] "_law_told" (AA KJ) f cdv A outer s H E O Ξ).X pins E',O,H1,fun cls O'=>∃k:Int,cls=TR CT k∧O'=O∧Φ (.int k) O⟩) G hr xf1 (EA.wa (AH (ev 0) AC) ⟨t,rfl,?_⟩)))
   rcases q with⟨h1,h2,q⟩| ⟨x,rfl,ha,hl,q⟩
   ·exact .inl ⟨h1,h2,0,rfl,rfl,q⟩
   ·refine .inr ⟨x,rfl,ha,hl,?_⟩
    cases e:Dm x with
    |inl k=>
     rw[e] at q
     exact⟨k,rfl,rfl,q⟩
    |inr z=>
     rw[e] at q
     exact q
  ·obtain⟨k,rfl,rfl,q⟩:=hc
   obtain rfl:=HK.cls_of h1
   have exc:=HK.exc (y:=y) h1 fr hz
   have exf:=HK.exf (y:=y) h1 fr hz
   rw[DA] at exf
   have rH:RoomH 1 (zH (zB P w K mg base ["_law_text","_law_e"] "_law_told" (AA KJ) f cdv A outer s H E O' Ξ) y O' (upd H1 x o)).X.A:=(Room.toH (hr.mono (by decide)))
   refine AD (AU (k:=false) (EB.cast (EW.eb (An (FM (Zg B.hk rH exc (ev 1)) AK) fun _=>BV (BJ (EL (Wp B.wh rH (AH (My hk B.c.hd (B.c.nf _ (by simp)) exf (ev 1) rfl) AC) ⟨_,rfl,rfl,rfl⟩))))) rfl) (fun h=>by cases h) (fun _=>AW ?_))
   exact AI (AS (ET.we (My hk B.c.hd (B.c.nf _ (by simp)) exf (ev 1) rfl) q))
def Zj:DI:=Mp fun ts r=>∃x,ts=[.str x]∧Dl x∧x.length≤80000∧r=.bl true
theorem XY:FnScope ["_law_text","_law_due","_law_found"] ["_law_text"] (AA Lv):=⟨rfl,rfl,rfl,by decide+kernel,rfl,by decide+kernel,by decide+kernel⟩
theorem Zk{f:Addr}{fd:FuncData}(F:Fun K "_law_right" "_law_right" Lv f fd)(Tx:Txt mg)(Gd:FnT P w K mg base "_law_due_of" 3 ["_law_text"] VF)(Gt:FnT P w K mg base "_law_told" 4 ["_law_text"] XX)(Gi:FnT P w K mg base "_law_web_is" 3 ["_law_found","_law_due"] NH)(Gw:FnT P w K mg base "_law_whole" 1 ["_law_found"] Ca):FnOk P w K mg base (CXe P w) 5 f fd ["_law_text"] (Du K Zj):=by
 refine Aj F XY ?_ ?_
 ·rintro ts O Φ Ξ ⟨r,⟨x,rfl,_⟩,_⟩
  rfl
 ·rintro cdv A outer s H E O Ξ hr xf _ Φ ⟨_,⟨x,rfl,ha,hl,rfl⟩,q⟩
  refine AD (AO 1 (ET.we (BB Gd (hr.mono (by decide)) xf (AH (ev 0) AC) ⟨x,rfl,ha,hl,rfl⟩) ?_) XY.nd)
  refine AD (AO 2 (ET.we (t:=UG (Dm x)) (Fd Gt hr xf (AH (ev 0) AC) fun Φ' h=> ⟨.str x,rfl,.inr ⟨x,rfl,ha,hl,h⟩⟩) ?_) XY.nd)
  cases e:Dm x with
  |inl k=>
   refine AD (AU (k:=false) (DT (t:=.int k) Tx.nIsi Tx.nTuple Dv EO (ev 1) rfl) (fun h=>by cases h) (fun _=>AW ?_))
   exact AI (AS (ET.we (ET.cast (Im (x:=true) (y:=true) (BB Gw (hr.mono (by decide)) xf (AH (ev 2) AC) ⟨.int k,rfl,rfl,rfl⟩) fun _=>Ga (ET.cast (WO (i:=k) (j:=k) (ev 2) (ev 1)) (by simp))) rfl) q))
  |inr z=>
   refine AD (AU (k:=true) (DT (t:=Gm z.1 z.2) Tx.nIsi Tx.nTuple Dv EO (ev 1) rfl) (fun _=>?_) (fun h=>by cases h))
   exact AI (AS (ET.we (BB Gi (hr.mono (by decide)) xf (AH (ev 2) (AH (ev 1) AC)) ⟨z.1,z.2,rfl,RS e,rfl⟩) q))
end
end K71
namespace L2.TL
open PySem PySem.Spec PySem.Calls PyProof.Rows PySem.Builtin PySem.Builtin.Str
section
variable{X:Cx}
def bp:V→Option Int→Option Int→Hp→VK→Prop:=fun x lo hi H Q=>∃i,x=.str i∧i.length≤sizeLine∧Q (.str (Txt.slice i lo hi)) H
theorem RU:az X bp:=by
 intro pins s σ H x v vl vu lo hi sl Q I rx hs pl pu h
 obtain⟨i,rfl,hl,q⟩:=h
 obtain⟨t,rfl⟩:=rx
 refine⟨"str",_,F.slot_str_getitem.lookup,typeIs_str _ _ _,?_⟩
 have fin:∀t' k,EP X pins σ Q (.str (Txt.slice i lo hi) t') {s with toks:=k}:=fun t' k=> ⟨.str _,H,I.tok _,⟨_,rfl⟩,q⟩
 cases pl with
 |none=>
  cases pu with
  |none=>exact wpAny_getItem_str_slice (l:=none) (u:=none) (st:=none) hs rfl (post_val_or_str ⟨Nat.le_trans (Txt.slice_le i _ _) hl,fin⟩)
  |int j u=>exact wpAny_getItem_str_slice (l:=none) (u:=some (j,u)) (st:=none) hs rfl (post_val_or_str ⟨Nat.le_trans (Txt.slice_le i _ _) hl,fin⟩)
 |int k u'=>
  cases pu with
  |none=>exact wpAny_getItem_str_slice (l:=some (k,u')) (u:=none) (st:=none) hs rfl (post_val_or_str ⟨Nat.le_trans (Txt.slice_le i _ _) hl,fin⟩)
  |int j u=>exact wpAny_getItem_str_slice (l:=some (k,u')) (u:=some (j,u)) (st:=none) hs rfl (post_val_or_str ⟨Nat.le_trans (Txt.slice_le i _ _) hl,fin⟩)
def OT(x:Str)(n:Nat):Str:=⟨(List.replicate n x.cps).foldl (· ++ ·) #[]⟩
theorem Kc(x:Array Nat):∀(n:Nat) (acc:Array Nat),((List.replicate n x).foldl (· ++ ·) acc).size=acc.size+x.size*n
 |0,acc=>by simp
 |n+1,acc=>by
  rw[List.replicate_succ,List.foldl_cons,Kc x n,Array.size_append,Nat.mul_succ]
  omega
theorem Kd(x:Str)(n:Nat):(OT x n).length=x.length*n:=by
 show((List.replicate n x.cps).foldl (· ++ ·) #[]).size=_
 rw[Kc]
 show 0+_=_
 rw[Nat.zero_add]
 rfl
def Zl:R2:=fun x y H Q=>∃i n,x=.str i∧y=.int n∧2≤n∧n≤1000∧0<i.length∧i.length≤1000∧Q (.str (OT i n.toNat)) H
theorem UJ:Bv X (binaryOp .Mult) Zl:=by
 intro pins s σ H x y v u Q I rx ry h
 obtain⟨i,n,rfl,rfl,h2,h3,h4,h5,q⟩:=h
 obtain⟨t,rfl⟩:=rx
 obtain⟨t',rfl⟩:=ry
 have e1:(n==1||i.length==0)=false:=by
  rw[Bool.or_eq_false_iff]
  exact⟨beq_false_of_ne (by omega),beq_false_of_ne (by omega)⟩
 have hm:i.length*n.toNat≤1000*1000:=Nat.mul_le_mul h5 (by omega)
 refine P.mul_str ?_ (fun _ _=>?_) (fun _ _=>?_) ?_
 ·rw[Bool.or_eq_false_iff]
  exact⟨decide_eq_false (by omega),decide_eq_false (by omega)⟩
 ·have:(1000:Int)≤(2^63-1)/n:=by
   rw[Int.le_ediv_iff_mul_le (by omega)]
   omega
  omega
 ·unfold tooLong sizeLine
  exact decide_eq_false (by omega)
 ·rw[if_neg (by omega),e1]
  exact⟨by show(OT i n.toNat).length≤_;rw[Kd,sizeLine_eq];omega,.str _,H,I.tok _,⟨_,rfl⟩,q⟩
theorem MD(hc:X.calm=true):Aw X (.type "list") (fun vs H Q=>∃x,vs=[.str x]∧x.length≤1000∧∀p,H p=none→Q (.ref p) (upd H p (.lst (x.cps.toList.map fun c=>V.str ⟨#[c]⟩)))):=by
 intro pins s σ H vs us Q I r h
 obtain⟨x,rfl,hl,q⟩:=h
 obtain⟨u,rfl,t,rfl⟩:=DC r
 have hf:H s.heap.objs.size=none:=I.hok.fresh (Nat.le_refl _)
 refine call_list_str (I.ok.hd hc) x t (hn:=by show x.length≤_;rw[sizeLine_eq];omega) fun h' tk acc c hk hD hacc=>?_
 refine⟨.ref s.heap.objs.size,_,I.laid (o:=.lst (x.cps.toList.map fun c=>V.str ⟨#[c]⟩)) (t':=tk) hk (Nat.le_refl _) ⟨?_,acc.toList,c,?_,by rw[Array.toArray_toList];exact hD⟩,rfl,q _ hf⟩
 ·rw[List.length_map,sizeLine_eq];show x.length≤_;omega
 ·have all:∀(cs:List Nat) (l:List Value),l.length=cs.length→(∀(i:Nat) (v:Value),l[i]?=some v→∃c u,cs[i]?=some c∧v=Value.str ⟨#[c]⟩ u)→Vals (cs.map fun c=>V.str ⟨#[c]⟩) l:=by
   intro cs
   induction cs with
   |nil=>intro l hl _;cases l with
    |nil=>exact .nil
    |cons _ _=>cases hl
   |cons c cs ih=>intro l hl h;cases l with
    |nil=>cases hl
    |cons v l=>
     obtain⟨c',u,e,rfl⟩:=h 0 v rfl
     cases e
     exact .cons ⟨u,rfl⟩ (ih l (by simpa using hl) fun i v e=>h (i+1) v e)
  refine all _ _ (by simpa using hacc.1) fun i v e=>?_
  obtain⟨c,u,hc,rfl⟩:=hacc.2 i v (by simpa using e)
  exact⟨c,u,by simpa using hc,rfl⟩
def dY:V→List V→Hp→VK→Prop:=fun x vs H Q=>∃i,x=.str i∧vs=[]∧(Txt.upper i).length≤16777216∧Q (.str (Txt.upper i)) H
theorem RV:Vm X "str.upper" dY:=by
 intro pins s σ H x vs v us Q I rx rv h
 obtain⟨i,rfl,rfl,hl,q⟩:=h
 obtain⟨t,rfl⟩:=rx
 cases rv
 have hz:tooLong (Txt.upper i).length=false:=by unfold tooLong sizeLine;exact decide_eq_false (by omega)
 exact call_gives F.slot_str_upper (typeIs_str _ _ _) F.entry_str_upper (F.args_str_upper_1 _) (gives_str_upper i t hz) ⟨by rw[sizeLine_eq];exact hl,.str _,H,I.tok _,⟨_,rfl⟩,q⟩
end
section
variable{Z:Zx}{ρ:List (Option T)}{O:AQ}{a b o e lo hi:Expr}{t:T}{Φ:BR}{pos p p2 apos cpos:Pos}{x:Str}{i:Int}
theorem JK(h:ET Z ρ O e (.str x))(hl:ET Z ρ O lo (.int i))(hz:x.length≤sizeLine):ET Z ρ O (.Subscript e (.Slice (some lo) none none p2) pos) (.str (Txt.slice x (some i) none)):=fun Φ q=>by
 refine PE.weak (Bh RU (Ac (ρ:=ρ)) (Bw (Ac (ρ:=ρ))) Dc) fun σ H Q k=>?_
 refine⟨O,_,h (fun t O'=>t=.str x∧O'=O) ⟨rfl,rfl⟩,k.1,?_⟩
 rintro v H1 _ _ ⟨rfl,rfl⟩ f1 r1
 refine⟨_,_,hl (fun t O'=>t=.int i∧O'=_) ⟨rfl,rfl⟩,k.1.step f1,?_⟩
 rintro w H2 _ _ ⟨rfl,rfl⟩ f2 r2
 exact⟨i,r2.int_inv,x,r1.str_inv,hz,k.2 _ _ _ _ q (f1.trans f2) (.str _)⟩
theorem JL(h:ET Z ρ O e (.str x))(hl:ET Z ρ O hi (.int i))(hz:x.length≤sizeLine):ET Z ρ O (.Subscript e (.Slice none (some hi) none p2) pos) (.str (Txt.slice x none (some i))):=fun Φ q=>by
 refine PE.weak (Bh RU (Ac (ρ:=ρ)) Dc (Bw (Ac (ρ:=ρ)))) fun σ H Q k=>?_
 refine⟨O,_,h (fun t O'=>t=.str x∧O'=O) ⟨rfl,rfl⟩,k.1,?_⟩
 rintro v H1 _ _ ⟨rfl,rfl⟩ f1 r1
 refine⟨_,_,hl (fun t O'=>t=.int i∧O'=_) ⟨rfl,rfl⟩,k.1.step f1,?_⟩
 rintro w H2 _ _ ⟨rfl,rfl⟩ f2 r2
 exact⟨i,r2.int_inv,x,r1.str_inv,hz,k.2 _ _ _ _ q (f1.trans f2) (.str _)⟩
theorem NT(ha:ET Z ρ O a (.str x))(hb:ET Z ρ O b (.int i))(h1:2≤i∧i≤1000)(h2:0<x.length∧x.length≤1000):ET Z ρ O (.BinOp a .Mult b pos) (.str (OT x i.toNat)):=
 EJ UJ (fun Φ p H v w Q ok r1 r2 q=> ⟨x,i,r1.str_inv,r2.int_inv,h1.1,h1.2,h2.1,h2.2,q _ H _ O p (.refl ok) (.str _)⟩) ha hb
theorem Reps.ofSigns{K:PySem.W.Frag}{O:AQ}{H:Hp}:∀(xs:List Nat),Reps K O H (xs.map fun c=>V.str ⟨#[c]⟩) (xs.map fun c=>T.str ⟨#[c]⟩)
 | []=> .nil
 |x::xs=> .cons (.str _) (Reps.ofSigns xs)
theorem RW(hc:Z.X.calm=true)(m:Z.X.mg "list" =none)(h:ET Z ρ O e (.str x))(hl:x.length≤1000)(hgl:Gl Z.X "list":=by rfl)(he:starEach [e] Z.X.env=(false,eval e Z.X.env)::starEach [] Z.X.env:=by rfl):ET Z ρ O (.Call (.Name "list" p) [e] [] pos) (.lst (BW x)):=
 Bb (MD hc) m Ux (AN h AC he) (fun Φ q H vs Q ok r k=>by
  obtain⟨v,rfl,r1⟩:=r.one_inv
  cases r1.str_inv
  exact⟨x,rfl,hl,fun l hl=>k _ _ _ _ q (.new ok hl) (.lst AF (ok.none_of hl) (Reps.ofSigns _))⟩) hgl (by decide) (by decide) he
theorem RX(h:ET Z ρ O o (.str x))(hl:(Txt.upper x).length≤16777216)(hbase:attributeBase o "upper" Z.X.env (eval o Z.X.env)=eval o Z.X.env:=by rfl)(hline:(apos.endLine==cpos.line)=true:=by rfl):
  ET Z ρ O (.Call (.Attribute o "upper" apos) [] [] cpos) (.str (Txt.upper x)):=fun Φ q=>
 PE.weak (Vl PySem.F.plainAttrs_str PySem.F.slot_str_upper PySem.F.type_str_upper RV (Ac (ρ:=ρ)) hbase hline) fun σ H Q k=> ⟨O,fun t O'=>t=.str x∧O'=O,h _ ⟨rfl,rfl⟩,k.1,by
  rintro v H1 _ _ ⟨rfl,rfl⟩ f1 r1
  cases r1.str_inv
  exact⟨rfl,x,rfl,rfl,hl,k.2 _ H1 _ _ q f1 (.str _)⟩⟩
end
section
variable{X:Cx}
theorem RY{pins:List (Addr×Obj)}{s:Shared}{σ:St}{H:Hp}{Q:Value→Shared→Prop}{E:Value→Shared→Prop}{i:Nat}{x:Str}{v:V}{pos:Pos}(hN:X.N[i]?=some x)(hv:UZ X.env.scope x)(I:Inv X pins σ H s)(e:σ[i]?=some (some v))(h:∀u,RelV v u→Q u s)
  (hd:(x==("__debug__" :Str))=false:=by decide) (hcd:(x==("__classdict__" :Str))=false:=by decide):wpAny (model X.prog X.w) X.A (eval (.Name x pos) X.env) Q E s:=by
 obtain⟨m,hn,hl⟩:=I.loc
 obtain⟨u,r,l⟩:=hl i x v hN e hv
 have fin:=h u r
 rcases l with⟨hk,hm⟩| ⟨hk,c,hc,hcell⟩
 ·exact wpAny_Name (wpAny_loadName_local I.ok.kind hk hn hm fin) hd
 ·rcases hk with hk|hk
  ·exact wpAny_Name (wpAny_loadName_cell I.ok.kind hk hc hcell fin) hd
  ·exact wpAny_Name (wpAny_loadName_free I.ok.kind hk hc hcell fin hcd) hd
def Zm(i:Nat)(c y z:Str)(tr:TA):TA:=fun σ H Q=>∃r,σ[i]?=some (some (.str r))∧r.length≤1000∧tr σ H fun xs H1=>Q (.str (r++c)::.str (Txt.replace r y z)::xs) H1
theorem UK{i:Nat}{x c y z:Str}{es:List Expr}{tr:TA}{p1 p2 p3 p4 p5 p6 apos cpos:Pos}{k0 k1 k2:Nat}(hr:PA X es tr)(hN:X.N[i]?=some x)(hv:UZ X.env.scope x)(hc:c.length≤100)(hz:z.length≤14)(hyz:(y==z)=false)
  (hd:(x==("__debug__" :Str))=false:=by decide) (hcd:(x==("__classdict__" :Str))=false:=by decide) (hline:(apos.endLine==cpos.line)=true:=by rfl):
  PA X (.BinOp (.Name x p1) .Add (.Constant (.str c) k0 p2) p3::.Call (.Attribute (.Name x p4) "replace" apos) [.Constant (.str y) k1 p5,.Constant (.str z) k2 p6] [] cpos::es) (Zm i c y z tr):=by
 intro pos pins s σ H Q I h
 obtain⟨r,er,hl,h⟩:=h
 show wpAny _ _ (spliced ((false,eval (.BinOp (.Name x p1) .Add (.Constant (.str c) k0 p2) p3) X.env)::(false,eval (.Call (.Attribute (.Name x p4) "replace" apos) [.Constant (.str y) k1 p5,.Constant (.str z) k2 p6] [] cpos) X.env)::backTo pos (starEach es X.env))) _ _ s
 refine Calls.spliced_cons ?_
 refine Ae (Q:=fun v s'=>RelV (.str (r++c)) v∧Inv X pins σ H s'∧0<s'.toks) ?_ ?_
 ·refine wpAny_BinOp (RY hN hv I er ?_ hd hcd)
  rintro _ ⟨t,rfl⟩
  refine Calls.Constant_str ?_
  refine P.add_str ?_
  have hlen:(r++c).length=r.length+c.length:=strLen_append r c
  by_cases e1:(r.length==0)=true
  ·rw[if_pos e1]
   have e:r++c=c:=by
    have:r.cps= #[]:=Array.size_eq_zero_iff.mp (eq_of_beq e1)
    obtain⟨rc⟩:=r
    subst this
    show Str.mk (#[]++c.cps)=c
    rw[Array.empty_append]
   rw[e]
   exact⟨⟨_,rfl⟩,I.tok _,Nat.succ_pos _⟩
  ·rw[if_neg e1]
   by_cases e2:(c.length==0)=true
   ·rw[if_pos e2]
    have e:r++c=r:=by
     have:c.cps= #[]:=Array.size_eq_zero_iff.mp (eq_of_beq e2)
     obtain⟨cc⟩:=c
     subst this
     show Str.mk (r.cps++ #[])=r
     rw[Array.append_empty]
    rw[e]
    exact⟨⟨_,rfl⟩,I.tok _,Nat.succ_pos _⟩
   ·rw[if_neg e2]
    exact⟨by rw[hlen,sizeLine_eq];omega,⟨_,rfl⟩,I.tok _,Nat.succ_pos _⟩
 ·rintro v s1 ⟨rv,I1,ht⟩
  refine Calls.spliced_cons ?_
  refine Ae (Q:=fun v s'=>RelV (.str (Txt.replace r y z)) v∧Inv X pins σ H s') ?_ ?_
  ·refine wpAny_Call_method_late (by rfl) (by rfl) hline rfl (RY hN hv I1 er ?_ hd hcd)
   rintro _ ⟨t,rfl⟩
   refine⟨"str",_,F.plainAttrs_str,F.slot_str_replace,F.type_str_replace,typeIs_str _ _ _,(fun _ e=>nomatch e),?_⟩
   refine Calls.callWith_builtin rfl (Calls.evalArgs_plain ?_)
   refine Calls.spliced_cons (Calls.Constant_str (k:=k1) (pos:=p5) (Calls.spliced_cons (Calls.Constant_str (k:=k2) (pos:=p6) (Calls.spliced_nil ?_))))
   refine SC.replaceW (Nat.pos_iff_ne_zero.mp ht) (Nat.succ_ne_zero _) (Nat.ne_of_lt (Nat.lt_succ_self _)) hyz (by omega) hz fun t' k=> ⟨⟨_,rfl⟩,I1.tok _⟩
  ·rintro v2 s2 ⟨r2,I2⟩
   exact Ae (hr pos pins s2 σ H _ I2 h) fun us s3 ⟨xs,H3,I3,r3,q3⟩=> ⟨_::_::xs,H3,I3,.cons rv (.cons r2 r3),q3⟩
end
section
variable{Z:Zx}{ρ:List (Option T)}{O:AQ}{es:List Expr}{ts:List T}
theorem UL{i:Nat}{x r c y z:Str}{p1 p2 p3 p4 p5 p6 apos cpos:Pos}{k0 k1 k2:Nat}(e:ρ[i]?=some (some (.str r)))(hl:r.length≤1000)(hr:EA Z ρ O es ts)(hc:c.length≤100)(hz:z.length≤14)(hyz:(y==z)=false)
  (hN:Z.X.N[i]?=some x:=by rfl) (hv:UZ Z.X.env.scope x:=by first|exact Or.inl rfl|exact Or.inr (Or.inl rfl)|exact Or.inr (Or.inr rfl))
  (hd:(x==("__debug__" :Str))=false:=by decide) (hcd:(x==("__classdict__" :Str))=false:=by decide) (hline:(apos.endLine==cpos.line)=true:=by rfl):
  EA Z ρ O (.BinOp (.Name x p1) .Add (.Constant (.str c) k0 p2) p3::.Call (.Attribute (.Name x p4) "replace" apos) [.Constant (.str y) k1 p5,.Constant (.str z) k2 p6] [] cpos::es) (.str (r++c)::.str (Txt.replace r y z)::ts):=fun Φ q=>
 PA.weak (UK (FW (ρ:=ρ)) hN hv hc hz hyz hd hcd hline) fun σ H Q k=>by
  obtain⟨v,h1,h2⟩:=k.1.rl.2 i _ e
  cases h2.str_inv
  refine⟨r,h1,hl,O,_,hr (fun t O'=>t=ts∧O'=O) ⟨rfl,rfl⟩,k.1,?_⟩
  rintro vs H1 _ _ ⟨rfl,rfl⟩ f1 r1
  exact k.2 _ H1 _ _ q f1 (.cons (.str _) (.cons (.str _) r1))
end
end L2.TL
namespace K71
open PySem L2 L2.TL PySem.Spec PyProof.Rows PySem.Builtin PySem.Builtin.Str
structure As(B:Nat)(x:Str):Prop where
 a:Dl x
 l:x.length≤B
theorem As.mono{B C:Nat}{x:Str}(h:As B x)(e:B≤C):As C x:=⟨h.a,Nat.le_trans h.l e⟩
theorem BY{B C:Nat}{x y:Str}(h:As B x)(k:As C y):As (B+C) (x++y):=by
 refine⟨Al.mpr fun c hc=>?_,?_⟩
 ·rw[EZ] at hc
  rcases List.mem_append.mp hc with hc|hc
  ·exact Al.mp h.a c hc
  ·exact Al.mp k.a c hc
 ·have:=strLen_append x y
  have:=h.l
  have:=k.l
  omega
theorem RZ{B:Nat}{x:Str}{lo hi:Option Int}(h:As B x):As B (Txt.slice x lo hi):=by
 refine⟨Al.mpr fun c hc=>?_,Nat.le_trans (Txt.slice_le x lo hi) h.l⟩
 unfold Txt.slice at hc
 split at hc
 ·exact Al.mp h.a c hc
 ·simp only[List.mem_filterMap] at hc
  obtain⟨i,_,e⟩:=hc
  exact Al.mp h.a c (Array.mem_toList_iff.mpr (Array.mem_of_getElem? e))
theorem XZ:∀c<128,∃d,Unicode.upperOf c=[d]∧d<128:=by
 have h:(List.range 128).all (fun c=>match Unicode.upperOf c with| [d]=>decide (d<128)|_=>false)=true:=by decide+kernel
 intro c hc
 have h:=List.all_eq_true.mp h c (List.mem_range.mpr hc)
 split at h
 ·rename_i d e
  exact⟨d,e,of_decide_eq_true h⟩
 ·cases h
theorem NU:∀(xs:List Nat),(∀c∈xs,c<128)→((xs.map Unicode.upperOf).flatten.length=xs.length∧∀d∈(xs.map Unicode.upperOf).flatten,d<128)
 | [],_=>by simp
 |c::xs,h=>by
  obtain⟨d,e,hd⟩:=XZ c (h c (List.mem_cons_self ..))
  obtain⟨i1,i2⟩:=NU xs fun c hc=>h c (List.mem_cons_of_mem _ hc)
  rw[List.map_cons,List.flatten_cons,e]
  refine⟨by simp only[List.length_append,List.length_cons,List.length_nil,i1];omega,fun d' h'=>?_⟩
  rcases List.mem_append.mp h' with h'|h'
  ·rw[List.mem_singleton.mp h'];exact hd
  ·exact i2 d' h'
theorem Ra(x:Str):(Txt.upper x).cps.toList=(x.cps.toList.map Unicode.upperOf).flatten:=by
 show(placed x fun _ c=>Unicode.upperOf c).toList=_
 unfold placed
 rw[Array.toList_flatten]
 congr 1
 apply List.ext_getElem?
 intro i
 simp
 rfl
theorem Rb{B:Nat}{x:Str}(h:As B x):As B (Txt.upper x):=by
 have k:=NU x.cps.toList (Al.mp h.a)
 refine⟨Al.mpr fun c hc=>?_,?_⟩
 ·rw[Ra] at hc
  exact k.2 c hc
 ·have e:(Txt.upper x).length=(Txt.upper x).cps.toList.length:=by rw[Array.length_toList];rfl
  rw[e,Ra,k.1,Array.length_toList]
  exact h.l
theorem Gz{g:Str}(hg:Dl g):∀(xs:List Str),(∀x∈xs,Dl x)→Dl (Str.join g xs)
 | [],_=>Al.mpr fun c hc=> (List.not_mem_nil hc).elim
 | [x],h=>h x (List.mem_cons_self ..)
 |x::y::r,h=>by
  have i:=Gz hg (y::r) fun z hz=>h z (List.mem_cons_of_mem _ hz)
  show Dl (x++g++Str.join g (y::r))
  exact(BY (BY ⟨h x (List.mem_cons_self ..),Nat.le_refl _⟩ ⟨hg,Nat.le_refl _⟩) ⟨i,Nat.le_refl _⟩).a
structure Wt(B:Nat)(xs:List Str):Prop where
 a:∀x∈xs,Dl x
 w:(xs.map (·.length)).sum+xs.length≤B
theorem Wt.mono{B C:Nat}{x:List Str}(h:Wt B x)(e:B≤C):Wt C x:=⟨h.a,Nat.le_trans h.w e⟩
theorem HA{B C:Nat}{xs ys:List Str}(h:Wt B xs)(k:Wt C ys):Wt (B+C) (xs++ys):=
 ⟨fun x hx=> (List.mem_append.mp hx).elim (h.a x) (k.a x),by
  have:=h.w
  have:=k.w
  rw[List.map_append,List.sum_append,List.length_append]
  omega⟩
theorem UM{xs ys:List Str}(h:List.Sublist xs ys):(xs.map (·.length)).sum≤(ys.map (·.length)).sum:=by
 induction h with
 |slnil=>exact Nat.le_refl _
 |cons a _ ih=>simp only[List.map_cons,List.sum_cons];omega
 |cons_cons a _ ih=>simp only[List.map_cons,List.sum_cons];omega
theorem Xa{B:Nat}{xs ys:List Str}(h:Wt B ys)(s:List.Sublist xs ys):Wt B xs:=
 ⟨fun x hx=>h.a x (s.subset hx),by have:=h.w;have:=UM s;have:=s.length_le;omega⟩
theorem ME{B:Nat}{xs:List Str}(h:Wt B xs)(n m:Nat):Wt B ((xs.drop n).take m):=Xa h ((List.take_sublist ..).trans (List.drop_sublist ..))
theorem MF{B:Nat}{x:Str}(h:As B x):Wt (B+1) [x]:=⟨fun y hy=>by rw[List.mem_singleton.mp hy];exact h.a,by have:=h.l;simp;omega⟩
theorem Rc{B:Nat}{x:Str}{c:Nat}(h:As B x):Wt (B+1) (Txt.split x ⟨#[c]⟩):=
 ⟨Cc h.a,by have:=split_weight x ⟨#[c]⟩ (by show 1≤1;decide);have:=h.l;omega⟩
theorem Fp{B:Nat}{xs:List Str}{c:Nat}(hc:c<128)(h:Wt B xs):As B (Txt.join ⟨#[c]⟩ xs):=by
 have e:Txt.join ⟨#[c]⟩ xs=Str.join ⟨#[c]⟩ xs:=StrLaws.glued_eq_join _ _
 refine⟨?_,?_⟩
 ·rw[e]
  exact Gz (Al.mpr fun d hd=>by rw[List.mem_singleton.mp hd];exact hc) xs h.a
 ·rw[e]
  have h1:=StrLaws.join_length_le ⟨#[c]⟩ xs
  have h2:(Str.mk #[c]).length=1:=rfl
  rw[h2] at h1
  have:=h.w
  omega
theorem FN{B:Nat}{xs:List Str}{c:Nat}(h:Wt B xs)(hB:B≤1000000):JoinOk ⟨#[c]⟩ xs=true:=by
 unfold JoinOk
 rw[joinFits_of_weight (by have:=h.w;omega) (by show 1≤16;decide)]
 rfl
theorem Re{x:Str}(h:Dl x){cs:List Nat}{w:Nat}:∀y∈partsBetween x cs w,Dl y:=by
 intro y hy
 unfold partsBetween at hy
 obtain⟨⟨i,j⟩,_,rfl⟩:=List.mem_map.mp hy
 refine Al.mpr fun c hc=>Al.mp h c ?_
 have hc:c∈(x.cps.extract i j).toList:=hc
 rw[Array.toList_extract] at hc
 exact List.mem_of_mem_drop (List.mem_of_mem_take hc)
theorem MG{B:Nat}{x y z:Str}(hx:As B x)(hz:Dl z)(hl:z.length=2):As (B+(B+1)*2) (Txt.replace x y z):=by
 unfold Txt.replace
 split
 ·exact hx.mono (by omega)
 ·refine⟨?_,?_⟩
  ·rw[StrLaws.glued_eq_join]
   exact Gz hz _ (Re hx.a)
  ·have h1:=StrLaws.occ_length_le x y 0 x.length (x.length+1)
   have hy:(glued y (partsBetween x (occurrences x y 0 x.length (x.length+1)) y.length)).length=x.length:=by rw[StrLaws.glued_between_self]
   rw[size_glued,length_partsBetween,Nat.add_sub_cancel] at hy
   rw[size_glued,length_partsBetween,Nat.add_sub_cancel,hl]
   have:=hx.l
   omega
end K71
namespace L2
open PySem PySem.Spec PyProof.Rows
theorem OU{X:Cx}{W:St→XK}{k:Nat}{f:Addr}{fd:FuncData}{ps:List Str}{sp:Sp}{x:Str}{p pos:Pos}(xo:XFly X W)(F:FnOk X.prog X.w X.K X.mg X.base (CXe X.prog X.w) k f fd ps sp)(hr:Room k X.A)(hg:Gl X x)(hm:X.mg x=some (.ref f))(hk:PySem.W.keepIn X.K (.ref f)=true)(hb:Binds X.K fd ps [])
  (hdb:(x==("__debug__" :Str))=false:=by decide):PE X (.Call (.Name x p) [] [] pos) (Ky sp W YU):=by
 intro pins s1 σ H1 Q I1 q
 refine wpAny_Call_Name_kw (DZ I1 hg hm ?_ hdb)
 refine PySem.W.callWith_K0 I1.kIn hk ?_
 have hl:(([]:List Value)++[]).length=ps.length:=F.len [] _ _ _ q
 refine wpAny_call (codeAny_mono (F.run X.A X.stack s1 H1 ⟨[],[]⟩ ([]++[]) [] Q (W σ) hr I1.env0 (hb s1 [] I1.kIn hl) .nil q) fun r s' hq=>?_)
 cases r with
 |error e=>exact xo.fly pins σ H1 s1 e s' I1 hq
 |ok fl=>
  cases fl with
  |ret u=>exact I1.after hq
  |next=>exact False.elim hq
  |brk=>exact False.elim hq
  |cont=>exact False.elim hq
end L2
namespace L2.TL
open PySem PySem.Spec PyProof.Rows
theorem Rf{Z:Zx}{ρ:List (Option T)}{O:AQ}{x:Str}{p pos:Pos}{Φ:BR}{k:Nat}{s:DI}(G:FnT Z.X.prog Z.X.w Z.X.K Z.X.mg Z.X.base x k [] s)(hr:Room k Z.X.A)(xf:XFly Z.X Z.W)(h:s [] O Φ Z.Xi)(hg:Gl Z.X x:=by rfl)
  (hdb:(x==("__debug__" :Str))=false:=by decide):WE Z ρ O (.Call (.Name x p) [] [] pos) Φ:=by
 obtain⟨f,fd,F,hm,hk,hb⟩:=G.ex
 refine PE.weak (OU xf F hr hg hm hk hb hdb) fun σ H Q q=>?_
 exact⟨[],O,Φ,Z.Xi,.nil,q.1.fr.ok,h,q.2,fun cls O' H' x f'=> ⟨rfl,O',x,q.1.fr.trans f'⟩⟩
end L2.TL
namespace K71
open PySem L2 L2.TL PySem.Spec PyProof.Rows PySem.Builtin PySem.Builtin.Str
abbrev Xb:Stmt:=(ZE (top 8)).getD 0 (.Pass ⟨0,0,0,0⟩)
section
variable{P:Program}{w:World}{K:PySem.W.Frag}{mg:Str→Option Value}{base:Heap}
theorem Zo:FnScope ["self","row"] ["self","row"] (AA Xb):=⟨rfl,rfl,rfl,by decide+kernel,rfl,by decide+kernel,by decide+kernel⟩
theorem Xc{f C:Addr}{fd:FuncData}(F:Fun K "__init__" "NoText.__init__" Xb f fd)(c:XfC K C f)(h1:PySem.W.findIn K (.ref C) "row" =some none):FnOk P w K mg base (CXe P w) 1 f fd ["self","row"] (QO C ["row"]):=by
 refine F.okX Zo (QR rfl) fun cdv A outer s H vs Q E hr h=>?_
 obtain⟨x,t,is,rfl,hl,hx,k⟩:=h
 obtain⟨i,rfl⟩:∃i,is=[i]:=by
  match is,hl with
  | [i],_=>exact⟨i,rfl⟩
 refine⟨_,Da (Wo (pv 0) (pv 1) rfl),?_⟩
 exact⟨_,rfl,_,rfl,x,C,f,_,rfl,hx,c,h1,fun d hd dn=>k d hd dn⟩
theorem NV:FnScope ["_law_signs"] [] (AA Lu):=⟨rfl,rfl,rfl,by decide+kernel,rfl,by decide+kernel,by decide+kernel⟩
def NW:DI:=fun ts O Φ _=>ts=[]∧∀z:Str,z.length=94→Dl z→Φ (.lst (BW z)) O
theorem Rg{f:Addr}{fd:FuncData}(F:Fun K "_law_signs_of" "_law_signs_of" Lu f fd)(T:Txt mg):FnOk P w K mg base (CXe P w) 1 f fd [] (Du K NW):=by
 refine Aj F NV ?_ ?_
 ·rintro ts O Φ Ξ ⟨rfl,_⟩
  rfl
 ·rintro cdv A outer s H E O Ξ hr xf _ Φ ⟨rfl,q⟩
  refine AD (AO 0 (ET.we AK ?_) NV.nd)
  refine AI (AS (ET.we (RW rfl T.nList (Ak (ev 0) AK ?_) ?_) (q _ ?_ ?_)))
  ·decide+kernel
  ·decide+kernel
  ·decide+kernel
  ·unfold Dl
   decide+kernel
end
def Zp:List Str:=["_law_pen","_law_row","_law_words","_law_spot","_law_signs","_law_odd","_law_one","_law_at","_law_sign","_law_some","_law_way"]
theorem DY:FnScope Zp ["_law_pen","_law_row"] (AA Qc):=⟨rfl,rfl,rfl,by decide+kernel,rfl,by decide+kernel,by decide+kernel⟩
def Ke(i:Nat):Stmt:=(Aa Qc).getD i (.Pass ⟨0,0,0,0⟩)
theorem Bu(L:List Str)(lo hi:Option Int):∃n m,FG (L.map T.str) lo hi=(((L.drop n).take m).map T.str):=by
 refine⟨HT.En (L.map T.str).length 0 lo,HT.En (L.map T.str).length (L.map T.str).length hi-HT.En (L.map T.str).length 0 lo,?_⟩
 rw[List.map_take,List.map_drop]
 rfl
theorem Ed{L:List Str}{i:Int}(h0:0≤i)(h1:i<L.length):∃r∈L,atI (L.map T.str) i=some (.str r):=by
 obtain⟨j,rfl⟩:=Int.eq_ofNat_of_zero_le h0
 have hl:j<L.length:=by omega
 refine⟨L[j],List.getElem_mem hl,?_⟩
 exact BP (by rw[List.getElem?_map,List.getElem?_eq_getElem hl];rfl)
section
variable{P:Program}{w:World}{K:PySem.W.Frag}{mg:Str→Option Value}{base:Heap}{f:Addr}{cdv:Value}{A:Around}{outer:List Env}{s:Shared}{H:Hp}{E:XK}{O0 O1:AQ}{Ξ:Value→AQ→Prop}{p c:Addr}{Φ:BR}{N:Lb}{row sign:Str}{acc:List T}{ws one L:List Str}{spot at':Int}{z:Str}
abbrev zO(P:Program)(w:World)(K:PySem.W.Frag)(mg:Str→Option Value)(base:Heap)(f:Addr)(cdv:Value)(A:Around)(outer:List Env)(s:Shared)(H:Hp)(E:XK)(O:AQ)(Ξ:Value→AQ→Prop):Zx:=zB P w K mg base Zp "_law_odd_row" (AA Qc) f cdv A outer s H E O Ξ
def UN(O0:AQ)(p:Addr)(Φ:BR):Prop:=∀r O',As 400 r→PO O0 p O'→Φ (.str r) O'
theorem PO.fresh{O0 O:AQ}{p c:Addr}(h:PO O0 p O)(hc:O c=none):O0 c=none:=by
 obtain⟨xs,rfl,_⟩:=h
 have:c≠p:=fun z=>by rw[z,AJ] at hc;cases hc
 rwa[BC this] at hc
theorem Xd(hr:Room 2 (zO P w K mg base f cdv A outer s H E O0 Ξ).X.A)(xf:XFly (zO P w K mg base f cdv A outer s H E O0 Ξ).X (zO P w K mg base f cdv A outer s H E O0 Ξ).W)(G:FnT P w K mg base "_law_draw" 2 ["_law_pen","_law_many"] BX)
  (po:PO O0 p O1) (hc:O1 c=none) (hL:∀x∈L,As 400 x) (hl:L.length=11) (ho:Wt 300 one) (q:UN O0 p Φ) {v1 v2 v3 v4 v7 v8:Option T}:
  HS (zO P w K mg base f cdv A outer s H E O0 Ξ) [some (.raw (.ref p)),v1,v2,v3,v4,some (.raw (.ref c)),some (.lst (one.map T.str)),v7,v8,some (.lst (L.map T.str)),none] (BM O1 c acc) [Ke 10,Ke 11,Ke 12] {nx:=N,rt:=Φ}:=by
 refine AY (AO 10 (Cb G hr xf po hc (ev 0) AB (by decide) (by decide) fun way O2 w0 w1 po2 hc2=>?_) DY.nd)
 refine KA (EB.cast (Mn (ev 10) AB) rfl) (fun h=>Br ?_) (fun h=>Br ?_)
 ·have h:=of_decide_eq_true h
  obtain⟨r,hm,e⟩:=Ed (L:=L) w0 (by omega)
  refine Cz (l:=c) (po2.fresh hc2) (ET.we (Bp (ev 9) (ev 10) e) ?_)
  show Φ _ (DF (BM O2 c acc) c)
  rw[Ad hc2]
  exact q r O2 (hL r hm) po2
 ·refine Cz (l:=c) (po2.fresh hc2) (ET.we (JC (i:=⟨#[32]⟩) (ET.cast (AK (x:=Str.ofString " ")) (congrArg T.str KQ)) (ev 6) (FN ho (by decide))) ?_)
  show Φ _ (DF (BM O2 c acc) c)
  rw[Ad hc2]
  exact q _ O2 ((Fp (by decide) ho).mono (by decide)) po2
theorem UO(hr:Room 2 (zO P w K mg base f cdv A outer s H E O0 Ξ).X.A)(xf:XFly (zO P w K mg base f cdv A outer s H E O0 Ξ).X (zO P w K mg base f cdv A outer s H E O0 Ξ).W)(G:FnT P w K mg base "_law_draw" 2 ["_law_pen","_law_many"] BX)
  (po:PO O0 p O1) (hc:O1 c=none) (hR:As 100 row) (hS:As 1 sign) (hw:Wt 101 ws) (ho:Wt 300 one) (q:UN O0 p Φ) {v3 v4:Option T}:
  HS (zO P w K mg base f cdv A outer s H E O0 Ξ) [some (.raw (.ref p)),some (.str row),some (.lst (ws.map T.str)),v3,v4,some (.raw (.ref c)),some (.lst (one.map T.str)),some (.int at'),some (.str sign),none,none] (BM O1 c acc) [Ke 8,Ke 9,Ke 10,Ke 11,Ke 12] {nx:=N,rt:=Φ}:=by
 have sb:=AX
 have hl:=hR.l
 have hz:row.length≤sizeLine:=by omega
 have f1:∀{lo hi:Option Int},As 100 (Txt.slice row lo hi):=RZ hR
 have a1:=BY (BY (f1 (lo:=none) (hi:=some at')) hS) (f1 (lo:=some at') (hi:=none))
 have a2:=BY (f1 (lo:=none) (hi:=some at')) (f1 (lo:=some (at'+1)) (hi:=none))
 have a3:=BY (BY (f1 (lo:=none) (hi:=some at')) hS) (f1 (lo:=some (at'+1)) (hi:=none))
 have aS:As 1 (Str.ofString " "):=⟨by unfold Dl;decide+kernel,by decide+kernel⟩
 have aS2:As 2 (Str.ofString "  "):=⟨by unfold Dl;decide+kernel,by decide+kernel⟩
 have aS0:As 2 (Str.ofString " 0"):=⟨by unfold Dl;decide+kernel,by decide+kernel⟩
 have a0:As 1 (Str.ofString "0"):=⟨by unfold Dl;decide+kernel,by decide+kernel⟩
 have aE:As 0 (Str.ofString ""):=⟨by unfold Dl;decide+kernel,by decide+kernel⟩
 have lS:=aS.l
 have lS0:=aS0.l
 have l0:=a0.l
 have lg:=hS.l
 have s1:=(f1 (lo:=none) (hi:=some at')).l
 have s2:=(f1 (lo:=some at') (hi:=none)).l
 have s3:=(f1 (lo:=some (at'+1)) (hi:=none)).l
 have t1:=(BY (f1 (lo:=none) (hi:=some at')) hS).l
 refine AY (AO 9 (ET.we (BN (AH (Ak (Ak (JL (ev 1) (ev 7) hz) (ev 8) (by omega)) (JK (ev 1) (ev 7) hz) (by omega)) (AH (Ak (JL (ev 1) (ev 7) hz) (JK (ev 1) (Ai (ev 7) AB) hz) (by omega))
  (AH (Ak (Ak (JL (ev 1) (ev 7) hz) (ev 8) (by omega)) (JK (ev 1) (Ai (ev 7) AB) hz) (by omega)) (AH AK (AH (Ak AK (ev 1) (by omega)) AC))))) (by show 5≤_;omega)) ?_) DY.nd)
 obtain⟨n,m,ec⟩:=Bu ws none (some (-1))
 have aw:=ME hw n m
 have aU:=Rb hR
 have aR:=MG (y:=Str.ofString " ") hR aS2.a (by decide+kernel)
 have lU:=aU.l
 refine AY (AO 9 (ET.we (CF (ev 9) (BN (UL (i:=1) (r:=row) rfl (by omega) (AH (JC (i:=⟨#[32]⟩) (ET.cast (AK (x:=Str.ofString " ")) (congrArg T.str KQ)) (ET.cast (QT (ev 2) (LY AB)) (congrArg T.lst ec)) (FN aw (by decide))) (AH (Ak (ev 1) AK (by omega)) (AH (Ak (ev 1) AK (by omega)) (AH (RX (ev 1) (by omega)) AC)))) (by decide+kernel) (by decide+kernel) (by decide+kernel)) (by show 6≤_;omega)) (by show 5+6≤_;omega)) ?_) DY.nd)
 refine Xd (L:=[_,_,_,_,_,_,_,_,_,_,_]) hr xf G po hc ?_ rfl ho q
 intro x hx
 simp only[List.mem_cons,List.not_mem_nil,or_false] at hx
 rcases hx with rfl|rfl|rfl|rfl|rfl|rfl|rfl|rfl|rfl|rfl|rfl
 ·exact a1.mono (by decide)
 ·exact a2.mono (by decide)
 ·exact a3.mono (by decide)
 ·exact aE.mono (by decide)
 ·exact(BY aS hR).mono (by decide)
 ·exact(BY hR aS).mono (by decide)
 ·exact aR.mono (by decide)
 ·exact(Fp (by decide) aw).mono (by decide)
 ·exact(BY hR aS0).mono (by decide)
 ·exact(BY hR a0).mono (by decide)
 ·exact aU.mono (by decide)
end
theorem NX {z : Str} {i : Int} (ha : Dl z) (h0 : 0 ≤ i) (h1 : i < z.length) : ∃ r, As 1 r ∧ atI (BW z) i = some (.str r) := by
  obtain ⟨j, rfl⟩ := Int.eq_ofNat_of_zero_le h0
  have hj : j < z.cps.toList.length := by rw [Array.length_toList]; have : j < z.length := by omega
                                          exact this
  refine ⟨⟨#[z.cps.toList[j]]⟩, ⟨Al.mpr fun d hd => ?_, Nat.le_refl _⟩, ?_⟩
  · have hd : d ∈ [z.cps.toList[j]] := hd
    rw [List.mem_singleton.mp hd]
    exact Al.mp ha _ (List.getElem_mem hj)
  · refine BP ?_
    unfold BW
    rw [List.getElem?_map, List.getElem?_eq_getElem hj]
    rfl
theorem OV{z:Str}:(BW z).length=z.length:=by
 unfold BW
 rw[List.length_map,Array.length_toList]
 rfl
def JM:List Str:=[Str.ofString "",Str.ofString "0",Str.ofString "00",Str.ofString "-1",Str.ofString "+1",Str.ofString "1.0",Str.ofString "16",Str.ofString "17",Str.ofString "1" ++OT (Str.ofString "0") 19,OT (Str.ofString "1") 21,Str.ofString "web",Str.ofString "tie",Str.ofString "01",Str.ofString "7"]
theorem Xe:∀x∈JM,As 21 x:=by
 have h:JM.all (fun x=>x.cps.all (· <128)&&decide (x.length≤21))=true:=by decide+kernel
 intro x hx
 have:=Bool.and_eq_true_iff.mp (List.all_eq_true.mp h x hx)
 exact⟨this.1,of_decide_eq_true this.2⟩
section
variable{P:Program}{w:World}{K:PySem.W.Frag}{mg:Str→Option Value}{base:Heap}{f:Addr}{cdv:Value}{A:Around}{outer:List Env}{s:Shared}{H:Hp}{E:XK}{O0 O1:AQ}{Ξ:Value→AQ→Prop}{p c:Addr}{Φ:BR}{N:Lb}{row sign:Str}{acc:List T}{ws one:List Str}{spot at':Int}{z:Str}
theorem Xf(hr:Room 2 (zO P w K mg base f cdv A outer s H E O0 Ξ).X.A)(xf:XFly (zO P w K mg base f cdv A outer s H E O0 Ξ).X (zO P w K mg base f cdv A outer s H E O0 Ξ).W)(Tx:Txt mg)(G:FnT P w K mg base "_law_draw" 2 ["_law_pen","_law_many"] BX)
  (po:PO O0 p O1) (hc:O1 c=none) (hR:As 100 row) (hz:z.length=94) (ha:Dl z) (hw:Wt 101 ws) (q:UN O0 p Φ):
  HS (zO P w K mg base f cdv A outer s H E O0 Ξ) [some (.raw (.ref p)),some (.str row),some (.lst (ws.map T.str)),some (.int spot),some (.lst (BW z)),some (.raw (.ref c)),none,none,none,none,none] (BM O1 c (JM.map T.str)) [Ke 4,Ke 5,Ke 6,Ke 7,Ke 8,Ke 9,Ke 10,Ke 11,Ke 12] {nx:=N,rt:=Φ}:=by
 have sb:=AX
 have hl:=hR.l
 have hsz:row.length≤sizeLine:=by omega
 have hsl:=OV (z:=z)
 refine AY (Ff (FD (ET.we (ev 5) ⟨c,rfl,⟨_,AJ⟩,Jt Bx (fun _ _=>rfl) (ET.we (ev 4) (Cb G hr xf po hc (ev 0) (CD Tx.nLen (ev 4)) (by omega) (by omega) fun i O2 i0 i1 po2 hc2=>?_))⟩)))
 obtain⟨g,ag,eg⟩:=NX ha i0 (by omega)
 refine Io eg _ ⟨_,AJ,?_,?_⟩
 ·rw[List.length_map];show 14<_;omega
 rw[Cq]
 have hO:∀x∈JM++[g],As 21 x:=fun x hx=> (List.mem_append.mp hx).elim (Xe x) fun h=>by rw[List.mem_singleton.mp h];exact ag.mono (by decide)
 have eO:JM.map T.str++[.str g]=(JM++[g]).map T.str:=by rw[List.map_append];rfl
 have lO:(JM++[g]).length=15:=rfl
 rw[eO]
 generalize JM++[g]=od at hO lO
 obtain⟨n1,m1,e1⟩:=Bu ws none (some spot)
 obtain⟨n2,m2,e2⟩:=Bu ws (some (spot+1)) none
 have w1:=ME hw n1 m1
 have w2:=ME hw n2 m2
 generalize (ws.drop n1).take m1=A1 at e1 w1
 generalize (ws.drop n2).take m2=A2 at e2 w2
 have b1:=w1.w
 have b2:=w2.w
 refine AY (AO 6 (CB Cf (CB Cf (ET.we (ET.cast (QT (ev 2) (ev 3)) (congrArg T.lst e1)) (GW (FI (Jt Bx (fun _ _=>rfl) (ET.we (ev 5) (Cb G hr xf po2 hc2 (ev 0) AB (by decide) (by decide) fun j O3 j0 j1 po3 hc3=>?_)))))))) DY.nd)
 obtain⟨y,my,ey⟩:=Ed (L:=od) j0 (by omega)
 refine Pw AJ ey _ (Av ⟨by show 1≤_;omega,Cy (by rw[List.length_map];show _+1≤_;omega) _ (ET.we (ET.cast (JJ (ev 2) (Ai (ev 3) AB)) (congrArg T.lst e2)) (Cy ?_ _ ?_))⟩)
 ·rw[List.length_append,List.length_map,List.length_map];show _+1+_≤_;omega
 have eW:A1.map T.str++[.str y]++A2.map T.str=(A1++[y]++A2).map T.str:=by rw[List.map_append,List.map_append];rfl
 rw[eW]
 have wW:=(HA (HA w1 (MF (hO y my))) w2).mono (C:=300) (by decide)
 generalize A1++[y]++A2=on at wW
 refine AY (AO 7 (Cb G hr xf po3 hc3 (ev 0) (Ai (EY Tx.nLen (ev 1) hsz) AB) (by omega) (by omega) fun at' O4 t0 t1 po4 hc4=>?_) DY.nd)
 refine AY (AO 8 (Jt Bx (fun _ _=>rfl) (ET.we (ev 4) (Cb G hr xf po4 hc4 (ev 0) (CD Tx.nLen (ev 4)) (by omega) (by omega) fun i' O5 i0' i1' po5 hc5=>?_))) DY.nd)
 obtain⟨g',ag',eg'⟩:=NX ha i0' (by omega)
 exact Io eg' _ (UO hr xf G po5 hc5 hR ag' hw wW q)
def VG:DI:=fun ts O Φ _=>∃(p:Addr) (xs:List T) (row:Str),ts=[.raw (.ref p),.str row]∧O p=some xs∧EV xs∧As 100 row∧UN O p Φ
theorem Xh{fd:FuncData}(F:Fun K "_law_odd_row" "_law_odd_row" Qc f fd)(Tx:Txt mg)(G:FnT P w K mg base "_law_draw" 2 ["_law_pen","_law_many"] BX)(Gs:FnT P w K mg base "_law_signs_of" 1 [] NW):FnOk P w K mg base (CXe P w) 3 f fd ["_law_pen","_law_row"] (Du K VG):=by
 refine Mx F DY ?_ ?_
 ·rintro ts O Φ Ξ ⟨p,xs,row,rfl,_⟩
  rfl
 ·rintro cdv A outer s H E O Ξ hr xf _ Φ ⟨p,xs,row,rfl,hp,px,hR,q⟩
  have sb:=AX
  have hl:=hR.l
  have hw:=Rc (c:=32) hR
  have hz:=hw.w
  refine AY (AO 2 (ET.we (t:=.lst ((Txt.split row ⟨#[32]⟩).map T.str)) (DW (ev 1) (ET.cast (AK (x:=Str.ofString " ")) (congrArg T.str KQ)) rfl (by omega) (by omega)) ?_) DY.nd)
  have hp0:=split_pos row ⟨#[32]⟩
  generalize Txt.split row ⟨#[32]⟩=ws at hw hz hp0
  refine AY (AO 3 (BA G hr xf (PO.start hp px) (ev 0) (CD Tx.nLen (ev 2)) (by rw[List.length_map];omega) (by rw[List.length_map];omega) fun spot O1 s0 s1 po1=>?_) DY.nd)
  refine AY (AO 4 (Rf Gs (hr.mono (by decide)) xf ⟨rfl,fun z hz ha=>?_⟩) DY.nd)
  refine AY (AO 5 (EK (EA.wa (ts:=JM.map T.str) ?disp ⟨by show 14≤_;omega,fun c hc=>?_⟩)) DY.nd)
  ·exact AH AK (AH AK (AH AK (AH AK (AH AK (AH AK (AH AK (AH AK (AH (Ak AK (NT AK AB (by decide) (by decide+kernel)) (by decide+kernel)) (AH (NT AK AB (by decide) (by decide+kernel)) (AH AK (AH AK (AH AK (AH AK AC)))))))))))))
  ·exact Xf hr xf Tx G po1 hc hR hz ha hw q
end
end K71
namespace L2.TL
open PySem PySem.Spec PySem.Calls PyProof.Rows PySem.Builtin PySem.Builtin.Str
section
variable{Z:Zx}{ρ:List (Option T)}{O:AQ}{Ψ:Es}{Φ:BR}
theorem UP{o1 i1 o2 i2 e:Expr}{q1 q2 pt pos:Pos}{kt:Nat}{l:Addr}{ts:List T}{t1 t2:T}{k1 k2:Int}{m1 m2:Nat}(hc:Z.X.calm=true)(he:ET Z ρ O e (.tup [t1,t2]))(ho:O l=some ts)
  (g1:∀O',ET Z ρ O' o1 (.raw (.ref l))) (g2:∀O',ET Z ρ O' i1 (.int k1)) (g3:∀O',ET Z ρ O' o2 (.raw (.ref l))) (g4:∀O',ET Z ρ O' i2 (.int k2)) (x1:Kr ts.length k1=some m1) (x2:Kr ts.length k2=some m2)
  (k:Ψ.nx ρ (BM O l ((ts.set m1 t1).set m2 t2)))
  (ha1:∀v,assign (.Subscript o1 i1 q1) Z.X.env v=(do
   let ov←holding [v] (eval o1 Z.X.env)
   let iv←holding [v,ov] (eval i1 Z.X.env)
   standAt q1
   holding [v,ov,iv] (setItem ov iv v)
   release [v,ov,iv] []):=by intro _;rfl)
  (ha2:∀v,assign (.Subscript o2 i2 q2) Z.X.env v=(do
   let ov←holding [v] (eval o2 Z.X.env)
   let iv←holding [v,ov] (eval i2 Z.X.env)
   standAt q2
   holding [v,ov,iv] (setItem ov iv v)
   release [v,ov,iv] []):=by intro _;rfl)
  (hs:swapsWithSole [.Tuple [.Subscript o1 i1 q1,.Subscript o2 i2 q2] kt pt] e pos.line Z.X.env=pure false:=by rfl) (hw:swappedStores [.Tuple [.Subscript o1 i1 q1,.Subscript o2 i2 q2] kt pt] e Z.X.env=pure none:=by rfl):
  WS Z ρ O (.Assign [.Tuple [.Subscript o1 i1 q1,.Subscript o2 i2 q2] kt pt] e pos) Ψ:=by
 refine PS.weak (Oj (he (fun t O'=>t=.tup [t1,t2]∧O'=O) ⟨rfl,rfl⟩) (Oi hc (Dz (Kg (Ac (ρ:=ρ)) (Ac (ρ:=ρ)) GA ha1) (Dz (Kg (Ac (ρ:=ρ)) (Ac (ρ:=ρ)) GA ha2) MM))) hs hw) fun D σ H q=> ⟨q.1,?_⟩
 rintro v H1 _ _ ⟨rfl,rfl⟩ f1 r1
 obtain⟨a,vs,rfl,ha,rv⟩:=r1.tup_inv
 obtain⟨v1,v2,rfl,rv1,rv2⟩:=rv.two_inv
 refine⟨a,_,rfl,.inl (.inl ha),rfl,v1,_,rfl,?_⟩
 refine⟨_,_,g1 _ (fun t O'=>t=.raw (.ref l)∧O'=_) ⟨rfl,rfl⟩,q.1.step f1,?_⟩
 rintro vo H2 _ _ ⟨rfl,rfl⟩ f2 r2
 refine⟨_,_,g2 _ (fun t O'=>t=.int k1∧O'=_) ⟨rfl,rfl⟩,q.1.step (f1.trans f2),?_⟩
 rintro vi H3 _ _ ⟨rfl,rfl⟩ f3 r3
 cases r2.raw_inv
 obtain⟨xs,hx,rx⟩:=f3.ok l ts ho
 have rv1':=(rv1.kp f2.kp f1.ok).kp f3.kp f2.ok
 have rv2':=(rv2.kp f2.kp f1.ok).kp f3.kp f2.ok
 have fp:=Frm.put f3.ok ho (rx.set rv1' m1)
 have f:=f1.trans (f2.trans (f3.trans fp))
 have rv2':=rv2'.kp fp.kp f3.ok
 refine⟨l,xs,k1,m1,rfl,r3.int_inv,hx,by rw[rx.length];exact x1,v2,_,rfl,?_⟩
 refine⟨_,_,g3 _ (fun t O'=>t=.raw (.ref l)∧O'=_) ⟨rfl,rfl⟩,q.1.step f,?_⟩
 rintro vo' H4 _ _ ⟨rfl,rfl⟩ f4 r4
 refine⟨_,_,g4 _ (fun t O'=>t=.int k2∧O'=_) ⟨rfl,rfl⟩,q.1.step (f.trans f4),?_⟩
 rintro vi' H5 _ _ ⟨rfl,rfl⟩ f5 r5
 cases r4.raw_inv
 obtain⟨ys,hy,ry⟩:=f5.ok l (ts.set m1 t1) AJ
 have rv2':=(rv2'.kp f4.kp fp.ok).kp f5.kp f4.ok
 have fq:=Frm.put f5.ok AJ (ry.set rv2' m2)
 have ff:=f.trans (f4.trans (f5.trans fq))
 refine⟨l,ys,k2,m2,rfl,r5.int_inv,hy,by rw[ry.length,List.length_set];exact x2,rfl,?_⟩
 rw[Cq] at ff
 exact q.2.nx ρ _ σ _ k (q.1.step ff) ff.kp
theorem Xj(i j:Nat){x y:Str}{a b:Expr}{px py pt pos:Pos}{kt k2 pt2}(hc:Z.X.calm=true)(hN:Z.X.N.Nodup)(h:WA Z ρ O [a,b] fun ts O'=>∃t u,ts=[t,u]∧Ψ.nx ((ρ.set i (some t)).set j (some u)) O')
  (hi:Z.X.N[i]?=some x:=by rfl) (hj:Z.X.N[j]?=some y:=by rfl) (hij:i≠j:=by decide) (hx:Z.X.env.scope.names.lookup x=some .local:=by rfl) (hy:Z.X.env.scope.names.lookup y=some .local:=by rfl)
  (hw:swappedStores [.Tuple [.Name x px,.Name y py] kt pt] (.Tuple [a,b] k2 pt2) Z.X.env=pure (some [x,y]):=by rfl)
  (hs:swapsWithSole [.Tuple [.Name x px,.Name y py] kt pt] (.Tuple [a,b] k2 pt2) pos.line Z.X.env=pure false:=by rfl):
  WS Z ρ O (.Assign [.Tuple [.Name x px,.Name y py] kt pt] (.Tuple [a,b] k2 pt2) pos) Ψ:=
 PS.weak (VX hc hN hi hj hij hx hy h hw hs) fun D σ H q=> ⟨q.1,fun vs H' ts O' ⟨t,u,e,p⟩ f r=>by
  subst e
  obtain⟨v,w,rfl,r1,r2⟩:=r.two_inv
  exact⟨v,w,rfl,q.2.nx _ O' _ H' p ⟨((q.1.step f).rl.set r1).set r2,(q.1.step f).fr⟩ f.kp⟩⟩
theorem JN{e hi:Expr}{p2 pos:Pos}{ts:List T}{i:Int}{l:Addr}(ho:O l=some ts)(h:ET Z ρ O e (.raw (.ref l)))(h2:ET Z ρ O hi (.int i)):ET Z ρ O (.Subscript e (.Slice none (some hi) none p2) pos) (.lst (FG ts none (some i))):=fun Φ k=>by
 refine PE.weak (Bh EC (Ac (ρ:=ρ)) Dc (Bw (Ac (ρ:=ρ)))) fun σ H0 Q q=>?_
 refine⟨O,_,h (fun t O'=>t=.raw (.ref l)∧O'=O) ⟨rfl,rfl⟩,q.1,?_⟩
 rintro v H1 _ _ ⟨rfl,rfl⟩ f1 r1
 refine⟨_,_,h2 (fun t O'=>t=.int i∧O'=_) ⟨rfl,rfl⟩,q.1.step f1,?_⟩
 rintro v2 H2 _ _ ⟨rfl,rfl⟩ f2 r2
 cases r1.raw_inv
 have ff:=f1.trans f2
 obtain⟨xs,h1,r3⟩:=ff.ok l ts ho
 exact⟨i,r2.int_inv,l,xs,rfl,.inl (.inl h1),fun p hp=>q.2 _ _ _ _ k (ff.trans (.new ff.ok hp)) (.lst AF (ff.ok.none_of hp) ((r3.cut).kp (Au ff.ok hp) ff.ok))⟩
theorem OW{o e:Expr}{apos cpos:Pos}{i j:Str}(h:ET Z ρ O o (.str i))(h2:ET Z ρ O e (.str j))(hj:(j.length==0)=false)(hi:i.length≤sizeLine)(hz:(Txt.split i j).length≤sizeLine)(q:∀a,O a=none→Φ (.raw (.ref a)) (BM O a ((Txt.split i j).map T.str)))(hbase:attributeBase o "split" Z.X.env (eval o Z.X.env)=eval o Z.X.env:=by rfl)
  (hfew:((backTo cpos (starEach [e] Z.X.env)).all (fun x=>!x.1)&&(backToKw cpos (keywordEach [] Z.X.env)).all (fun x=>x.1.isSome)&&decide ([e].length+([]:List Keyword).length+(if([]:List Keyword).isEmpty then 0 else 1)<30))=true:=by rfl) (hline:(apos.endLine==cpos.line)=true:=by rfl)
  (hs:starEach [e] Z.X.env=(false,eval e Z.X.env)::starEach [] Z.X.env:=by rfl) (hplain:(backTo cpos (starEach [] Z.X.env)).any (·.1)=false:=by rfl):
  WE Z ρ O (.Call (.Attribute o "split" apos) [e] [] cpos) Φ:=
 Hv PySem.F.plainAttrs_str PySem.F.slot_str_split PySem.F.type_str_split KE (ET.we h ⟨Fj,EA.wa (AN h2 AC hs) fun H v vs Q ok r1 r2 acc=>by
  cases r1.str_inv
  obtain⟨u,rfl,r3⟩:=r2.one_inv
  cases r3.str_inv
  exact⟨i,j,rfl,rfl,hj,hi,hz,fun l hl=>acc _ _ _ _ (q l (ok.none_of hl)) (.newO ok hl (Reps.ofStrs _)) (.raw _)⟩⟩) hbase hfew hline hs hplain
theorem UQ{o e:Expr}{apos cpos:Pos}{i:Str}(h:ET Z ρ O o (.str i))(h2:WE Z ρ O e fun t O1=>∃xs:List Str,(t=.lst (xs.map T.str)∨∃l,t=.raw (.ref l)∧O1 l=some (xs.map T.str))∧JoinOk i xs=true∧Φ (.str (Txt.join i xs)) O1)(hbase:attributeBase o "join" Z.X.env (eval o Z.X.env)=eval o Z.X.env:=by rfl)
  (hfew:((backTo cpos (starEach [e] Z.X.env)).all (fun x=>!x.1)&&(backToKw cpos (keywordEach [] Z.X.env)).all (fun x=>x.1.isSome)&&decide ([e].length+([]:List Keyword).length+(if([]:List Keyword).isEmpty then 0 else 1)<30))=true:=by rfl) (hline:(apos.endLine==cpos.line)=true:=by rfl)
  (hs:starEach [e] Z.X.env=(false,eval e Z.X.env)::starEach [] Z.X.env:=by rfl) (hplain:(backTo cpos (starEach [] Z.X.env)).any (·.1)=false:=by rfl):
  WE Z ρ O (.Call (.Attribute o "join" apos) [e] [] cpos) Φ:=by
 refine Hv PySem.F.plainAttrs_str PySem.F.slot_str_join PySem.F.type_str_join NA (ET.we h ⟨Fj,Cu (PE.weak h2 fun σ H Q q=> ⟨q.1,fun v H1 t O1 p f r=>q.2 v H1 t O1 ?_ f r⟩) hs⟩) hbase hfew hline hs hplain
 obtain⟨xs,ht,hok,p⟩:=p
 refine Av fun H v vs Q ok r1 r2 acc=>?_
 cases r1.str_inv
 obtain⟨u,rfl,r3⟩:=r2.one_inv
 rcases ht with rfl| ⟨l,rfl,hl⟩
 ·obtain⟨a,ys,rfl,h1,_,r4⟩:=r3.lst_inv
  cases r4.strs
  exact⟨i,a,xs,rfl,rfl,.inl (.inl h1),hok,acc _ H _ _ p (.refl ok) (.str _)⟩
 ·cases r3.raw_inv
  obtain⟨ys,h1,r4⟩:=ok l _ hl
  cases r4.strs
  exact⟨i,l,xs,rfl,rfl,.inl (.inl h1),hok,acc _ H _ _ p (.refl ok) (.str _)⟩
end
theorem UR{K:PySem.W.Frag}{O:AQ}{l:Addr}{ts us:List T}(ho:O l=some ts)(hl:ts.length+us.length≤sizeLine):RP K Vn (.raw (.ref l)) (.lst us) O (.lst (ts++us)):=fun Φ p H v w Q ok r1 r2 q=>by
 cases r1.raw_inv
 obtain⟨xs,h1,r1⟩:=ok l ts ho
 obtain⟨b,ys,rfl,h2,_,r2⟩:=r2.lst_inv
 exact⟨l,b,xs,ys,rfl,rfl,h1,h2,by rw[r1.length,r2.length];exact hl,fun a hq=>q _ _ _ O p (.new ok hq) (.lst AF (ok.none_of hq) ((r1.append r2).kp (Au ok hq) ok))⟩
end L2.TL
namespace K71
open PySem L2 L2.TL PySem.Spec PyProof.Rows PySem.Builtin PySem.Builtin.Str
def bq:List Str:=["_law_pen","_law_rows","_law_spot","_law_other","_law_way"]
theorem Rh:FnScope bq ["_law_pen","_law_rows"] (AA Wv):=⟨rfl,rfl,rfl,by decide+kernel,rfl,by decide+kernel,by decide+kernel⟩
theorem PO.keep{O0 O:AQ}{p l:Addr}{ts:List T}(h:PO O0 p O)(hl:O0 l=some ts)(n:p≠l):O l=some ts:=by
 obtain⟨xs,rfl,_⟩:=h
 rw[BC (Ne.symm n)]
 exact hl
theorem HB{B:Nat}:∀{M:List Str},(∀x∈M,As B x)→Wt (M.length*(B+1)) M
 | [],_=> ⟨(fun x h=>by cases h),by simp⟩
 |x::M,h=>by
  have i:=HB fun y hy=>h y (List.mem_cons_of_mem _ hy)
  have k:=HA (MF (h x (List.mem_cons_self ..))) i
  refine k.mono ?_
  rw[List.length_cons,Nat.succ_mul]
  omega
structure Rs(n B:Nat)(M:List Str):Prop where
 a:∀x∈M,As B x
 l:M.length≤n
theorem Rs.app{n m B:Nat}{M N:List Str}(h:Rs n B M)(k:Rs m B N):Rs (n+m) B (M++N):=
 ⟨fun x hx=> (List.mem_append.mp hx).elim (h.a x) (k.a x),by rw[List.length_append];have:=h.l;have:=k.l;omega⟩
theorem Rs.cut{n B:Nat}{M:List Str}(h:Rs n B M)(i j:Nat):Rs n B ((M.drop i).take j):=
 ⟨fun x hx=>h.a x (List.mem_of_mem_drop (List.mem_of_mem_take hx)),Nat.le_trans ((List.take_sublist ..).trans (List.drop_sublist ..)).length_le h.l⟩
theorem Rs.one{B:Nat}{x:Str}(h:As B x):Rs 1 B [x]:=⟨fun y hy=>by rw[List.mem_singleton.mp hy];exact h,Nat.le_refl _⟩
theorem Rs.set{n B i:Nat}{M:List Str}{x:Str}(h:Rs n B M)(hx:As B x):Rs n B (M.set i x):=
 ⟨fun y hy=> (List.mem_or_eq_of_mem_set hy).elim (h.a y) fun e=>by rw[e];exact hx,by rw[List.length_set];exact h.l⟩
theorem Rs.mono{n m B C:Nat}{M:List Str}(h:Rs n B M)(e:n≤m)(f:B≤C):Rs m C M:=⟨fun x hx=> (h.a x hx).mono f,Nat.le_trans h.l e⟩
def VH(M:List Str):Prop:=Rs 450 20 M∨∃A x B,M=A++[x]++B∧Rs 225 20 A∧As 400 x∧Rs 225 20 B
theorem NY{M:List Str}(h:VH M):Wt 10000 M:=by
 rcases h with h| ⟨A,x,B,rfl,hA,hx,hB⟩
 ·have:=HB h.a
  exact this.mono (by have:=h.l;omega)
 ·have a:=(HB hA.a).mono (C:=4725) (by have:=hA.l;omega)
  have b:=(HB hB.a).mono (C:=4725) (by have:=hB.l;omega)
  exact(HA (HA a (MF hx)) b).mono (by decide)
def br(p:Addr)(Φ:BR):Prop:=∀(M:List Str) (t:T) (O':AQ),VH M→(t=.lst (M.map T.str)∨∃l,t=.raw (.ref l)∧O' l=some (M.map T.str))→(∃xs,O' p=some xs∧EV xs)→Φ t O'
def VI:DI:=fun ts O Φ _=>∃(p l:Addr) (xs:List T) (L:List Str),ts=[.raw (.ref p),.raw (.ref l)]∧p≠l∧O p=some xs∧EV xs∧O l=some (L.map T.str)∧1≤L.length∧Rs 220 20 L∧br p Φ
def US:List Str:=[Str.ofString "tie 0 1",Str.ofString "",Str.ofString "tie 14 15",Str.ofString "web 1 0"]
theorem Xl:∀x∈US,As 20 x:=by
 have h:US.all (fun x=>x.cps.all (· <128)&&decide (x.length≤20))=true:=by decide+kernel
 intro x hx
 have:=Bool.and_eq_true_iff.mp (List.all_eq_true.mp h x hx)
 exact⟨this.1,of_decide_eq_true this.2⟩
theorem Ri{n:Nat}{i:Int}(h0:0≤i)(h1:i<n):Kr n i=some i.toNat:=by
 unfold Kr
 rw[if_pos h0,if_pos h1]
section
variable{P:Program}{w:World}{K:PySem.W.Frag}{mg:Str→Option Value}{base:Heap}{f:Addr}
theorem Xm{fd:FuncData}(F:Fun K "_law_spoilt_of" "_law_spoilt_of" Wv f fd)(Tx:Txt mg)(G:FnT P w K mg base "_law_draw" 2 ["_law_pen","_law_many"] BX)(Go:FnT P w K mg base "_law_odd_row" 3 ["_law_pen","_law_row"] VG):FnOk P w K mg base (CXe P w) 4 f fd ["_law_pen","_law_rows"] (Du K VI):=by
 refine Mx F Rh ?_ ?_
 ·rintro ts O Φ Ξ ⟨p,l,xs,L,rfl,_⟩
  rfl
 ·rintro cdv A outer s H E O Ξ hr xf _ Φ ⟨p,l,xs,L,rfl,n,hp,px,hl,l0,hL,q⟩
  have sb:=AX
  have ll:=hL.l
  have hr2:=hr.mono (j:=2) (by decide)
  refine AY (Xj 2 3 rfl Rh.nd (FI (BA G hr2 xf (PO.start hp px) (ev 0) (ER Tx.nLen (ev 1) hl) (by rw[List.length_map];omega) (by rw[List.length_map];omega) fun sp O1 s0 s1 po1=>FI (BA G hr2 xf po1 (ev 0) (ER Tx.nLen (ev 1) (po1.keep hl n)) (by rw[List.length_map];omega) (by rw[List.length_map];omega) fun ot O2 o0 o1 po2=>Av ⟨_,_,rfl,?_⟩))))
  rw[List.length_map] at s1 o1
  refine AY (AO 4 (BA G hr2 xf po2 (ev 0) AB (by decide) (by decide) fun way O3 w0 w1 po3=>?_) Rh.nd)
  have hl3:=po3.keep hl n
  have hp3:=po3.at
  obtain⟨n1,m1,e1⟩:=Bu L none (some sp)
  obtain⟨n2,m2,e2⟩:=Bu L (some (sp+1)) none
  obtain⟨n3,m3,e3⟩:=Bu L none (some (sp+1))
  obtain⟨n4,m4,e4⟩:=Bu L (some sp) none
  have c1:=hL.cut n1 m1
  have c2:=hL.cut n2 m2
  have c3:=hL.cut n3 m3
  have c4:=hL.cut n4 m4
  generalize (L.drop n1).take m1=A1 at e1 c1
  generalize (L.drop n2).take m2=A2 at e2 c2
  generalize (L.drop n3).take m3=A3 at e3 c3
  generalize (L.drop n4).take m4=A4 at e4 c4
  have d1:=c1.l
  have d2:=c2.l
  have d3:=c3.l
  have d4:=c4.l
  obtain⟨x1,mx1,ex1⟩:=Ed (L:=L) s0 s1
  obtain⟨x2,mx2,ex2⟩:=Ed (L:=L) o0 o1
  refine KA (CS (ev 4) AB) (fun _=>Br (AS (ET.we (CF (ET.cast (JN hl3 (ev 1) (ev 2)) (congrArg T.lst e1)) (ET.cast (Fo hl3 (ev 1) (Ai (ev 2) AB)) (congrArg T.lst e2)) (by rw[List.length_map,List.length_map];omega)) ?w0))) (fun _=>?_)
  case w0=>
   exact q (A1++A2) _ _ (.inl ((c1.app c2).mono (by decide) (by decide))) (.inl (by rw[List.map_append])) hp3
  refine KA (CS (ev 4) AB) (fun _=>Br (AS (ET.we (CF (ET.cast (JN hl3 (ev 1) (Ai (ev 2) AB)) (congrArg T.lst e3)) (ET.cast (Fo hl3 (ev 1) (ev 2)) (congrArg T.lst e4)) (by rw[List.length_map,List.length_map];omega)) ?w1))) (fun _=>?_)
  case w1=>
   exact q (A3++A4) _ _ (.inl ((c3.app c4).mono (by decide) (by decide))) (.inl (by rw[List.map_append])) hp3
  refine KA (CS (ev 4) AB) (fun _=>AY (UP rfl (Dt (AH (Cv hl3 (ev 1) (ev 3) ex2) (AH (Cv hl3 (ev 1) (ev 2) ex1) AC))) hl3 (fun _=>ev 1) (fun _=>ev 2) (fun _=>ev 1) (fun _=>ev 3) (Ri s0 (by rw[List.length_map];exact s1)) (Ri o0 (by rw[List.length_map];exact o1)) (Br (AS (ET.we (ev 1) ?w2))))) (fun _=>?_)
  case w2=>
   refine q ((L.set sp.toNat x2).set ot.toNat x1) _ _ (.inl (((hL.set (hL.a _ mx2)).set (hL.a _ mx1)).mono (by decide) (by decide))) (.inr ⟨l,rfl,?_⟩) ?_
   ·rw[AJ,List.map_set,List.map_set]
   ·obtain⟨ys,h1,h2⟩:=hp3
    exact⟨ys,by rw[BC n];exact h1,h2⟩
  refine KA (CS (ev 4) AB) (fun _=>Br (AS (CB Cf (ET.we (ev 1) (GW (FI (Jt Bx (fun _ _=>rfl) (ET.we (BN (ts:=US.map T.str) (AH AK (AH AK (AH AK (AH AK AC)))) (by show 4≤_;omega)) (BA G hr2 xf po3 (ev 0) AB (by decide) (by decide) fun j O4 j0 j1 po4=>?w3))))))))) (fun _=>?_)
  case w3=>
   obtain⟨y,my,ey⟩:=Ed (L:=US) j0 j1
   refine Io ey _ (Av ⟨by show 1≤_;omega,UR (po4.keep hl n) (by rw[List.length_map];show _+1≤_;omega) _ ?_⟩)
   exact q (L++[y]) _ _ (.inl ((hL.app (Rs.one (Xl y my))).mono (by decide) (by decide))) (.inl (by rw[List.map_append];rfl)) po4.at
  refine Br (AS (CB Cf (CB Cf (ET.we (ET.cast (JN hl3 (ev 1) (ev 2)) (congrArg T.lst e1)) (GW (FI (BK Go hr xf (EA.wa (AH (ev 0) (AH (Cv hl3 (ev 1) (ev 2) ex1) AC)) ?w4))))))))
  case w4=>
   obtain⟨ys,h1,h2⟩:=hp3
   refine⟨p,ys,x1,rfl,h1,h2,(hL.a _ mx1).mono (by decide),fun r O4 ar po4=>Av ⟨by show 1≤_;omega,Cy (by rw[List.length_map];show _+1≤_;omega) _ (ET.we (ET.cast (Fo (po4.keep hl3 n) (ev 1) (Ai (ev 2) AB)) (congrArg T.lst e2)) (Cy ?_ _ ?_))⟩⟩
   ·rw[List.length_append,List.length_map,List.length_map];show _+1+_≤_;omega
   ·exact q (A1++[r]++A2) _ _ (.inr ⟨A1,r,A2,rfl,c1.mono (by decide) (by decide),ar,c2.mono (by decide) (by decide)⟩) (.inl (by rw[List.map_append,List.map_append];rfl)) po4.at
end
theorem Rj{m:Nat}(h:m<256):As 3 (nT m):=by
 have k:(List.range 256).all (fun m=> (nT m).cps.all (· <128)&&decide ((nT m).length≤3))=true:=by decide+kernel
 have:=Bool.and_eq_true_iff.mp (List.all_eq_true.mp k m (List.mem_range.mpr h))
 exact⟨this.1,of_decide_eq_true this.2⟩
theorem Rk{wd:Str}{a b:Nat}(hw:As 3 wd)(ha:a<256)(hb:b<256):As 20 (FX wd [a,b]):=by
 have h:Wt ([wd,nT a,nT b].length*(3+1)) [wd,nT a,nT b]:=HB fun x hx=>by
  simp only[List.mem_cons,List.not_mem_nil,or_false] at hx
  rcases hx with rfl|rfl|rfl
  ·exact hw
  ·exact Rj ha
  ·exact Rj hb
 exact(Fp (by decide) h).mono (by show 3*(3+1)≤20;decide)
theorem UT{n:Int}{ps:List (Int×Int)}(h:WebS n ps):Rs 220 20 (BZ n ps):=by
 have h1:=h.n1
 have h2:=h.few
 refine⟨fun x hx=>?_,by simp[BZ];omega⟩
 rcases List.mem_cons.mp hx with rfl|hx
 ·exact Rk ⟨by unfold Dl;decide+kernel,by decide+kernel⟩ (by omega) (by omega)
 ·obtain⟨p,hp,rfl⟩:=List.mem_map.mp hx
  have h3:=h.pr p hp
  unfold IE at h3
  exact Rk ⟨by unfold Dl;decide+kernel,by decide+kernel⟩ (by omega) (by omega)
section
variable{P:Program}{w:World}{K:PySem.W.Frag}{mg:Str→Option Value}{base:Heap}{CP CL:Addr}
end
end K71
namespace L2.TL
open PySem PySem.Spec PyProof.Rows
theorem MH{Z:Zx}{ρ:List (Option T)}{O:AQ}{e:Expr}{p pos:Pos}{ns:List Int}(m:Z.X.mg "sorted" =none)(h:ET Z ρ O e (.tup (ns.map T.int)))(hl:ns.length<64)(hg:Gl Z.X "sorted":=by rfl)
  (he:starEach [e] Z.X.env=(false,eval e Z.X.env)::starEach [] Z.X.env:=by rfl):ET Z ρ O (.Call (.Name "sorted" p) [e] [] pos) (.lst ((PySem.W.sortI ns).map T.int)):=fun Φ q=>Li m h hl (fun ms pm pw=>by rw[PySem.W.eq_sortI pm pw];exact q) hg he
end L2.TL
namespace K71
open PySem L2 L2.TL PySem.Spec PyProof.Rows
def IH(n:Int)(L:List (Int×Int)):Prop:=∀p∈L,0≤p.1∧p.1<n∧0≤p.2∧p.2<n
def Ee:List Str:=["_law_pen","_law_most","_law_n","_law_half","_law_way","_law_every","_law_one","_law_share","_law_drawn","_law_step","_law_pairs","_law_pair"]
theorem Aq:FnScope Ee ["_law_pen","_law_most"] (AA DH):=⟨rfl,rfl,rfl,by decide+kernel,rfl,by decide+kernel,by decide+kernel⟩
def HU(i:Nat):Stmt:=(Aa DH).getD i (.Pass ⟨0,0,0,0⟩)
def cJ:Stmt→List Stmt
 | .If _ a _ _=>a
 |_=> []
theorem Zq:(Ao ["_law_other"] [(("_law_pair" :Str),11)]).Nodup:=by decide+kernel
theorem Zr:(Ao ["_law_pair"] []).Nodup:=by decide+kernel
theorem Zs:(Ao ["_law_other"] [(("_law_one" :Str),6)]).Nodup:=by decide+kernel
theorem Zt:(Ao ["_law_pair"] [(("_law_pen" :Str),0),(("_law_share" :Str),7)]).Nodup:=by decide+kernel
theorem Zu:(Ao ["_law_pair"] [(("_law_half" :Str),3)]).Nodup:=by decide+kernel
theorem VJ:(Ao ["_law_at"] [(("_law_half" :Str),3)]).Nodup:=by decide+kernel
section
variable{P:Program}{w:World}{K:PySem.W.Frag}{mg:Str→Option Value}{base:Heap}{f:Addr}{cdv:Value}{A:Around}{outer:List Env}{s:Shared}{H:Hp}{E:XK}{O0 O1:AQ}{Ξ:Value→AQ→Prop}{p:Addr}{n:Int}{L:List (Int×Int)}{v3 v4 v5 v6 v7 v8 v9 v11:Option T}{Φ:BR}{N:Lb}
abbrev zW(P:Program)(w:World)(K:PySem.W.Frag)(mg:Str→Option Value)(base:Heap)(f:Addr)(cdv:Value)(A:Around)(outer:List Env)(s:Shared)(H:Hp)(E:XK)(O:AQ)(Ξ:Value→AQ→Prop):Zx:=zB P w K mg base Ee "_law_some_web" (AA DH) f cdv A outer s H E O Ξ
abbrev MI(p:Addr)(n:Int)(v3 v4 v5 v6 v7 v8 v9:Option T)(L:List (Int×Int))(v11:Option T):List (Option T):=[some (.raw (.ref p)),some (.int 16),some (.int n),v3,v4,v5,v6,v7,v8,v9,some (.lst (L.map AE)),v11]
def Rm(O0:AQ)(p:Addr)(Φ:BR):Prop:=∀(n:Int) (ps:List (Int×Int)) (O':AQ),3≤n→n≤16→(∀q∈ps,IE n q)→ps.Pairwise Yx→ps.length≤200→PO O0 p O'→Φ (Gm n ps) O'
theorem Rn(hr:Room 2 (zW P w K mg base f cdv A outer s H E O0 Ξ).X.A)(xf:XFly (zW P w K mg base f cdv A outer s H E O0 Ξ).X (zW P w K mg base f cdv A outer s H E O0 Ξ).W)(Gw:FnT P w K mg base "_law_web_of" 1 ["_law_many","_law_ties"] Df)
  (po:PO O0 p O1) (n0:3≤n) (n1:n≤16) (hL:IH n L) (hl:L.length≤140) (q:Rm O0 p Φ):
  Gb (zW P w K mg base f cdv A outer s H E O0 Ξ) (MI p n v3 v4 v5 v6 v7 v8 v9 L v11) O1 [HU 14] {nx:=N,rt:=Φ}:=by
 have sb:=AX
 have lf:(L.filter fun p=>!decide (p.1=p.2)).length≤L.length:=List.length_filter_le ..
 refine AI (AS (BK Gw (hr.mono (by decide)) xf (EA.wa (AH (ev 2) (AH (Lf ["_law_pair"] [] L AE AE (fun p=>!decide (p.1=p.2)) rfl (Dj (AA DH) Ee (by decide+kernel)) (Cw (ev 10)) (by omega) fun x hx=> ⟨[some (AE x)],fun X' Oe He is O'=>?_⟩) AC)) ⟨n,L.filter fun p=>!decide (p.1=p.2),rfl,by omega,fun p hp=>?_,fun rs r1 r2 r3=>q n rs O1 n0 n1 (fun z hz=>?_) r1 (by omega) po⟩)))
 ·obtain⟨cl,s',H',fp,rfl⟩:=is
  exact⟨Ab 0 Zr (by decide),GY (AZ (ev 0) AB) (AZ (ev 0) AB),fun _=>ev 0⟩
 ·have:=hL p (List.mem_filter.mp hp).1
  unfold bf
  omega
 ·obtain⟨y,hy,rfl⟩:=List.mem_map.mp ((r2 z).mp hz)
  obtain⟨h1,h2⟩:=List.mem_filter.mp hy
  have:=hL y h1
  have h2:y.1≠y.2:=by simpa using h2
  unfold IE mm
  show 0≤min _ _∧min _ _<max _ _∧max _ _<n
  omega
theorem Ro(hr:Room 2 (zW P w K mg base f cdv A outer s H E O0 Ξ).X.A)(xf:XFly (zW P w K mg base f cdv A outer s H E O0 Ξ).X (zW P w K mg base f cdv A outer s H E O0 Ξ).W)(Tx:Txt mg)(G:FnT P w K mg base "_law_draw" 2 ["_law_pen","_law_many"] BX)(Gw:FnT P w K mg base "_law_web_of" 1 ["_law_many","_law_ties"] Df)
  (po:PO O0 p O1) (n0:3≤n) (n1:n≤16) (hL:IH n L) (hl:L.length≤130) (q:Rm O0 p Φ):
  Gb (zW P w K mg base f cdv A outer s H E O0 Ξ) (MI p n v3 v4 v5 v6 v7 v8 v9 L v11) O1 [HU 13,HU 14] {nx:=N,rt:=Φ}:=by
 have sb:=AX
 have hu:(zW P w K mg base f cdv A outer s H E O0 Ξ).X.A.units<cLine:=by have:=hr.un;omega
 refine AD (Us (LZ JR (Af _) (BA G hr xf po (ev 0) AB (by decide) (by decide) fun r0 O2 _ _ po2=>ET.we AB (Il _ ⟨_,rfl,Vp (fun _=>?_) (fun _=>AW (Rn hr xf Gw po2 n0 n1 hL (by omega) q))⟩))))
 refine AD (AO 6 (BA G hr xf po2 (ev 0) (Ez (ev 2) AB) (by omega) (by omega) fun one O3 o0 o1 po3=>?_) Aq.nd)
 refine AD (AO 11 (LX (FI (ET.we (ev 6) (FI (CB El (ET.we (Ai (ev 6) AB) (BA G hr xf po3 (ev 0) (Ez (Ez (ev 2) AB) (ev 6)) (by omega) (by omega) fun r O4 r0 r1 po4=>GX _ (Av ⟨by show 2≤sizeLine;decide,?_⟩))))))))  Aq.nd)
 have lf:(L.filter fun x=>!decide (PySem.W.sortI [x.1,x.2]=[one,one+1+r])).length≤L.length:=List.length_filter_le ..
 refine AI (AO 10 (CB Cf (ET.we (Lf ["_law_other"] [("_law_pair",11)] L AE AE (fun x=>!decide (PySem.W.sortI [x.1,x.2]=[one,one+1+r])) rfl (Dj (AA DH) Ee (by decide+kernel)) (Cw (ev 10)) (by omega) fun x hx=> ⟨[some (AE x),some (AE (one,one+1+r))],fun X' Oe He is O'=>?_⟩) (CB TJ (ET.we (BN (AH (ev 11) AC) (by show 1≤sizeLine;decide)) (BA G hr xf po4 (ev 0) AB (by decide) (by decide) fun k O5 k0 k1 po5=>TK (by omega) _ ?_))))) Aq.nd)
 ·obtain⟨cl,s',H',fp,rfl⟩:=is
  exact⟨Ab 0 Zq (by decide),BD (Wi hu) (Af _) (Yz (ms:=[one,one+1+r])) (MH (ns:=[x.1,x.2]) Tx.nSorted (ev 0) (by simp)) (QF Tx.nList (ev 1)),fun _=>ev 0⟩
 ·have lr:(List.replicate k.toNat (T.tup [.int one,.int (one+1+r)])).length≤1:=by rw[List.length_replicate];omega
  refine Cy (by rw[List.length_map];omega) _ ?_
  have e:(L.filter fun x=>!decide (PySem.W.sortI [x.1,x.2]=[one,one+1+r])).map AE++List.replicate k.toNat (T.tup [.int one,.int (one+1+r)])=((L.filter fun x=>!decide (PySem.W.sortI [x.1,x.2]=[one,one+1+r]))++List.replicate k.toNat (one,one+1+r)).map AE:=by
   rw[List.map_append,List.map_replicate];rfl
  rw[e]
  refine Rn hr xf Gw po5 n0 n1 (fun z hz=>?_) (by rw[List.length_append,List.length_replicate];omega) q
  rcases List.mem_append.mp hz with hz|hz
  ·exact hL z (List.mem_filter.mp hz).1
  ·rw[(List.mem_replicate.mp hz).2]
   show 0≤one∧one<n∧0≤one+1+r∧one+1+r<n
   omega
end
theorem Ef{n st bg:Int}:(KM n st bg).length=n.toNat:=by simp[KM]
theorem HC{n st bg m:Int}(n0:0<n)(b0:0≤bg)(h:bg+n≤m):IH m (KM n st bg):=by
 intro p hp
 obtain⟨i,hi,rfl⟩:=List.mem_map.mp hp
 have hi:=List.mem_range.mp hi
 have h1:=Int.emod_nonneg (0+(i:Int)+st) (show n≠0 by omega)
 have h2:=Int.emod_lt_of_pos (0+(i:Int)+st) n0
 show 0≤bg+(0+(i:Int))∧bg+(0+(i:Int))<m∧0≤bg+(0+(i:Int)+st)%n∧bg+(0+(i:Int)+st)%n<m
 omega
def SE(h:Int):List (Int×Int):=(List.range h.toNat).map fun(i:Nat)=> (0+(i:Int),h+(0+(i:Int)))
theorem UU{h:Int}:(SE h).length=h.toNat:=by simp[SE]
theorem Rp{h m:Int}(e:2*h≤m)(h0:0≤h):IH m (SE h):=by
 intro p hp
 obtain⟨i,hi,rfl⟩:=List.mem_map.mp hp
 have hi:=List.mem_range.mp hi
 show 0≤0+(i:Int)∧0+(i:Int)<m∧0≤h+(0+(i:Int))∧h+(0+(i:Int))<m
 omega
theorem Eg{n:Int}{L M:List (Int×Int)}(a:IH n L)(b:IH n M):IH n (L++M):=fun p hp=> (List.mem_append.mp hp).elim (a p) (b p)
section
variable{P:Program}{w:World}{K:PySem.W.Frag}{mg:Str→Option Value}{base:Heap}{f:Addr}{cdv:Value}{A:Around}{outer:List Env}{s:Shared}{H:Hp}{E:XK}{O0 O1:AQ}{Ξ:Value→AQ→Prop}{p:Addr}{n hf way st:Int}{L es:List (Int×Int)}{v6 v7 v8:Option T}{Φ:BR}{N:Lb}
theorem MJ{ρ:List (Option T)}(Tx:Txt mg)(h0:0≤hf)(h1:hf≤8)(hρ:ρ[3]?=some (some (.int hf)))(hρl:ρ.length=12):ET (zW P w K mg base f cdv A outer s H E O0 Ξ) ρ O1 (match Wz ((cJ (HU 11)).getD 1 (.Pass ⟨0,0,0,0⟩)) with| .BinOp _ _ b _=>b|x=>x) (.lst ((SE hf).map AE)):=by
 have sb:=AX
 match ρ,hρl,hρ with
 | [a0,a1,a2,a3,a4,a5,a6,a7,a8,a9,a10,a11],_,hρ=>
  cases(show a3=some (.int hf) from Option.some.inj hρ)
  refine ET.cast (Bq ["_law_at"] [("_law_half",3)] (List.range hf.toNat) (fun i=> .int (0+(i:Int))) (fun i=>AE (0+(i:Int),hf+(0+(i:Int)))) rfl (Dj (AA DH) Ee (by decide+kernel)) (Bc Tx.nRange (ev 3) ⟨by omega,by omega⟩) (by simp;omega) fun x hx=> ⟨[some (.int (0+(x:Int))),some (.int hf)],fun X' Oe He is O'=>?_⟩) ?_
  ·obtain⟨cl,s',H',fp,rfl⟩:=is
   exact⟨Ab 0 VJ (by decide),Fh (ev 0) (Ai (ev 1) (ev 0))⟩
  ·unfold SE
   rw[List.map_map];rfl
theorem MK{ρ:List (Option T)}(Tx:Txt mg)(h0:0≤hf)(h1:hf≤8)(hρ:ρ[3]?=some (some (.int hf)))(hρl:ρ.length=12):ET (zW P w K mg base f cdv A outer s H E O0 Ξ) ρ O1 (match Wz ((cJ (HU 12)).getD 1 (.Pass ⟨0,0,0,0⟩)) with| .BinOp _ _ b _=>b|x=>x) (.lst ((SE hf).map AE)):=by
 have sb:=AX
 match ρ,hρl,hρ with
 | [a0,a1,a2,a3,a4,a5,a6,a7,a8,a9,a10,a11],_,hρ=>
  cases(show a3=some (.int hf) from Option.some.inj hρ)
  refine ET.cast (Bq ["_law_at"] [("_law_half",3)] (List.range hf.toNat) (fun i=> .int (0+(i:Int))) (fun i=>AE (0+(i:Int),hf+(0+(i:Int)))) rfl (Dj (AA DH) Ee (by decide+kernel)) (Bc Tx.nRange (ev 3) ⟨by omega,by omega⟩) (by simp;omega) fun x hx=> ⟨[some (.int (0+(x:Int))),some (.int hf)],fun X' Oe He is O'=>?_⟩) ?_
  ·obtain⟨cl,s',H',fp,rfl⟩:=is
   exact⟨Ab 0 VJ (by decide),Fh (ev 0) (Ai (ev 1) (ev 0))⟩
  ·unfold SE
   rw[List.map_map];rfl
theorem Xn(hr:Room 2 (zW P w K mg base f cdv A outer s H E O0 Ξ).X.A)(xf:XFly (zW P w K mg base f cdv A outer s H E O0 Ξ).X (zW P w K mg base f cdv A outer s H E O0 Ξ).W)(Tx:Txt mg)(G:FnT P w K mg base "_law_draw" 2 ["_law_pen","_law_many"] BX)(Gr:FnT P w K mg base "_law_round" 1 ["_law_n","_law_step","_law_begin"] Fm)(Gw:FnT P w K mg base "_law_web_of" 1 ["_law_many","_law_ties"] Df)
  (po:PO O0 p O1) (n0:3≤n) (n1:n≤16) (f0:3≤hf) (f1:hf≤8) (hE:IH n es) (hel:es.length≤120) (hL:IH n L) (hl:L.length≤120) (h7:way=7→L.length≤16) (q:Rm O0 p Φ):
  Gb (zW P w K mg base f cdv A outer s H E O0 Ξ) (MI p n (some (.int hf)) (some (.int way)) (some (.lst (es.map AE))) v6 v7 v8 (some (.int st)) L none) O1 [HU 9,HU 10,HU 11,HU 12,HU 13,HU 14] {nx:=N,rt:=Φ}:=by
 have sb:=AX
 refine AD (Fe (Ψ:={nx:=fun ρ' O'=>O1=O'∧∃L,ρ'=MI p n (some (.int hf)) (some (.int way)) (some (.lst (es.map AE))) v6 v7 v8 (some (.int st)) L none∧IH n L∧L.length≤120,rt:=Φ}) (AU (CS (ev 4) AB) (fun h=>?_) (fun h=>AW ⟨rfl,L,rfl,hL,hl⟩)) ?_ (fun _ _ z=>z) (fun _ _ z=>z) (fun _ _ z=>z))
 ·have h:way=7:=by simpa using h
  have:=h7 h
  have e:(KM n (st+1) 0).length=n.toNat:=Ef
  refine AI (AO 10 (ET.we (CF (ev 10) (BB Gr (hr.mono (by decide)) xf (AH (ev 2) (AH (Ai (ev 9) AB) (AH AB AC))) ⟨n,st+1,0,rfl,by omega,by omega,rfl⟩) (by simp only[List.length_map];omega)) ?_) Aq.nd)
  refine⟨rfl,L++KM n (st+1) 0,?_,Eg hL (HC (by omega) (by omega) (by omega)),by rw[List.length_append];omega⟩
  unfold MI
  rw[List.map_append];rfl
 rintro _ _ ⟨rfl,L,rfl,hL,hl⟩
 refine AD (Fe (Ψ:={nx:=fun ρ' O'=>O1=O'∧∃L,ρ'=MI p n (some (.int hf)) (some (.int way)) (some (.lst (es.map AE))) v6 v7 v8 (some (.int st)) L none∧IH n L∧L.length≤120,rt:=Φ}) (AU (CS (ev 4) AB) (fun h=>?_) (fun h=>AW ⟨rfl,L,rfl,hL,hl⟩)) ?_ (fun _ _ z=>z) (fun _ _ z=>z) (fun _ _ z=>z))
 ·have lf:(es.filter fun x=>decide (x.1<hf)&&decide (hf≤x.2)).length≤es.length:=List.length_filter_le ..
  refine AI (Jy (i:=10) (nc:=["_law_pair"]) (cap:=[("_law_half",3)]) (by rfl) Aq.nd rfl (Dj (AA DH) Ee (by decide+kernel)) (Cw (ev 5) _ (FQ es AE AE (fun x=>decide (x.1<hf)&&decide (hf≤x.2)) (by omega) (fun x hx=> ⟨[some (AE x),some (.int hf)],fun X' Oe He is O'=>?_⟩) ?_)))
  ·obtain⟨cl,s',H',fp,rfl⟩:=is
   exact⟨Ab 0 Zu (by decide),EW.eb (GZ (Mn (AZ (ev 0) AB) (ev 1)) fun _=>EM (Pu (AZ (ev 0) AB) (ev 1))),fun _=>ev 0⟩
  ·exact⟨rfl,_,rfl,fun z hz=>hE z (List.mem_filter.mp hz).1,by omega⟩
 rintro _ _ ⟨rfl,L,rfl,hL,hl⟩
 have e1:(KM hf 1 0).length=hf.toNat:=Ef
 have e2:(KM hf st hf).length=hf.toNat:=Ef
 have e3:(SE hf).length=hf.toNat:=UU
 have e4:(KM (2*hf) 1 0).length=(2*hf).toNat:=Ef
 refine AD (Fe (Ψ:={nx:=fun ρ' O'=>O1=O'∧∃n L,3≤n∧n≤16∧ρ'=MI p n (some (.int hf)) (some (.int way)) (some (.lst (es.map AE))) v6 v7 v8 (some (.int st)) L none∧IH n L∧L.length≤120,rt:=Φ}) (AU (EW.eb (GZ (CS (ev 4) AB) fun _=>EM (Uq (FA AB (ev 3) (.inl ⟨by decide,by decide⟩)) (ev 1)))) (fun h=>?_) (fun h=>AW ⟨rfl,n,L,n0,n1,rfl,hL,hl⟩)) ?_ (fun _ _ z=>z) (fun _ _ z=>z) (fun _ _ z=>z))
 ·have h:(decide (way=4)&&decide (2*hf≤16))=true:=h
  have h16:2*hf≤16:=by simp at h;omega
  refine AD (AO 2 (ET.we (FA AB (ev 3) (.inl ⟨by decide,by decide⟩)) ?_) Aq.nd)
  refine AI (AO 10 (ET.we (t:=.lst ((KM hf 1 0++KM hf st hf++SE hf).map AE)) ?_ ?_) Aq.nd)
  rotate_left
  ·exact⟨rfl,2*hf,_,by omega,by omega,rfl,Eg (Eg (HC (by omega) (by omega) (by omega)) (HC (by omega) (by omega) (by omega))) (Rp (by omega) (by omega)),by simp only[List.length_append];omega⟩
  rw[List.map_append,List.map_append]
  exact CF (CF (BB Gr (hr.mono (by decide)) xf (AH (ev 3) (AH AB (AH AB AC))) ⟨hf,1,0,rfl,by omega,by omega,rfl⟩) (BB Gr (hr.mono (by decide)) xf (AH (ev 3) (AH (ev 9) (AH (ev 3) AC))) ⟨hf,st,hf,rfl,by omega,by omega,rfl⟩) (by simp only[List.length_map];omega)) (MJ Tx (by omega) (by omega) rfl rfl) (by simp only[List.length_append,List.length_map];omega)
 rintro _ _ ⟨rfl,n,L,n0,n1,rfl,hL,hl⟩
 refine AD (AU (EW.eb (GZ (CS (ev 4) AB) fun _=>EM (Uq (FA AB (ev 3) (.inl ⟨by decide,by decide⟩)) (ev 1)))) (fun h=>?_) (fun h=>AW (Ro hr xf Tx G Gw po n0 n1 hL (by omega) q)))
 have h:(decide (way=5)&&decide (2*hf≤16))=true:=h
 have h16:2*hf≤16:=by simp at h;omega
 refine AD (AO 2 (ET.we (FA AB (ev 3) (.inl ⟨by decide,by decide⟩)) ?_) Aq.nd)
 refine AI (AO 10 (ET.we (t:=.lst ((KM (2*hf) 1 0++SE hf).map AE)) ?_ (Ro hr xf Tx G Gw po (by omega) (by omega) (Eg (HC (by omega) (by omega) (by omega)) (Rp (by omega) (by omega))) (by simp only[List.length_append];omega) q)) Aq.nd)
 rw[List.map_append]
 exact CF (BB Gr (hr.mono (by decide)) xf (AH (ev 2) (AH AB (AH AB AC))) ⟨2*hf,1,0,rfl,by omega,by omega,rfl⟩) (MK Tx (by omega) (by omega) rfl rfl) (by simp only[List.length_map];omega)
end
section
variable{P:Program}{w:World}{K:PySem.W.Frag}{mg:Str→Option Value}{base:Heap}{f:Addr}{cdv:Value}{A:Around}{outer:List Env}{s:Shared}{H:Hp}{E:XK}{O0 O1:AQ}{Ξ:Value→AQ→Prop}{p:Addr}{n hf way sh st:Int}{L es ds:List (Int×Int)}{v6 v7 v8:Option T}{Φ:BR}{N:Lb}
def Rq(n:Int)(es ds:List (Int×Int)):List (List (Int×Int)):=[ds,KM n 1 0,es,ds,[],[],ds,KM n 1 0]
theorem Rt(n0:3≤n)(n1:n≤16)(hE:IH n es)(hel:es.length≤120)(hD:IH n ds)(hdl:ds.length≤120)(w0:0≤way)(w1:way<8):
  ∃L,atI ((Rq n es ds).map fun L=>T.lst (L.map AE)) way=some (.lst (L.map AE))∧IH n L∧L.length≤120∧(way=7→L.length≤16):=by
 have e:(KM n 1 0).length=n.toNat:=Ef
 have hR:IH n (KM n 1 0):=HC (by omega) (by omega) (by omega)
 have:way=0∨way=1∨way=2∨way=3∨way=4∨way=5∨way=6∨way=7:=by omega
 have hN:IH n []:=fun _ h=>by cases h
 rcases this with rfl|rfl|rfl|rfl|rfl|rfl|rfl|rfl
 ·exact⟨ds,rfl,hD,hdl,fun z=>by omega⟩
 ·exact⟨_,rfl,hR,by omega,fun z=>by omega⟩
 ·exact⟨es,rfl,hE,hel,fun z=>by omega⟩
 ·exact⟨ds,rfl,hD,hdl,fun z=>by omega⟩
 ·exact⟨[],rfl,hN,by simp,fun z=>by omega⟩
 ·exact⟨[],rfl,hN,by simp,fun z=>by omega⟩
 ·exact⟨ds,rfl,hD,hdl,fun z=>by omega⟩
 ·exact⟨_,rfl,hR,by omega,fun z=>by omega⟩
theorem Xo(hr:Room 2 (zW P w K mg base f cdv A outer s H E O0 Ξ).X.A)(xf:XFly (zW P w K mg base f cdv A outer s H E O0 Ξ).X (zW P w K mg base f cdv A outer s H E O0 Ξ).W)(Tx:Txt mg)(G:FnT P w K mg base "_law_draw" 2 ["_law_pen","_law_many"] BX)(Gr:FnT P w K mg base "_law_round" 1 ["_law_n","_law_step","_law_begin"] Fm)(Gw:FnT P w K mg base "_law_web_of" 1 ["_law_many","_law_ties"] Df)
  (po:PO O0 p O1) (n0:3≤n) (n1:n≤16) (f0:3≤hf) (f1:hf≤8) (w0:0≤way) (w1:way<8) (hE:IH n es) (hel:es.length≤120) (q:Rm O0 p Φ):
  Gb (zW P w K mg base f cdv A outer s H E O0 Ξ) [some (.raw (.ref p)),some (.int 16),some (.int n),some (.int hf),some (.int way),some (.lst (es.map AE)),v6,none,none,none,none,none] O1 [HU 5,HU 6,HU 7,HU 8,HU 9,HU 10,HU 11,HU 12,HU 13,HU 14] {nx:=N,rt:=Φ}:=by
 have sb:=AX
 refine AD (AO 7 (CB El (ET.we AB (BA G hr xf po (ev 0) AB (by decide) (by decide) fun r O2 r0 r1 po2=>GX _ ?_))) Aq.nd)
 refine AD (Jy (i:=8) (nc:=["_law_pair"]) (cap:=[("_law_pen",0),("_law_share",7)]) (by rfl) Aq.nd rfl (Dj (AA DH) Ee (by decide+kernel)) (EI.wi (Cw (ev 5)) ?_))
 refine⟨fun i acc O'=>∃qs:List (Int×Int),acc=qs.map AE∧IH n qs∧qs.length≤i∧i≤120∧PO O0 p O',⟨[],rfl,(fun _ h=>by cases h),by simp,by omega,po2⟩,?_,?_⟩
 ·rintro i t acc O' c e ⟨qs,rfl,hq,hl,_,po⟩ hc
  rw[List.getElem?_map] at e
  cases ee:es[i]? with
  |none=>rw[ee] at e;cases e
  |some z=>
   rw[ee] at e
   cases e
   have hi:=(List.getElem?_eq_some_iff.mp ee).1
   refine⟨[some (AE z),some (.raw (.ref p)),some (.int (2+r))],fun X' Oe He is=>?_⟩
   obtain⟨cl,s',H',fp,rfl⟩:=is
   refine⟨Ab 0 Zt (by decide),Mt (LZ JR (Af _) (Cb G hr Iy po hc (ev 1) (ev 2) (by omega) (by omega) fun r' O3 r0' r1' po3 hc3=>ET.we AB (Il _ ⟨_,rfl,?_⟩)))⟩
   refine Vp (fun h=>?_) (fun h=>?_)
   ·rintro X' Oe He ⟨cl,s',H',fp,rfl⟩
    refine ET.we (ev 0) ⟨O3,rfl,hc3,by rw[List.length_map];omega,qs++[z],by rw[List.map_append];rfl,fun y hy=>?_,by simp;omega,by omega,po3⟩
    rcases List.mem_append.mp hy with hy|hy
    ·exact hq y hy
    ·rw[List.mem_singleton.mp hy];exact hE z (List.mem_of_getElem? ee)
   ·exact⟨O3,rfl,hc3,qs,rfl,hq,by omega,by omega,po3⟩
 ·rintro acc O' ⟨ds,rfl,hD,hdl,_,po3⟩
  rw[List.length_map] at hdl
  refine AD (AO 9 (CB El (ET.we AB (BA G hr xf po3 (ev 0) (Fg Tx.nMax rfl AB (Fc (Ez (ev 3) AB) AB ⟨by decide,by decide⟩)) (by omega) (by omega) fun st O4 t0 t1 po4=>GX _ ?_))) Aq.nd)
  obtain⟨L,a1,a2,a3,a4⟩:=Rt (n:=n) (es:=es) (ds:=ds) (way:=way) n0 n1 hE hel hD (by omega) w0 w1
  refine AD (AO 10 (ET.we (Bp (ts:=(Rq n es ds).map fun L=>T.lst (L.map AE)) (BN (AH (ev 8) (AH ?_ (AH (ev 5) (AH (ev 8) (AH (BN AC (Nat.zero_le _)) (AH (BN AC (Nat.zero_le _)) (AH (ev 8) (AH ?_ AC)))))))) (Nat.le_trans (show 8≤1000 by decide) (Nat.le_of_lt sb))) (ev 4) a1) ?_) Aq.nd)
  ·exact BB Gr (hr.mono (by decide)) xf (AH (ev 2) (AH AB (AH AB AC))) ⟨n,1,0,rfl,by omega,by omega,rfl⟩
  ·exact BB Gr (hr.mono (by decide)) xf (AH (ev 2) (AH AB (AH AB AC))) ⟨n,1,0,rfl,by omega,by omega,rfl⟩
  ·exact Xn hr xf Tx G Gr Gw po4 n0 n1 f0 f1 hE hel a2 a3 a4 q
def Ru:DI:=fun ts O Φ _=>∃(p:Addr) (xs:List T),ts=[.raw (.ref p),.int 16]∧O p=some xs∧EV xs∧Rm O p Φ
theorem Kf{fd:FuncData}(F:Fun K "_law_some_web" "_law_some_web" DH f fd)(Tx:Txt mg)(G:FnT P w K mg base "_law_draw" 2 ["_law_pen","_law_many"] BX)(Gr:FnT P w K mg base "_law_round" 1 ["_law_n","_law_step","_law_begin"] Fm)(Gw:FnT P w K mg base "_law_web_of" 1 ["_law_many","_law_ties"] Df):FnOk P w K mg base (CXe P w) 3 f fd ["_law_pen","_law_most"] (Du K Ru):=by
 refine Aj F Aq ?_ ?_
 ·rintro ts O Φ Ξ ⟨p,xs,rfl,_⟩
  rfl
 ·rintro cdv A outer s H E O Ξ hr xf _ Φ ⟨p,xs,rfl,hp,px,q⟩
  have sb:=AX
  refine AD (AO 2 (CB El (ET.we AB (BA G hr xf (PO.start hp px) (ev 0) (Ez (ev 1) AB) (by decide) (by decide) fun r O1 r0 r1 po1=>GX _ ?_))) Aq.nd)
  have n0:3≤3+r:=by omega
  have n1:3+r≤16:=by omega
  refine AD (AO 3 (ET.we (Fg Tx.nMax rfl AB (Fc (ev 2) AB ⟨by decide,by decide⟩)) ?_) Aq.nd)
  have f0:3≤max 3 ((3+r)/2):=by omega
  have f1:max 3 ((3+r)/2)≤8:=by omega
  refine AD (AO 4 (BA G hr xf po1 (ev 0) AB (by decide) (by decide) fun way O2 w0 w1 po2=>?_) Aq.nd)
  refine AD (AO 5 (EK (Av ⟨Nat.zero_le _,fun l hl=>?_⟩)) Aq.nd)
  refine AD (FE BQ.own rfl (EI.wi (Bc Tx.nRange (ev 2) ⟨by omega,by omega⟩) ⟨fun i ρ' O'=>i≤16∧∃(es:List (Int×Int)) (v6:Option T),ρ'=[some (.raw (.ref p)),some (.int 16),some (.int (3+r)),some (.int (max 3 ((3+r)/2))),some (.int way),some (.raw (.ref l)),v6,none,none,none,none,none]∧O'=BM O2 l (es.map AE)∧IH (3+r) es∧2*es.length+i=i*i,⟨by omega,[],none,rfl,rfl,(fun _ h=>by cases h),rfl⟩,?_,?_⟩))
  ·rintro i t _ _ e ⟨_,es,v6,rfl,rfl,hE,hlen⟩
   obtain⟨hi,rfl⟩:=Ge e
   have hi2:i<16:=by omega
   have hsq:i*i≤15*15:=Nat.mul_le_mul (by omega) (by omega)
   refine⟨[some (.raw (.ref p)),some (.int 16),some (.int (3+r)),some (.int (max 3 ((3+r)/2))),some (.int way),some (.raw (.ref l)),some (.int (0+i)),none,none,none,none,none],Ab 6 Aq.nd (by show 6<12;decide),?_⟩
   refine AI (Ff (OK (ET.we (ev 5) ⟨l,rfl,⟨_,AJ⟩,ET.we (Bq ["_law_other"] [("_law_one",6)] (List.range (0+(i:Int)).toNat) (fun j=> .int (0+(j:Int))) (fun j=>AE (0+(j:Int),0+(i:Int))) rfl (Dj (AA DH) Ee (by decide+kernel)) (Bc Tx.nRange (ev 6) ⟨by omega,by omega⟩) (by simp;omega) fun x hx=> ⟨[some (.int (0+(x:Int))),some (.int (0+(i:Int)))],fun X' Oe He is O'=>?_⟩) ⟨_,_,rfl,AJ,by simp only[List.length_map,List.length_range];omega,?_⟩⟩)))
   ·obtain⟨cl,s',H',fp,rfl⟩:=is
    exact⟨Ab 0 Zs (by decide),Fh (ev 0) (ev 1)⟩
   ·refine⟨by omega,es++(List.range (0+(i:Int)).toNat).map (fun(j:Nat)=> (0+(j:Int),0+(i:Int))),_,rfl,?_,Eg hE (fun z hz=>?_),?_⟩
    ·rw[Cq,List.map_append,List.map_map];rfl
    ·obtain⟨j,hj,rfl⟩:=List.mem_map.mp hz
     have hj:=List.mem_range.mp hj
     show 0≤0+(j:Int)∧0+(j:Int)<3+r∧0≤0+(i:Int)∧0+(i:Int)<3+r
     omega
    ·rw[List.length_append,List.length_map,List.length_range]
     have e1:(i+1)*(i+1)=i*i+2*i+1:=by rw[Nat.succ_mul,Nat.mul_succ];omega
     rw[e1]
     omega
  ·rintro _ _ ⟨_,es,v6,rfl,rfl,hE,hlen⟩
   rw[CC] at hlen
   have hsq:(3+r).toNat*(3+r).toNat≤16*(3+r).toNat:=Nat.mul_le_mul_right _ (by omega)
   refine EN (p:=l) (n:=5) (ts:=es.map AE) AJ ?_ rfl ?_
   ·obtain⟨ys,rfl,_⟩:=po2
    by_cases hb:l=p
    ·rw[hb,AJ] at hl;cases hl
    ·rw[BC hb] at hl;exact hl
   ·rw[Ad hl]
    exact Xo hr xf Tx G Gr Gw po2 n0 n1 f0 f1 w0 w1 hE (by omega) q
end
open PySem.Builtin PySem.Builtin.Str
def VL(i:Nat):Stmt:=(Aa ON).getD i (.Pass ⟨0,0,0,0⟩)
def Zv:Stmt→Expr
 | .For _ e _ _ _=>e
 |_=> .Constant .none 0 ⟨0,0,0,0⟩
def Xp:List Str:=["_law_script","_law_thing","_law_some","_law_text","_law_cell","_law_pen","_law_turn","_law_spoilt"]
theorem Eh:FnScope Xp ["_law_script"] (AA ON):=⟨rfl,rfl,rfl,by decide+kernel,rfl,by decide+kernel,by decide+kernel⟩
def NZ(K:PySem.W.Frag):Sp:=fun vs H Q _=>∃(a:Addr) (ns:List Int),vs=[.ref a]∧SqL K H a (ns.map V.int)∧ns.length≤63∧∀H',Q (.bl true) H'
def Zw:BR:=fun t _=>t=.bl true
theorem Na{Z:Zx}{ρ:List (Option T)}{O:AQ}{tg iter:Expr}{body ss:List Stmt}{pos:Pos}{Ψ:Es}(hp:PassesOwn (model Z.X.prog Z.X.w) Z.X.A Z.X.env Z.X.xe)(hc:Z.X.calm=true)(h:HWE Z ρ O iter fun t O'=>∃ts,t=.lst ts∧∃I:Nat→Lb,I 0 ρ O'∧
  (∀i t ρ' O',ts[i]?=some t→I i ρ' O'→∃ρ2,WG Z Z.X.N.length ρ' O' tg t ρ2∧HS Z ρ2 O' body {nx:=I (i+1),rt:=Ψ.rt,bk:=fun ρ' O'=>HS Z ρ' O' ss Ψ,ct:=I (i+1)})∧∀ρ' O',I ts.length ρ' O'→HS Z ρ' O' ss Ψ)
  (hs:∀x,foldedSetIterable iter Z.X.env x=pure x):HS Z ρ O (.For tg iter body [] pos::ss) Ψ:=AY (TF hp hc h hs)
def Zy:List T:=[.non,.int 0,.bl true,.lst [.str "web 1 0"],.tup [.str "web 1 0"],.dct]
theorem Zz:∀t∈Zy,NI t=false∧CY t=false:=by
 intro t ht
 unfold Zy at ht
 simp only[List.mem_cons,List.not_mem_nil,or_false] at ht
 rcases ht with rfl|rfl|rfl|rfl|rfl|rfl<;>exact⟨rfl,rfl⟩
def Dn:List Str:=[Str.ofString "",Str.ofString "web 1 0",Str.ofString "web 16 0",Str.ofString "web 17 0",Str.ofString "web 0 0",Str.ofString "web 2 1\ntie 0 1",Str.ofString "web 2 1",Str.ofString "web 1 0\n",Str.ofString "\n",Str.ofString "web"]
theorem UV:∀x∈Dn,As 20 x:=by
 have h:Dn.all (fun x=>x.cps.all (· <128)&&decide (x.length≤20))=true:=by decide+kernel
 intro x hx
 have:=Bool.and_eq_true_iff.mp (List.all_eq_true.mp h x hx)
 exact⟨this.1,of_decide_eq_true this.2⟩
section
variable{P:Program}{w:World}{K:PySem.W.Frag}{mg:Str→Option Value}{base:Heap}{f:Addr}{cdv:Value}{A:Around}{outer:List Env}{s:Shared}{H:Hp}{E:XK}
abbrev zL(P:Program)(w:World)(K:PySem.W.Frag)(mg:Str→Option Value)(base:Heap)(f:Addr)(cdv:Value)(A:Around)(outer:List Env)(s:Shared)(H:Hp)(E:XK):Zx:=zB P w K mg base Xp "law" (AA ON) f cdv A outer s H E Xw (fun _ _=>False)
structure Has(P:Program)(w:World)(K:PySem.W.Frag)(mg:Str→Option Value)(base:Heap):Prop where
 tx:Txt mg
 gp:FnT P w K mg base "_law_pen_of" 1 ["_law_cell"] VB
 gs:FnT P w K mg base "_law_some_web" 3 ["_law_pen","_law_most"] Ru
 gt:FnT P w K mg base "_law_text_of" 1 ["_law_web"] NL
 gd:FnT P w K mg base "_law_told" 4 ["_law_text"] XX
 gr:FnT P w K mg base "_law_right" 5 ["_law_text"] Zj
 go:FnT P w K mg base "_law_spoilt_of" 4 ["_law_pen","_law_rows"] VI
theorem Rv{O:AQ}{ρ:List (Option T)}{a:Addr}{ns:List Int}{Φ:BR}{fC:Addr}{fdC:FuncData}(hr:Room 5 (zL P w K mg base f cdv A outer s H E).X.A)(xf:XFly (zL P w K mg base f cdv A outer s H E).X (zL P w K mg base f cdv A outer s H E).W)(hS:SqL K H a (ns.map V.int))(hn:ns.length≤63)(hρ:ρ[0]?=some (some (.raw (.ref a))))
  (FC:FnOk P w K mg base (CXe P w) 1 fC fdC ["_law_script","_law_k"] (FL K)) (mC:mg "_law_cell_at" =some (.ref fC)) (kC:PySem.W.keepIn K (.ref fC)=true) (bC:Binds K fdC ["_law_script","_law_k"] [])
  (k:∀ms:List Int,ms.length≤64→Φ (.lst (ms.map T.int)) O):HWE (zL P w K mg base f cdv A outer s H E) ρ O (Zv (VL 3)) Φ:=by
 have sb:=AX
 refine⟨?_⟩
 refine CB Cf ?_
 refine GW (FI (QH FC mC kC bC (hr.mono (by decide)) xf (AH (ev 0 hρ) (AH AB AC)) ?_))
 intro σ H1 vs Q as r acc
 obtain⟨v,u,rfl,r1,r2⟩:=r.two_inv
 cases r1.raw_inv
 cases r2.int_inv
 refine⟨a,ns,rfl,Uz as.fr.kp hS,fun c=>acc _ _ _ _ ?_ (.refl as.ok) (.int c)⟩
 refine Av ⟨by show 1≤sizeLine;decide,?_⟩
 refine Wj rfl hS (ev 0 hρ) AB AB fun ms hm=>?_
 exact Cy (ts:=[T.int c]) (us:=ms.map T.int) (by simp;omega) _ (k (c::ms) (by simp;omega))
theorem UW{O:AQ}{ρ:List (Option T)}{Φ:BR}(k:Φ (.lst Zy) O):HWE (zL P w K mg base f cdv A outer s H E) ρ O (Zv (VL 0)) Φ:=by
 have sb:=AX
 refine⟨ET.we (BN (ts:=Zy) (AH BU (AH AB (AH Mk (AH (BN (AH AK AC) (by show 1≤_;omega)) (AH (Dt (AH AK AC)) (AH Wf AC)))))) (by show 6≤_;omega)) k⟩
theorem UX{O:AQ}{ρ:List (Option T)}{es:List Expr}(he:(match VL 1 with| .Assign _ (.List es _) _=>es|_=> [])=es):HEA (zL P w K mg base f cdv A outer s H E) ρ O es (Dn.map T.str):=by
 subst he
 exact HEA.cons HET.str (HEA.cons HET.str (HEA.cons HET.str (HEA.cons HET.str (HEA.cons HET.str (HEA.cons HET.str (HEA.cons HET.str (HEA.cons HET.str (HEA.cons HET.str (HEA.cons HET.str HEA.nil)))))))))
theorem Rw{O:AQ}{v0 v1 v2 v4 v6 v7:Option T}{p:Addr}{xs:List T}{n:Int}{ps:List (Int×Int)}{Φ:BR}{N Bk Ct:Lb}(B:Has P w K mg base)(hr:Room 5 (zL P w K mg base f cdv A outer s H E).X.A)(xf:XFly (zL P w K mg base f cdv A outer s H E).X (zL P w K mg base f cdv A outer s H E).W)
  (wb:WebS n ps) (hp:O p=some xs) (px:EV xs) (k:∀v7 O',(∃ys,O' p=some ys∧EV ys)→N [v0,v1,v2,some (.str (FR n ps)),v4,some (.raw (.ref p)),v6,v7] O') {ss:List Stmt} (e:(match VL 3 with| .For _ _ [_,_,.For _ _ b _ _] _ _=>b|_=> [])=ss):
  HS (zL P w K mg base f cdv A outer s H E) [v0,v1,v2,some (.str (FR n ps)),v4,some (.raw (.ref p)),v6,v7] O ss {nx:=N,rt:=Φ,bk:=Bk,ct:=Ct}:=by
 subst e
 have sb:=AX
 have hl:=Qv wb
 have es:=Lz wb
 have rs:=UT wb
 have rl:=rs.l
 have l1:1≤(BZ n ps).length:=by simp[BZ]
 have sz:(100000:Nat)<sizeLine:=by decide
 refine AY (AO 7 (UQ (i:=⟨#[10]⟩) (ET.cast (AK (x:=Str.ofString "\n")) (congrArg T.str KR)) (BK B.go (hr.mono (by decide)) xf (FI (ET.we (ev 5) (FI (OW (ev 3) (ET.cast (AK (x:=Str.ofString "\n")) (congrArg T.str KR)) rfl (by omega) (by rw[es];omega) fun l hn=>Av ⟨p,l,xs,BZ n ps,rfl,Lg hp hn,by rw[BC (Lg hp hn)];exact hp,px,by rw[AJ,es],l1,rs,fun M t O' gm ht hp'=> ⟨M,ht,FN (NY gm) (by decide),?_⟩⟩)))))) Eh.nd)
 have aj:=Fp (c:=10) (by decide) (NY gm)
 exact Br (AU (k:=false) (EB.cast (BJ (EL (BB B.gr hr xf (AH (ev 7) AC) ⟨_,rfl,aj.a,Nat.le_trans aj.l (by decide),rfl⟩))) rfl) (fun h=>by cases h) fun _=>AW (k _ _ hp'))
end
section
variable{P:Program}{w:World}{K:PySem.W.Frag}{mg:Str→Option Value}{base:Heap}{f:Addr}{cdv:Value}{A:Around}{outer:List Env}{s:Shared}{H:Hp}{E:XK}
theorem Rx{O:AQ}{v0 v1 v2 v3 v5 v6 v7:Option T}{c:Int}{Φ:BR}{N Bk Ct:Lb}(B:Has P w K mg base)(hr:Room 5 (zL P w K mg base f cdv A outer s H E).X.A)(xf:XFly (zL P w K mg base f cdv A outer s H E).X (zL P w K mg base f cdv A outer s H E).W)
  (k:∀v3 v4 v5 v6 v7 O',N [v0,v1,v2,v3,v4,v5,v6,v7] O') {ss:List Stmt} (e:(match VL 3 with| .For _ _ b _ _=>b|_=> [])=ss):
  HS (zL P w K mg base f cdv A outer s H E) [v0,v1,v2,v3,some (.int c),v5,v6,v7] O ss {nx:=N,rt:=Φ,bk:=Bk,ct:=Ct}:=by
 subst e
 refine AY (AO 5 (BK B.gp (hr.mono (by decide)) xf (EA.wa (AH (ev 4) AC) ⟨c,rfl,fun p xs hp px=>?_⟩)) Eh.nd)
 refine AY (AO 3 (BK B.gt (hr.mono (by decide)) xf (FI (BK B.gs (hr.mono (by decide)) xf (EA.wa (AH (ev 5) (AH AB AC)) ⟨p,xs,rfl,AJ,px,fun n ps O2 n0 n1 hP pw hl po=>Av ⟨_,⟨n,ps,⟨by omega,n1,hP,pw,hl⟩,rfl,rfl⟩,?_⟩⟩)))) Eh.nd)
 have wb:WebS n ps:=⟨by omega,n1,hP,pw,hl⟩
 refine Br (FE BQ.own rfl (EI.wi (Bc (k:=6) B.tx.nRange AB ⟨by omega,by omega⟩) ⟨fun i ρ' O'=>∃v6 v7,ρ'=[v0,v1,v2,some (.str (FR n ps)),some (.int c),some (.raw (.ref p)),v6,v7]∧∃ys,O' p=some ys∧EV ys,⟨_,_,rfl,po.at⟩,?_,?_⟩))
 ·rintro i t _ O1 e ⟨v6,v7,rfl,ys,hy,py⟩
  exact⟨[v0,v1,v2,some (.str (FR n ps)),some (.int c),some (.raw (.ref p)),some t,v7],Ab 6 Eh.nd (by show 6<8;decide),(Rw B hr xf wb hy py (fun v7 O' h=> ⟨_,v7,rfl,h⟩) rfl).out⟩
 ·rintro _ O1 ⟨v6,v7,rfl,_⟩
  exact k _ _ _ _ _ _
theorem Ry{O:AQ}{v1:Option T}{a:Addr}{ns:List Int}{fC:Addr}{fdC:FuncData}(B:Has P w K mg base)(hr:Room 5 (zL P w K mg base f cdv A outer s H E).X.A)(xf:XFly (zL P w K mg base f cdv A outer s H E).X (zL P w K mg base f cdv A outer s H E).W)(hS:SqL K H a (ns.map V.int))(hn:ns.length≤63)
  (FC:FnOk P w K mg base (CXe P w) 1 fC fdC ["_law_script","_law_k"] (FL K)) (mC:mg "_law_cell_at" =some (.ref fC)) (kC:PySem.W.keepIn K (.ref fC)=true) (bC:Binds K fdC ["_law_script","_law_k"] []):
  HS (zL P w K mg base f cdv A outer s H E) [some (.raw (.ref a)),v1,some (.lst (Dn.map T.str)),none,none,none,none,none] O [VL 2,VL 3,VL 4] {nx:=fun _ O'=>Zw .non O',rt:=Zw}:=by
 refine AY (FE BQ.own rfl (EI.wi (Cw (ts:=Dn.map T.str) (ev 2)) ⟨fun i ρ' O'=>∃v3,ρ'=[some (.raw (.ref a)),v1,some (.lst (Dn.map T.str)),v3,none,none,none,none],⟨_,rfl⟩,?_,?_⟩))
 ·rintro i t _ O1 e ⟨v3,rfl⟩
  rw[List.getElem?_map] at e
  cases ec:Dn[i]? with
  |none=>rw[ec] at e;cases e
  |some x=>
   rw[ec] at e
   cases e
   have hx:=UV x (List.mem_of_getElem? ec)
   refine⟨[some (.raw (.ref a)),v1,some (.lst (Dn.map T.str)),some (.str x),none,none,none,none],Ab 3 Eh.nd (by show 3<8;decide),?_⟩
   exact AI (AU (k:=false) (EB.cast (BJ (EL (BB B.gr hr xf (AH (ev 3) AC) ⟨x,rfl,hx.a,Nat.le_trans hx.l (by decide),rfl⟩))) rfl) (fun h=>by cases h) fun _=>AW ⟨_,rfl⟩)
 ·rintro _ O1 ⟨v3,rfl⟩
  refine Na BQ.own rfl (Rv hr xf hS hn rfl FC mC kC bC fun ms hm=> ⟨ms.map T.int,rfl,fun i ρ' O'=>∃v3 v4 v5 v6 v7,ρ'=[some (.raw (.ref a)),v1,some (.lst (Dn.map T.str)),v3,v4,v5,v6,v7],⟨_,_,_,_,_,rfl⟩,?_,?_⟩) (by intro _;rfl)
  ·rintro i t _ O2 e ⟨v3,v4,v5,v6,v7,rfl⟩
   rw[List.getElem?_map] at e
   cases ec:ms[i]? with
   |none=>rw[ec] at e;cases e
   |some c=>
    rw[ec] at e
    cases e
    exact⟨[some (.raw (.ref a)),v1,some (.lst (Dn.map T.str)),v3,some (.int c),v5,v6,v7],Ab 4 Eh.nd (by show 4<8;decide),Rx B hr xf (fun _ _ _ _ _ _=> ⟨_,_,_,_,_,rfl⟩) rfl⟩
  ·rintro _ O2 ⟨v3,v4,v5,v6,v7,rfl⟩
   exact Br (AS (ET.we Mk rfl))
theorem Rz{a:Addr}{ns:List Int}{fC:Addr}{fdC:FuncData}(B:Has P w K mg base)(hr:Room 5 (zL P w K mg base f cdv A outer s H E).X.A)(xf:XFly (zL P w K mg base f cdv A outer s H E).X (zL P w K mg base f cdv A outer s H E).W)(hS:SqL K H a (ns.map V.int))(hn:ns.length≤63)
  (FC:FnOk P w K mg base (CXe P w) 1 fC fdC ["_law_script","_law_k"] (FL K)) (mC:mg "_law_cell_at" =some (.ref fC)) (kC:PySem.W.keepIn K (.ref fC)=true) (bC:Binds K fdC ["_law_script","_law_k"] []):HS (zL P w K mg base f cdv A outer s H E) (CU Xp [.raw (.ref a)]) Xw (Aa ON) {nx:=fun _ O'=>Zw .non O',rt:=Zw}:=by
 have sb:=AX
 refine Na BQ.own rfl (UW ⟨Zy,rfl,fun i ρ' O'=>∃v1,ρ'=[some (.raw (.ref a)),v1,none,none,none,none,none,none],⟨_,rfl⟩,?_,?_⟩) (by intro _;rfl)
 ·rintro i t _ O1 e ⟨v1,rfl⟩
  have ht:=Zz t (List.mem_of_getElem? e)
  refine⟨[some (.raw (.ref a)),some t,none,none,none,none,none,none],Ab 1 Eh.nd (by show 1<8;decide),?_⟩
  exact Br (AU (k:=false) (EB.cast (FM (QS B.tx.nRepr (Fd (t:=.int 0) B.gd (hr.mono (by decide)) xf (AH (ev 1) AC) fun Φ' h=> ⟨t,rfl,.inl ⟨ht.1,ht.2,h⟩⟩) (by decide)) AK) (by decide+kernel)) (fun h=>by cases h) fun _=>AW ⟨_,rfl⟩)
 ·rintro _ O1 ⟨v1,rfl⟩
  exact AY (TB 2 (UX rfl) (by show 10≤_;omega) (Ry B hr xf hS hn FC mC kC bC) Eh.nd rfl (Or.inl rfl) (.inr rfl))
theorem Xq{fd:FuncData}{fC:Addr}{fdC:FuncData}(F:Fun K "law" "law" ON f fd)(B:Has P w K mg base)
  (FC:FnOk P w K mg base (CXe P w) 1 fC fdC ["_law_script","_law_k"] (FL K)) (mC:mg "_law_cell_at" =some (.ref fC)) (kC:PySem.W.keepIn K (.ref fC)=true) (bC:Binds K fdC ["_law_script","_law_k"] []):
  FnOk P w K mg base (CXe P w) 6 f fd ["_law_script"] (NZ K):=by
 refine Yy F Eh (fun vs H Q E h=>?_) (fun cdv A outer s H vs Q E hr h=>?_)
 ·obtain⟨a,ns,rfl,_⟩:=h
  rfl
 ·obtain⟨a,ns,rfl,hS,hn,k⟩:=h
  refine⟨[.raw (.ref a)],Xw,Zw,fun _ _=>False,.cons (.raw _) .nil,QK,fun xf=>Rz B hr xf hS hn FC mC kC bC,fun v H' t O' p f r=>?_,fun cls O' H' z=>z.elim⟩
  have p:t=T.bl true:=p
  subst p
  cases r.bl_inv
  exact k H'
end
end K71
namespace L2.TL
open PySem PySem.Spec PyProof.Rows
theorem Fi.b0{K:PySem.W.Frag}{x:Str}{st:Stmt}{f:Addr}{fd:FuncData}{ps:List Str}(h:Fi K x st f fd)(hl:ps.length=0)(q:Bi x st ps []):Binds K fd ps []:=h.F.binds fun _ _ _ _ _ _ us e=>match us,e.trans hl with| [],_=>q ..
end L2.TL
namespace K71
open PySem L2 L2.TL
theorem SA{P:Program}{w:World}{K:PySem.W.Frag}{mg:Str→Option Value}{base:Heap}{C CR CNoPlace CNoNumber CNoLine CNoRing CNotEven CNoWeb CNoText CTooGreat:Addr}{b0 b1 b2 b3 b4 b5 b6 b7:Bool}(M:Mg P w K mg base)(mNoPlace:Cn K "NoPlace" CNoPlace)(mNoNumber:Cn K "NoNumber" CNoNumber)(mNoLine:Cn K "NoLine" CNoLine)(mNoRing:Cn K "NoRing" CNoRing)(mNotEven:Cn K "NotEven" CNotEven)(mNoWeb:Cn K "NoWeb" CNoWeb)(mNoText:Cn K "NoText" CNoText)(mTooGreat:Cn K "TooGreat" CTooGreat)(g:Xg K CR)(x:Xk K C CR CNoPlace CNoNumber CNoLine CNoRing CNotEven CNoWeb CNoText CTooGreat b0 b1 b2 b3 b4 b5 b6 b7):Kinds K mg C b0 b1 b2 b3 b4 b5 b6 b7:=
 ⟨⟨_,M.mm mNoPlace,x.e0⟩,⟨_,M.mm mNoNumber,x.e1⟩,⟨_,M.mm mNoLine,x.e2⟩,⟨_,M.mm mNoRing,x.e3⟩,⟨_,M.mm mNotEven,x.e4⟩,⟨_,M.mm mNoWeb,x.e5⟩,⟨_,M.mm mNoText,x.e6⟩,⟨_,M.mm mTooGreat,x.e7⟩,x.ve,⟨x.g1,x.g2,x.g3,x.g4,x.g5,g.g6,g.g7⟩⟩
theorem Xr{l:PySem.W.OpenLaw}{w:World}{K:PySem.W.Frag}{h:Heap}{mg:Str→Option Value}{fa CR CNoPlace CNoNumber CNoLine CNoRing CNotEven CNoWeb CNoText CTooGreat:Addr}{tMOST_PLACES tMOST_FIGURES tFIGURES:Tok}(X:K.In h)(G:h.Ns mainGlobals mg)(hfa:mg "law" =some (.ref fa))
  (H0:Fx K "is_whole" JE) (H1:Fx K "number_in" TZ) (H2:Fx K "numbers_behind" EU) (H3:Fx K "goes_on" NC) (H4:Fx K "web_read" Qa) (H5:Fx K "_law_cell_at" Qe) (H6:Fx K "_law_next" Qf) (H7:Fx K "_law_pen_of" Ww) (H8:Fx K "_law_draw" Qg) (H9:Fx K "_law_whole" Fl) (H10:Fx K "_law_kind_of" NF) (H11:Fx K "_law_web_of" Gu) (H12:Fx K "_law_round" JF) (H13:Fx K "_law_some_web" DH) (H14:Fx K "_law_tuples_are" CZ) (H15:Fx K "_law_web_is" JG) (H16:Fx K "_law_text_of" ND) (H17:Fx K "_law_value" Qb) (H18:Fx K "_law_signs_of" Lu) (H19:Fx K "_law_told" KJ) (H20:Fx K "_law_pair_of" JH) (H21:Fx K "_law_due_of" Ta) (H22:Fx K "_law_right" Lv) (H23:Fx K "_law_odd_row" Qc) (H24:Fx K "_law_spoilt_of" Wv) (H25:Fx K "law" ON)
  (zint:Zn K "int") (zbool:Zn K "bool") (ztuple:Zn K "tuple") (zlist:Zn K "list") (zset:Zn K "set") (zrange:Zn K "range") (zisinstance:Zn K "isinstance") (zmax:Zn K "max") (zmin:Zn K "min") (zlen:Zn K "len") (zall:Zn K "all") (zsorted:Zn K "sorted") (zrepr:Zn K "repr") (zValueError:Zn K "ValueError") (zenumerate:Zn K "enumerate") (zstr:Zn K "str") (zany:Zn K "any") (vMOST_PLACES:PySem.W.nsIn K mainGlobals "MOST_PLACES" =some (some (.int 16 tMOST_PLACES))) (vMOST_FIGURES:PySem.W.nsIn K mainGlobals "MOST_FIGURES" =some (some (.int 20 tMOST_FIGURES))) (vFIGURES:PySem.W.nsIn K mainGlobals "FIGURES" =some (some (.str "0123456789" tFIGURES))) (mNoPlace:Cn K "NoPlace" CNoPlace) (mNoNumber:Cn K "NoNumber" CNoNumber) (mNoLine:Cn K "NoLine" CNoLine) (mNoRing:Cn K "NoRing" CNoRing) (mNotEven:Cn K "NotEven" CNotEven) (mNoWeb:Cn K "NoWeb" CNoWeb) (mNoText:Cn K "NoText" CNoText) (mTooGreat:Cn K "TooGreat" CTooGreat) (mR:Cn K "RingError" CR) (gR:Xg K CR)
  (yNoText:Xk K CNoText CR CNoPlace CNoNumber CNoLine CNoRing CNotEven CNoWeb CNoText CTooGreat false false false false false false true false) (iNoText:cG K CNoText "NoText.__init__" Xb) (nRow:PySem.W.findIn K (.ref CNoText) "row" =some none)
  :∃fd:FuncData,(∀(s:Shared) (v:Value),BindsTo s fd ⟨[v],[]⟩ [("_law_script",v)])∧∀base:Heap,K.In base→base.Ns mainGlobals mg→FnOk l.prog w K mg base (CXe l.prog w) 6 fa fd ["_law_script"] (NZ K):=by
 obtain⟨f0,d0,h0⟩:=H0
 obtain⟨f1,d1,h1⟩:=H1
 obtain⟨f2,d2,h2⟩:=H2
 obtain⟨f3,d3,h3⟩:=H3
 obtain⟨f4,d4,h4⟩:=H4
 obtain⟨f5,d5,h5⟩:=H5
 obtain⟨f6,d6,h6⟩:=H6
 obtain⟨f7,d7,h7⟩:=H7
 obtain⟨f8,d8,h8⟩:=H8
 obtain⟨f9,d9,h9⟩:=H9
 obtain⟨f10,d10,h10⟩:=H10
 obtain⟨f11,d11,h11⟩:=H11
 obtain⟨f12,d12,h12⟩:=H12
 obtain⟨f13,d13,h13⟩:=H13
 obtain⟨f14,d14,h14⟩:=H14
 obtain⟨f15,d15,h15⟩:=H15
 obtain⟨f16,d16,h16⟩:=H16
 obtain⟨f17,d17,h17⟩:=H17
 obtain⟨f18,d18,h18⟩:=H18
 obtain⟨f19,d19,h19⟩:=H19
 obtain⟨f20,d20,h20⟩:=H20
 obtain⟨f21,d21,h21⟩:=H21
 obtain⟨f22,d22,h22⟩:=H22
 obtain⟨f23,d23,h23⟩:=H23
 obtain⟨f24,d24,h24⟩:=H24
 obtain⟨f25,d25,h25⟩:=H25
 have e:=hfa.symm.trans (PySem.W.mg_of X G h25.a)
 cases e
 have mm:∀{x:Str} {v:Value},PySem.W.nsIn K mainGlobals x=some (some v)→mg x=some v:=fun e=>PySem.W.mg_of X G e
 have nn:∀{x:Str},Zn K x→mg x=none:=fun e=>PySem.W.mg_none_of X G e
 have Tx:Txt mg:=⟨nn zint,nn zbool,nn ztuple,nn zlist,nn zset,nn zrange,nn zisinstance,nn zmax,nn zmin,nn zlen,nn zall,nn zsorted,nn zrepr,nn zValueError,nn zenumerate,nn zstr,nn zany,⟨tMOST_PLACES,mm vMOST_PLACES⟩,⟨tMOST_FIGURES,mm vMOST_FIGURES⟩,⟨tFIGURES,mm vFIGURES⟩⟩
 refine⟨d25,fun s v=>?_,fun base _ _=>?_⟩
 ·obtain⟨⟨_,_,_,_,_,_,_,_,_,rfl,_⟩,_⟩:=h25.F
  exact .of_eq rfl
 have M:Mg l.prog w K mg base:=⟨mm⟩
 have UNoText:=SA M mNoPlace mNoNumber mNoLine mNoRing mNotEven mNoWeb mNoText mTooGreat gR yNoText
 obtain⟨fi,di,hi⟩:=iNoText
 have G0:=h0.t M (Qd h0.F Tx) (h0.b3 rfl fun _ _ _ _ _ _ _ _ _=>rfl)
 have G1:=h1.t M (Tw h1.F Tx) (h1.b1 rfl fun _ _ _ _ _ _ _=>rfl)
 have G2:=h2.t M (UB h2.F Tx G1) (h2.b3 rfl fun _ _ _ _ _ _ _ _ _=>rfl)
 have G3:=h3.t M (XH h3.F Tx) (h3.b3 rfl fun _ _ _ _ _ _ _ _ _=>rfl)
 have X:XCl l.prog w K mg base "NoText" CNoText fi ["row"]:=⟨hi.c,hi.kp,mm mNoText,⟨di,["self","row"],Xc hi.F hi.c nRow,hi.F.binds fun _ _ _ _ _ _ us e=>match us,e with| [a,c],_=>rfl⟩,UNoText.eN,fun n hn=>by rw[List.mem_singleton.mp hn];exact nRow,by decide⟩
 have G4:=h4.t M (RE h4.F Tx X (G0.mono (by decide)) G2 (G3.mono (by decide))) (h4.b1 rfl fun _ _ _ _ _ _ _=>rfl)
 have W5:FnOk l.prog w K mg base (CXe l.prog w) 1 f5 _ _ (FL K):=Td h5.F Tx
 have G6:=h6.t M (Te h6.F) (h6.b1 rfl fun _ _ _ _ _ _ _=>rfl)
 have G7:=h7.t M (Wy h7.F Tx) (h7.b1 rfl fun _ _ _ _ _ _ _=>rfl)
 have G8:=h8.t M (Tf h8.F G6) (h8.b2 rfl fun _ _ _ _ _ _ _ _=>rfl)
 have G9:=h9.t M (OO h9.F Tx) (h9.b1 rfl fun _ _ _ _ _ _ _=>rfl)
 have C:Cat l.prog w K mg base CNoText CR fi:=⟨X,⟨⟨f10,d10,UI (JI h10.F Tx UNoText),mm h10.a,h10.F.kp,(h10.b1 rfl fun _ _ _ _ _ _ _=>rfl)⟩⟩,⟨⟨f9,d9,MC h9.F Tx,mm h9.a,h9.F.kp,(h9.b1 rfl fun _ _ _ _ _ _ _=>rfl)⟩⟩,mm mR,gR.bR,yNoText.kit⟩
 have G11:=h11.t M (OP h11.F Tx) (h11.b2 rfl fun _ _ _ _ _ _ _ _=>rfl)
 have G12:=h12.t M (Qk h12.F Tx) (h12.b3 rfl fun _ _ _ _ _ _ _ _ _=>rfl)
 have G13:=h13.t M (Kf h13.F Tx G8 G12 G11) (h13.b2 rfl fun _ _ _ _ _ _ _ _=>rfl)
 have G14:=h14.t M (Tj h14.F Tx G9) (h14.b2 rfl fun _ _ _ _ _ _ _ _=>rfl)
 have G15:=h15.t M (OQ h15.F Tx (G9.mono (by decide)) G14) (h15.b2 rfl fun _ _ _ _ _ _ _ _=>rfl)
 have G16:=h16.t M (Ts h16.F Tx) (h16.b1 rfl fun _ _ _ _ _ _ _=>rfl)
 have G17:=h17.t M (XR h17.F Tx) (h17.b1 rfl fun _ _ _ _ _ _ _=>rfl)
 have G18:=h18.t M (Rg h18.F Tx) (h18.b0 rfl fun _ _ _ _ _ _=>rfl)
 have G19:=h19.t M (Zi h19.F C G4) (h19.b1 rfl fun _ _ _ _ _ _ _=>rfl)
 have G20:=h20.t M (Zf h20.F Tx G17) (h20.b2 rfl fun _ _ _ _ _ _ _ _=>rfl)
 have G21:=h21.t M (XU h21.F Tx G20) (h21.b1 rfl fun _ _ _ _ _ _ _=>rfl)
 have G22:=h22.t M (Zk h22.F Tx G21 G19 G15 G9) (h22.b1 rfl fun _ _ _ _ _ _ _=>rfl)
 have G23:=h23.t M (Xh h23.F Tx G8 G18) (h23.b2 rfl fun _ _ _ _ _ _ _ _=>rfl)
 have G24:=h24.t M (Xm h24.F Tx G8 G23) (h24.b2 rfl fun _ _ _ _ _ _ _ _=>rfl)
 exact Xq h25.F ⟨Tx,G7,G13,G16,G19,G22,G24⟩ W5 (mm h5.a) h5.F.kp (h5.b2 rfl fun _ _ _ _ _ _ _ _=>rfl)
theorem walk{l:PySem.W.OpenLaw}{q:Program}{loose:List Str}{XP:(Str→Option Value)→Heap→Prop}{YP:World→Heap→Prop}{d:DefRec}{K:Params→PySem.W.Frag}(hn:l.most=some 63)(hdf:d.params.defaults=[])
  (hY:∀(w:World) (h:Heap),YP w h→(K w.params).In h)
  (F:∀(w:World) (mg:Str→Option Value) (fa:Addr) (h:Heap),(K w.params).In h→h.Ns mainGlobals mg→mg d.name=some (.ref fa)→
   ∃fd:FuncData,(∀(s:Shared) (u:Value),BindsTo s fd ⟨[u],[]⟩ [("_law_script",u)])∧∀base:Heap,(K w.params).In base→base.Ns mainGlobals mg→FnOk l.prog w (K w.params) mg base (CXe l.prog w) 6 fa fd ["_law_script"] (NZ (K w.params))):
  PySem.W.WalkO q loose XP YP l.row.toRowW d [] (fun f vs=>PySem.call f vs):=
 L2.SV (n:=63) (k:=6) (x:="_law_script") (CX:=fun w=>CXe l.prog w) (sp:=fun w=>NZ (K w.params)) hn (by decide) hdf ⟨rfl,by decide,by decide,rfl⟩ hY F (fun _ _ a ns hl _ hS=> ⟨a,ns,rfl,hS,hl,fun _=>rfl⟩) fun _ _ _ _ _ z=>z.never
end K71
open PySem PySem.W PyProof.Rows
set_option maxRecDepth 100000 in
set_option maxHeartbeats 0 in
theorem PySem.Challenge.cw_noshortring_k71_texts_that_write_none_holds : PySem.Challenge.rw_noshortring_k71_texts_that_write_none.Holds := by
 w_on;o_law
 refine PySem.W.holds_open (q:=K71.kq) (loose:=[]) (Xt:=fun s=>PySem.W.xlAt K71.kq [] s&&PySem.W.recOk [] s) (XP:=PySem.W.XL K71.kq []) (Yf:=fun s=>K71.ka.map s.heap.get?) (Ya:=fun w=> (K71.Kk w.params).map fun(p:Addr×Obj)=>some p.2) (YP:=PySem.W.InK K71.Kk) (N:=5784) K71.left (PySem.W.InK.of fun _=>by kernel_rfl) PySem.W.InK.keeps (fun s e=>xl_of s (Bool.and_eq_true_iff.mp e).1) XL.keeps (by rfl) (by rfl) (by rfl) (fun s e=>recFacts_of (Bool.and_eq_true_iff.mp e).2) (by rfl) (by first|assumption|decide+kernel) (by first|k_qdec|decide+kernel) ⟨rfl,rfl,rfl,rfl,rfl,by decide+kernel⟩ ?hw ?hc
 (case hw=>w_witness2)
 k_fill
 refine K71.walk (l:=PySem.Challenge.rw_noshortring_k71_texts_that_write_none) rfl rfl (fun w h Y=>Y) ?F
 case F=>
  intro w mg fa h KX G hmg
  refine' K71.Xr KX G hmg ?H0 ?H1 ?H2 ?H3 ?H4 ?H5 ?H6 ?H7 ?H8 ?H9 ?H10 ?H11 ?H12 ?H13 ?H14 ?H15 ?H16 ?H17 ?H18 ?H19 ?H20 ?H21 ?H22 ?H23 ?H24 ?H25 ?zint ?zbool ?ztuple ?zlist ?zset ?zrange ?zisinstance ?zmax ?zmin ?zlen ?zall ?zsorted ?zrepr ?zValueError ?zenumerate ?zstr ?zany ?vMOST_PLACES ?vMOST_FIGURES ?vFIGURES ?mNoPlace ?mNoNumber ?mNoLine ?mNoRing ?mNotEven ?mNoWeb ?mNoText ?mTooGreat ?mR ?gR ?yNoText ?iNoText ?nRow
  case H0|H1|H2|H3|H4|H5|H6|H7|H8|H9|H10|H11|H12|H13|H14|H15|H16|H17|H18|H19|H20|H21|H22|H23|H24|H25=> (refine' L2.TL.fi ?a ?l ?q ?k;(case a=>k_is);(case l=>k_is);(case q=>k_is);(case k=>k_is))
  case zint|zbool|ztuple|zlist|zset|zrange|zisinstance|zmax|zmin|zlen|zall|zsorted|zrepr|zValueError|zenumerate|zstr|zany=> (delta L2.TL.Zn;k_is)
  case mNoPlace|mNoNumber|mNoLine|mNoRing|mNotEven|mNoWeb|mNoText|mTooGreat|mR=> (delta L2.TL.Cn;k_is)
  case vMOST_PLACES=>k_is
  case vMOST_FIGURES=>k_is
  case vFIGURES=>k_is
  case gR=>exact⟨by k_is,by k_is,by k_is⟩
  case yNoText=>exact⟨by kit_is,by kit_is,by kit_is,by kit_is,by kit_is,by kit_is,by kit_is,by kit_is,by kit_is,rfl,by kit_is,by k_is,by k_is,by k_is,by k_is,by k_is⟩
  case iNoText=> (refine' L2.TL.ini ?l ?r ?i ?t ?s ?k ?fl ?fq ?fk;(case l=>k_is);(case r=>k_exc);(case i=>k_is);(case t=>k_is);(case s=>k_is);(case k=>k_is);(case fl=>k_is);(case fq=>k_is);(case fk=>k_is))
  case nRow=>k_is
