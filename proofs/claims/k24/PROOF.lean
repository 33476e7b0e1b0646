import PyProof.Rows.All
import Wide.All
import OpenK.AllK
import Wide.FinOn
import Lean
import PyProof.EqAt
import PyProof.EqKinds
import PyProof.TupleCall
import PySem.Challenge.RW_noshortring_k24_lacking_ties
noncomputable section
set_option Elab.async false
set_option linter.all false
set_option maxRecDepth 100000
namespace L2
open PySem PySem.Spec PyProof.Rows
abbrev IC:=Sum Int Str
def Qy:IC→Value→Bool
 | .inl k,v => Value.isInt k v
 | .inr x,v => Value.isStrOf x v
def WX (w:World):IC→Int
 | .inl k => hashInt k
 | .inr x => hashStr w x
theorem Ai:∀ {k:IC} {v:Value},Qy k v = true→(∃ i t,k = Sum.inl i∧v = Value.int i t)∨(∃ x t,k = Sum.inr x∧v = Value.str x t)
 | .inl i,v,h => by
  obtain ⟨t,e⟩:=Value.isInt_shape (k:=i) (v:=v) h
  exact .inl ⟨i,t,rfl,e⟩
 | .inr x,v,h => by
  obtain ⟨t,e⟩:=Value.isStrOf_shape (x:=x) (v:=v) h
  exact .inr ⟨x,t,rfl,e⟩
theorem Rn (a b:Int):decide ((Sum.inl a:IC) = Sum.inl b) = (a == b):=by
 by_cases e:a = b
 ·subst e; simp
 ·have h:¬ (Sum.inl a:IC) = Sum.inl b:=fun q => e (Sum.inl.inj q)
  rw [decide_eq_false h]
  exact (beq_eq_false_iff_ne.mpr e).symm
theorem Ro (a b:Str):decide ((Sum.inr a:IC) = Sum.inr b) = decide (a = b):=by
 by_cases e:a = b
 ·subst e; simp
 ·have h:¬ (Sum.inr a:IC) = Sum.inr b:=fun q => e (Sum.inr.inj q)
  rw [decide_eq_false h,decide_eq_false e]
theorem Rp (a:Int) (b:Str):decide ((Sum.inl a:IC) = Sum.inr b) = false:=decide_eq_false (fun q => nomatch q)
theorem Rq (a:Str) (b:Int):decide ((Sum.inr a:IC) = Sum.inl b) = false:=decide_eq_false (fun q => nomatch q)
def Go (prog:Program) (w:World):PySem.KeyKind prog w IC where
 is:=Qy
 hash:=WX w
 inj:=fun v a b ha hb => by
  rcases Ai ha with ⟨i,t,rfl,rfl⟩ | ⟨x,t,rfl,rfl⟩
  ·rcases Ai hb with ⟨j,u,rfl,e⟩ | ⟨y,u,rfl,e⟩
   ·injection e with e1 _; rw [e1]
   ·exact nomatch e
  ·rcases Ai hb with ⟨j,u,rfl,e⟩ | ⟨y,u,rfl,e⟩
   ·exact nomatch e
   ·injection e with e1 _; rw [e1]
 byValue:=fun k v h => by
  rcases Ai h with ⟨i,t,rfl,rfl⟩ | ⟨x,t,rfl,rfl⟩ <;> rfl
 pyHash:=fun hv h => by
  rcases Ai hv with ⟨i,t,rfl,rfl⟩ | ⟨x,t,rfl,rfl⟩
  ·exact wpAny_pyHash_int h
  ·exact wpAny_pyHash_str h
 eqBool:=fun hu hv h => by
  rcases Ai hu with ⟨i,t,rfl,rfl⟩ | ⟨x,t,rfl,rfl⟩
  ·rcases Ai hv with ⟨j,u,rfl,rfl⟩ | ⟨y,u,rfl,rfl⟩
   ·rw [Rn] at h; exact wpAny_eqBool_int h
   ·rw [Rp] at h; exact SeqAt.EqAt.int_str i t y u _ _ _ _ h
  ·rcases Ai hv with ⟨j,u,rfl,rfl⟩ | ⟨y,u,rfl,rfl⟩
   ·rw [Rq] at h; exact SeqAt.EqAt.str_int x t j u _ _ _ _ h
   ·rw [Ro] at h; exact wpAny_eqBool_str h
 «strs»:=fun k x t v h => by
  rcases Ai h with ⟨i,u,rfl,e⟩ | ⟨y,u,rfl,e⟩
  ·exact nomatch e
  ·injection e with e1 _
   subst e1
   cases v <;> rfl
inductive V where
 | non | bl (b:Bool) | int (i:Int) | str (x:Str) | byt (b:Array UInt8) | flt (b:UInt64) | ref (a:Addr) | ty (n:String)
 deriving DecidableEq
def RelV:V→Value→Prop
 | .non,u => u = Value.none
 | .bl b,u => u = Value.bool b
 | .int i,u => ∃ t,u = Value.int i t
 | .str x,u => ∃ t,u = Value.str x t
 | .byt b,u => ∃ t,u = Value.bytes b t
 | .flt b,u => ∃ t,u = Value.float b t
 | .ref a,u => u = Value.ref a
 | .ty n,u => u = Value.type n
abbrev Vals:List V→List Value→Prop:=Paired RelV
theorem Vals.length {xs:List V} {us:List Value} (r:Vals xs us):xs.length = us.length:=Paired.length r
theorem Vals.get:∀ {xs:List V} {us:List Value} {i:Nat} {x:V},Vals xs us→xs[i]? = some x→∃ u,us[i]? = some u∧RelV x u
 | _,_,_,_,.nil,e => by simp at e
 | _,_,0,_,.cons r _,e => by simp at e; subst e; exact ⟨_,rfl,r⟩
 | _,_,i + 1,x,.cons _ t,e => by
  obtain ⟨u,h1,h2⟩:=Vals.get (i:=i) (x:=x) t (by simpa using e)
  exact ⟨u,by simpa using h1,h2⟩
theorem Vals.set {x:V} {u:Value} (r:RelV x u):∀ {xs:List V} {us:List Value} (i:Nat),Vals xs us→Vals (xs.set i x) (us.set i u)
 | _,_,_,.nil => .nil
 | _,_,0,.cons _ t => .cons r t
 | _,_,i + 1,.cons q t => .cons q (Vals.set r i t)
theorem Vals.append:∀ {xs ys:List V} {us ws:List Value},Vals xs us→Vals ys ws→Vals (xs ++ ys) (us ++ ws)
 | _,_,_,_,.nil,s => s
 | _,_,_,_,.cons r t,s => .cons r (Vals.append t s)
theorem Vals.take:∀ {xs:List V} {us:List Value} (n:Nat),Vals xs us→Vals (xs.take n) (us.take n)
 | _,_,0,_ => .nil
 | _,_,_ + 1,.nil => .nil
 | _,_,n + 1,.cons r t => .cons r (Vals.take n t)
theorem Vals.drop:∀ {xs:List V} {us:List Value} (n:Nat),Vals xs us→Vals (xs.drop n) (us.drop n)
 | _,_,0,r => r
 | _,_,_ + 1,.nil => .nil
 | _,_,n + 1,.cons _ t => Vals.drop n t
def RelO:Option V→Option Value→Prop
 | some v,some u => RelV v u
 | none,none => True
 | _,_ => False
def KV {κ:Type}:List (κ × V)→List (κ × Value)→Prop:=Paired fun (p:κ × V) (q:κ × Value) => p.1 = q.1∧RelV p.2 q.2
def kV:IC→V
 | .inl i => .int i
 | .inr x => .str x
inductive HO where
 /-- a list -/
 | lst (xs:List V)
 /-- a tuple (never changes) -/
 | tup (xs:List V)
 /-- a dict whose keys are ints and texts; one whose keys are tuples of ints and texts (the empty one is both) -/
 | dK (kvs:List (IC × V)) | dT (kvs:List (List IC × V))
 /-- a set of ints: its members,its size -/
 | set (S:Int→Bool) (n:Nat)
 /-- an instance of the class at C,its dict at dx,its attributes -/
 | ins (C dx:Addr) (fs:List (Str × V))
 /-- the dict of the instance at x -/
 | own (x:Addr)
 /-- the dict of an exception -/
 | xd (fs:List (Str × V))
 /-- a bound method,f of x -/
 | met (f x:Addr)
 /-- a range object lo,lo + 1,.. below hi -/
 | rng (lo hi:Int)
 /-- a thing that is known to the object (the script; a dict while a loop walks it): read,never written while it is so -/
 | frz (o:Obj) (u:HO)
 /-- a code object's table -/
 | tbl (ps:Array Value)
 /-- any other thing,by what is true of its one object (a def of one's own: SetO a S n:=HO.ext fun h => ..) -/
 | ext (φ:Heap→Prop)
abbrev Hp:=Addr→Option HO
def Aw (H:Hp) (a:Addr) (o:HO):Hp:=fun b => if b = a then some o else H b
theorem AK {H:Hp} {a:Addr} {o:HO}:Aw H a o a = some o:=by unfold Aw; rw [if_pos rfl]
theorem AI {H:Hp} {a b:Addr} {o:HO} (h:b≠a):Aw H a o b = H b:=by unfold Aw; rw [if_neg h]
theorem AM {H:Hp} {a b:Addr} {o:HO} (h:H a = some o) (h':H b = none):a≠b:=by
 intro e; subst e; rw [h] at h'; cases h'
section
variable (P:Program) (w:World)
def ObjOk (H:Hp) (h:Heap) (a:Addr):HO→Prop
 | .lst xs => xs.length≤sizeLine∧∃ (its:List Value) (n:Nat),Vals xs its∧h.get? a = some { cls:=.type "list",data:=.seq its.toArray n }
 | .tup xs => xs.length≤sizeLine∧∃ its:List Value,Vals xs its∧IsTup h a its.toArray
 | .dK kvs => kvs.length≤sizeLine∧(a == sysModules) = false∧∃ vs,KV kvs vs∧h.DictOf (Go P w) a vs
 | .dT kvs => kvs.length≤sizeLine∧(a == sysModules) = false∧∃ xs:List (List IC × Addr × Value),
   Paired (fun (p:List IC × V) (q:List IC × Addr × Value) => p.1 = q.1∧H q.2.1 = some (.tup (p.1.map kV))∧RelV p.2 q.2.2) kvs xs ∧
   ∃ o es ep,h.get? a = some o∧o.ExactDict∧o.data = .dict es ep∧es.toList = xs.map (entryOfKey (tupleKind (Go P w)))∧(xs.map (·.1)).Nodup
 | .set S n => h.SetOf (intKind P w) a S n
 | .ins C dx fs => H dx = some (.own a)∧fs.length≤1000∧dx≠a∧h.get? a = some (PySem.W.instObj C dx) ∧
   ∃ mA,h.Ns1 dx mA∧(∀ f,RelO (fs.lookup f) (mA f))∧PySem.Within mA (fs.map (·.1))
 | .own _ => ∃ o,h.get? a = some o
 | .xd fs => ∃ mA,h.Ns1 a mA∧∀ f,RelO (fs.lookup f) (mA f)
 | .rng lo hi => ∃ t u v,h.get? a = some { cls:=.type "range",data:=.fields #[.int lo t,.int hi u,.int 1 v] }
 | .frz o u => h.get? a = some o∧ObjOk H h a u
 | .tbl ps => h.get? a = some { cls:=.none,data:=.fields ps }
 | .met f x => h.get? a = some (PySem.W.methodObj (.ref f) (.ref x))
 | .ext φ => φ h∧(∃ o,h.get? a = some o)∧∀ h1 h2:Heap,φ h1→(∀ o,h1.get? a = some o→h2.get? a = some o)→φ h2
def HOk (H:Hp) (h:Heap):Prop:=∀ a o,H a = some o→ObjOk P w H h a o
end
section
variable {P:Program} {w:World} {H H':Hp} {h h':Heap} {a:Addr} {o:HO}
theorem ObjOk.lt (x:ObjOk P w H h a o):a < h.objs.size:=by
 cases o with
 | lst xs => obtain ⟨_,_,_,_,e⟩:=x; exact Heap.lt_size e
 | tup xs => obtain ⟨_,_,_,p⟩:=x; exact p.lt
 | dK kvs => obtain ⟨_,_,_,_,o,_,_,e,_⟩:=x; exact Heap.lt_size e
 | dT kvs => obtain ⟨_,_,_,_,o,_,_,e,_⟩:=x; exact Heap.lt_size e
 | set S n => obtain ⟨o,_,_,_,e,_⟩:=x; exact Heap.lt_size e
 | ins C dx fs => obtain ⟨_,_,_,e,_⟩:=x; exact Heap.lt_size e
 | own y => obtain ⟨_,e⟩:=x; exact Heap.lt_size e
 | xd fs => obtain ⟨_,⟨_,_,_,e,_⟩,_⟩:=x; exact Heap.lt_size e
 | rng lo hi => obtain ⟨_,_,_,e⟩:=x; exact Heap.lt_size e
 | frz ob u => obtain ⟨e,_⟩:=x; exact Heap.lt_size e
 | tbl ps => exact Heap.lt_size (show h.get? a = some _ from x)
 | met f y => exact Heap.lt_size (show h.get? a = some _ from x)
 | ext φ => obtain ⟨_,⟨_,e⟩,_⟩:=x; exact Heap.lt_size e
theorem Paired.mapP {α β:Type} {F G:α→β→Prop}:∀ {l₁:List α} {l₂:List β},Paired F l₁ l₂→(∀ a b,F a b→G a b)→Paired G l₁ l₂
 | _,_,.nil,_ => .nil
 | _,_,.cons r t,f => .cons (f _ _ r) (Paired.mapP t f)
theorem ObjOk.stay (x:ObjOk P w H h a o) (k:∀ b u,(b = a∨H b = some (.own a))→h.get? b = some u→h'.get? b = some u)
  (ho:∀ b,H b = some (.own a)→H' b = some (.own a)) (ht:∀ b xs,H b = some (.tup xs)→H' b = some (.tup xs)):ObjOk P w H' h' a o:=by
 induction o with
 | lst xs => obtain ⟨z,its,n,r,e⟩:=x; exact ⟨z,its,n,r,k _ _ (.inl rfl) e⟩
 | tup xs => obtain ⟨z,its,r,ob,e,c⟩:=x; exact ⟨z,its,r,ob,k _ _ (.inl rfl) e,c⟩
 | dK kvs => obtain ⟨z,y,vs,r,ob,es,ep,e,c⟩:=x; exact ⟨z,y,vs,r,ob,es,ep,k _ _ (.inl rfl) e,c⟩
 | dT kvs =>
  obtain ⟨z,y,xs,r,ob,es,ep,e,c⟩:=x
  exact ⟨z,y,xs,Paired.mapP r fun p q z => ⟨z.1,ht _ _ z.2.1,z.2.2⟩,ob,es,ep,k _ _ (.inl rfl) e,c⟩
 | set S n => obtain ⟨ob,es,ep,t,e,c⟩:=x; exact ⟨ob,es,ep,t,k _ _ (.inl rfl) e,c⟩
 | ins C dx fs =>
  obtain ⟨d,z,ne,e,mA,⟨od,es,ep,e2,c⟩,r⟩:=x
  exact ⟨ho _ d,z,ne,k _ _ (.inl rfl) e,mA,⟨od,es,ep,k _ _ (.inr d) e2,c⟩,r⟩
 | own y => obtain ⟨ob,e⟩:=x; exact ⟨ob,k _ _ (.inl rfl) e⟩
 | xd fs => obtain ⟨mA,⟨od,es,ep,e,c⟩,r⟩:=x; exact ⟨mA,⟨od,es,ep,k _ _ (.inl rfl) e,c⟩,r⟩
 | rng lo hi => obtain ⟨t,u,v,e⟩:=x; exact ⟨t,u,v,k _ _ (.inl rfl) e⟩
 | frz ob u ih => obtain ⟨e,q⟩:=x; exact ⟨k _ _ (.inl rfl) e,ih q⟩
 | tbl ps =>
  have e:h.get? a = some { cls:=.none,data:=.fields ps }:=x
  show h'.get? a = some { cls:=.none,data:=.fields ps }
  exact k a _ (.inl rfl) e
 | met f y =>
  have e:h.get? a = some (PySem.W.methodObj (.ref f) (.ref y)):=x
  show h'.get? a = some (PySem.W.methodObj (.ref f) (.ref y))
  exact k a _ (.inl rfl) e
 | ext φ => obtain ⟨p,⟨o,e⟩,st⟩:=x; exact ⟨st _ _ p fun o q => k _ _ (.inl rfl) q,⟨o,k _ _ (.inl rfl) e⟩,st⟩
theorem HOk.lt (x:HOk P w H h) (e:H a = some o):a < h.objs.size:=(x a o e).lt
theorem HOk.fresh (x:HOk P w H h) (e:h.objs.size≤a):H a = none:=by
 cases q:H a with
 | none => rfl
 | some u => exact absurd (Nat.lt_of_lt_of_le (x.lt q) e) (Nat.lt_irrefl _)
theorem HOk.kept (x:HOk P w H h) (k:∀ b u,h.get? b = some u→h'.get? b = some u):HOk P w H h':=fun a o e =>
 (x a o e).stay (fun b u _ q => k b u q) (fun _ q => q) fun _ _ q => q
theorem HOk.laid (x:HOk P w H h) (k:∀ b u,h.get? b = some u→h'.get? b = some u) (hp:h.objs.size≤a) (new:ObjOk P w (Aw H a o) h' a o):HOk P w (Aw H a o) h':=fun b u e => by
 have hn:=x.fresh hp
 by_cases hb:b = a
 ·subst hb; rw [AK] at e; cases e; exact new
 ·rw [AI hb] at e
  exact (x b u e).stay (fun c v _ q => k c v q) (fun c q => by rw [AI (AM q hn)]; exact q) fun c xs q => by rw [AI (AM q hn)]; exact q
end
def Rd (H:Hp) (a:Addr) (u:HO):Prop:=H a = some u∨∃ o,H a = some (.frz o u)
theorem Rd.ok {P:Program} {w:World} {H:Hp} {h:Heap} {a:Addr} {u:HO} (r:Rd H a u) (x:HOk P w H h):ObjOk P w H h a u:=by
 rcases r with r | ⟨o,r⟩
 ·exact x a u r
 ·obtain ⟨_,q⟩:=x a _ r
  exact q
def WH:Option HO→Prop
 | some (.lst _) => True
 | some (.dK _) => True
 | some (.dT _) => True
 | some (.set _ _) => True
 | some (.ins _ _ _) => True
 | some (.ext _) => True
 | _ => False
section
variable {P:Program} {w:World} {H:Hp} {h h':Heap} {x e:Addr} {o':HO}
theorem HOk.write (ok:HOk P w H h) (mu:WH (H x)) (he:e = x∨H e = some (.own x)) (k:∀ b u,b≠e→h.get? b = some u→h'.get? b = some u) (heo:∃ u,h'.get? e = some u)
  (new:ObjOk P w (Aw H x o') h' x o'):HOk P w (Aw H x o') h':=fun b u q => by
 have nown:∀ c y,H c = some (.own y)→c≠x:=fun c y r z => by subst z; rw [r] at mu; exact mu
 have ntup:∀ c xs,H c = some (.tup xs)→c≠x:=fun c xs r z => by subst z; rw [r] at mu; exact mu
 by_cases hb:b = x
 ·subst hb; rw [AK] at q; cases q; exact new
 ·rw [AI hb] at q
  by_cases hbe:b = e
  ·have q':H b = some (.own x):=by
    rcases he with z | z
    ·exact absurd (hbe.trans z) hb
    ·rw [hbe]; exact z
   rw [q] at q'; cases q'
   obtain ⟨v,hv⟩:=heo
   exact ⟨v,by rw [hbe]; exact hv⟩
  ·refine (ok b u q).stay (fun c v hc r => k c v ?_ r) (fun c r => by rw [AI (nown c b r)]; exact r) fun c xs r => by rw [AI (ntup c xs r)]; exact r
   rcases hc with rfl | hc
   ·exact hbe
   ·rintro rfl
    rcases he with z | z
    ·exact nown c b hc z
    ·rw [hc] at z; cases z; exact hb rfl
end
structure Un (fs ex:List Addr) (H H':Hp) (h h':Heap):Prop where
 keep:∀ b o,h.get? b = some o→H b = none→b ∉ fs→b ∉ ex→h'.get? b = some o
 slot:∀ b o,h.get? b = some o→H b = none→b∈fs→b ∉ ex→∃ sl,h'.get? b = some { o with slots:=sl }
 free:∀ b o,h.get? b = some o→H b = none→b ∉ ex→H' b = none
 there:∀ b o,h.get? b = some o→b ∉ ex→∃ o',h'.get? b = some o'
 tups:∀ b xs,H b = some (.tup xs)→H' b = some (.tup xs)
 frzs:∀ b o u,H b = some (.frz o u)→H' b = some (.frz o u)
 tbls:∀ b ps,H b = some (.tbl ps)→∃ more,H' b = some (.tbl (ps ++ more))
section
variable {fs fs' ex ex':List Addr} {H H1 H2:Hp} {h h1 h2 h':Heap} {a x e:Addr} {o:HO}
theorem Un.any (u:Un fs ex H H1 h h1) {b:Addr} {ob:Obj} (q:h.get? b = some ob) (n:H b = none) (hx:b ∉ ex):∃ sl,h1.get? b = some { ob with slots:=sl }:=by
 by_cases hb:b∈fs
 ·exact u.slot b ob q n hb hx
 ·exact ⟨ob.slots,u.keep b ob q n hb hx⟩
theorem Un.kept (k:∀ b u,h.get? b = some u→h'.get? b = some u):Un fs ex H H h h' :=
 ⟨fun b ob q _ _ _ => k b ob q,fun b ob q _ _ _ => ⟨ob.slots,k b ob q⟩,fun _ _ _ n _ => n,fun b ob q _ => ⟨ob,k b ob q⟩,fun _ _ q => q,fun _ _ _ q => q,fun _ ps q => ⟨#[],by rw [q]; simp⟩⟩
theorem Un.refl:Un fs ex H H h h:=Un.kept fun _ _ q => q
theorem Un.laid (k:∀ b u,h.get? b = some u→h'.get? b = some u) (hp:h.objs.size≤a) (hn:H a = none):Un fs ex H (Aw H a o) h h' where
 keep:=fun b u q _ _ _ => k b u q
 slot:=fun b u q _ _ _ => ⟨u.slots,k b u q⟩
 free:=fun b u q n _ => by rw [AI (Nat.ne_of_lt (Nat.lt_of_lt_of_le (Heap.lt_size q) hp))]; exact n
 there:=fun b u q _ => ⟨u,k b u q⟩
 tups:=fun b xs q => by rw [AI (AM q hn)]; exact q
 frzs:=fun b u xs q => by rw [AI (AM q hn)]; exact q
 tbls:=fun b ps q => ⟨#[],by rw [AI (AM q hn),q]; simp⟩
theorem Un.write (mu:WH (H x)) (he:e = x∨H e = some (.own x)) (k:∀ b u,b≠e→h.get? b = some u→h'.get? b = some u) (heo:∃ u,h'.get? e = some u):Un fs ex H (Aw H x o) h h':=by
 have hx:∀ b,H b = none→b≠x:=fun b n z => by subst z; rw [n] at mu; exact mu
 have hb:∀ b,H b = none→b≠e:=fun b n z => by
  subst z
  rcases he with r | r
  ·exact hx b n r
  ·rw [n] at r; cases r
 have hm:∀ b u,H b = some u→¬ WH (some u)→b≠x:=fun b u q nm z => by subst z; rw [q] at mu; exact nm mu
 refine ⟨fun b u q n _ _ => k b u (hb b n) q,fun b u q n _ _ => ⟨u.slots,k b u (hb b n) q⟩,fun b u q n _ => by rw [AI (hx b n)]; exact n,fun b u q _ => ?_,
  fun b xs q => by rw [AI (hm b _ q fun z => z)]; exact q,fun b u xs q => by rw [AI (hm b _ q fun z => z)]; exact q,fun b ps q => ⟨#[],by rw [AI (hm b _ q fun z => z),q]; simp⟩⟩
 by_cases hbe:b = e
 ·subst hbe; exact heo
 ·exact ⟨u,k b u hbe q⟩
end
def WJ (h:Heap) (H:Hp):List Addr:=(List.range h.objs.size).filter fun a => (H a).isSome
def Gq (h:Heap) (H:Hp):Heap:=PySem.W.hideAll h (WJ h H)
theorem Lb (h:Heap) (H:Hp):(Gq h H).objs.size = h.objs.size:=PySem.W.hideAll_size _ _
theorem MV {h:Heap} {H:Hp} {b:Addr} {o:Obj} (e:h.get? b = some o) (n:H b = none):(Gq h H).get? b = some o :=
 PySem.W.hideAll_get _ e fun hm => by
  have q:(H b).isSome = true:=(List.mem_filter.mp hm).2
  rw [n] at q; simp at q
theorem Pa {h:Heap} {H:Hp} {b:Addr} {o:Obj} (e:(Gq h H).get? b = some o):h.get? b = some o∧H b = none:=by
 have e':h.get? b = some o:=PySem.W.of_hideAll (WJ h H) e
 refine ⟨e',?_⟩
 cases q:H b with
 | none => rfl
 | some x =>
  have hm:b∈WJ h H:=List.mem_filter.mpr ⟨List.mem_range.mpr (Heap.lt_size e'),by simp [q]⟩
  have z:(Gq h H).get? b = none:=PySem.W.hideAll_none (WJ h H) hm
  rw [z] at e; cases e
structure Mod (K:PySem.W.Frag) (mg:Str→Option Value) (base:Heap):Prop where
 kin:K.In base
 glob:base.Ns mainGlobals mg
 blt:∃ mb,base.Ns builtinsNs mb∧∀ x:Str,x≠"__name__"→mb x = bootBuiltins x
 nolimit:base.NoLimit
structure Cx where
 prog:Program
 w:World
 K:PySem.W.Frag
 mg:Str→Option Value
 base:Heap
 A:Around
 N:List Str
 s₀:Shared
 H₀:Hp
 env:Env
 outer:List Env
 stack:List Env
 ex:List Addr
 fn:Str→Bool
 calm:Bool
 pn:List (Addr × Obj)
 xe:Value→Shared→Prop
def Er (l:List Env):List Addr:=l.filterMap (·.frame)
abbrev Cx.fs (X:Cx):List Addr:=Er X.outer
def Rr (sc:Scope) (x:Str):Prop:=sc.names.lookup x = some .local∨sc.names.lookup x = some .cell∨sc.names.lookup x = some .free
def IF (sc:Scope) (x:Str):Prop:=sc.names.lookup x = some .local∨sc.names.lookup x = some .cell
def WY (env:Env) (h:Heap) (m:Str→Option Value) (x:Str) (u:Value):Prop :=
 (env.kindOf x = some .local∧m x = some u)∨((env.kindOf x = some .cell∨env.kindOf x = some .free)∧∃ c,env.cells.lookup x = some c∧h.IsCell c (some u))
structure Cx.Ok (X:Cx):Prop where
 mod:Mod X.K X.mg X.base
 kind:X.env.scope.kind = .function
 glob:X.env.globals = mainGlobals
 blt:X.env.builtins = builtinsNs
 above:X.s₀.heap.objs.size≤X.env.locals
 inj:∀ x y c,X.env.cells.lookup x = some c→X.env.cells.lookup y = some c→x = y
 has:∀ x,(X.env.kindOf x = some .cell∨X.env.kindOf x = some .free)→∃ c,X.env.cells.lookup x = some c
 cab:∀ x c,X.fn x = true→X.env.cells.lookup x = some c→X.s₀.heap.objs.size≤c
 hd:X.calm = true→X.A.handled = none
 frames:X.A.frames = some X.stack
 stk:X.stack = X.outer∨(X.stack = X.env :: X.outer∧X.env.frame = some X.env.locals)
 exf:∀ b∈X.ex,b≠X.env.locals∧∀ x c,X.env.cells.lookup x = some c→c≠b
 bs:∀ b o,X.base.get? b = some o→X.s₀.heap.get? b = some o∧X.H₀ b = none
 bsz:X.base.objs.size≤X.s₀.heap.objs.size
 noex:∀ b o,X.base.get? b = some o→b ∉ X.ex
 exfs:∀ b∈X.ex,b ∉ X.fs
 funs:X.s₀.heap.FunFrames X.base X.outer
 frf:∀ b∈X.fs,X.H₀ b = none
structure Inv (X:Cx) (pins:List (Addr × Obj)) (σ:List (Option V)) (H:Hp) (s:Shared):Prop where
 ok:X.Ok
 os:s.os = X.s₀.os
 bare:AllBare s.gens
 base:Un X.fs X.ex X.H₀ H X.s₀.heap s.heap
 loc:∃ m,s.heap.Ns X.env.locals m∧∀ (i:Nat) (x:Str) (v:V),X.N[i]? = some x→σ[i]? = some (some v)→Rr X.env.scope x→∃ u,RelV v u∧WY X.env s.heap m x u
 cell:∀ x c,X.env.cells.lookup x = some c→∃ v,s.heap.IsCell c v
 free:H X.env.locals = none
 freeC:∀ x c,X.env.cells.lookup x = some c→H c = none
 pin:∀ p∈X.pn ++ pins,s.heap.get? p.1 = some p.2∧H p.1 = none∧p.1≠X.env.locals∧p.1 ∉ X.fs∧∀ v,p.2.data≠.cell v
 hok:HOk X.prog X.w H s.heap
 len:σ.length = X.N.length
section
variable {X:Cx} {pins:List (Addr × Obj)} {σ:List (Option V)} {H H':Hp} {s:Shared} {h':Heap}
theorem Cx.Ok.nofr (ok:X.Ok) {b:Addr} {o:Obj} (e:X.base.get? b = some o):b ∉ X.fs:=fun hb => by
 have:=(ok.funs.mem hb).1
 rw [e] at this; cases this
theorem Inv.bs (I:Inv X pins σ H s):∀ b o,X.base.get? b = some o→s.heap.get? b = some o∧H b = none:=fun b o e =>
 ⟨I.base.keep b o (I.ok.bs b o e).1 (I.ok.bs b o e).2 (I.ok.nofr e) (I.ok.noex b o e),I.base.free b o (I.ok.bs b o e).1 (I.ok.bs b o e).2 (I.ok.noex b o e)⟩
theorem Inv.bk (I:Inv X pins σ H s):∀ b o,X.base.get? b = some o→s.heap.get? b = some o:=fun b o e => (I.bs b o e).1
theorem Inv.mod (I:Inv X pins σ H s):Mod X.K X.mg X.base:=I.ok.mod
theorem Inv.kIn (I:Inv X pins σ H s):X.K.In s.heap:=I.ok.mod.kin.keeps I.bk
theorem Inv.lt (I:Inv X pins σ H s):X.env.locals < s.heap.objs.size:=let ⟨_,hn,_⟩:=I.loc; hn.lt
theorem Inv.sz (I:Inv X pins σ H s):X.s₀.heap.objs.size≤s.heap.objs.size:=Nat.le_trans I.ok.above (Nat.le_of_lt I.lt)
theorem Inv.nofs (I:Inv X pins σ H s) {a:Addr} (h:s.heap.objs.size≤a):a ∉ X.fs:=fun hb => by
 obtain ⟨_,o,ho,_⟩:=I.ok.funs.mem hb
 exact absurd (Nat.lt_of_lt_of_le (Heap.lt_size ho) (Nat.le_trans I.sz h)) (Nat.lt_irrefl _)
theorem Inv.cne (I:Inv X pins σ H s):∀ x c,X.env.cells.lookup x = some c→c≠X.env.locals:=fun x c e z => by
 obtain ⟨v,o,ho,hd⟩:=I.cell x c e
 obtain ⟨m,⟨o',es,ep,ho',hd',_⟩,_⟩:=I.loc
 rw [z,ho'] at ho; cases ho; rw [hd'] at hd; cases hd
theorem Inv.funs (I:Inv X pins σ H s):s.heap.FunFrames X.base X.outer:=by
 have all:∀ (l:List Env),(∀ b∈Er l,b∈X.fs)→X.s₀.heap.FunFrames X.base l→s.heap.FunFrames X.base l:=by
  intro l
  induction l with
  | nil => intro _ _; trivial
  | cons env r ih =>
   intro hs hl
   obtain ⟨hk,⟨L,o,hf,hn,ho,hd⟩,hr⟩:=hl
   have hL:L∈X.fs:=hs L (by unfold Er; rw [List.filterMap_cons,hf]; exact List.mem_cons_self)
   obtain ⟨sl,e⟩:=I.base.slot L o ho (I.ok.frf L hL) hL fun z => I.ok.exfs L z hL
   exact ⟨hk,⟨L,_,hf,hn,e,hd⟩,ih (fun b hb => hs b (by unfold Er; rw [List.filterMap_cons,hf]; exact List.mem_cons_of_mem _ hb)) hr⟩
 exact all X.outer (fun _ hb => hb) I.ok.funs
theorem Inv.stack (I:Inv X pins σ H s):s.heap.FunFrames X.base X.stack:=by
 rcases I.ok.stk with e | ⟨e,hf⟩
 ·rw [e]; exact I.funs
 ·rw [e]
  obtain ⟨m,hn,_⟩:=I.loc
  refine .cons (by rw [I.ok.kind]; decide) hf hn ?_ I.funs
  exact Heap.get?_none_of_le (Nat.le_trans I.ok.bsz I.ok.above)
theorem Inv.stkSub (I:Inv X pins σ H s):∀ b∈Er X.stack,b∈X.env.locals :: X.fs:=fun b hb => by
 rcases I.ok.stk with e | ⟨e,hf⟩
 ·rw [e] at hb; exact List.mem_cons_of_mem _ hb
 ·rw [e] at hb
  unfold Er at hb
  rw [List.filterMap_cons,hf] at hb
  exact hb
theorem Inv.stkFree (I:Inv X pins σ H s):∀ b∈Er X.stack,H b = none:=fun b hb => by
 rcases List.mem_cons.mp (I.stkSub b hb) with e | hb
 ·rw [e]; exact I.free
 ·obtain ⟨_,o,ho,_⟩:=I.ok.funs.mem hb
  exact I.base.free b o ho (I.ok.frf b hb) fun z => I.ok.exfs b z hb
theorem Inv.step {g':Array GenState} {t':Nat} {d':Drawn} {ch:List Addr} (I:Inv X pins σ H s)
  (hch:∀ b∈ch,(b∈X.ex∨X.s₀.heap.objs.size≤b)∧b≠X.env.locals∧(∀ x c,X.env.cells.lookup x = some c→c≠b)∧∀ p∈X.pn ++ pins,p.1≠b)
  (keep:∀ b o,b≠X.env.locals→b ∉ X.fs→b ∉ ch→s.heap.get? b = some o→H b = none→h'.get? b = some o)
  (slot:∀ b o,b≠X.env.locals→b∈X.fs→b ∉ ch→s.heap.get? b = some o→H b = none→∃ sl,h'.get? b = some { o with slots:=sl }) (free:∀ b o,b ∉ ch→s.heap.get? b = some o→H b = none→H' b = none)
  (there:∀ b o,b ∉ ch→s.heap.get? b = some o→∃ o',h'.get? b = some o')
  (tups:∀ b xs,H b = some (.tup xs)→H' b = some (.tup xs)) (frzs:∀ b o u,H b = some (.frz o u)→H' b = some (.frz o u)) (tbls:∀ b ps,H b = some (.tbl ps)→∃ more,H' b = some (.tbl (ps ++ more)))
  (ns:∀ m,s.heap.Ns X.env.locals m→h'.Ns X.env.locals m) (hok:HOk X.prog X.w H' h') (hg:AllBare g') :
  Inv X pins σ H' { s with heap:=h',gens:=g',drawn:=d',toks:=t' }:=by
 have neL:∀ b o,X.s₀.heap.get? b = some o→b≠X.env.locals:=fun b o e => Nat.ne_of_lt (Nat.lt_of_lt_of_le (Heap.lt_size e) I.ok.above)
 have neC:∀ b o,X.s₀.heap.get? b = some o→b ∉ X.ex→b ∉ ch:=fun b o e hx hb => by
  rcases (hch b hb).1 with z | z
  ·exact hx z
  ·exact absurd (Nat.lt_of_lt_of_le (Heap.lt_size e) z) (Nat.lt_irrefl _)
 have cellK:∀ x c,X.env.cells.lookup x = some c→∀ v,s.heap.IsCell c v→h'.IsCell c v:=fun x c e v ⟨o,ho,hd⟩ => by
  have nch:c ∉ ch:=fun z => (hch c z).2.2.1 x c e rfl
  by_cases hc:c∈X.fs
  ·obtain ⟨sl,q⟩:=slot c o (I.cne x c e) hc nch ho (I.freeC x c e)
   exact ⟨_,q,hd⟩
  ·exact ⟨o,keep c o (I.cne x c e) hc nch ho (I.freeC x c e),hd⟩
 refine ⟨I.ok,I.os,hg,⟨fun b o e n hb hx => ?_,fun b o e n hb hx => ?_,fun b o e n hx => ?_,fun b o e hx => ?_,fun b xs e => tups b xs (I.base.tups b xs e),fun b o xs e => frzs b o xs (I.base.frzs b o xs e),fun b ps e => ?_⟩,?_,fun x c e => ?_,?_,fun x c e => ?_,fun p hp => ?_,hok,I.len⟩
 ·exact keep b o (neL b o e) hb (neC b o e hx) (I.base.keep b o e n hb hx) (I.base.free b o e n hx)
 ·obtain ⟨sl,e1⟩:=I.base.slot b o e n hb hx
  obtain ⟨sl',e2⟩:=slot b _ (neL b o e) hb (neC b o e hx) e1 (I.base.free b o e n hx)
  exact ⟨sl',e2⟩
 ·obtain ⟨o',e1⟩:=I.base.there b o e hx
  exact free b o' (neC b o e hx) e1 (I.base.free b o e n hx)
 ·obtain ⟨o',e1⟩:=I.base.there b o e hx
  exact there b o' (neC b o e hx) e1
 ·obtain ⟨m1,e1⟩:=I.base.tbls b ps e
  obtain ⟨m2,e2⟩:=tbls b _ e1
  exact ⟨m1 ++ m2,by rw [e2,Array.append_assoc]⟩
 ·obtain ⟨m,hn,hl⟩:=I.loc
  refine ⟨m,ns m hn,fun i x v e1 e2 e3 => ?_⟩
  obtain ⟨u,r,l⟩:=hl i x v e1 e2 e3
  refine ⟨u,r,?_⟩
  rcases l with l | ⟨k,c,e,z⟩
  ·exact .inl l
  ·exact .inr ⟨k,c,e,cellK x c e _ z⟩
 ·obtain ⟨v,z⟩:=I.cell x c e
  exact ⟨v,cellK x c e v z⟩
 ·obtain ⟨m,⟨o,_,_,ho,_⟩,_⟩:=I.loc
  exact free _ o (fun z => (hch _ z).2.1 rfl) ho I.free
 ·obtain ⟨v,o,ho,hd⟩:=I.cell x c e
  exact free c o (fun z => (hch c z).2.2.1 x c e rfl) ho (I.freeC x c e)
 ·obtain ⟨e,n,ne,nf,d⟩:=I.pin p hp
  have nch:p.1 ∉ ch:=fun z => (hch p.1 z).2.2.2 p hp rfl
  exact ⟨keep p.1 p.2 ne nf nch e n,free p.1 p.2 nch e n,ne,nf,d⟩
theorem Inv.un {t':Nat} (I:Inv X pins σ H s) (u:Un X.fs [] H H' s.heap h') (hok:HOk X.prog X.w H' h'):Inv X pins σ H' { s with heap:=h',toks:=t' }:=by
 obtain ⟨m,⟨o,es,ep,ho,r⟩,_⟩:=id I.loc
 obtain ⟨sl,hL⟩:=u.any ho I.free (by simp)
 exact I.step (g':=s.gens) (d':=s.drawn) (ch:=[]) (fun _ z => nomatch z) (fun b o _ hb _ e n => u.keep b o e n hb (by simp)) (fun b o _ hb _ e n => u.slot b o e n hb (by simp)) (fun b o _ e n => u.free b o e n (by simp)) (fun b o _ e => u.there b o e (by simp)) u.tups u.frzs u.tbls (fun m' hm => by
  obtain ⟨o',es',ep',ho',r'⟩:=hm
  rw [ho] at ho'; cases ho'
  exact ⟨_,es',ep',hL,r'⟩) hok I.bare
theorem Inv.call {g':Array GenState} {t':Nat} {d':Drawn} {ch:List Addr} (I:Inv X pins σ H s) (u:Un (Er X.stack) ch H H' s.heap h') (hok:HOk X.prog X.w H' h') (hg:AllBare g')
  (hch:∀ b∈ch,(b∈X.ex∨X.s₀.heap.objs.size≤b)∧b≠X.env.locals∧(∀ x c,X.env.cells.lookup x = some c→c≠b)∧∀ p∈X.pn ++ pins,p.1≠b) :
  Inv X pins σ H' { s with heap:=h',gens:=g',drawn:=d',toks:=t' }:=by
 obtain ⟨m,⟨o,es,ep,ho,r⟩,_⟩:=id I.loc
 obtain ⟨sl,hL⟩:=u.any ho I.free fun z => (hch _ z).2.1 rfl
 exact I.step (ch:=ch) hch (fun b o hL hb hc e n => u.keep b o e n (fun z => (List.mem_cons.mp (I.stkSub b z)).elim hL hb) hc) (fun b o _ _ hc e n => u.any e n hc) (fun b o hc e n => u.free b o e n hc) (fun b o hc e => u.there b o e hc) u.tups u.frzs u.tbls (fun m' hm => by
  obtain ⟨o',es',ep',ho',r'⟩:=hm
  rw [ho] at ho'; cases ho'
  exact ⟨_,es',ep',hL,r'⟩) hok hg
theorem Inv.turned {t':Nat} {it:Addr} (I:Inv X pins σ H s) (k:∀ b o,b≠it→s.heap.get? b = some o→h'.get? b = some o) (hn:H it = none) (hL:it≠X.env.locals)
  (h1:it∈X.ex∨X.s₀.heap.objs.size≤it) (h2:∀ x c,X.env.cells.lookup x = some c→c≠it) (h3:∀ p∈X.pn ++ pins,p.1≠it):Inv X pins σ H { s with heap:=h',toks:=t' }:=by
 have nit:∀ b u,H b = some u→b≠it:=fun b u e z => by rw [z,hn] at e; cases e
 refine I.step (g':=s.gens) (d':=s.drawn) (ch:=[it]) (fun b hb => ?_) (fun b o _ _ hc e _ => k b o (fun z => hc (by simp [z])) e) (fun b o _ _ hc e _ => ⟨o.slots,k b o (fun z => hc (by simp [z])) e⟩) (fun _ _ _ _ n => n)
  (fun b o hc e => ⟨o,k b o (fun z => hc (by simp [z])) e⟩) (fun _ _ e => e) (fun _ _ _ e => e) (fun b ps e => ⟨#[],by rw [e]; simp⟩) (fun m hm => ?_) (fun b u e => ?_) I.bare
 ·have e:b = it:=by simpa using hb
  subst e
  exact ⟨h1,hL,h2,h3⟩
 ·obtain ⟨o,es,ep,ho,r⟩:=hm
  exact ⟨o,es,ep,k _ o (Ne.symm hL) ho,r⟩
 ·refine (I.hok b u e).stay (fun c v hc q => k c v ?_ q) (fun _ q => q) fun _ _ q => q
  rcases hc with z | z
  ·rw [z]; exact nit b u e
  ·exact nit c _ z
theorem Inv.tok (I:Inv X pins σ H s) (t:Nat):Inv X pins σ H { s with toks:=t }:=I.un (h':=s.heap) (t':=t) Un.refl I.hok
theorem Inv.kept {t':Nat} (I:Inv X pins σ H s) (k:∀ b u,s.heap.get? b = some u→h'.get? b = some u):Inv X pins σ H { s with heap:=h',toks:=t' }:=I.un (Un.kept k) (I.hok.kept k)
theorem Inv.laid {a:Addr} {o:HO} {t':Nat} (I:Inv X pins σ H s) (k:∀ b u,s.heap.get? b = some u→h'.get? b = some u) (hp:s.heap.objs.size≤a) (new:ObjOk X.prog X.w (Aw H a o) h' a o) :
  Inv X pins σ (Aw H a o) { s with heap:=h',toks:=t' }:=I.un (Un.laid k hp (I.hok.fresh hp)) (I.hok.laid k hp new)
theorem Inv.write {x e:Addr} {o:HO} {t':Nat} (I:Inv X pins σ H s) (mu:WH (H x)) (he:e = x∨H e = some (.own x)) (k:∀ b u,b≠e→s.heap.get? b = some u→h'.get? b = some u) (heo:∃ u,h'.get? e = some u)
  (new:ObjOk X.prog X.w (Aw H x o) h' x o):Inv X pins σ (Aw H x o) { s with heap:=h',toks:=t' }:=I.un (Un.write mu he k heo) (I.hok.write mu he k heo new)
theorem Inv.weak {σ':List (Option V)} (I:Inv X pins σ H s) (hl:σ'.length = σ.length) (w:∀ (i:Nat) v,σ'[i]? = some (some v)→σ[i]? = some (some v)):Inv X pins σ' H s :=
 ⟨I.ok,I.os,I.bare,I.base,let ⟨m,hn,hl'⟩:=I.loc; ⟨m,hn,fun i x v e1 e2 e3 => hl' i x v e1 (w i v e2) e3⟩,I.cell,I.free,I.freeC,I.pin,I.hok,hl.trans I.len⟩
theorem Inv.pins_of {pins':List (Addr × Obj)} (I:Inv X pins σ H s) (h:∀ p∈pins',s.heap.get? p.1 = some p.2∧H p.1 = none∧p.1≠X.env.locals∧p.1 ∉ X.fs∧∀ v,p.2.data≠.cell v):Inv X pins' σ H s :=
 ⟨I.ok,I.os,I.bare,I.base,I.loc,I.cell,I.free,I.freeC,fun p hp => (List.mem_append.mp hp).elim (fun z => I.pin p (List.mem_append_left _ z)) (h p),I.hok,I.len⟩
theorem Et {N:List Str} (hN:N.Nodup) {i j:Nat} {x:Str} (a:N[i]? = some x) (b:N[j]? = some x):i = j:=by
 obtain ⟨h1,e1⟩:=List.getElem?_eq_some_iff.mp a
 obtain ⟨h2,e2⟩:=List.getElem?_eq_some_iff.mp b
 exact (List.getElem_inj hN).mp (e1.trans e2.symm)
theorem GI {M:Model} {A:Around} {E:Value→Shared→Prop} {i:Nat} {x:Str} {v:V} {u:Value} {Q:Unit→Shared→Prop} (I:Inv X pins σ H s) (hN:X.N.Nodup) (hi:X.N[i]? = some x) (hx:IF X.env.scope x) (r:RelV v u)
  (h:∀ s',Inv X pins (σ.set i (some v)) H s'→(∃ a,Heap.SameBut a s.heap s'.heap∧(a = X.env.locals∨X.env.cells.lookup x = some a))→Q () s') (hf:X.fn x = true∨X.env.scope.names.lookup x = some .local:=by first | exact .inl rfl | exact .inr rfl | assumption):wpAny M A (storeName X.env x u) Q E s:=by
 obtain ⟨m,hn,hl⟩:=id I.loc
 have hcls:(X.env.scope.kind == .class || (X.env.scope.kind == .module && X.env.locals != X.env.globals)) = false:=by rw [I.ok.kind]; rfl
 have hiσ:i < σ.length:=by rw [I.len]; exact (List.getElem?_eq_some_iff.mp hi).1
 have cne:=I.cne
 have tracked:∀ {a:Addr} {h':Heap},(∃ o,s.heap.get? a = some o∧H a = none)→Heap.SameBut a s.heap h'→HOk X.prog X.w H h':=fun {a h'} ha hs b ob e => by
  obtain ⟨_,_,hfree⟩:=ha
  refine (I.hok b ob e).stay (fun c w' hc q => (hs.2 c ?_).trans q) (fun _ q => q) fun _ _ q => q
  rintro rfl
  rcases hc with rfl | hc
  ·rw [hfree] at e; cases e
  ·rw [hfree] at hc; cases hc
 rcases hx with hk | hk
 ·refine wpAny_storeName_local hk hn (fun h' hn' hs => ?_) hcls
  obtain ⟨oL,_,_,hoL,_⟩:=id hn
  refine h _ ⟨I.ok,I.os,I.bare,⟨fun b o e n hb hx => ?_,fun b o e n hb hx => ?_,I.base.free,fun b o e hx => ?_,I.base.tups,I.base.frzs,I.base.tbls⟩,⟨_,hn',fun j y v' e1 e2 e3 => ?_⟩,fun y c e => ?_,I.free,I.freeC,fun p hp => ?_,tracked ⟨oL,hoL,I.free⟩ hs,by simpa using I.len⟩ ⟨_,hs,.inl rfl⟩
  ·exact (hs.2 b (Nat.ne_of_lt (Nat.lt_of_lt_of_le (Heap.lt_size e) I.ok.above))).trans (I.base.keep b o e n hb hx)
  ·obtain ⟨sl,e1⟩:=I.base.slot b o e n hb hx
   exact ⟨sl,(hs.2 b (Nat.ne_of_lt (Nat.lt_of_lt_of_le (Heap.lt_size e) I.ok.above))).trans e1⟩
  ·obtain ⟨o',e1⟩:=I.base.there b o e hx
   exact ⟨o',(hs.2 b (Nat.ne_of_lt (Nat.lt_of_lt_of_le (Heap.lt_size e) I.ok.above))).trans e1⟩
  ·by_cases hj:j = i
   ·subst hj
    rw [hi] at e1; cases e1
    rw [List.getElem?_set_self hiσ] at e2
    cases e2
    exact ⟨u,r,.inl ⟨hk,by simp⟩⟩
   ·rw [List.getElem?_set_ne (Ne.symm hj)] at e2
    obtain ⟨u',r',q⟩:=hl j y v' e1 e2 e3
    refine ⟨u',r',?_⟩
    rcases q with ⟨k,e⟩ | ⟨k,c,e,z⟩
    ·refine .inl ⟨k,?_⟩
     have:y≠x:=fun e => hj (Et hN e1 (e ▸ hi))
     simp [this,e]
    ·exact .inr ⟨k,c,e,z.sameBut hs (cne y c e)⟩
  ·obtain ⟨w',z⟩:=I.cell y c e
   exact ⟨w',z.sameBut hs (cne y c e)⟩
  ·obtain ⟨e,n,ne,nf,d⟩:=I.pin p hp
   exact ⟨(hs.2 p.1 ne).trans e,n,ne,nf,d⟩
 ·have hfn:X.fn x = true:=by
   rcases hf with z | z
   ·exact z
   ·rw [z] at hk; cases hk
  obtain ⟨c,hc⟩:=I.ok.has x (.inl hk)
  obtain ⟨w',z⟩:=I.cell x c hc
  refine wpAny_storeName_cell I.ok.kind hk hc z (fun h' hc' hs => ?_)
  obtain ⟨oc,hoc,hocd⟩:=id z
  refine h { s with heap:=h' } ⟨I.ok,I.os,I.bare,⟨fun b o e n hb hx => ?_,fun b o e n hb hx => ?_,I.base.free,fun b o e hx => ?_,I.base.tups,I.base.frzs,I.base.tbls⟩,⟨m,hn.sameBut hs (Ne.symm (cne x c hc)),fun j y v' e1 e2 e3 => ?_⟩,fun y c' e => ?_,I.free,I.freeC,fun p hp => ?_,tracked ⟨oc,hoc,I.freeC x c hc⟩ hs,by simpa using I.len⟩ ⟨c,hs,.inr hc⟩
  ·exact (hs.2 b (Nat.ne_of_lt (Nat.lt_of_lt_of_le (Heap.lt_size e) (I.ok.cab x c hfn hc)))).trans (I.base.keep b o e n hb hx)
  ·obtain ⟨sl,e1⟩:=I.base.slot b o e n hb hx
   exact ⟨sl,(hs.2 b (Nat.ne_of_lt (Nat.lt_of_lt_of_le (Heap.lt_size e) (I.ok.cab x c hfn hc)))).trans e1⟩
  ·obtain ⟨o',e1⟩:=I.base.there b o e hx
   exact ⟨o',(hs.2 b (Nat.ne_of_lt (Nat.lt_of_lt_of_le (Heap.lt_size e) (I.ok.cab x c hfn hc)))).trans e1⟩
  ·by_cases hj:j = i
   ·subst hj
    rw [hi] at e1; cases e1
    rw [List.getElem?_set_self hiσ] at e2
    cases e2
    exact ⟨u,r,.inr ⟨.inl hk,c,hc,hc'⟩⟩
   ·rw [List.getElem?_set_ne (Ne.symm hj)] at e2
    obtain ⟨u',r',q⟩:=hl j y v' e1 e2 e3
    refine ⟨u',r',?_⟩
    rcases q with q | ⟨k,c',e,z'⟩
    ·exact .inl q
    ·refine .inr ⟨k,c',e,z'.sameBut hs ?_⟩
     rintro rfl
     exact hj (Et hN e1 (I.ok.inj _ _ _ e hc ▸ hi))
  ·by_cases hcc:c' = c
   ·subst hcc; exact ⟨_,hc'⟩
   ·obtain ⟨w2,z2⟩:=I.cell y c' e
    exact ⟨w2,z2.sameBut hs hcc⟩
  ·obtain ⟨e,n,ne,nf,d⟩:=I.pin p hp
   refine ⟨(hs.2 p.1 ?_).trans e,n,ne,nf,d⟩
   intro q
   rw [q,hoc] at e
   have q':oc = p.2:=Option.some.inj e
   exact d w' (by rw [← q']; exact hocd)
theorem BJ {M:Model} {A:Around} {E:Value→Shared→Prop} {i:Nat} {x:Str} {v:V} {u:Value} {Q:Unit→Shared→Prop} (I:Inv X pins σ H s) (hN:X.N.Nodup) (hi:X.N[i]? = some x) (hx:IF X.env.scope x) (r:RelV v u)
  (h:∀ s',Inv X pins (σ.set i (some v)) H s'→Q () s') (hf:X.fn x = true∨X.env.scope.names.lookup x = some .local:=by first | exact .inl rfl | exact .inr rfl | assumption):wpAny M A (storeName X.env x u) Q E s :=
 GI I hN hi hx r (fun s' I' _ => h s' I') hf
theorem Inv.call' {s':Shared} {ch:List Addr} (I:Inv X pins σ H s) (ho:s'.os = s.os) (u:Un (Er X.stack) ch H H' s.heap s'.heap) (hok:HOk X.prog X.w H' s'.heap) (hg:AllBare s'.gens)
  (hch:∀ b∈ch,(b∈X.ex∨X.s₀.heap.objs.size≤b)∧b≠X.env.locals∧(∀ x c,X.env.cells.lookup x = some c→c≠b)∧∀ p∈X.pn ++ pins,p.1≠b):Inv X pins σ H' s':=by
 obtain ⟨h',g',d',t',o'⟩:=s'
 have e:o' = s.os:=ho
 subst e
 exact I.call (g':=g') (t':=t') (d':=d') u hok hg hch
end
abbrev XK:=Value→Option Addr→Hp→Prop
abbrev St:=List (Option V)
abbrev VK:=V→Hp→Prop
abbrev TE:=St→Hp→VK→Prop
abbrev TT:=St→Hp→(Bool→Hp→Prop)→Prop
abbrev TA:=St→Hp→(List V→Hp→Prop)→Prop
structure Ends where
 nx:St→Hp→Prop
 rt:VK
 bk:St→Hp→Prop:=fun _ _ => False
 ct:St→Hp→Prop:=fun _ _ => False
abbrev TS:=Ends→St→Hp→Prop
def EP (X:Cx) (pins:List (Addr × Obj)) (σ:St) (Q:VK) (u:Value) (s':Shared):Prop:=∃ v H',Inv X pins σ H' s'∧RelV v u∧Q v H'
def TP (X:Cx) (pins:List (Addr × Obj)) (σ:St) (Q:Bool→Hp→Prop) (b:Bool) (s':Shared):Prop:=∃ H',Inv X pins σ H' s'∧Q b H'
def AP (X:Cx) (pins:List (Addr × Obj)) (σ:St) (Q:List V→Hp→Prop) (us:List Value) (s':Shared):Prop:=∃ vs H',Inv X pins σ H' s'∧Vals vs us∧Q vs H'
def SP (X:Cx) (pins:List (Addr × Obj)) (D:Ends) (f:Flow) (s':Shared):Prop :=
 match f with
 | .next => ∃ σ' H',Inv X pins σ' H' s'∧D.nx σ' H'
 | .brk => ∃ σ' H',Inv X pins σ' H' s'∧D.bk σ' H'
 | .cont => ∃ σ' H',Inv X pins σ' H' s'∧D.ct σ' H'
 | .ret u => ∃ v σ' H',Inv X pins σ' H' s'∧RelV v u∧D.rt v H'
def PE (X:Cx) (e:Expr) (t:TE):Prop :=
 ∀ (pins:List (Addr × Obj)) (s:Shared) (σ:St) (H:Hp) (Q:VK),Inv X pins σ H s→t σ H Q→wpAny (model X.prog X.w) X.A (eval e X.env) (EP X pins σ Q) X.xe s
def PT (X:Cx) (e:Expr) (t:TT):Prop :=
 ∀ (pins:List (Addr × Obj)) (s:Shared) (σ:St) (H:Hp) (Q:Bool→Hp→Prop),Inv X pins σ H s→t σ H Q→wpAny (model X.prog X.w) X.A (isTrue e X.env (eval e X.env)) (TP X pins σ Q) X.xe s
def PW (X:Cx) (e:Expr) (t:TT):Prop :=
 ∀ (whole:Sem Value) (pins:List (Addr × Obj)) (s:Shared) (σ:St) (H:Hp) (Q:Bool→Hp→Prop),Inv X pins σ H s→t σ H Q→wpAny (model X.prog X.w) X.A (isTrue e X.env whole) (TP X pins σ Q) X.xe s
theorem PW.pt {X:Cx} {e:Expr} {t:TT} (h:PW X e t):PT X e t:=h _
def PA (X:Cx) (es:List Expr) (t:TA):Prop :=
 ∀ (pos:Pos) (pins:List (Addr × Obj)) (s:Shared) (σ:St) (H:Hp) (Q:List V→Hp→Prop),Inv X pins σ H s→t σ H Q→wpAny (model X.prog X.w) X.A (spliced (backTo pos (starEach es X.env))) (AP X pins σ Q) X.xe s
def PS (X:Cx) (st:Stmt) (t:TS):Prop :=
 ∀ (pins:List (Addr × Obj)) (s:Shared) (σ:St) (H:Hp) (D:Ends),Inv X pins σ H s→t D σ H→wpAny (model X.prog X.w) X.A (exec st X.env) (SP X pins D) X.xe s
def PSs (X:Cx) (st:List Stmt) (t:TS):Prop :=
 ∀ (pins:List (Addr × Obj)) (s:Shared) (σ:St) (H:Hp) (D:Ends),Inv X pins σ H s→t D σ H→wpAny (model X.prog X.w) X.A (execs st X.env) (SP X pins D) X.xe s
theorem Aq {α:Type} {t:Sem α} {Q Q':α→Shared→Prop} {M:Model} {A:Around} {E:Value→Shared→Prop} {s:Shared} (h:wpAny M A t Q E s) (hQ:∀ a s,Q a s→Q' a s):wpAny M A t Q' E s:=wpAny_mono h hQ fun _ _ x => x
section
variable {X:Cx}
def Rs (i:Nat):TE:=fun σ H Q => ∃ v,σ[i]? = some (some v)∧Q v H
def tC (v:V):TE:=fun _ H Q => Q v H
theorem JU {i:Nat} {x:Str} {pos:Pos} (hN:X.N[i]? = some x) (hv:Rr X.env.scope x) (hd:(x == ("__debug__" : Str)) = false:=by decide) (hcd:(x == ("__classdict__" : Str)) = false:=by decide):PE X (.Name x pos) (Rs i):=by
 intro pins s σ H Q I h
 obtain ⟨v,e,h⟩:=h
 obtain ⟨m,hn,hl⟩:=I.loc
 obtain ⟨u,r,l⟩:=hl i x v hN e hv
 have fin:EP X pins σ Q u s:=⟨v,H,I,r,h⟩
 rcases l with ⟨hk,hm⟩ | ⟨hk,c,hc,hcell⟩
 ·exact wpAny_Name (wpAny_loadName_local I.ok.kind hk hn hm fin) hd
 ·rcases hk with hk | hk
  ·exact wpAny_Name (wpAny_loadName_cell I.ok.kind hk hc hcell fin) hd
  ·exact wpAny_Name (wpAny_loadName_free I.ok.kind hk hc hcell fin hcd) hd
theorem JV {i j pos}:PE X (.Constant (.int i) j pos) (tC (.int i)):=fun _ _ _ H _ I h => wpAny_Constant_int ⟨.int i,H,I.tok _,⟨_,rfl⟩,h⟩
theorem MW {b j pos}:PE X (.Constant (.bool b) j pos) (tC (.bl b)):=fun _ _ _ H _ I h => Constant_bool ⟨.bl b,H,I,rfl,h⟩
theorem Rt {j pos}:PE X (.Constant .none j pos) (tC .non):=fun _ _ _ H _ I h => Constant_none ⟨.non,H,I,rfl,h⟩
theorem Ba {x j pos}:PE X (.Constant (.str x) j pos) (tC (.str x)):=fun _ _ _ H _ I h => Calls.Constant_str ⟨.str x,H,I.tok _,⟨_,rfl⟩,h⟩
def Gl (X:Cx) (x:Str):Prop:=X.env.kindOf x = some .globalImplicit
theorem Df {E:Value→Shared→Prop} {pins:List (Addr × Obj)} {s:Shared} {σ:St} {H:Hp} {x:Str} {u:Value} {pos:Pos} {Q:Value→Shared→Prop} (I:Inv X pins σ H s) (hg:Gl X x) (hm:X.mg x = some u) (h:Q u s)
  (hd:(x == ("__debug__" : Str)) = false:=by decide):wpAny (model X.prog X.w) X.A (eval (.Name x pos) X.env) Q E s :=
 Calls.Name_function_global I.ok.kind hg (Calls.loadGlobal_global (by rw [I.ok.glob]; exact I.mod.glob.keeps I.bk) hm h) hd
theorem Eu {E:Value→Shared→Prop} {pins:List (Addr × Obj)} {s:Shared} {σ:St} {H:Hp} {x:Str} {u:Value} {pos:Pos} {Q:Value→Shared→Prop} (I:Inv X pins σ H s) (hg:Gl X x) (hm:X.mg x = none) (hv:bootBuiltins x = some u) (h:Q u s)
  (hn:x≠"__name__":=by decide) (hd:(x == ("__debug__" : Str)) = false:=by decide):wpAny (model X.prog X.w) X.A (eval (.Name x pos) X.env) Q E s:=by
 obtain ⟨mb,h1,h2⟩:=I.mod.blt
 exact Calls.Name_function_global I.ok.kind hg (Calls.loadGlobal_builtin (by rw [I.ok.glob]; exact I.mod.glob.keeps I.bk) hm (by rw [I.ok.blt]; exact h1.keeps I.bk) ((h2 x hn).trans hv) h) hd
theorem Bc {x:Str} {v:V} {u:Value} {pos:Pos} (hg:Gl X x) (hm:X.mg x = some u) (r:RelV v u) (hd:(x == ("__debug__" : Str)) = false:=by decide):PE X (.Name x pos) (tC v) :=
 fun _ _ _ H _ I h => Df I hg hm ⟨v,H,I,r,h⟩ hd
theorem KY {x:Str} {v:V} {u:Value} {pos:Pos} (hg:Gl X x) (hm:X.mg x = none) (hv:bootBuiltins x = some u) (r:RelV v u) (hn:x≠"__name__":=by decide) (hd:(x == ("__debug__" : Str)) = false:=by decide):PE X (.Name x pos) (tC v) :=
 fun _ _ _ H _ I h => Eu I hg hm hv ⟨v,H,I,r,h⟩ hn hd
variable {a b:Expr} {ta tb:TE} {pos:Pos}
variable {tA tB':TT} {rest:List Expr}
def WZ (t u:TT):TT:=fun σ H Q => t σ H fun c H1 => if c = true then u σ H1 Q else Q false H1
def Xn (t u:TT):TT:=fun σ H Q => t σ H fun c H1 => if c = true then Q true H1 else u σ H1 Q
def Wa (t:TT):TT:=fun σ H Q => t σ H fun c H1 => Q (!c) H1
theorem Pb (ha:PT X a tA):PW X (.BoolOp .And [a] pos) tA:=by
 intro wh pins s σ H Q I h
 refine isTrue_and (Aq (ha pins s σ H Q I h) fun c s1 e => ?_)
 cases c with
 | true => exact isTrue_and_nil e
 | false => exact e
theorem MX (ha:PT X a tA):PW X (.BoolOp .Or [a] pos) tA:=by
 intro wh pins s σ H Q I h
 refine isTrue_or (Aq (ha pins s σ H Q I h) fun c s1 e => ?_)
 cases c with
 | false => exact isTrue_or_nil e
 | true => exact e
theorem Ru (ha:PT X a tA) (hb:PW X (.BoolOp .And (b :: rest) pos) tB'):PW X (.BoolOp .And (a :: b :: rest) pos) (WZ tA tB'):=by
 intro wh pins s σ H Q I h
 refine isTrue_and (Aq (ha pins s σ H _ I h) fun c s1 ⟨H1,I1,q1⟩ => ?_)
 cases c with
 | true => exact hb wh pins s1 σ H1 Q I1 q1
 | false => exact ⟨H1,I1,q1⟩
theorem Qz (ha:PT X a tA) (hb:PW X (.BoolOp .Or (b :: rest) pos) tB'):PW X (.BoolOp .Or (a :: b :: rest) pos) (Xn tA tB'):=by
 intro wh pins s σ H Q I h
 refine isTrue_or (Aq (ha pins s σ H _ I h) fun c s1 ⟨H1,I1,q1⟩ => ?_)
 cases c with
 | true => exact ⟨H1,I1,q1⟩
 | false => exact hb wh pins s1 σ H1 Q I1 q1
theorem MY (ha:PT X a tA):PT X (.UnaryOp .Not a pos) (Wa tA):=by
 intro pins s σ H Q I h
 exact isTrue_not (ha pins s σ H (fun c H1 => Q (!c) H1) I h)
def UH (ta tb:TE):TE:=fun σ H Q => ta σ H fun x H1 => ∃ c,x = .bl c∧if c = true then tb σ H1 Q else Q (.bl false) H1
def UI (ta:TE):TE:=fun σ H Q => ta σ H fun x H1 => ∃ c,x = .bl c∧Q (.bl (!c)) H1
theorem Rv {op} {t:TE} (h:PE X a t):PE X (.BoolOp op [a] pos) t:=fun pins s σ H Q I hw => BoolOp_one (h pins s σ H Q I hw)
theorem Rw (ha:PE X a ta) (hb:PE X (.BoolOp .And (b :: rest) pos) tb):PE X (.BoolOp .And (a :: b :: rest) pos) (UH ta tb):=by
 intro pins s σ H Q I h
 refine BoolOp_and (Aq (ha pins s σ H _ I h) fun v s1 ⟨x,H1,I1,r1,q1⟩ => ?_)
 obtain ⟨c,rfl,q1⟩:=q1
 cases r1
 refine wpAny_truthy_bool ?_
 cases c with
 | true => exact hb pins s1 σ H1 Q I1 q1
 | false => exact ⟨.bl false,H1,I1,rfl,q1⟩
theorem Rx (ha:PE X a ta):PE X (.UnaryOp .Not a pos) (UI ta):=by
 intro pins s σ H Q I h
 refine UnaryOp_ (Aq (ha pins s σ H _ I h) fun v s1 ⟨x,H1,I1,r1,q1⟩ => ?_)
 obtain ⟨c,rfl,q1⟩:=q1
 cases r1
 exact not_of (wpAny_truthy_bool ⟨.bl (!c),H1,I1,rfl,q1⟩)
def Xo (t:TT) (ta tb:TE):TE:=fun σ H Q => t σ H fun c H1 => if c = true then ta σ H1 Q else tb σ H1 Q
theorem MZ {c:Expr} (hc:PT X c tA) (ha:PE X a ta) (hb:PE X b tb):PE X (.IfExp c a b pos) (Xo tA ta tb):=by
 intro pins s σ H Q I h
 refine wpAny_IfExp (Aq (hc pins s σ H _ I h) fun d s1 ⟨H1,I1,q1⟩ => ?_)
 cases d with
 | true => exact ha pins s1 σ H1 Q I1 q1
 | false => exact hb pins s1 σ H1 Q I1 q1
end
def SqL (K:PySem.W.Frag) (H:Hp) (a:Addr) (xs:List V):Prop :=
 Rd H a (.lst xs) ∨
  ∃ (o:Obj) (its:Array Value) (n:Nat),K.lookup a = some o∧o.cls = .type "list"∧o.dict = none∧o.data = .seq its n∧its.size≤sizeLine∧Vals xs its.toList
def JS (K:PySem.W.Frag) (H:Hp) (a:Addr) (xs:List V):Prop :=
 Rd H a (.tup xs) ∨
  ∃ (o:Obj) (its:Array Value) (n:Nat),K.lookup a = some o∧o.cls = .type "tuple"∧o.data = .seq its n∧its.size≤sizeLine∧Vals xs its.toList
def Wb:Value→Option V
 | .none => some .non
 | .bool b => some (.bl b)
 | .int i _ => some (.int i)
 | .str x _ => some (.str x)
 | .bytes b _ => some (.byt b)
 | .float b _ => some (.flt b)
 | .ref a => some (.ref a)
 | .type n => some (.ty n)
 | _ => none
theorem RelV.abs {x:V} {u:Value} (r:RelV x u):Wb u = some x:=by
 cases x with
 | non => cases r; rfl
 | bl _ => cases r; rfl
 | int _ => obtain ⟨t,rfl⟩:=r; rfl
 | str _ => obtain ⟨t,rfl⟩:=r; rfl
 | byt _ => obtain ⟨t,rfl⟩:=r; rfl
 | flt _ => obtain ⟨t,rfl⟩:=r; rfl
 | ref _ => cases r; rfl
 | ty _ => cases r; rfl
theorem RelV.inj {x y:V} {u:Value} (r:RelV x u) (q:RelV y u):x = y:=Option.some.inj (r.abs.symm.trans q.abs)
theorem Vals.inj:∀ {xs ys:List V} {us:List Value},Vals xs us→Vals ys us→xs = ys
 | _,_,_,.nil,.nil => rfl
 | _,_,_,.cons r t,.cons r' t' => by rw [r.inj r',Vals.inj t t']
section
variable {X:Cx} {pins:List (Addr × Obj)} {σ:St} {H:Hp} {s:Shared} {a:Addr} {xs ys:List V}
theorem SqL.of {K:PySem.W.Frag} (h:H a = some (.lst xs)):SqL K H a xs:=.inl (.inl h)
theorem Inv.list (I:Inv X pins σ H s) (h:SqL X.K H a xs):∃ its:List Value,Vals xs its∧PlainL s.heap a its.toArray∧xs.length≤sizeLine:=by
 rcases h with h | ⟨o,its,n,hk,hc,hd,hs,hz,r⟩
 ·obtain ⟨z,its,n,r,e⟩:=h.ok I.hok
  exact ⟨its,r,⟨_,n,e,rfl,rfl,rfl⟩,z⟩
 ·refine ⟨its.toList,r,⟨o,n,I.kIn a o hk,hc,hd,by simpa using hs⟩,?_⟩
  have e:=r.length
  simp only [Array.length_toList] at e
  omega
theorem Inv.tuple (I:Inv X pins σ H s) (h:JS X.K H a xs):∃ its:List Value,Vals xs its∧IsTup s.heap a its.toArray∧xs.length≤sizeLine:=by
 rcases h with h | ⟨o,its,n,hk,hc,hs,hz,r⟩
 ·obtain ⟨z,its,r,p⟩:=h.ok I.hok
  exact ⟨its,r,p,z⟩
 ·refine ⟨its.toList,r,⟨o,I.kIn a o hk,hc,n,by simpa using hs⟩,?_⟩
  have e:=r.length
  simp only [Array.length_toList] at e
  omega
theorem Inv.list_inj (I:Inv X pins σ H s) (h:SqL X.K H a xs) (h':SqL X.K H a ys):xs = ys:=by
 obtain ⟨its,r,⟨o,n,e,_,_,d⟩,_⟩:=I.list h
 obtain ⟨its',r',⟨o',n',e',_,_,d'⟩,_⟩:=I.list h'
 rw [e] at e'; cases e'
 rw [d] at d'
 injection d' with d1 _
 have:its = its':=by simpa using congrArg Array.toList d1
 subst this
 exact r.inj r'
theorem Inv.tuple_inj (I:Inv X pins σ H s) (h:JS X.K H a xs) (h':JS X.K H a ys):xs = ys:=by
 obtain ⟨its,r,⟨o,e,_,n,d⟩,_⟩:=I.tuple h
 obtain ⟨its',r',⟨o',e',_,n',d'⟩,_⟩:=I.tuple h'
 rw [e] at e'; cases e'
 rw [d] at d'
 injection d' with d1 _
 have:its = its':=by simpa using congrArg Array.toList d1
 subst this
 exact r.inj r'
end
section
variable {X:Cx} {pins:List (Addr × Obj)} {σ:St} {H:Hp} {s:Shared} {E:Value→Shared→Prop}
end
section
variable {X:Cx} {st:Stmt} {rest:List Stmt} {t u:TS} {e:Expr} {te:TE} {pos:Pos}
def UJ:TS:=fun D σ H => D.nx σ H
def Wc (t u:TS):TS:=fun D σ H => t { D with nx:=u D } σ H
theorem Dg:PSs X [] UJ:=fun _ _ σ H _ I h => wpAny_execs_nil ⟨σ,H,I,h⟩
theorem BX (h1:PS X st t) (h2:PSs X rest u):PSs X (st :: rest) (Wc t u):=by
 intro pins s σ H D I h
 refine wpAny_execs_cons (Aq (h1 pins s σ H { D with nx:=u D } I h) fun f s1 q => ?_)
 cases f with
 | next =>
  obtain ⟨σ',H',I',q⟩:=q
  exact h2 pins s1 σ' H' D I' q
 | ret v => exact q
 | brk => exact q
 | cont => exact q
theorem Bd (h1:PS X st t):PSs X [st] t:=by
 intro pins s σ H D I h
 refine wpAny_execs_cons (Aq (h1 pins s σ H D I h) fun f s1 q => ?_)
 cases f with
 | next => exact wpAny_execs_nil q
 | ret v => exact q
 | brk => exact q
 | cont => exact q
theorem Inv.quiet {pins:List (Addr × Obj)} {σ:St} {H:Hp} {s:Shared} (I:Inv X pins σ H s):interactive X.env = false:=by simp [interactive,I.ok.kind]
def UK (te:TE):TS:=fun D σ H => te σ H fun _ H1 => D.nx σ H1
theorem Pc (he:PE X e te) (hs:swapsWith e none pos.line X.env = pure false:=by rfl):PS X (.Expr e pos) (UK te):=by
 intro pins s σ H D I h
 exact wpAny_Expr_any (Aq (he pins s σ H _ I h) fun v s1 ⟨x,H1,I1,r1,q1⟩ => ⟨σ,H1,I1,q1⟩) I.quiet hs
def UL (te:TE):TS:=fun D σ H => te σ H D.rt
theorem CI (he:PE X e te):PS X (.Return (some e) pos) (UL te):=by
 intro pins s σ H D I h
 exact wpAny_Return_some (Aq (he pins s σ H _ I h) fun v s1 ⟨x,H1,I1,r1,q1⟩ => ⟨x,σ,H1,I1,r1,q1⟩)
def Wd (c:TT) (t u:TS):TS:=fun D σ H => c σ H fun b H1 => if b = true then t D σ H1 else u D σ H1
theorem IG {c:Expr} {a b:List Stmt} {tc:TT} (hc:PT X c tc) (ha:PSs X a t) (hb:PSs X b u):PS X (.If c a b pos) (Wd tc t u):=by
 intro pins s σ H D I h
 refine wpAny_If (Aq (hc pins s σ H _ I h) fun d s1 ⟨H1,I1,q1⟩ => ?_)
 cases d with
 | true => exact ha pins s1 σ H1 D I1 q1
 | false => exact hb pins s1 σ H1 D I1 q1
end
abbrev TG:=V→St→Hp→(St→Hp→Prop)→Prop
abbrev Ry:=List V→St→Hp→(St→Hp→Prop)→Prop
def PG (X:Cx) (target:Expr) (t:TG):Prop :=
 ∀ (pins:List (Addr × Obj)) (s:Shared) (σ:St) (H:Hp) (v:V) (u:Value) (Q:St→Hp→Prop),Inv X pins σ H s→RelV v u→t v σ H Q →
  wpAny (model X.prog X.w) X.A (assign target X.env u) (fun _ s' => ∃ σ' H',Inv X pins σ' H' s'∧Q σ' H') X.xe s
def WK (X:Cx) (ts:List Expr) (t:Ry):Prop :=
 ∀ (pins:List (Addr × Obj)) (s:Shared) (σ:St) (H:Hp) (vs:List V) (us:List Value) (Q:St→Hp→Prop),Inv X pins σ H s→Vals vs us→t vs σ H Q →
  wpAny (model X.prog X.w) X.A (assignInOrder ((assignEach ts X.env).map (·.2)) us) (fun _ s' => ∃ σ' H',Inv X pins σ' H' s'∧Q σ' H') X.xe s
abbrev Rz:=V→V→V→Hp→(Hp→Prop)→Prop
def UM (X:Cx) (t:Rz):Prop :=
 ∀ (pins:List (Addr × Obj)) (s:Shared) (σ:St) (H:Hp) (o i v:V) (ov iv u:Value) (Q:Hp→Prop),Inv X pins σ H s→RelV o ov→RelV i iv→RelV v u→t o i v H Q →
  wpAny (model X.prog X.w) X.A (setItem ov iv u) (fun _ s' => ∃ H',Inv X pins σ H' s'∧Q H') X.xe s
abbrev UN:=V→V→Hp→VK→Prop
def We (X:Cx) (op:Operator) (t:UN):Prop :=
 ∀ (pins:List (Addr × Obj)) (s:Shared) (σ:St) (H:Hp) (x y:V) (v u:Value) (Q:VK),Inv X pins σ H s→RelV x v→RelV y u→t x y H Q →
  wpAny (model X.prog X.w) X.A (inplaceOp op v u) (EP X pins σ Q) X.xe s
section
variable {X:Cx} {pos:Pos}
def RA (i:Nat):TG:=fun v σ H Q => Q (σ.set i (some v)) H
theorem BU {i:Nat} {x:Str} (hN:X.N.Nodup) (hi:X.N[i]? = some x) (hx:IF X.env.scope x) (hf:X.fn x = true∨X.env.scope.names.lookup x = some .local:=by first | exact .inl rfl | exact .inr rfl | assumption):PG X (.Name x pos) (RA i):=by
 intro pins s σ H v u Q I r h
 exact wpAny_assign_Name (BJ I hN hi hx r (fun s' I' => ⟨_,H,I',h⟩) hf)
def Wf:Ry:=fun vs σ H Q => vs = []∧Q σ H
def UO (t:TG) (u:Ry):Ry:=fun vs σ H Q => ∃ v r,vs = v :: r∧t v σ H fun σ' H' => u r σ' H' Q
theorem Gs:WK X [] Wf:=by
 intro pins s σ H vs us Q I r h
 obtain ⟨e,h⟩:=h
 subst e
 cases r
 exact assignInOrder_nil ⟨σ,H,I,h⟩
theorem BK {e:Expr} {es:List Expr} {t:TG} {u:Ry} (h1:PG X e t) (h2:WK X es u)
  (hs:(assignEach (e :: es) X.env).map (·.2) = assign e X.env :: (assignEach es X.env).map (·.2):=by rfl):WK X (e :: es) (UO t u):=by
 intro pins s σ H vs us Q I r h
 obtain ⟨v,vr,e1,h⟩:=h
 subst e1
 cases r with
 | cons r rr =>
  rw [hs]
  refine assignInOrder_cons (Aq (h1 pins s σ H _ _ _ I r h) fun _ s1 ⟨σ1,H1,I1,q1⟩ => ?_)
  exact h2 pins s1 σ1 H1 _ _ Q I1 rr q1
def Wg (K:PySem.W.Frag) (n:Nat) (t:Ry):TG:=fun v σ H Q => ∃ a xs,v = .ref a∧JS K H a xs∧xs.length = n∧t xs σ H Q
theorem JW {es:List Expr} {k:Nat} {t:Ry} {n:Nat} (hc:X.calm = true) (h:WK X es t)
  (hn:(assignEach es X.env).length = n:=by rfl) (hst:(assignEach es X.env).findIdx? (·.1) = none:=by rfl):PG X (.Tuple es k pos) (Wg X.K n t):=by
 intro pins s σ H v u Q I r hw
 obtain ⟨a,xs,e1,hq,hl,hw⟩:=hw
 subst e1
 cases r
 obtain ⟨its,rv,ht,hz⟩:=I.tuple hq
 refine assign_Tuple_tuple (I.ok.hd hc) ht (by simp [hn,← hl,rv.length]) hst fun h' hx => ?_
 have I1:Inv X pins σ H { s with heap:=h' }:=I.kept (t':=s.toks) fun b o e => hx b o (Nat.ne_of_lt (Heap.lt_size e)) e
 exact h pins _ σ H xs _ Q I1 (by simpa using rv) hw
def Wh (to ti:TE) (t:Rz):TG:=fun v σ H Q => to σ H fun o H1 => ti σ H1 fun i H2 => t o i v H2 fun H3 => Q σ H3
theorem SA {o i:Expr} {to ti:TE} {t:Rz} (ho:PE X o to) (hi:PE X i ti) (hs:UM X t)
  (ha:∀ v,assign (.Subscript o i pos) X.env v = (do
   let ov ← holding [v] (eval o X.env)
   let iv ← holding [v,ov] (eval i X.env)
   standAt pos
   holding [v,ov,iv] (setItem ov iv v)
   release [v,ov,iv] []):=by intro _; rfl):PG X (.Subscript o i pos) (Wh to ti t):=by
 intro pins s σ H v u Q I r h
 rw [ha]
 refine wpAny_bind (wpAny_holding (Aq (ho pins s σ H _ I h) fun ov s1 ⟨x,H1,I1,r1,q1⟩ => ?_))
 refine wpAny_bind (wpAny_holding (Aq (hi pins s1 σ H1 _ I1 q1) fun iv s2 ⟨y,H2,I2,r2,q2⟩ => ?_))
 refine wpAny_bind (wpAny_standAt (wpAny_bind (wpAny_holding (Aq (hs pins s2 σ H2 x y v ov iv u _ I2 r1 r2 r q2) fun _ s3 ⟨H3,I3,q3⟩ => ?_))))
 exact wpAny_release ⟨σ,H3,I3,q3⟩
def UP (te:TE) (g:TG):TS:=fun D σ H => te σ H fun x H1 => g x σ H1 D.nx
theorem Ma {tg e:Expr} {te:TE} {g:TG} (he:PE X e te) (hg:PG X tg g) (hs:swapsWithSole [tg] e pos.line X.env = pure false:=by rfl) (hw:swappedStores [tg] e X.env = pure none:=by rfl)
  (h1:(assignEach [tg] X.env).map (·.2) = [assign tg X.env]:=by rfl):PS X (.Assign [tg] e pos) (UP te g):=by
 intro pins s σ H D I h
 refine wpAny_Assign_stores (Aq (he pins s σ H _ I h) fun v s1 ⟨x,H1,I1,r1,q1⟩ => ?_) hs hw
 rw [h1]
 exact Aq (hg pins s1 σ H1 x v _ I1 r1 q1) fun _ s2 q => q
theorem Gu {i:Nat} {x:Str} {e:Expr} {te:TE} {pos':Pos} (hN:X.N.Nodup) (hi:X.N[i]? = some x) (hx:IF X.env.scope x) (he:PE X e te) (hs:swapsWith e (some (.Name x pos')) pos.line X.env = pure false:=by rfl) (hf:X.fn x = true∨X.env.scope.names.lookup x = some .local:=by first | exact .inl rfl | exact .inr rfl | assumption) :
  PS X (.Assign [.Name x pos'] e pos) (UP te (RA i)):=by
 intro pins s σ H D I h
 refine wpAny_Assign_Name (Aq (he pins s σ H _ I h) fun v s1 ⟨y,H1,I1,r1,q1⟩ => ?_) hs
 exact BJ I1 hN hi hx r1 (fun s2 I2 => ⟨_,H1,I2,q1⟩) hf
def Wi (i j:Nat) (ta:TA):TS:=fun D σ H => ta σ H fun vs H1 => ∃ v w,vs = [v,w]∧D.nx ((σ.set i (some v)).set j (some w)) H1
theorem SB {i j:Nat} {x y:Str} {a b:Expr} {ta:TA} {px py pt:Pos} {kt k2 pt2} (hc:X.calm = true) (hN:X.N.Nodup) (hi:X.N[i]? = some x) (hj:X.N[j]? = some y) (hij:i≠j)
  (hx:X.env.scope.names.lookup x = some .local) (hy:X.env.scope.names.lookup y = some .local) (ha:PA X [a,b] ta)
  (hw:swappedStores [.Tuple [.Name x px,.Name y py] kt pt] (.Tuple [a,b] k2 pt2) X.env = pure (some [x,y]))
  (hs:swapsWithSole [.Tuple [.Name x px,.Name y py] kt pt] (.Tuple [a,b] k2 pt2) pos.line X.env = pure false:=by rfl) :
  PS X (.Assign [.Tuple [.Name x px,.Name y py] kt pt] (.Tuple [a,b] k2 pt2) pos) (Wi i j ta):=by
 intro pins s σ H D I h
 rw [exec_Assign_arm]
 refine wpAny_bind (wpAny_standAt ?_)
 rw [hs]
 refine wpAny_bind (wpAny_pure ?_)
 rw [if_neg (by decide)]
 refine wpAny_bind (Tuple_ (Aq (ha _ pins s σ H _ I h) fun us s1 ⟨vs,H1,I1,r1,q1⟩ => ?_))
 obtain ⟨v,w,e1,q1⟩:=q1
 subst e1
 obtain ⟨u1,u2,rfl,rv,rw'⟩:∃ u1 u2,us = [u1,u2]∧RelV v u1∧RelV w u2:=by
  cases r1 with
  | cons p q =>
   cases q with
   | cons p' q' =>
    cases q'
    exact ⟨_,_,rfl,p,p'⟩
 refine wpAny_newObj_type ?_ (by show 2≤sizeLine; decide)
 have I2:Inv X pins σ H1 { s1 with heap:=s1.heap.push { cls:=.type "tuple",data:=.seq [u1,u2].toArray } }:=I1.kept (t':=s1.toks) fun b o e => Heap.get?_push_of_some _ e
 rw [hw]
 refine wpAny_bind (wpAny_pure ?_)
 show wpAny (model X.prog X.w) X.A (do rule "assign.swapped-stores"; let items ← unpackItems (.ref s1.heap.objs.size) 2 none; assignInOrder [fun v => bindName X.env y v,fun v => bindName X.env x v] items.reverse; pure Flow.next) _ _ _
 refine wpAny_bind (wpAny_rule (wpAny_bind (unpackItems_tuple (items:=#[u1,u2]) (I.ok.hd hc) (IsTup.new s1.heap _) fun h' hx' => ?_)))
 have I3:=I2.kept (h':=h') (t':=s1.toks) fun b o e => hx' b o (Nat.ne_of_lt (Heap.lt_size e)) e
 show wpAny _ _ (assignInOrder [fun v => bindName X.env y v,fun v => bindName X.env x v] [u2,u1] >>= fun _ => pure Flow.next) _ _ _
 refine wpAny_bind (assignInOrder_cons (wpAny_bindName (BJ I3 hN hj (.inl hy) rw' (fun s2 I4 => ?_) (.inr hy))))
 refine assignInOrder_cons (wpAny_bindName (BJ I4 hN hi (.inl hx) rv (fun s3 I5 => assignInOrder_nil (wpAny_pure ?_)) (.inr hx)))
 rw [List.set_comm _ _ (Ne.symm hij)] at I5
 exact ⟨_,H1,I5,q1⟩
def Wj (i:Nat) (te:TE) (ti:UN):TS:=fun D σ H => ∃ x,σ[i]? = some (some x)∧te σ H fun y H1 => ti x y H1 fun z H2 => D.nx (σ.set i (some z)) H2
theorem SC {i:Nat} {x:Str} {e:Expr} {te:TE} {op:Operator} {ti:UN} {pos':Pos} (hN:X.N.Nodup) (hi:X.N[i]? = some x) (hx:IF X.env.scope x) (he:PE X e te) (ho:We X op ti) (hf:X.fn x = true∨X.env.scope.names.lookup x = some .local:=by first | exact .inl rfl | exact .inr rfl | assumption) :
  PS X (.AugAssign (.Name x pos') op e pos) (Wj i te ti):=by
 intro pins s σ H D I h
 obtain ⟨v,e1,h⟩:=h
 obtain ⟨m,hn,hl⟩:=I.loc
 have vis:Rr X.env.scope x:=by rcases hx with k | k; exact .inl k; exact .inr (.inl k)
 obtain ⟨u,r,l⟩:=hl i x v hi e1 vis
 refine wpAny_AugAssign_Name ?_
 have go:wpAny (model X.prog X.w) X.A (eval e X.env) (fun w s₂ => wpAny (model X.prog X.w) X.A (inplaceOp op u w) (fun r s₃ => wpAny (model X.prog X.w) X.A (storeName X.env x r) (fun _ => SP X pins D .next) X.xe s₃) X.xe s₂) X.xe s:=by
  refine Aq (he pins s σ H _ I h) fun w s1 ⟨y,H1,I1,r1,q1⟩ => ?_
  refine Aq (ho pins s1 σ H1 v y u w _ I1 r r1 q1) fun z s2 ⟨zv,H2,I2,r2,q2⟩ => ?_
  exact BJ I2 hN hi hx r2 (fun s3 I3 => ⟨_,H2,I3,q2⟩) hf
 rcases l with ⟨hk,hm⟩ | ⟨hk,c,hc,hcell⟩
 ·exact wpAny_loadName_local I.ok.kind hk hn hm go
 ·rcases hk with hk | hk
  ·exact wpAny_loadName_cell I.ok.kind hk hc hcell go
  ·rcases hx with k | k
   ·have:X.env.scope.names.lookup x = some .free:=hk
    rw [k] at this; cases this
   ·have:X.env.scope.names.lookup x = some .free:=hk
    rw [k] at this; cases this
def Xp (f:Int→Int→Int):UN:=fun x y H Q => ∃ i j,x = .int i∧y = .int j∧Q (.int (f i j)) H
theorem SD:We X .Add (Xp fun i j => i + j):=by
 intro pins s σ H x y v u Q I r1 r2 h
 obtain ⟨i,j,e1,e2,q⟩:=h
 subst e1; subst e2
 obtain ⟨t,rfl⟩:=r1
 obtain ⟨t',rfl⟩:=r2
 exact iadd_int ⟨.int _,H,I.tok _,⟨_,rfl⟩,q⟩
end
section
variable {X:Cx} {pos:Pos}
def SE (c:TT) (tb:TS):TS:=fun D σ H => ∃ W:Nat→St→Hp→Prop,(∃ m,W m σ H)∧∀ m σ H,W m σ H →
 c σ H fun b H1 => if b = true then ∃ N:St→Hp→Prop,(∀ σ' H',N σ' H'→∃ m',m' < m∧W m' σ' H')∧tb { D with nx:=N,ct:=N,bk:=D.nx } σ H1 else D.nx σ H1
theorem Mb {c:Expr} {body:List Stmt} {tc:TT} {tb:TS} (hp:PassesOwn (model X.prog X.w) X.A X.env X.xe) (hc:PT X c tc) (hb:PSs X body tb):PS X (.While c body [] pos) (SE tc tb):=by
 intro pins s σ H D I h
 obtain ⟨W,⟨m0,w0⟩,turn⟩:=h
 refine wpAny_While (codeAny_whileLoop (fun n s' => ∃ σ' H',Inv X pins σ' H' s'∧W n σ' H') ?_ m0 ⟨σ,H,I,w0⟩)
 rintro n s1 ⟨σ1,H1,I1,w1⟩
 refine wpAny_passesOwn hp (Aq (hc pins s1 σ1 H1 _ I1 (turn n σ1 H1 w1)) fun b s2 ⟨H2,I2,q2⟩ => ?_)
 cases b with
 | true =>
  obtain ⟨N,hN,q2⟩:=q2
  rw [if_pos rfl]
  refine wpAny_passesOwn hp (Aq (hb pins s2 σ1 H2 _ I2 q2) fun f s3 q3 => ?_)
  cases f with
  | next =>
   obtain ⟨σ3,H3,I3,n3⟩:=q3
   obtain ⟨m',hm,w3⟩:=hN σ3 H3 n3
   exact ⟨m',hm,σ3,H3,I3,w3⟩
  | cont =>
   obtain ⟨σ3,H3,I3,n3⟩:=q3
   obtain ⟨m',hm,w3⟩:=hN σ3 H3 n3
   exact ⟨m',hm,σ3,H3,I3,w3⟩
  | brk => exact q3
  | ret v => exact q3
 | false =>
  rw [if_neg Bool.false_ne_true]
  exact wpAny_execs_nil ⟨σ1,H2,I2,q2⟩
end
structure It where
 go:Nat→Hp→Prop
 yld:Nat→Hp→V→Hp→Prop
 stop:Nat→Hp→Prop
def Ev (X:Cx) (pins:List (Addr × Obj)) (H:Hp) (b:Addr):Prop :=
 H b = none∧b≠X.env.locals∧b ∉ X.fs∧(b∈X.ex∨X.s₀.heap.objs.size≤b)∧(∀ x c,X.env.cells.lookup x = some c→c≠b)∧∀ p∈X.pn ++ pins,p.1≠b
theorem Inv.fpOk {X:Cx} {pins:List (Addr × Obj)} {σ:St} {H H':Hp} {s:Shared} {b:Addr} (I:Inv X pins σ H s) (hb:s.heap.objs.size≤b) (hn:H' b = none):Ev X pins H' b:=by
 refine ⟨hn,Nat.ne_of_gt (Nat.lt_of_lt_of_le I.lt hb),I.nofs hb,.inr (Nat.le_trans I.sz hb),fun x c e z => ?_,fun p hp z => ?_⟩
 ·obtain ⟨v,q⟩:=I.cell x c e
  exact absurd (Nat.lt_of_lt_of_le q.lt (by rw [z]; exact hb)) (Nat.lt_irrefl _)
 ·exact absurd (Nat.lt_of_lt_of_le (Heap.lt_size (I.pin p hp).1) (by rw [z]; exact hb)) (Nat.lt_irrefl _)
structure Turn (P:Program) (w:World) (K:PySem.W.Frag) (tg:Expr) (J:It) (fp:List Addr) (it:Addr) (tn:Nat→Heap→Prop):Prop where
 mem:it∈fp
 obj:∀ i h,tn i h→∀ b∈fp,∃ o,h.get? b = some o∧∀ v,o.data≠.cell v
 keep:∀ i h h',tn i h→(∀ b∈fp,∀ o,h.get? b = some o→h'.get? b = some o)→tn i h'
 item:∀ (X:Cx),X.prog = P→X.w = w→X.K = K→X.calm = true→∀ (i:Nat) (pins:List (Addr × Obj)) (s:Shared) (σ:St) (H:Hp) (E:Value→Shared→Prop),Inv X pins σ H s→(∀ b∈fp,Ev X pins H b)→tn i s.heap→J.go i H →
  wpAny (model P w) X.A (pyNext (.ref it)) (fun r s1 => ∃ u,r = some u ∧
   wpAny (model P w) X.A (letOwnedTupleGo tg (.ref it) u) (fun _ s2 => ∃ x H',Inv X pins σ H' s2∧RelV x u∧J.yld i H x H'∧tn (i + 1) s2.heap∧∀ b∈fp,H' b = none) E s1) E s
 done:∀ (X:Cx),X.prog = P→X.w = w→X.K = K→X.calm = true→∀ (i:Nat) (pins:List (Addr × Obj)) (s:Shared) (σ:St) (H:Hp) (E:Value→Shared→Prop),Inv X pins σ H s→(∀ b∈fp,Ev X pins H b)→tn i s.heap→J.stop i H →
  wpAny (model P w) X.A (pyNext (.ref it)) (fun r s1 => r = none∧Inv X pins σ H s1) E s
 self:∀ (A:Around) (i:Nat) (s:Shared) (Q:Value→Shared→Prop) (E:Value→Shared→Prop),tn i s.heap→Q (.ref it) s→wpAny (model P w) A (pyIter (.ref it)) Q E s
abbrev TI:=St→Hp→(It→Hp→Prop)→Prop
def XW (X:Cx) (pins:List (Addr × Obj)) (σ:St) (tg:Expr) (R:It→Hp→Prop) (itv:Value) (s2:Shared):Prop :=
 ∃ (it:Addr) (fp:List Addr) (tn:Nat→Heap→Prop) (J:It) (H':Hp),itv = .ref it∧Inv X pins σ H' s2∧Turn X.prog X.w X.K tg J fp it tn∧tn 0 s2.heap∧(∀ b∈fp,Ev X pins H' b)∧R J H'
def PI (X:Cx) (tg iter:Expr) (wi:TI):Prop :=
 ∀ (pins:List (Addr × Obj)) (s:Shared) (σ:St) (H:Hp) (R:It→Hp→Prop),Inv X pins σ H s→wi σ H R →
  wpAny (model X.prog X.w) X.A (eval iter X.env) (fun v s1 => wpAny (model X.prog X.w) X.A (pyIter v) (XW X pins σ tg R) X.xe s1) X.xe s
theorem Mc {M:Model} {A:Around} {E:Value→Shared→Prop} {s:Shared} {tg:Expr} {it:Addr} {u:Value} {o:Obj} {n:String} {vs:Array Value} {Q:Unit→Shared→Prop} (ho:s.heap.get? it = some o) (hc:o.cls = .type n) (hd:o.data = .fields vs)
    (hn:["enumerate","zip","dict_itemiterator","dict_reverseitemiterator","odict_iterator","itertools.zip_longest","itertools.pairwise"].contains n = false) (hQ:Q () s):wpAny M A (letOwnedTupleGo tg (.ref it) u) Q E s:=by
  unfold letOwnedTupleGo
  cases tg <;> first
    | exact wpAny_pure hQ
    | (cases u <;> first
        | exact wpAny_pure hQ
        | (refine wpAny_bind (wpAny_load ho ?_)
           rw [hc,hd]
           show wpAny M A (if (["enumerate","zip","dict_itemiterator","dict_reverseitemiterator","odict_iterator","itertools.zip_longest","itertools.pairwise"].contains n && vs[0]? == some (rawInt _)) = true then _ else _) Q E s
           rw [if_neg (by intro h; rw [hn,Bool.false_and] at h; cases h)]
           exact wpAny_pure hQ))
def Wl (K:PySem.W.Frag) (a:Addr):It :=
 ⟨fun i H => ∃ xs x,SqL K H a xs∧xs[i]? = some x,fun i H x H' => H' = H∧∀ xs,SqL K H a xs→xs[i]? = some x,fun i H => ∃ xs,SqL K H a xs∧xs.length≤i⟩
def Wm (K:PySem.W.Frag) (a:Addr):It :=
 ⟨fun i H => ∃ xs x,JS K H a xs∧xs[i]? = some x,fun i H x H' => H' = H∧∀ xs,JS K H a xs→xs[i]? = some x,fun i H => ∃ xs,JS K H a xs∧xs.length≤i⟩
def WL (lo:Int) (n:Nat):It:=⟨fun i _ => i < n,fun i H x H' => H' = H∧x = .int (lo + i),fun i _ => n≤i⟩
theorem Lc {P:Program} {w:World} {K:PySem.W.Frag} {tg:Expr} (a it:Addr):Turn P w K tg (Wl K a) [it] it (fun i h => h.IsListIter it a i) where
 mem:=by simp
 obj:=fun i h st b hb => by
  have e:b = it:=by simpa using hb
  subst e
  obtain ⟨o,e,c,d⟩:=st
  exact ⟨o,e,fun v z => by rw [d] at z; cases z⟩
 keep:=fun i h h' st k => st.at fun o e => k it (by simp) o e
 item:=by
  intro X hP hw hK hc i pins s σ H E I hf st hg
  subst hP hw hK
  obtain ⟨xs,x,hq,hx⟩:=hg
  obtain ⟨its,rv,p,hz⟩:=I.list hq
  obtain ⟨u,hu,ru⟩:=rv.get hx
  obtain ⟨f0,f1,f2,f3,f4,f5⟩:=hf it (by simp)
  refine wpAny_pyNext_list_item st p.isList (x:=u) (by simpa using hu) fun h' st' sb => ?_
  have I1:Inv X pins σ H { s with heap:=h' }:=I.turned (t':=s.toks) (fun b o hb e => (sb.2 b hb).trans e) f0 f1 f3 f4 f5
  obtain ⟨o,e,c,d⟩:=id st'
  exact ⟨u,rfl,Mc (s:={ s with heap:=h' }) e c d (by decide) ⟨x,H,I1,ru,⟨rfl,fun ys hy => by rw [I.list_inj hy hq]; exact hx⟩,st',fun b hb => (hf b hb).1⟩⟩
 done:=by
  intro X hP hw hK hc i pins s σ H E I hf st hg
  subst hP hw hK
  obtain ⟨xs,hq,hx⟩:=hg
  obtain ⟨its,rv,p,hz⟩:=I.list hq
  obtain ⟨f0,f1,f2,f3,f4,f5⟩:=hf it (by simp)
  have hl:=rv.length
  exact wpAny_pyNext_list_end (I.ok.hd hc) st p.isList (by simp; omega) fun h' eb => ⟨rfl,I.turned (t':=s.toks) (fun b o hb e => eb b o hb e) f0 f1 f3 f4 f5⟩
 self:=fun _ _ _ _ _ st h => wpAny_pyIter_listiter st h
theorem JX {P:Program} {w:World} {K:PySem.W.Frag} {tg:Expr} (a it:Addr):Turn P w K tg (Wm K a) [it] it (fun i h => h.IsTupleIter it a i) where
 mem:=by simp
 obj:=fun i h st b hb => by
  have e:b = it:=by simpa using hb
  subst e
  obtain ⟨o,e,c,d⟩:=st
  exact ⟨o,e,fun v z => by rw [d] at z; cases z⟩
 keep:=fun i h h' st k => st.at fun o e => k it (by simp) o e
 item:=by
  intro X hP hw hK hc i pins s σ H E I hf st hg
  subst hP hw hK
  obtain ⟨xs,x,hq,hx⟩:=hg
  obtain ⟨its,rv,p,hz⟩:=I.tuple hq
  obtain ⟨u,hu,ru⟩:=rv.get hx
  obtain ⟨f0,f1,f2,f3,f4,f5⟩:=hf it (by simp)
  refine wpAny_pyNext_tuple_item st (show s.heap.IsTuple a its.toArray from p) (x:=u) (by simpa using hu) fun h' st' sb => ?_
  have I1:Inv X pins σ H { s with heap:=h' }:=I.turned (t':=s.toks) (fun b o hb e => (sb.2 b hb).trans e) f0 f1 f3 f4 f5
  obtain ⟨o,e,c,d⟩:=id st'
  exact ⟨u,rfl,Mc (s:={ s with heap:=h' }) e c d (by decide) ⟨x,H,I1,ru,⟨rfl,fun ys hy => by rw [I.tuple_inj hy hq]; exact hx⟩,st',fun b hb => (hf b hb).1⟩⟩
 done:=by
  intro X hP hw hK hc i pins s σ H E I hf st hg
  subst hP hw hK
  obtain ⟨xs,hq,hx⟩:=hg
  obtain ⟨its,rv,p,hz⟩:=I.tuple hq
  obtain ⟨f0,f1,f2,f3,f4,f5⟩:=hf it (by simp)
  have hl:=rv.length
  exact wpAny_pyNext_tuple_end (I.ok.hd hc) st (show s.heap.IsTuple a its.toArray from p) (by simp; omega) fun h' eb => ⟨rfl,I.turned (t':=s.toks) (fun b o hb e => eb b o hb e) f0 f1 f3 f4 f5⟩
 self:=fun _ _ _ _ _ st h => wpAny_pyIter_tupleiter st h
theorem JY {P:Program} {w:World} {K:PySem.W.Frag} {tg:Expr} (it:Addr) (lo:Int) (n:Nat):Turn P w K tg (WL lo n) [it] it (fun i h => IsRangeIter h it (lo + (i:Nat) * 1) ((n:Int) - (i:Nat)) 1) where
 mem:=by simp
 obj:=fun i h st b hb => by
  have e:b = it:=by simpa using hb
  subst e
  exact ⟨_,st,fun v z => by
   have z':Data.fields _ = Data.cell v:=z
   cases z'⟩
 keep:=fun i h h' st k => k it (by simp) _ st
 item:=by
  intro X hP hw hK hc i pins s σ H E I hf st hg
  subst hP hw hK
  obtain ⟨f0,f1,f2,f3,f4,f5⟩:=hf it (by simp)
  have W:=Walks.range (prog:=X.prog) (w:=X.w) (I.ok.hd hc) it lo 1 n
  refine W.item i s _ _ hg st fun v h' tk hv st' kk => ?_
  obtain ⟨t,rfl⟩:=hv
  have I1:Inv X pins σ H { s with heap:=h',toks:=tk }:=I.turned (fun b o hb e => kk b o (by simpa using hb) e) f0 f1 f3 f4 f5
  refine ⟨_,rfl,Mc (s:={ s with heap:=h',toks:=tk }) (n:="range_iterator") st' rfl rfl (by decide) ⟨.int (lo + i),H,I1,⟨t,?_⟩,⟨rfl,rfl⟩,st',fun b hb => (hf b hb).1⟩⟩
  rw [Int.mul_one]
 done:=by
  intro X hP hw hK hc i pins s σ H E I hf st hg
  subst hP hw hK
  obtain ⟨f0,f1,f2,f3,f4,f5⟩:=hf it (by simp)
  exact wpAny_pyNext_range_end (I.ok.hd hc) st (by have:n≤i:=hg; omega) fun h' eb => ⟨rfl,I.turned (t':=s.toks) (fun b o hb e => eb b o hb e) f0 f1 f3 f4 f5⟩
 self:=fun _ _ _ _ _ st h => wpAny_pyIter_rangeiter st h
section
variable {X:Cx} {tg:Expr}
def UQ (K:PySem.W.Frag) (tl:TE):TI:=fun σ H R => tl σ H fun x H1 => ∃ a,x = .ref a∧(∃ xs,SqL K H1 a xs)∧R (Wl K a) H1
def Wn (K:PySem.W.Frag) (tl:TE):TI:=fun σ H R => tl σ H fun x H1 => ∃ a,x = .ref a∧(∃ xs,JS K H1 a xs)∧R (Wm K a) H1
theorem Pd {l:Expr} {tl:TE} (hl:PE X l tl):PI X tg l (UQ X.K tl):=by
 intro pins s σ H R I h
 refine Aq (hl pins s σ H _ I h) fun v s1 ⟨x,H1,I1,r1,q1⟩ => ?_
 obtain ⟨a,e,⟨xs,hq⟩,q⟩:=q1
 subst e
 cases r1
 obtain ⟨its,rv,p,hz⟩:=I1.list hq
 refine wpAny_pyIter_list p.isList ?_
 refine ⟨s1.heap.objs.size,[s1.heap.objs.size],_,_,H1,rfl,I1.kept (t':=s1.toks) fun b o e => Heap.get?_push_of_some _ e,Lc a _,⟨_,Heap.get?_push_size _ rfl,rfl,rfl⟩,fun b hb => ?_,q⟩
 have e:b = s1.heap.objs.size:=by simpa using hb
 subst e
 exact I1.fpOk (Nat.le_refl _) (I1.hok.fresh (Nat.le_refl _))
theorem SF {l:Expr} {tl:TE} (hl:PE X l tl):PI X tg l (Wn X.K tl):=by
 intro pins s σ H R I h
 refine Aq (hl pins s σ H _ I h) fun v s1 ⟨x,H1,I1,r1,q1⟩ => ?_
 obtain ⟨a,e,⟨xs,hq⟩,q⟩:=q1
 subst e
 cases r1
 obtain ⟨its,rv,p,hz⟩:=I1.tuple hq
 refine wpAny_pyIter_tuple (show s1.heap.IsTuple a its.toArray from p) ?_
 refine ⟨s1.heap.objs.size,[s1.heap.objs.size],_,_,H1,rfl,I1.kept (t':=s1.toks) fun b o e => Heap.get?_push_of_some _ e,JX a _,⟨_,Heap.get?_push_size _ rfl,rfl,rfl⟩,fun b hb => ?_,q⟩
 have e:b = s1.heap.objs.size:=by simpa using hb
 subst e
 exact I1.fpOk (Nat.le_refl _) (I1.hok.fresh (Nat.le_refl _))
theorem Md {pins:List (Addr × Obj)} {σ:St} {H:Hp} {s:Shared} {R:It→Hp→Prop} {E:Value→Shared→Prop} {lo hi:Int} {t u v:Tok} {tk:Nat} (I:Inv X pins σ H s) (h1 : -(2 ^ 62)≤lo) (h2:lo < 2 ^ 62) (h3 : -(2 ^ 62)≤hi) (h4:hi < 2 ^ 62)
  (q:R (WL lo (hi - lo).toNat) H):wpAny (model X.prog X.w) X.A (pyIter (.ref s.heap.objs.size)) (XW X pins σ tg R) E { s with heap:=s.heap.push { cls:=.type "range",data:=.fields #[.int lo t,.int hi u,.int 1 v] },toks:=tk }:=by
 refine wpAny_pyIter_range (IsRange.new ..) (small_one h1 h2 h3 h4) ?_
 have I1:Inv X pins σ H { s with heap:=s.heap.push { cls:=.type "range",data:=.fields #[.int lo t,.int hi u,.int 1 v] },toks:=tk }:=I.kept fun b o e => Heap.get?_push_of_some _ e
 refine ⟨(s.heap.push { cls:=.type "range",data:=.fields #[.int lo t,.int hi u,.int 1 v] }).objs.size,[(s.heap.push { cls:=.type "range",data:=.fields #[.int lo t,.int hi u,.int 1 v] }).objs.size],_,_,H,rfl,
  I1.kept (t':=tk) fun b o e => Heap.get?_push_of_some _ e,JY _ lo (hi - lo).toNat,?_,fun b hb => ?_,q⟩
 ·have e1:lo + ((0:Nat):Int) * 1 = lo:=by simp
  have e2:(((hi - lo).toNat:Nat):Int) - ((0:Nat):Int) = Builtin.Range.rangeSize lo hi 1:=by rw [rangeSize_one]; split <;> omega
  show IsRangeIter _ _ (lo + ((0:Nat):Int) * 1) ((((hi - lo).toNat:Nat):Int) - ((0:Nat):Int)) 1
  rw [e1,e2]
  exact Heap.get?_push_size _ rfl
 ·have e:b = (s.heap.push { cls:=.type "range",data:=.fields #[.int lo t,.int hi u,.int 1 v] }).objs.size:=by simpa using hb
  subst e
  exact I1.fpOk (Nat.le_refl _) (I1.hok.fresh (Nat.le_refl _))
def UR (ta:TA):TI:=fun σ H R => ta σ H fun vs H1 => ∃ j:Int,vs = [.int j]∧-(2 ^ 62)≤j∧j < 2 ^ 62∧R (WL 0 j.toNat) H1
theorem Ld {a:Expr} {ta:TA} {p pos:Pos} (hg:Gl X "range") (hm:X.mg "range" = none) (ha:PA X [a] ta) (hs:starEach [a] X.env = [(false,eval a X.env)]:=by rfl):PI X tg (.Call (.Name "range" p) [a] [] pos) (UR ta):=by
 intro pins s σ H R I h
 refine Call_ (Eu I hg hm boot_range (PyProof.Rows.callWith_type1 (Aq (ha pos pins s σ H _ I h) fun us s1 ⟨vs,H1,I1,r1,q1⟩ => ?_) hs rfl))
 obtain ⟨j,e,q1,q2,q⟩:=q1
 subst e
 cases r1 with
 | cons r rr =>
  cases rr
  obtain ⟨t,rfl⟩:=r
  exact call_range_1 (Md I1 (by omega) (by omega) q1 q2 (by simpa using q))
def Wo (wi:TI) (g:TG) (tb:TS):TS:=fun D σ H => wi σ H fun J H1 => ∃ W:Nat→Nat→St→Hp→Prop,(∃ m,W 0 m σ H1)∧∀ i m σ H,W i m σ H →
 (J.stop i H∧D.nx σ H)∨(J.go i H∧∃ N:St→Hp→Prop,(∀ σ' H',N σ' H'→∃ m',m' < m∧W (i + 1) m' σ' H')∧∀ x H',J.yld i H x H'→g x σ H' fun σ2 H2 => tb { D with nx:=N,ct:=N,bk:=D.nx } σ2 H2)
def Ew (fp:List Addr) (h:Heap):List (Addr × Obj):=fp.filterMap fun b => (h.get? b).map fun o => (b,o)
theorem CJ {fp:List Addr} {h:Heap} {b:Addr} {o:Obj} (hb:b∈fp) (e:h.get? b = some o):(b,o)∈Ew fp h:=List.mem_filterMap.mpr ⟨b,hb,by rw [e]; rfl⟩
theorem Le {fp:List Addr} {h:Heap} {p:Addr × Obj} (hp:p∈Ew fp h):p.1∈fp∧h.get? p.1 = some p.2:=by
 obtain ⟨b,hb,e⟩:=List.mem_filterMap.mp hp
 cases q:h.get? b with
 | none => rw [q] at e; cases e
 | some o =>
  rw [q] at e
  have e':(b,o) = p:=Option.some.inj e
  subst e'
  exact ⟨hb,q⟩
theorem Inv.pinned {pins:List (Addr × Obj)} {σ:St} {H:Hp} {s:Shared} {fp:List Addr} (I:Inv X pins σ H s) (hf:∀ b∈fp,Ev X pins H b) (ho:∀ b∈fp,∃ o,s.heap.get? b = some o∧∀ v,o.data≠.cell v):Inv X (pins ++ Ew fp s.heap) σ H s :=
 I.pins_of fun p hp => (List.mem_append.mp hp).elim (fun z => I.pin p (List.mem_append_right _ z)) fun z => by
  obtain ⟨hb,e⟩:=Le z
  obtain ⟨f0,f1,f2,_⟩:=hf p.1 hb
  obtain ⟨o,e',d⟩:=ho p.1 hb
  rw [e] at e'; cases e'
  exact ⟨e,f0,f1,f2,d⟩
theorem Inv.unpinned {pins pl:List (Addr × Obj)} {σ:St} {H:Hp} {s:Shared} (I:Inv X (pins ++ pl) σ H s):Inv X pins σ H s:=I.pins_of fun p hp => I.pin p (List.mem_append_right _ (List.mem_append_left _ hp))
theorem SG {iter:Expr} {body:List Stmt} {wi:TI} {g:TG} {tb:TS} {pos:Pos} (hp:PassesOwn (model X.prog X.w) X.A X.env X.xe) (hc:X.calm = true) (hi:PI X tg iter wi) (hg:PG X tg g) (hb:PSs X body tb)
  (hs:∀ x,foldedSetIterable iter X.env x = pure x:=by intro _; rfl):PS X (.For tg iter body [] pos) (Wo wi g tb):=by
 intro pins s σ H D I h
 refine wpAny_For (Aq (hi pins s σ H _ I h) fun v s1 h1 => Aq h1 fun itv s2 h2 => ?_) hs
 obtain ⟨it,fp,tn,J,H2,e,I2,T,st2,f2,W,⟨m0,w0⟩,turn⟩:=h2
 subst e
 have stat:∀ {H':Hp},(∀ b∈fp,H' b = none)→∀ b∈fp,Ev X pins H' b:=fun hn b hb => ⟨hn b hb,(f2 b hb).2⟩
 refine codeAny_forLoop_any (fun n s' => ∃ i σ' H',Inv X pins σ' H' s'∧tn i s'.heap∧(∀ b∈fp,H' b = none)∧W i n σ' H') ?_ m0 ⟨0,σ,H2,I2,st2,fun b hb => (f2 b hb).1,w0⟩
 rintro n s3 ⟨i,σ3,H3,I3,st3,fr3,w3⟩
 rcases turn i n σ3 H3 w3 with ⟨stop,qn⟩ | ⟨go,N,hN,step⟩
 ·refine wpAny_passesOwn hp (Aq (T.done X rfl rfl rfl hc i pins s3 σ3 H3 X.xe I3 (stat fr3) st3 stop) fun r s4 ⟨hr,I4⟩ => ?_)
  subst hr
  exact wpAny_execs_nil ⟨σ3,H3,I4,qn⟩
 ·refine wpAny_passesOwn hp (Aq (T.item X rfl rfl rfl hc i pins s3 σ3 H3 X.xe I3 (stat fr3) st3 go) fun r s4 ⟨u,hr,h4⟩ => ?_)
  subst hr
  refine wpAny_passesOwn hp (Aq h4 fun _ s5 ⟨x,H5,I5,r5,y5,st5,fr5⟩ => ?_)
  have I5':=I5.pinned (stat fr5) (T.obj _ _ st5)
  refine wpAny_passesOwn hp (Aq (hg _ s5 σ3 H5 x u _ I5' r5 (step x H5 y5)) fun _ s6 ⟨σ6,H6,I6,q6⟩ => ?_)
  refine wpAny_passesOwn hp (Aq (hb _ s6 σ6 H6 _ I6 q6) fun f s7 q7 => ?_)
  have again:∀ {σ7:St} {H7:Hp},Inv X (pins ++ Ew fp s5.heap) σ7 H7 s7→N σ7 H7→∃ m,m < n∧∃ i σ' H',Inv X pins σ' H' s7∧tn i s7.heap∧(∀ b∈fp,H' b = none)∧W i m σ' H':=fun {σ7 H7} I7 n7 => by
   obtain ⟨m',hm,w7⟩:=hN σ7 H7 n7
   refine ⟨m',hm,i + 1,σ7,H7,I7.unpinned,T.keep _ _ _ st5 fun b hb o e => (I7.pin (b,o) (List.mem_append_right _ (List.mem_append_right _ (CJ hb e)))).1,fun b hb => ?_,w7⟩
   obtain ⟨o,e,d⟩:=T.obj _ _ st5 b hb
   exact (I7.pin (b,o) (List.mem_append_right _ (List.mem_append_right _ (CJ hb e)))).2.1
  cases f with
  | next => obtain ⟨σ7,H7,I7,n7⟩:=q7; exact again I7 n7
  | cont => obtain ⟨σ7,H7,I7,n7⟩:=q7; exact again I7 n7
  | brk => obtain ⟨σ7,H7,I7,q7⟩:=q7; exact ⟨σ7,H7,I7.unpinned,q7⟩
  | ret v => obtain ⟨x7,σ7,H7,I7,r7,q7⟩:=q7; exact ⟨x7,σ7,H7,I7.unpinned,r7,q7⟩
end
abbrev R2:=V→V→Hp→VK→Prop
def DA (X:Cx) (f:Value→Value→Sem Value) (r:R2):Prop :=
 ∀ (pins:List (Addr × Obj)) (s:Shared) (σ:St) (H:Hp) (x y:V) (v u:Value) (Q:VK),Inv X pins σ H s→RelV x v→RelV y u→r x y H Q →
  wpAny (model X.prog X.w) X.A (f v u) (EP X pins σ Q) X.xe s
def WM (X:Cx) (f:Value→Sem Value) (r:V→Hp→VK→Prop):Prop :=
 ∀ (pins:List (Addr × Obj)) (s:Shared) (σ:St) (H:Hp) (x:V) (v:Value) (Q:VK),Inv X pins σ H s→RelV x v→r x H Q →
  wpAny (model X.prog X.w) X.A (f v) (EP X pins σ Q) X.xe s
def BL (X:Cx) (f:Value) (r:List V→Hp→VK→Prop):Prop :=
 ∀ (pins:List (Addr × Obj)) (s:Shared) (σ:St) (H:Hp) (xs:List V) (us:List Value) (Q:VK),Inv X pins σ H s→Vals xs us→r xs H Q →
  wpAny (model X.prog X.w) X.A (call f us) (EP X pins σ Q) X.xe s
def Wp (X:Cx) (r:V→Hp→(Bool→Hp→Prop)→Prop):Prop :=
 ∀ (pins:List (Addr × Obj)) (s:Shared) (σ:St) (H:Hp) (x:V) (v:Value) (Q:Bool→Hp→Prop),Inv X pins σ H s→RelV x v→r x H Q →
  wpAny (model X.prog X.w) X.A (truthy v) (TP X pins σ Q) X.xe s
def US (r:R2) (ta tb:TE):TE:=fun σ H Q => ta σ H fun x H1 => tb σ H1 fun y H2 => r x y H2 Q
def Xq (r:V→Hp→VK→Prop) (ta:TE):TE:=fun σ H Q => ta σ H fun x H1 => r x H1 Q
def rI (C:Int→Int→Prop) (g:Int→Int→V):R2:=fun x y H Q => ∃ i j,x = .int i∧y = .int j∧C i j∧Q (g i j) H
def Me (g:Int→Int→V):R2:=fun x y H Q => ∃ i j,x = .int i∧y = .int j∧Q (g i j) H
def rU (g:Int→V):V→Hp→VK→Prop:=fun x H Q => ∃ i,x = .int i∧Q (g i) H
section
variable {X:Cx} {a b c:Expr} {ta tb tc:TE} {pos:Pos}
theorem SH (ha:PE X a ta) (hb:PE X b tb) {pins:List (Addr × Obj)} {s:Shared} {σ:St} {H:Hp} {R:V→V→Hp→Prop} (I:Inv X pins σ H s)
  (h:ta σ H fun x H1 => tb σ H1 fun y H2 => R x y H2) {Q:Value→Shared→Prop} {f:Value→Value→Sem Value}
  (hf:∀ v u s2 x y H2,Inv X pins σ H2 s2→RelV x v→RelV y u→R x y H2→wpAny (model X.prog X.w) X.A (f v u) Q X.xe s2) :
  wpAny (model X.prog X.w) X.A (eval a X.env) (fun v s₁ => wpAny (model X.prog X.w) X.A (eval b X.env) (fun u s₂ => wpAny (model X.prog X.w) X.A (f v u) Q X.xe s₂) X.xe s₁) X.xe s:=by
 refine Aq (ha pins s σ H _ I h) fun v s1 ⟨x,H1,I1,r1,q1⟩ => ?_
 refine Aq (hb pins s1 σ H1 _ I1 q1) fun u s2 ⟨y,H2,I2,r2,q2⟩ => ?_
 exact hf v u s2 x y H2 I2 r1 r2 q2
theorem RB {op:Operator} {r:R2} (ho:DA X (binaryOp op) r) (ha:PE X a ta) (hb:PE X b tb):PE X (.BinOp a op b pos) (US r ta tb):=by
 intro pins s σ H Q I h
 exact wpAny_BinOp (SH ha hb I h fun v u s2 x y H2 I2 rx ry q => ho pins s2 σ H2 x y v u Q I2 rx ry q)
theorem UT {op:UnaryOp} {r:V→Hp→VK→Prop} (ho:WM X (unaryOp op) r) (ha:PE X a ta):PE X (.UnaryOp op a pos) (Xq r ta):=by
 intro pins s σ H Q I h
 exact UnaryOp_ (Aq (ha pins s σ H _ I h) fun v s1 ⟨x,H1,I1,r1,q1⟩ => ho pins s1 σ H1 x v Q I1 r1 q1)
theorem WN {f:Value→Value→Sem Value} {C:Int→Int→Prop} {g:Int→Int→Int}
  (rule:∀ (i j:Int) (t u:Tok) (s:Shared) (Q:Value→Shared→Prop) (E:Value→Shared→Prop),C i j→Q (.int (g i j) s.toks) { s with toks:=s.toks + 1 }→wpAny (model X.prog X.w) X.A (f (.int i t) (.int j u)) Q E s) :
  DA X f (rI C fun i j => .int (g i j)):=by
 intro pins s σ H x y v u Q I rx ry h
 obtain ⟨i,j,rfl,rfl,hc,q⟩:=h
 obtain ⟨t,rfl⟩:=rx
 obtain ⟨t',rfl⟩:=ry
 exact rule i j t t' s _ _ hc ⟨.int (g i j),H,I.tok _,⟨_,rfl⟩,q⟩
theorem UU {f:Value→Value→Sem Value} {g:Int→Int→Int}
  (rule:∀ (i j:Int) (t u:Tok) (s:Shared) (Q:Value→Shared→Prop) (E:Value→Shared→Prop),Q (.int (g i j) s.toks) { s with toks:=s.toks + 1 }→wpAny (model X.prog X.w) X.A (f (.int i t) (.int j u)) Q E s) :
  DA X f (Me fun i j => .int (g i j)):=by
 intro pins s σ H x y v u Q I rx ry h
 obtain ⟨i,j,rfl,rfl,q⟩:=h
 obtain ⟨t,rfl⟩:=rx
 obtain ⟨t',rfl⟩:=ry
 exact rule i j t t' s _ _ ⟨.int (g i j),H,I.tok _,⟨_,rfl⟩,q⟩
theorem Pe {f:Value→Value→Sem Value} {g:Int→Int→Bool}
  (rule:∀ (i j:Int) (t u:Tok) (s:Shared) (Q:Value→Shared→Prop) (E:Value→Shared→Prop),Q (.bool (g i j)) s→wpAny (model X.prog X.w) X.A (f (.int i t) (.int j u)) Q E s) :
  DA X f (Me fun i j => .bl (g i j)):=by
 intro pins s σ H x y v u Q I rx ry h
 obtain ⟨i,j,rfl,rfl,q⟩:=h
 obtain ⟨t,rfl⟩:=rx
 obtain ⟨t',rfl⟩:=ry
 exact rule i j t t' s _ _ ⟨.bl (g i j),H,I,rfl,q⟩
def UV (i j:Int):Prop:=0 < j∧j < 1073741824
def UW (i j:Int):Prop:=0≤j∧j≤1000000∧i.natAbs < 2 ^ 64
def CMul (i j:Int):Prop:=(-(2 ^ 64) < i∧i < 2 ^ 64)∨(-(2 ^ 64) < j∧j < 2 ^ 64)
theorem CMul.ok {i j:Int} (h:CMul i j):IntMulOk i j:=by
 rcases h with ⟨h1,h2⟩ | ⟨h1,h2⟩
 ·exact .of_left (intBits_le_64 h1 h2)
 ·exact .of_right (intBits_le_64 h1 h2)
theorem Ci:DA X (binaryOp .Add) (Me fun i j => .int (i + j)):=UU fun _ _ _ _ _ _ _ q => add_int q
theorem SI:DA X (binaryOp .Sub) (Me fun i j => .int (i - j)):=UU fun _ _ _ _ _ _ _ q => sub_int q
theorem SJ:DA X (binaryOp .Mult) (rI CMul fun i j => .int (i * j)):=WN fun _ _ _ _ _ _ _ hc q => mul_int q hc.ok
theorem Pf:DA X (binaryOp .FloorDiv) (rI UV fun i j => .int (i / j)):=WN fun i j _ _ _ _ _ hc q => by
 have h1:(0:Int) < j:=hc.1
 have h2:j < 1073741824:=hc.2
 exact floordiv_int (by omega) (by rw [Int.fdiv_eq_ediv_of_nonneg i (by omega)]; exact q) (.inl (PyProof.noPylong_small (by omega)))
theorem SK:DA X (binaryOp .Mod) (rI (fun _ j => 0 < j) fun i j => .int (i % j)):=WN fun i j _ _ _ _ _ hc q => by
 have h1:(0:Int) < j:=hc
 exact mod_int' (by omega) (by rw [Int.fmod_eq_emod_of_nonneg i (by omega)]; exact q)
theorem SL:DA X (binaryOp .Pow) (rI UW fun i j => .int (i ^ j.toNat)):=WN fun _ _ _ _ _ _ _ hc q => pow_int_small hc.1 hc.2.1 hc.2.2 q
theorem Xr {f:Value→Sem Value} {g:Int→Int}
  (rule:∀ (i:Int) (t:Tok) (s:Shared) (Q:Value→Shared→Prop) (E:Value→Shared→Prop),Q (.int (g i) s.toks) { s with toks:=s.toks + 1 }→wpAny (model X.prog X.w) X.A (f (.int i t)) Q E s) :
  WM X f (rU fun i => .int (g i)):=by
 intro pins s σ H x v Q I rx h
 obtain ⟨i,rfl,q⟩:=h
 obtain ⟨t,rfl⟩:=rx
 exact rule i t s _ _ ⟨.int (g i),H,I.tok _,⟨_,rfl⟩,q⟩
theorem SM:WM X (unaryOp .USub) (rU fun i => .int (-i)):=Xr fun _ _ _ _ _ q => neg_int q
end
def UX:V→V→Bool
 | .non,.non => true | .non,.int _ => true | .int _,.non => true | .non,.bl _ => true | .bl _,.non => true | .non,.str _ => true | .str _,.non => true
 | .int _,.int _ => true | .bl _,.bl _ => true | .str _,.str _ => true | .byt _,.byt _ => true
 | .int _,.str _ => true | .str _,.int _ => true | .bl _,.str _ => true | .str _,.bl _ => true
 | _,_ => false
def XX:R2:=fun x y H Q => UX x y = true∧Q (.bl (decide (x = y))) H
def Wq:R2:=fun x y H Q => UX x y = true∧Q (.bl (!decide (x = y))) H
theorem KZ {i j:Int}:decide (V.int i = V.int j) = (i == j):=by
 rw [Bool.eq_iff_iff]
 simp
theorem JZ {i j:Bool}:decide (V.bl i = V.bl j) = (i == j):=by
 rw [Bool.eq_iff_iff]
 simp
theorem Ka {i j:Str}:decide (V.str i = V.str j) = (i == j):=by
 rw [Bool.eq_iff_iff]
 simp
theorem Kb {i j:Array UInt8}:decide (V.byt i = V.byt j) = (i.toList == j.toList):=by
 rw [Bool.eq_iff_iff]
 cases i
 cases j
 simp
section
variable {X:Cx} {a b c:Expr} {ta tb tc:TE} {pos:Pos}
theorem AU {pins:List (Addr × Obj)} {σ:St} {H:Hp} {s:Shared} {Q:VK} {k k':Bool} (I:Inv X pins σ H s) (q:Q (.bl k) H) (e:k = k'):EP X pins σ Q (.bool k') s:=by
 subst e
 exact ⟨.bl k,H,I,rfl,q⟩
theorem Kc:DA X (compareOp .Eq) XX:=by
 intro pins s σ H x y v u Q I rx ry h
 obtain ⟨hs,q⟩:=h
 cases x with
 | non =>
  cases rx
  cases y with
  | non => cases ry; exact PySem.EqNone.eq_none_none (AU I q (by simp))
  | bl j => cases ry; exact PySem.EqNone.eq_none_bool (AU I q (by simp))
  | int j => obtain ⟨t',rfl⟩:=ry; exact PySem.EqNone.eq_none_int (AU I q (by simp))
  | str j => obtain ⟨t',rfl⟩:=ry; exact PySem.EqNone.eq_none_str (AU I q (by simp))
  | _ => exact absurd (show false = true from hs) Bool.false_ne_true
 | bl i =>
  cases rx
  cases y with
  | non => cases ry; exact PySem.EqNone.eq_bool_none (AU I q (by simp))
  | bl j => cases ry; exact eq_bool (AU I q JZ)
  | str j => obtain ⟨t',rfl⟩:=ry; exact PySem.EqMixed.eq_bool_str (AU I q (by simp))
  | _ => exact absurd (show false = true from hs) Bool.false_ne_true
 | int i =>
  obtain ⟨t,rfl⟩:=rx
  cases y with
  | non => cases ry; exact PySem.EqNone.eq_int_none (AU I q (by simp))
  | int j => obtain ⟨t',rfl⟩:=ry; exact eq_int (AU I q KZ)
  | str j => obtain ⟨t',rfl⟩:=ry; exact PySem.EqMixed.eq_int_str (AU I q (by simp))
  | _ => exact absurd (show false = true from hs) Bool.false_ne_true
 | str i =>
  obtain ⟨t,rfl⟩:=rx
  cases y with
  | non => cases ry; exact PySem.EqNone.eq_str_none (AU I q (by simp))
  | bl j => cases ry; exact PySem.EqMixed.eq_str_bool (AU I q (by simp))
  | int j => obtain ⟨t',rfl⟩:=ry; exact PySem.EqMixed.eq_str_int (AU I q (by simp))
  | str j => obtain ⟨t',rfl⟩:=ry; exact eq_str (AU I q Ka)
  | _ => exact absurd (show false = true from hs) Bool.false_ne_true
 | byt i =>
  obtain ⟨t,rfl⟩:=rx
  cases y with
  | byt j => obtain ⟨t',rfl⟩:=ry; exact PySem.W.eq_bytes (AU I q Kb)
  | _ => exact absurd (show false = true from hs) Bool.false_ne_true
 | _ => cases y <;> exact absurd (show false = true from hs) Bool.false_ne_true
theorem Mf:DA X (compareOp .NotEq) Wq:=by
 intro pins s σ H x y v u Q I rx ry h
 obtain ⟨hs,q⟩:=h
 cases x with
 | non =>
  cases rx
  cases y with
  | non => cases ry; exact PySem.EqNone.ne_none_none (AU I q (by simp))
  | bl j => cases ry; exact PySem.EqNone.ne_none_bool (AU I q (by simp))
  | int j => obtain ⟨t',rfl⟩:=ry; exact PySem.EqNone.ne_none_int (AU I q (by simp))
  | str j => obtain ⟨t',rfl⟩:=ry; exact PySem.EqNone.ne_none_str (AU I q (by simp))
  | _ => exact absurd (show false = true from hs) Bool.false_ne_true
 | bl i =>
  cases rx
  cases y with
  | non => cases ry; exact PySem.EqNone.ne_bool_none (AU I q (by simp))
  | bl j => cases ry; exact ne_bool (AU I q (congrArg not JZ))
  | str j => obtain ⟨t',rfl⟩:=ry; exact PySem.EqMixed.ne_bool_str (AU I q (by simp))
  | _ => exact absurd (show false = true from hs) Bool.false_ne_true
 | int i =>
  obtain ⟨t,rfl⟩:=rx
  cases y with
  | non => cases ry; exact PySem.EqNone.ne_int_none (AU I q (by simp))
  | int j => obtain ⟨t',rfl⟩:=ry; exact ne_int (AU I q (congrArg not KZ))
  | str j => obtain ⟨t',rfl⟩:=ry; exact PySem.EqMixed.ne_int_str (AU I q (by simp))
  | _ => exact absurd (show false = true from hs) Bool.false_ne_true
 | str i =>
  obtain ⟨t,rfl⟩:=rx
  cases y with
  | non => cases ry; exact PySem.EqNone.ne_str_none (AU I q (by simp))
  | bl j => cases ry; exact PySem.EqMixed.ne_str_bool (AU I q (by simp))
  | int j => obtain ⟨t',rfl⟩:=ry; exact PySem.EqMixed.ne_str_int (AU I q (by simp))
  | str j => obtain ⟨t',rfl⟩:=ry; exact ne_str (AU I q (congrArg not Ka))
  | _ => exact absurd (show false = true from hs) Bool.false_ne_true
 | byt i =>
  obtain ⟨t,rfl⟩:=rx
  cases y with
  | byt j => obtain ⟨t',rfl⟩:=ry; exact PySem.W.ne_bytes (AU I q (congrArg not Kb))
  | _ => exact absurd (show false = true from hs) Bool.false_ne_true
 | _ => cases y <;> exact absurd (show false = true from hs) Bool.false_ne_true
theorem Mh:DA X (compareOp .Lt) (Me fun i j => .bl (decide (i < j))):=Pe fun _ _ _ _ _ _ _ q => lt_int q
theorem Mi:DA X (compareOp .LtE) (Me fun i j => .bl (decide (i≤j))):=Pe fun _ _ _ _ _ _ _ q => le_int q
theorem UY:DA X (compareOp .Gt) (Me fun i j => .bl (decide (j < i))):=Pe fun _ _ _ _ _ _ _ q => gt_int q
theorem RC:DA X (compareOp .GtE) (Me fun i j => .bl (decide (j≤i))):=Pe fun _ _ _ _ _ _ _ q => ge_int q
theorem SN:DA X (compareOp .Is) (fun x y H Q => y = .non∧Q (.bl (decide (x = .non))) H):=by
 intro pins s σ H x y v u Q I rx ry h
 obtain ⟨rfl,q⟩:=h
 cases ry
 refine is_none_gen (AU I q ?_)
 cases x <;> first
  | (cases rx; rfl)
  | (obtain ⟨t,rfl⟩:=rx; rfl)
theorem Pg:DA X (compareOp .IsNot) (fun x y H Q => y = .non∧Q (.bl (!decide (x = .non))) H):=by
 intro pins s σ H x y v u Q I rx ry h
 obtain ⟨rfl,q⟩:=h
 cases ry
 refine isnot_none_gen (AU I q ?_)
 cases x <;> first
  | (cases rx; rfl)
  | (obtain ⟨t,rfl⟩:=rx; rfl)
theorem Ak (b:Expr) {op:CmpOp} (h:op≠.In:=by decide) (h2:op≠.NotIn:=by decide):behindInMarks op b = false:=by
 have e1:(op == CmpOp.In) = false:=by cases op <;> first | rfl | exact absurd rfl h
 have e2:(op == CmpOp.NotIn) = false:=by cases op <;> first | rfl | exact absurd rfl h2
 cases b <;> simp [behindInMarks,e1,e2]
theorem Ph {op:CmpOp} {r:R2} (ho:DA X (compareOp op) r) (ha:PE X a ta) (hb:PE X b tb) (hm:behindInMarks op b = false):PE X (.Compare a [op] [b] pos) (US r ta tb):=by
 intro pins s σ H Q I h
 exact wpAny_Compare1 (SH ha hb I h fun v u s2 x y H2 I2 rx ry q => ho pins s2 σ H2 x y v u Q I2 rx ry q) hm
def UZ (t:TE):TT:=fun σ H Q => t σ H fun x H' => ∃ k,x = .bl k∧Q k H'
theorem Dh {op:CmpOp} {r:R2} (ho:DA X (compareOp op) r) (ha:PE X a ta) (hb:PE X b tb) (hm:behindInMarks op b = false):PT X (.Compare a [op] [b] pos) (UZ (US r ta tb)):=by
 intro pins s σ H Q I h
 refine wpAny_isTrue_Compare1 (Aq (ha pins s σ H _ I h) fun v s1 ⟨x,H1,I1,r1,q1⟩ => Aq (hb pins s1 σ H1 _ I1 q1) fun u s2 ⟨y,H2,I2,r2,q2⟩ =>
  Aq (ho pins s2 σ H2 x y v u _ I2 r1 r2 q2) fun c s3 ⟨z,H3,I3,r3,k,e,q3⟩ => ?_) hm
 subst e
 cases r3
 exact wpAny_truthy_bool ⟨H3,I3,q3⟩
def SO (r r':R2) (ta tb tc:TE):TE:=fun σ H Q => ta σ H fun x H1 => tb σ H1 fun y H2 => r x y H2 fun z H3 => ∃ k,z = .bl k ∧
 (if k = true then tc σ H3 fun w' H4 => r' y w' H4 Q else Q (.bl false) H3)
theorem Mj {op op':CmpOp} {r r':R2} (ho:DA X (compareOp op) r) (ho':DA X (compareOp op') r') (ha:PE X a ta) (hb:PE X b tb) (hc:PE X c tc)
  (hm:lastMarks [op,op'] [b,c] = false:=by with_unfolding_all rfl):PE X (.Compare a [op,op'] [b,c] pos) (SO r r' ta tb tc):=by
 intro pins s σ H Q I h
 refine Compare_chain (Aq (ha pins s σ H _ I h) fun v s1 ⟨x,H1,I1,r1,q1⟩ => chain_link (Aq (hb pins s1 σ H1 _ I1 q1) fun u s2 ⟨y,H2,I2,r2,q2⟩ =>
  Aq (ho pins s2 σ H2 x y v u _ I2 r1 r2 q2) fun d s3 ⟨z,H3,I3,r3,k,e,q3⟩ => ?_)) hm
 subst e
 cases r3
 refine wpAny_truthy_bool ?_
 cases k with
 | false => exact ite_ff ⟨.bl false,H3,I3,rfl,q3⟩
 | true => exact ite_tt (chain_last (Aq (hc pins s3 σ H3 _ I3 q3) fun w' s4 ⟨z',H4,I4,r4,q4⟩ => ho' pins s4 σ H4 y z' u w' Q I4 r2 r4 q4))
def Pi (K:PySem.W.Frag) (x:V) (H:Hp) (k:Bool):Prop :=
 match x with
 | .non => k = false
 | .bl b => k = b
 | .int i => k = (i != 0)
 | .str y => y.length≤sizeLine∧k = ((y.length:Int) != 0)
 | .byt y => y.size≤sizeLine∧k = ((y.size:Int) != 0)
 | .ref p => (∃ xs,SqL K H p xs∧k = !xs.isEmpty)∨(∃ xs,JS K H p xs∧k = !xs.isEmpty)∨∃ kvs,H p = some (.dK kvs)∧k = !kvs.isEmpty
 | _ => False
theorem Ja {κ:Type} {kvs:List (κ × V)} {vs:List (κ × Value)} (r:KV kvs vs):(!vs.isEmpty) = !kvs.isEmpty:=by
 cases r <;> rfl
theorem Ex {xs:List V} {its:List Value} (r:Vals xs its):(!its.toArray.isEmpty) = !xs.isEmpty:=by
 cases r <;> simp
theorem Du:(sizeLine:Nat) < 2 ^ 63:=by rw [sizeLine_eq]; decide
theorem Ml:Wp X (fun x H Q => ∃ k,Pi X.K x H k∧Q k H):=by
 intro pins s σ H x v Q I rx h
 obtain ⟨k,e,q⟩:=h
 have hl:=Du
 have hs:sizeLine = 16777216:=sizeLine_eq
 cases x with
 | non =>
  cases rx
  have e':k = false:=e
  subst e'
  exact truthy_none ⟨H,I,q⟩
 | bl b =>
  cases rx
  have e':k = b:=e
  subst e'
  exact wpAny_truthy_bool ⟨H,I,q⟩
 | int i =>
  obtain ⟨t,rfl⟩:=rx
  have e':k = (i != 0):=e
  subst e'
  exact PySem.P.truthy_int ⟨H,I,q⟩
 | str y =>
  obtain ⟨t,rfl⟩:=rx
  obtain ⟨hy,e'⟩:y.length≤sizeLine∧k = ((y.length:Int) != 0):=e
  subst e'
  exact PySem.P.truthy_str (by omega) ⟨H,I.tok _,q⟩
 | byt y =>
  obtain ⟨t,rfl⟩:=rx
  obtain ⟨hy,e'⟩:y.size≤sizeLine∧k = ((y.size:Int) != 0):=e
  subst e'
  exact PySem.W.truthy_bytes (by omega) ⟨H,I.tok _,q⟩
 | ref p =>
  cases rx
  have e':(∃ xs,SqL X.K H p xs∧k = !xs.isEmpty)∨(∃ xs,JS X.K H p xs∧k = !xs.isEmpty)∨∃ kvs,H p = some (.dK kvs)∧k = !kvs.isEmpty:=e
  rcases e' with ⟨xs,hx,e'⟩ | ⟨xs,hx,e'⟩ | ⟨kvs,hx,e'⟩
  ·subst e'
   obtain ⟨its,r,pl,hz⟩:=I.list hx
   have hlen:=r.length
   exact wpAny_truthy_list pl.isList (by simp only [List.size_toArray]; omega) ⟨H,I.tok _,by rw [Ex r]; exact q⟩
  ·subst e'
   obtain ⟨its,r,pl,hz⟩:=I.tuple hx
   have hlen:=r.length
   exact truthy_tuple pl (by simp only [List.size_toArray]; omega) ⟨H,I.tok _,by rw [Ex r]; exact q⟩
  ·subst e'
   obtain ⟨hz,hS,vs,r,m⟩:kvs.length≤sizeLine∧(p == sysModules) = false∧∃ vs,KV kvs vs∧s.heap.DictOf (Go X.prog X.w) p vs:=I.hok p _ hx
   have hlen:kvs.length = vs.length:=Paired.length r
   exact wpAny_truthy_dict hS m (by omega) ⟨H,I.tok _,by rw [Ja r]; exact q⟩
 | _ => exact (show False from e).elim
theorem IH (ha:PE X a ta) (he:∀ whole,isTrue a X.env whole = (do let v ← whole; standAt a.pos; holding [v] (truthy v))) :
  PT X a (fun σ H Q => ta σ H fun x H' => ∃ k,Pi X.K x H' k∧Q k H'):=by
 intro pins s σ H Q I h
 exact isTrue_plain (Aq (ha pins s σ H _ I h) fun v s1 ⟨x,H1,I1,r1,q1⟩ => Ml pins s1 σ H1 x v Q I1 r1 q1) (he _)
theorem EO {x:V} {us:List Value} (r:Vals [x] us):∃ u,us = [u]∧RelV x u:=by
 cases r with
 | cons r1 r2 => cases r2; exact ⟨_,rfl,r1⟩
theorem Mm {x y:V} {us:List Value} (r:Vals [x,y] us):∃ u w',us = [u,w']∧RelV x u∧RelV y w':=by
 cases r with
 | cons r1 r2 =>
  cases r2 with
  | cons r3 r4 => cases r4; exact ⟨_,_,rfl,r1,r3⟩
theorem GJ (hc:X.calm = true):BL X (.builtin "max") (fun xs H Q => ∃ i j,xs = [.int i,.int j]∧Q (.int (if j > i then j else i)) H):=by
 intro pins s σ H xs us Q I r h
 obtain ⟨i,j,rfl,q⟩:=h
 obtain ⟨u,w',rfl,⟨t,rfl⟩,⟨t',rfl⟩⟩:=Mm r
 refine max_two_ints (I.ok.hd hc) fun h' tk k => ⟨_,H,I.kept k,?_,q⟩
 by_cases hj:j > i
 ·rw [if_pos hj,if_pos hj]; exact ⟨_,rfl⟩
 ·rw [if_neg hj,if_neg hj]; exact ⟨_,rfl⟩
theorem Lf (hc:X.calm = true):BL X (.builtin "min") (fun xs H Q => ∃ i j,xs = [.int i,.int j]∧Q (.int (if j < i then j else i)) H):=by
 intro pins s σ H xs us Q I r h
 obtain ⟨i,j,rfl,q⟩:=h
 obtain ⟨u,w',rfl,⟨t,rfl⟩,⟨t',rfl⟩⟩:=Mm r
 refine min_two_ints (I.ok.hd hc) fun h' tk k => ⟨_,H,I.kept k,?_,q⟩
 by_cases hj:j < i
 ·rw [if_pos hj,if_pos hj]; exact ⟨_,rfl⟩
 ·rw [if_neg hj,if_neg hj]; exact ⟨_,rfl⟩
theorem Lg:BL X (.type "int") (fun xs H Q => (∃ i,xs = [.int i]∧Q (.int i) H)∨∃ k,xs = [.bl k]∧Q (.int (if k then 1 else 0)) H):=by
 intro pins s σ H xs us Q I r h
 rcases h with ⟨i,rfl,q⟩ | ⟨k,rfl,q⟩
 ·obtain ⟨u,rfl,t,rfl⟩:=EO r
  exact call_int_int ⟨.int i,H,I,⟨_,rfl⟩,q⟩
 ·obtain ⟨u,rfl,r1⟩:=EO r
  cases r1
  exact call_int_bool ⟨.int (if k then 1 else 0),H,I.tok _,⟨_,rfl⟩,q⟩
end
structure ObjM (h:Heap) (x dx C:Addr) (mA:Str→Option Value):Prop where
 obj:h.get? x = some (PySem.W.instObj C dx)
 ns:h.Ns1 dx mA
 ne:dx≠x
theorem Lh {h:Heap} {dx:Addr} {mA:Str→Option Value} (n:h.Ns1 dx mA):∃ od,h.get? dx = some od∧∀ name,PySem.W.lookIn name od = some (mA name):=by
 obtain ⟨o,es,ep,ho,hd,hk,_,hm⟩:=n
 refine ⟨o,ho,fun name => ?_⟩
 have e:=hm name
 unfold nsFind findBy at e
 rw [← Array.find?_toList] at e
 unfold PySem.W.lookIn
 rw [hd]
 dsimp only
 split
 ·rename_i y q
  rw [q] at e
  exact congrArg some e
 ·rename_i q
  rw [q] at e
  have a:es.toList.any (·.refKey) = false:=by
   rw [List.any_eq_false]
   intro y hy
   obtain ⟨z,t,hkey⟩:=hk y (Array.mem_toList_iff.mp hy)
   simp [DictEntry.refKey,hkey]
  have a':¬ es.toList.any (·.refKey) = true:=by rw [a]; exact Bool.false_ne_true
  rw [if_neg a']
  exact congrArg some e
theorem ObjM.look {h:Heap} {x dx C:Addr} {mA:Str→Option Value} (I:ObjM h x dx C mA):∃ od,PySem.W.InstAt h x (PySem.W.instObj C dx) C (some od)∧∀ name,PySem.W.lookIn name od = some (mA name) :=
 let ⟨od,ho,hl⟩:=Lh I.ns
 ⟨od,⟨I.obj,rfl,rfl,ho⟩,hl⟩
section
variable {prog:Program} {w:World} {A:Around} {E:Value→Shared→Prop} {s:Shared} {K:PySem.W.Frag} {x dx C f:Addr} {mA:Str→Option Value} {name:Str} {v:Value}
theorem Pj {expr:Bool} {Q:Value→Shared→Prop} (X:K.In s.heap) (I:ObjM s.heap x dx C mA) (hg:PySem.W.plainGet K C name = true) (hh:PySem.W.hasDictIn K C = true)
  (ha:PySem.W.findIn K (.ref C) name = some none) (hv:mA name = some v) (hv':PySem.W.handedIn v = true) (h:Q v { s with toks:=s.toks + 1 }) :
  wpAny (model prog w) A (getAttr (.ref x) name expr) Q E s:=by
 obtain ⟨od,J,hl⟩:=I.look
 exact PySem.W.get_value X J (PySem.W.plainGet_of hg).1 (PySem.W.findObj_own hh ha rfl (by rw [hl,hv])) hv' h
end
theorem RelO.some_of {v:V} {o:Option Value} (r:RelO (some v) o):∃ u,o = some u∧RelV v u:=by
 cases o with
 | none => exact (show False from r).elim
 | some u => exact ⟨u,rfl,r⟩
theorem Li {v:V} {u:Value} (r:RelV v u):PySem.W.handedIn u = true:=by
 cases v with
 | non => cases (show u = Value.none from r); rfl
 | bl b => cases (show u = Value.bool b from r); rfl
 | int i => obtain ⟨t,e⟩:=(show ∃ t,u = Value.int i t from r); cases e; rfl
 | str x => obtain ⟨t,e⟩:=(show ∃ t,u = Value.str x t from r); cases e; rfl
 | byt b => obtain ⟨t,e⟩:=(show ∃ t,u = Value.bytes b t from r); cases e; rfl
 | flt b => obtain ⟨t,e⟩:=(show ∃ t,u = Value.float b t from r); cases e; rfl
 | ref a => cases (show u = Value.ref a from r); rfl
 | ty n => cases (show u = Value.type n from r); rfl
section
variable {P:Program} {w:World} {H H':Hp} {h h':Heap} {a C dx:Addr} {fs fs':List (Str × V)}
theorem Kd (hok:HOk P w H h) (e:H a = some (.ins C dx fs)):∃ mA,ObjM h a dx C mA∧(∀ f,RelO (fs.lookup f) (mA f))∧PySem.Within mA (fs.map (·.1))∧fs.length≤1000∧H dx = some (.own a):=by
 obtain ⟨d,z,ne,ob,mA,n,r,q⟩:=(show ObjOk P w H h a (.ins C dx fs) from hok a _ e)
 exact ⟨mA,⟨ob,n,ne⟩,r,q,z,d⟩
end
structure Cls (K:PySem.W.Frag) (C:Addr):Prop where
 pg:PySem.W.plainGet K C Str.empty = true
 hd:PySem.W.hasDictIn K C = true
 po:PySem.W.plainOver K C = true
 sa:PySem.W.findIn K (.ref C) "__setattr__" = some (some (.builtin "object.__setattr__"))
theorem Cls.get {K:PySem.W.Frag} {C:Addr} (c:Cls K C) (f:Str):PySem.W.plainGet K C f = true:=c.pg
def Mn (K:PySem.W.Frag) (C:Addr) (f:Str):Prop:=PySem.W.findIn K (.ref C) f = some none
structure Con (K:PySem.W.Frag) (C:Addr) (f:Str) (v:V) (u:Value):Prop where
 at_:PySem.W.findIn K (.ref C) f = some (some u)
 rel:RelV v u
 get:PySem.W.specialIn K u "__get__" = some none
 cp:PySem.W.copiedNames.contains f = false
structure Meth (K:PySem.W.Frag) (C:Addr) (m:Str) (f:Addr):Prop where
 at_:PySem.W.findIn K (.ref C) m = some (some (.ref f))
 fn:PySem.W.isFn K (.ref f) = true
 kp:PySem.W.keepIn K (.ref f) = true
section
variable {X:Cx} {pins:List (Addr × Obj)} {σ:St} {H:Hp} {s:Shared} {a C dx:Addr} {fs:List (Str × V)} {f:Str} {v:V} {A:Around} {E:Value→Shared→Prop}
theorem Jb {b:Bool} {Q:Value→Shared→Prop} (I:Inv X pins σ H s) (e:H a = some (.ins C dx fs)) (c:Cls X.K C) (n:Mn X.K C f) (l:fs.lookup f = some v)
  (h:∀ u s',Inv X pins σ H s'→RelV v u→Q u s'):wpAny (model X.prog X.w) A (getAttr (.ref a) f b) Q E s:=by
 obtain ⟨mA,O,r,_,_,_⟩:=Kd I.hok e
 obtain ⟨u,hu,ru⟩:=RelO.some_of (v:=v) (o:=mA f) (by rw [← l]; exact r f)
 exact Pj I.kIn O (c.get f) c.hd n hu (Li ru) (h u _ (I.tok _) ru)
theorem Pk {prog:Program} {w:World} {env:Env} {e:Expr} {f:Str} {pos:Pos} {s:Shared} {Q:Value→Shared→Prop} (hb:attributeBase e f env (eval e env) = eval e env)
  (h:wpAny (model prog w) A (eval e env) (fun o s₁ => wpAny (model prog w) A (getAttr o f true) Q E s₁) E s):wpAny (model prog w) A (eval (.Attribute e f pos) env) Q E s :=
 Attribute_any_ h (by rw [arm_eval_Attribute,hb])
end
def Wr (K:PySem.W.Frag) (ta:TE) (f:Str):TE:=fun σ H Q => ta σ H fun x H1 => ∃ a C dx fs v,x = .ref a∧H1 a = some (.ins C dx fs)∧Cls K C∧Mn K C f∧fs.lookup f = some v∧Q v H1
section
variable {X:Cx} {o e value:Expr} {f:Str} {pos pos' tpos:Pos} {ta tv:TE}
theorem Jc (he:PE X e ta) (hb:attributeBase e f X.env (eval e X.env) = eval e X.env):PE X (.Attribute e f pos) (Wr X.K ta f):=by
 intro pins s σ H Q I h
 refine Pk hb (Aq (he pins s σ H _ I h) fun u s1 ⟨x,H1,I1,rx,a,C,dx,fs,v,ex,ea,c,n,l,q⟩ => ?_)
 subst ex
 obtain rfl:u = Value.ref a:=rx
 exact Jb I1 ea c n l fun u' s2 I2 ru => ⟨v,H1,I2,ru,q⟩
end
section
variable {X:Cx} {pins:List (Addr × Obj)} {σ:St} {H:Hp} {s:Shared} {A:Around} {E:Value→Shared→Prop} {Q:Value→Shared→Prop} {c:Value} {b:Bool}
inductive TyOf (K:PySem.W.Frag) (H:Hp):V→Value→Prop where
 | non:TyOf K H .non (.type "NoneType")
 | bl (x:Bool):TyOf K H (.bl x) (.type "bool")
 | int (i:Int):TyOf K H (.int i) (.type "int")
 | str (x:Str):TyOf K H (.str x) (.type "str")
 | flt (x:UInt64):TyOf K H (.flt x) (.type "float")
 | lst {a:Addr} {xs:List V} (e:H a = some (.lst xs)):TyOf K H (.ref a) (.type "list")
 | frz {a:Addr} {o:Obj} {xs:List V} (e:H a = some (.frz o (.lst xs))):TyOf K H (.ref a) (.type "list")
 | tup {a:Addr} {xs:List V} (e:H a = some (.tup xs)):TyOf K H (.ref a) (.type "tuple")
 | dK {a:Addr} {kvs:List (IC × V)} (e:H a = some (.dK kvs)):TyOf K H (.ref a) (.type "dict")
 | dT {a:Addr} {kvs:List (List IC × V)} (e:H a = some (.dT kvs)):TyOf K H (.ref a) (.type "dict")
 | ins {a C dx:Addr} {fs:List (Str × V)} (e:H a = some (.ins C dx fs)) (cl:Cls K C) (ha:PySem.W.findIn K (.ref C) "__class__" = some (some (.builtin "object.__class__")))
   (hn:PySem.W.specialIn K (.builtin "object.__class__") "__get__" = some (some (.builtin "getset_descriptor.__get__"))) (htk:PySem.W.takesIn K (.builtin "object.__class__") = some true)
   (hm:PySem.W.mroIn K C (.type "object") = some true):TyOf K H (.ref a) (.ref C)
theorem Lj {x:V} {u t:Value} (I:Inv X pins σ H s) (rx:RelV x u) (ty:TyOf X.K H x t) (e:PySem.W.kitOne X.K t c = some b) (h:∀ tk,Q (.bool b) { s with toks:=tk }) :
  wpAny (model X.prog X.w) A (call (.builtin "isinstance") [u,c]) Q E s:=by
 cases ty with
 | non => cases (show u = Value.none from rx); exact PySem.W.kia_one PySem.W.kitx_none I.kIn True.intro e (fun z => nomatch z) h
 | bl y => cases (show u = Value.bool y from rx); exact PySem.W.kia_one PySem.W.kitx_bool I.kIn True.intro e (fun z => nomatch z) h
 | int i => obtain ⟨t,q⟩:=(show ∃ t,u = Value.int i t from rx); cases q; exact PySem.W.kia_one PySem.W.kitx_int I.kIn True.intro e (fun z => nomatch z) h
 | str y => obtain ⟨t,q⟩:=(show ∃ t,u = Value.str y t from rx); cases q; exact PySem.W.kia_one PySem.W.kitx_str I.kIn True.intro e (fun z => nomatch z) h
 | flt y => obtain ⟨t,q⟩:=(show ∃ t,u = Value.float y t from rx); cases q; exact PySem.W.kia_one PySem.W.kitx_float I.kIn True.intro e (fun z => nomatch z) h
 | @lst a xs ea =>
  cases (show u = Value.ref a from rx)
  obtain ⟨_,_,n,_,h1⟩:=(show ObjOk X.prog X.w H s.heap a (.lst xs) from I.hok a _ ea)
  exact PySem.W.kia_one PySem.W.kitx_list I.kIn ⟨_,h1,rfl⟩ e (fun z => nomatch z) h
 | @frz a ob xs ea =>
  cases (show u = Value.ref a from rx)
  obtain ⟨_,_,_,n,_,h1⟩:=(show ObjOk X.prog X.w H s.heap a (.frz ob (.lst xs)) from I.hok a _ ea)
  exact PySem.W.kia_one PySem.W.kitx_list I.kIn ⟨_,h1,rfl⟩ e (fun z => nomatch z) h
 | @tup a xs ea =>
  cases (show u = Value.ref a from rx)
  obtain ⟨_,_,_,p⟩:=(show ObjOk X.prog X.w H s.heap a (.tup xs) from I.hok a _ ea)
  obtain ⟨o,h1,h2,_⟩:=p
  exact PySem.W.kia_one PySem.W.kitx_tuple I.kIn ⟨o,h1,h2⟩ e (fun z => nomatch z) h
 | @dK a kvs ea =>
  cases (show u = Value.ref a from rx)
  obtain ⟨_,_,vs,_,p⟩:=(show ObjOk X.prog X.w H s.heap a (.dK kvs) from I.hok a _ ea)
  obtain ⟨o,es,ep,h1,h2,_⟩:=p
  exact PySem.W.kia_one PySem.W.kitx_dict I.kIn ⟨o,h1,h2.1⟩ e (fun z => nomatch z) h
 | @dT a kvs ea =>
  cases (show u = Value.ref a from rx)
  obtain ⟨_,_,xs,_,o,es,ep,h1,h2,_⟩:=(show ObjOk X.prog X.w H s.heap a (.dT kvs) from I.hok a _ ea)
  exact PySem.W.kia_one PySem.W.kitx_dict I.kIn ⟨o,h1,h2.1⟩ e (fun z => nomatch z) h
 | @ins a C dx fs ea cl ha hn htk hm =>
  cases (show u = Value.ref a from rx)
  obtain ⟨mA,O,_⟩:=Kd I.hok ea
  obtain ⟨od,J,_⟩:=O.look
  exact PySem.W.kia_one (PySem.W.kitx_own (cl.get _) cl.hd ha hn htk hm) I.kIn J e (fun z => nomatch z) h
end
structure Room (k:Nat) (A:Around):Prop where
 hd:A.handled = none
 dp:A.depth + 3 * k + 5 < recursionLimit
 un:A.units + 16 * k + 200 < cLine
 gd:A.guards = some []
theorem Room.mono {j k:Nat} {A:Around} (r:Room k A) (h:j≤k):Room j A:=⟨r.hd,by have:=r.dp; omega,by have:=r.un; omega,r.gd⟩
theorem Room.deeper {k:Nat} {A:Around} (r:Room (k + 1) A) (env:Env):Room k (A.deeper env) :=
 ⟨r.hd,by have:=r.dp; show A.depth + 1 + 3 * k + 5 < _; omega,by have:=r.un; show A.units + 3 + 16 * k + 200 < _; omega,r.gd⟩
theorem Room.depth {k:Nat} {A:Around} (r:Room k A):A.depth < recursionLimit:=by have:=r.dp; omega
def Ua:TA:=fun _ H Q => Q [] H
def RD (ta:TE) (tr:TA):TA:=fun σ H Q => ta σ H fun x H1 => tr σ H1 fun xs H2 => Q (x :: xs) H2
section
variable {X:Cx} {e:Expr} {es:List Expr} {te:TE} {t:TA} {pos:Pos}
theorem Ae:PA X [] Ua:=fun _ _ _ _ H Q I h => Calls.spliced_nil ⟨[],H,I,.nil,h⟩
theorem AH (ha:PE X e te) (hr:PA X es t) (hs:starEach (e :: es) X.env = (false,eval e X.env) :: starEach es X.env:=by rfl):PA X (e :: es) (RD te t):=by
 intro pos pins s σ H Q I h
 rw [hs]
 show wpAny _ _ (spliced ((false,eval e X.env) :: backTo pos (starEach es X.env))) _ _ s
 refine Calls.spliced_cons (Aq (ha pins s σ H _ I h) fun u s1 ⟨x,H1,I1,r1,q1⟩ => ?_)
 exact Aq (hr pos pins s1 σ H1 _ I1 q1) fun us s2 ⟨xs,H2,I2,r2,q2⟩ => ⟨x :: xs,H2,I2,.cons r1 r2,q2⟩
def Ws (t:TA):TE:=fun σ H Q => t σ H fun xs H1 => xs.length≤sizeLine∧∀ p,H1 p = none→Q (.ref p) (Aw H1 p (.tup xs))
def Wt (t:TA):TE:=fun σ H Q => t σ H fun xs H1 => xs.length≤sizeLine∧∀ p,H1 p = none→Q (.ref p) (Aw H1 p (.lst xs))
theorem Gv {x1} (h:PA X es t):PE X (.Tuple es x1 pos) (Ws t):=by
 intro pins s σ H Q I hq
 refine wpAny_Tuple_spliced (Aq (h pos pins s σ H _ I hq) fun us s1 ⟨xs,H1,I1,r,z,q⟩ => ⟨by rw [← r.length]; exact z,?_⟩)
 have hf:H1 s1.heap.objs.size = none:=I1.hok.fresh (Nat.le_refl _)
 refine ⟨.ref s1.heap.objs.size,Aw H1 s1.heap.objs.size (.tup xs),I1.laid (t':=s1.toks) (fun b u e => Heap.get?_push_of_some _ e) (Nat.le_refl _) ?_,rfl,q _ hf⟩
 exact ⟨z,us,r,⟨_,Heap.get?_push_size _ rfl,rfl,_,rfl⟩⟩
theorem Ey (h:PA X es t):PE X (.List es pos) (Wt t):=by
 intro pins s σ H Q I hq
 refine wpAny_List_spliced (Aq (h pos pins s σ H _ I hq) fun us s1 ⟨xs,H1,I1,r,z,q⟩ => ⟨by rw [← r.length]; exact z,?_⟩)
 have hf:H1 s1.heap.objs.size = none:=I1.hok.fresh (Nat.le_refl _)
 refine ⟨.ref s1.heap.objs.size,Aw H1 s1.heap.objs.size (.lst xs),I1.laid (t':=s1.toks) (fun b u e => Heap.get?_push_of_some _ e) (Nat.le_refl _) ?_,rfl,q _ hf⟩
 exact ⟨z,us,0,r,Heap.get?_push_size _ rfl⟩
end
abbrev Sp:=List V→Hp→VK→XK→Prop
abbrev Mo:=List Env→Hp→Shared→XK→Value→Shared→Prop
structure Env0 (P:Program) (w:World) (K:PySem.W.Frag) (mg:Str→Option Value) (base:Heap) (A:Around) (outer:List Env) (s:Shared) (H:Hp):Prop where
 frames:A.frames = some outer
 mod:Mod K mg base
 bs:∀ b o,base.get? b = some o→s.heap.get? b = some o∧H b = none
 bsz:base.objs.size≤s.heap.objs.size
 funs:s.heap.FunFrames base outer
 frf:∀ b∈Er outer,H b = none
 hok:HOk P w H s.heap
 bare:AllBare s.gens
def CE (outer:List Env) (P:Program) (w:World) (H:Hp) (s:Shared) (Q:VK) (u:Value) (s':Shared):Prop :=
 ∃ v H',s'.os = s.os∧AllBare s'.gens∧Un (Er outer) [] H H' s.heap s'.heap∧HOk P w H' s'.heap∧RelV v u∧Q v H'
def CR (CX:Mo) (outer:List Env) (P:Program) (w:World) (H:Hp) (s:Shared) (Q:VK) (E:XK) (r:Result) (s':Shared):Prop :=
 match r with
 | .ok (.ret u) => CE outer P w H s Q u s'
 | .ok _ => False
 | .error e => CX outer H s E e s'
structure FnOk (P:Program) (w:World) (K:PySem.W.Frag) (mg:Str→Option Value) (base:Heap) (CX:Mo) (k:Nat) (f:Addr) (fd:FuncData) (ps:List Str) (sp:Sp):Prop where
 len:∀ vs H Q E,sp vs H Q E→vs.length = ps.length
 run:∀ (A:Around) (outer:List Env) (s:Shared) (H:Hp) (args:Args) (us:List Value) (vs:List V) (Q:VK) (E:XK),Room k A→Env0 P w K mg base A outer s H→BindsTo s fd args (ps.zip us)→Vals vs us→sp vs H Q E →
  codeAny (model P w) A (.call (.ref f) args) (CR CX outer P w H s Q E) s
section
variable {X:Cx} {pins:List (Addr × Obj)} {σ:St} {H:Hp} {s s':Shared}
theorem Inv.env0 (I:Inv X pins σ H s):Env0 X.prog X.w X.K X.mg X.base X.A X.stack s H :=
 ⟨I.ok.frames,I.ok.mod,I.bs,Nat.le_trans I.ok.bsz I.sz,I.stack,I.stkFree,I.hok,I.bare⟩
theorem Inv.after {Q:VK} {u:Value} (I:Inv X pins σ H s) (h:CE X.stack X.prog X.w H s Q u s'):EP X pins σ Q u s':=by
 obtain ⟨v,H',os,bare,un,hok,r,q⟩:=h
 obtain ⟨hh,g,d,t,os'⟩:=s'
 obtain rfl:os' = s.os:=os
 exact ⟨v,H',I.call (h':=hh) (g':=g) (d':=d) (t':=t) (ch:=[]) un hok bare (fun b z => absurd z (by simp)),r,q⟩
end
def Binds (K:PySem.W.Frag) (fd:FuncData) (ps:List Str) (ds:List Value):Prop :=
 ∀ (s:Shared) (us:List Value),K.In s.heap→(us ++ ds).length = ps.length→BindsTo s fd ⟨us,[]⟩ (ps.zip (us ++ ds))
theorem Binds.all {K:PySem.W.Frag} {fd:FuncData} {ps:List Str} (h:∀ us:List Value,us.length = ps.length→bindArgs fd ⟨us,[]⟩ = pure (ps.zip us)):Binds K fd ps []:=fun s us _ hl => by
 rw [List.append_nil] at hl ⊢
 exact .of_eq (h us hl)
section
variable {X:Cx} {CX:Mo} {k:Nat} {f C:Addr} {fd:FuncData} {ps:List Str} {sp:Sp} {dvs:List V} {ds:List Value} {E:XK} {x m:Str} {p pos apos:Pos} {e o:Expr} {es:List Expr} {ta:TE} {t:TA}
structure Mk (K:PySem.W.Frag) (C f:Addr):Prop where
 makes:PySem.W.makesIn K C = true
 init:PySem.W.findIn K (.ref C) "__init__" = some (some (.ref f))
 fn:PySem.W.isFn K (.ref f) = true
 kp:PySem.W.keepIn K (.ref C) = true
end
section
variable {X:Cx} {CX:Mo} {k:Nat} {f C:Addr} {fd:FuncData} {ps ks:List Str} {sp:Sp} {E:XK} {x m:Str} {p pos apos kpos:Pos} {e o:Expr} {es:List Expr} {kws:List Keyword} {te ta:TE} {t tk:TA} {nm:Option Str}
structure KBinds (K:PySem.W.Frag) (fd:FuncData) (ps ks:List Str) (g:List Value→List Value→List Value) (gV:List V→List V→List V):Prop where
 to:∀ (s:Shared) (us ws:List Value),K.In s.heap→(g us ws).length = ps.length→BindsTo s fd ⟨us,ks.zip ws⟩ (ps.zip (g us ws))
 rel:∀ {vs:List V} {us:List Value} {zs:List V} {ws:List Value},Vals vs us→Vals zs ws→Vals (gV vs zs) (g us ws)
variable {g:List Value→List Value→List Value} {gV:List V→List V→List V}
end
structure FnScope (N P:List Str) (sc:Scope):Prop where
 kind:sc.kind = .function
 co:sc.isCoroutine = false
 gen:sc.isGenerator = false
 nd:N.Nodup
 pre:N.take P.length = P
 par:∀ x∈P,sc.names.lookup x = some .local∨sc.names.lookup x = some .cell
 nofree:∀ y∈sc.names,y.2≠.free
theorem GK {kindOf:Str→Option NameKind} {x:Str}:∀ {binds:List (Str × Value)} {m:Str→Option Value},(∀ v,(x,v) ∉ binds)→bindL kindOf binds m x = m x
 | [],_,_ => rfl
 | (n,v) :: r,m,h => by
  unfold bindL
  rw [GK fun w hw => h w (List.mem_cons_of_mem _ hw)]
  split
  ·have:x≠n:=by rintro rfl; exact h v List.mem_cons_self
   simp [this]
  ·rfl
theorem GL {kindOf:Str→Option NameKind} {x:Str}:∀ {binds:List (Str × Value)} {m:Str→Option Value},(∀ v,(x,v) ∉ binds)→bindC kindOf binds m x = m x
 | [],_,_ => rfl
 | (n,v) :: r,m,h => by
  unfold bindC
  rw [GL fun w hw => h w (List.mem_cons_of_mem _ hw)]
  split
  ·rfl
  ·have:x≠n:=by rintro rfl; exact h v List.mem_cons_self
   simp [this]
theorem GM {kindOf:Str→Option NameKind} {x:Str} {v:Value}:∀ {P:List Str} {vs:List Value} {i:Nat} {m:Str→Option Value},P.Nodup→P[i]? = some x→vs[i]? = some v→kindOf x = some .local →
  bindL kindOf (P.zip vs) m x = some v
 | [],_,_,_,_,h,_,_ => by simp at h
 | _ :: _,[],_,_,_,_,h,_ => by simp at h
 | p :: P,w :: vs,0,m,nd,h1,h2,hk => by
  simp at h1 h2; subst h1; subst h2
  show bindL kindOf ((p,w) :: P.zip vs) m p = _
  unfold bindL
  rw [GK fun v hv => (List.nodup_cons.mp nd).1 (List.of_mem_zip hv).1,if_pos hk]
  simp
 | p :: P,w :: vs,i + 1,m,nd,h1,h2,hk => by
  show bindL kindOf ((p,w) :: P.zip vs) m x = _
  unfold bindL
  exact GM (i:=i) (List.nodup_cons.mp nd).2 (by simpa using h1) (by simpa using h2) hk
theorem GN {kindOf:Str→Option NameKind} {x:Str} {v:Value}:∀ {P:List Str} {vs:List Value} {i:Nat} {m:Str→Option Value},P.Nodup→P[i]? = some x→vs[i]? = some v→kindOf x≠some .local →
  bindC kindOf (P.zip vs) m x = some v
 | [],_,_,_,_,h,_,_ => by simp at h
 | _ :: _,[],_,_,_,_,h,_ => by simp at h
 | p :: P,w :: vs,0,m,nd,h1,h2,hk => by
  simp at h1 h2; subst h1; subst h2
  show bindC kindOf ((p,w) :: P.zip vs) m p = _
  unfold bindC
  rw [GL fun v hv => (List.nodup_cons.mp nd).1 (List.of_mem_zip hv).1,if_neg hk]
  simp
 | p :: P,w :: vs,i + 1,m,nd,h1,h2,hk => by
  show bindC kindOf ((p,w) :: P.zip vs) m x = _
  unfold bindC
  exact GN (i:=i) (List.nodup_cons.mp nd).2 (by simpa using h1) (by simpa using h2) hk
def start (N:List Str) (vs:List V):St:=vs.map some ++ List.replicate (N.length - vs.length) none
def Cj (CX:Mo) (P:Program) (w:World) (K:PySem.W.Frag) (mg:Str→Option Value) (base:Heap) (N:List Str) (qual:Str) (scope:Scope) (f:Addr) (cd:Value) (A:Around) (outer:List Env) (s:Shared) (H:Hp) (E:XK):Cx where
 prog:=P
 w:=w
 K:=K
 mg:=mg
 base:=base
 A:=A.deeper (envOfC qual scope s.heap.objs.size f cd)
 N:=N
 s₀:=s
 H₀:=H
 env:=envOfC qual scope s.heap.objs.size f cd
 outer:=outer
 stack:=envOfC qual scope s.heap.objs.size f cd :: outer
 ex:=[]
 calm:=true
 fn:=fun _ => true
 pn:=[]
 xe:=fun e s' => wpAny (model P w) (A.deeper (envOfC qual scope s.heap.objs.size f cd)) (leaving (envOfC qual scope s.heap.objs.size f cd) e) (fun _ s'' => CX outer H s E e s'') (fun e' s'' => CX outer H s E e' s'') s'
theorem II {sc:Scope} {n:Nat} {x:Str} (h:sc.names.lookup x = some .cell):∃ c,(cellsFrom n sc.names []).lookup x = some c:=by
 have q:=PySem.W.cellsFrom_some sc.names n [] (.inl h)
 exact Option.isSome_iff_exists.mp q
theorem GO {CX:Mo} {P:Program} {w:World} {K:PySem.W.Frag} {mg:Str→Option Value} {base:Heap} {N ps:List Str} {qual:Str} {scope:Scope} {f:Addr} {cd:Value} {A:Around} {outer:List Env} {s s1:Shared} {H:Hp} {E:XK} {us:List Value} {vs:List V}
  (S:FnScope N ps scope) (hd:A.handled = none) (e0:Env0 P w K mg base A outer s H) (hl:vs.length = ps.length) (r:Vals vs us)
  (x:InCallC s s.heap.objs.size (bindL (envOfC qual scope s.heap.objs.size f cd).kindOf (ps.zip us) fun _ => none) (cellsFrom (s.heap.objs.size + 1) scope.names []) (bindC (envOfC qual scope s.heap.objs.size f cd).kindOf (ps.zip us) fun _ => none) s1) :
  Inv (Cj CX P w K mg base N qual scope f cd A outer s H E) [] (start N vs) H s1:=by
 have hpl:ps.length≤N.length:=by have:=congrArg List.length S.pre; rw [List.length_take] at this; omega
 obtain ⟨h1,tk,rfl,hk⟩:=x.done
 have noA:∀ b:Addr,b ∉ (Cj CX P w K mg base N qual scope f cd A outer s H E).ex:=fun b z => absurd (show b∈([]:List Addr) from z) (by simp)
 refine ⟨⟨e0.mod,S.kind,rfl,rfl,Nat.le_refl _,fun y z c h1 h2 => ?_,fun y hy => ?_,fun y c _ h => ?_,fun _ => hd,Around.frames_deeper e0.frames,.inr ⟨rfl,rfl⟩,fun b z => absurd z (noA b),e0.bs,e0.bsz,fun b _ _ => noA b,fun b z => absurd z (noA b),e0.funs,e0.frf⟩,
  rfl,e0.bare,Un.kept hk,⟨_,x.toInCall.ns,fun i y v h1 h2 h3 => ?_⟩,fun y c h => ⟨_,x.cell y c h⟩,e0.hok.fresh (Nat.le_refl _),fun y c h => ?_,fun p hp => absurd (show p∈([]:List (Addr × Obj)) from hp) (by simp),e0.hok.kept hk,?_⟩
 ·exact name_of_addr x.apart (PySem.mem_of_lookup h1) (PySem.mem_of_lookup h2)
 ·have hy:scope.names.lookup y = some .cell∨scope.names.lookup y = some .free:=hy
  rcases hy with hy | hy
  ·exact II hy
  ·exact absurd rfl (S.nofree _ (PySem.mem_of_lookup hy))
 ·exact Nat.le_of_lt (x.above y c (PySem.mem_of_lookup h))
 ·have hi:i < vs.length:=by
   unfold start at h2
   by_cases hi:i < vs.length
   ·exact hi
   ·rw [List.getElem?_append_right (by simpa using hi)] at h2
    rw [List.getElem?_replicate] at h2
    split at h2 <;> cases h2
  have ha:vs[i]? = some v:=by
   unfold start at h2
   rw [List.getElem?_append_left (by simpa using hi),List.getElem?_map] at h2
   cases e:vs[i]? with
   | none => rw [e] at h2; cases h2
   | some a => rw [e] at h2; cases h2; rfl
  obtain ⟨u,hu,rv⟩:=r.get ha
  have hp:ps[i]? = some y:=by
   rw [← S.pre,List.getElem?_take_of_lt (by omega)]; exact h1
  have ndP:ps.Nodup:=by rw [← S.pre]; exact S.nd.sublist (List.take_sublist _ _)
  refine ⟨u,rv,?_⟩
  rcases S.par y (List.mem_of_getElem? hp) with k | k
  ·exact .inl ⟨k,GM ndP hp hu k⟩
  ·obtain ⟨c,e⟩:=II (n:=s.heap.objs.size + 1) k
   refine .inr ⟨.inl k,c,e,?_⟩
   have q:=x.cell y c e
   rw [GN ndP hp hu (by show scope.names.lookup y≠_; rw [k]; decide)] at q
   exact q
 ·exact e0.hok.fresh (Nat.le_of_lt (x.above y c (PySem.mem_of_lookup h)))
 ·unfold start
  show _ = N.length
  rw [List.length_append,List.length_map,List.length_replicate]
  omega
theorem Ub {CX:Mo} {P:Program} {w:World} {K:PySem.W.Frag} {mg:Str→Option Value} {base:Heap} {k:Nat} {f:Addr} {name qual:Str} {params:Arguments} {body:List Stmt} {scope:Scope} {dV kV doc pm cdv ct oc:Value} {an od:Option Addr}
  {osl:Array (Option Value)} {N ps:List Str} {sp:Sp} (lk:K.lookup f = some ⟨oc,od,.func (PySem.W.fnOf name qual params body scope dV kV doc pm an cdv ct),osl⟩) (hcd:PySem.W.codeIn K cdv qual = true) (S:FnScope N ps scope)
  (len:∀ vs H Q E,sp vs H Q E→vs.length = ps.length)
  (hbody:∀ (A:Around) (outer:List Env) (s:Shared) (H:Hp) (vs:List V) (Q:VK) (E:XK),Room k (A.deeper (envOfC qual scope s.heap.objs.size f cdv))→sp vs H Q E →
   ∃ t,PSs (Cj CX P w K mg base N qual scope f cdv A outer s H E) body t∧t { nx:=fun _ H' => Q .non H',rt:=Q } (start N vs) H) :
  FnOk P w K mg base CX (k + 1) f (PySem.W.fnOf name qual params body scope dV kV doc pm an cdv ct) ps sp:=by
 refine ⟨len,fun A outer s H args us vs Q E hr e0 hb r hsp => ?_⟩
 have hl:=len _ _ _ _ hsp
 have KX:K.In s.heap:=e0.mod.kin.keeps fun b o e => (e0.bs b o e).1
 have lim:s.heap.NoLimit:=e0.mod.nolimit.keeps fun b o e => (e0.bs b o e).1
 have hkind:∀ y∈ps.zip us,scope.names.lookup y.1 = some .local∨(scope.names.lookup y.1 = some .cell∧((cellsFrom (s.heap.objs.size + 1) scope.names []).lookup y.1).isSome = true):=fun ⟨n,v⟩ hy => by
  rcases S.par n (List.of_mem_zip hy).1 with q | q
  ·exact .inl q
  ·exact .inr ⟨q,PySem.W.cellsFrom_some _ _ _ (.inl q)⟩
 refine codeAny_call_function hr.depth (KX _ _ lk) rfl S.co S.gen rfl (PySem.W.codeRec_of KX hcd) (hb _ _ _ _ ?_)
 refine wpAny_newFunctionEnv_cells S.kind hkind fun env he s1 x => ?_
 subst he
 refine ⟨lim.keeps x.toInCall.keep,codeAny_func ?_⟩
 obtain ⟨t,ht,hq⟩:=hbody A outer s H vs Q E (hr.deeper _) hsp
 have I:Inv (Cj CX P w K mg base N qual scope f cdv A outer s H E) [] (start N vs) H s1:=GO S hr.hd e0 hl r x
 refine wpAny_mono (ht [] s1 (start N vs) H _ I hq) (fun fl s' hs => ?_) fun e s' hs => hs
 have fin:∀ {σ':St} {H':Hp} {v:V} {u:Value},Inv (Cj CX P w K mg base N qual scope f cdv A outer s H E) [] σ' H' s'→RelV v u→Q v H'→CE outer P w H s Q u s' :=
  fun {σ' H' v u} J rv q => ⟨v,H',J.os,J.bare,J.base,J.hok,rv,q⟩
 cases fl with
 | ret u =>
  obtain ⟨v,σ',H',J,rv,q⟩:=hs
  exact fin J rv q
 | next =>
  obtain ⟨σ',H',J,q⟩:=hs
  exact fin (v:=V.non) (u:=Value.none) J rfl q
 | brk =>
  obtain ⟨_,_,_,q⟩:=hs
  exact False.elim q
 | cont =>
  obtain ⟨_,_,_,q⟩:=hs
  exact False.elim q
section
variable {X:Cx} {x:Str} {p pos:Pos} {e:Expr} {es:List Expr} {t:TA} {id T:String} {r:List V→Hp→VK→Prop}
def XY (r:List V→Hp→VK→Prop) (t:TA):TE:=fun σ H Q => t σ H fun vs H1 => r vs H1 Q
theorem An (hc:BL X (.builtin id) r) (hg:Gl X x) (hm:X.mg x = none) (hv:bootBuiltins x = some (.builtin id)) (ha:PA X (e :: es) t) (hn:x≠"__name__":=by decide) (hdb:(x == ("__debug__" : Str)) = false:=by decide)
  (he:starEach (e :: es) X.env = (false,eval e X.env) :: starEach es X.env:=by rfl) (hpl:(backTo pos (starEach es X.env)).any (·.1) = false:=by rfl):PE X (.Call (.Name x p) (e :: es) [] pos) (XY r t):=by
 intro pins s σ H Q I h
 refine wpAny_Call_Name_kw (Eu I hg hm hv ?_ hn hdb)
 exact PyProof.Rows.callWith_builtin1 (Aq (ha pos pins s σ H _ I h) fun us s1 ⟨vs,H1,I1,r1,q1⟩ => hc pins s1 σ H1 vs us Q I1 r1 q1) he hpl
theorem Dv (hc:BL X (.type T) r) (hg:Gl X x) (hm:X.mg x = none) (hv:bootBuiltins x = some (.type T)) (ha:PA X (e :: es) t) (hn:x≠"__name__":=by decide) (hdb:(x == ("__debug__" : Str)) = false:=by decide)
  (he:starEach (e :: es) X.env = (false,eval e X.env) :: starEach es X.env:=by rfl) (hpl:(backTo pos (starEach es X.env)).any (·.1) = false:=by rfl):PE X (.Call (.Name x p) (e :: es) [] pos) (XY r t):=by
 intro pins s σ H Q I h
 refine wpAny_Call_Name_kw (Eu I hg hm hv ?_ hn hdb)
 exact PyProof.Rows.callWith_type1 (Aq (ha pos pins s σ H _ I h) fun us s1 ⟨vs,H1,I1,r1,q1⟩ => hc pins s1 σ H1 vs us Q I1 r1 q1) he hpl
end
end L2
namespace HT
open PySem PyProof.Rows
section
open PySem.SeqAt
open PySem.AutoSeq1 (wpAny_loadPart')
open PySem.MeetsSeq PySem.MeetsSeq2 PySem.MeetsSeq3
end
section
variable {prog:Program} {w:World} {A:Around} {E:Value→Shared→Prop} {s:Shared}
def ID (n d:Nat):Option Int→Nat
 | none => d
 | some v => if v < 0 then (v + (n:Int)).toNat else min v.toNat n
end
end HT
namespace L2
open PySem PySem.Spec PyProof.Rows
abbrev TO:=St→Hp→(Option Int→Hp→Prop)→Prop
def PO (X:Cx) (e:Option Expr) (t:TO):Prop :=
 ∀ (pins:List (Addr × Obj)) (s:Shared) (σ:St) (H:Hp) (Q:Option Int→Hp→Prop),Inv X pins σ H s→t σ H Q →
  wpAny (model X.prog X.w) X.A (evalPart e X.env) (fun u s' => ∃ o H',Inv X pins σ H' s'∧IsPart u o∧Q o H') X.xe s
def Uc (t:TE):TO:=fun σ H Q => t σ H fun x H1 => ∃ i,x = .int i∧Q (some i) H1
section
variable {X:Cx} {e:Expr} {te:TE} {lo hi:Option Expr} {tl th:TO} {pos p2:Pos}
theorem Ke (h:PE X e te):PO X (some e) (Uc te):=by
 intro pins s σ H Q I hw
 rw [evalPart_some]
 refine Aq (h pins s σ H _ I hw) fun u s1 ⟨x,H1,I1,r1,q1⟩ => ?_
 obtain ⟨i,rfl,q⟩:=q1
 obtain ⟨t,rfl⟩:=r1
 exact ⟨some i,H1,I1,.int i t,q⟩
def XZ (X:Cx) (r:V→Option Int→Option Int→Hp→VK→Prop):Prop :=
 ∀ (pins:List (Addr × Obj)) (s:Shared) (σ:St) (H:Hp) (x:V) (v vl vu:Value) (lo hi:Option Int) (sl:Addr) (Q:VK),Inv X pins σ H s→RelV x v→s.heap.IsSliceOf sl vl vu .none→IsPart vl lo→IsPart vu hi→r x lo hi H Q →
  ∃ T id,typeLookup (.type T) "__getitem__" = pure (some (.builtin id))∧s.TypeIs v T∧wpAny (model X.prog X.w) X.A (getItem v (.ref sl)) (EP X pins σ Q) X.xe s
def Xs (r:V→Option Int→Option Int→Hp→VK→Prop) (te:TE) (tl th:TO):TE:=fun σ H Q => te σ H fun x H1 => tl σ H1 fun l H2 => th σ H2 fun u H3 => r x l u H3 Q
theorem Mp {r:V→Option Int→Option Int→Hp→VK→Prop} (hr:XZ X r) (he:PE X e te) (hl:PO X lo tl) (hu:PO X hi th):PE X (.Subscript e (.Slice lo hi none p2) pos) (Xs r te tl th):=by
 intro pins s σ H Q I h
 refine Subscript_ (Aq (he pins s σ H _ I h) fun v s1 ⟨x,H1,I1,r1,q1⟩ => ?_)
 refine wpAny_Slice (Aq (hl pins s1 σ H1 _ I1 q1) fun vl s2 ⟨l,H2,I2,pl,q2⟩ => Aq (hu pins s2 σ H2 _ I2 q2) fun vu s3 ⟨u,H3,I3,pu,q3⟩ => ?_)
 rw [evalPart_none]
 refine wpAny_pure ?_
 have I4:Inv X pins σ H3 { s3 with heap:=s3.heap.push { cls:=.type "slice",data:=.fields #[vl,vu,.none] } }:=I3.kept (t':=s3.toks) fun b ob q => Heap.get?_push_of_some _ q
 obtain ⟨T,id,hT,ht,hg⟩:=hr pins { s3 with heap:=s3.heap.push { cls:=.type "slice",data:=.fields #[vl,vu,.none] } } σ H3 x v vl vu l u s3.heap.objs.size Q I4 r1 (Heap.IsSliceOf.new ..) pl pu q3
 show wpAny (model X.prog X.w) X.A (subscriptTail e (.Slice lo hi none p2) v (.ref s3.heap.objs.size)) (EP X pins σ Q) X.xe { s3 with heap:=s3.heap.push { cls:=.type "slice",data:=.fields #[vl,vu,.none] } }
 exact tail_any (ops:=[.ref s3.heap.objs.size,v]) ht hT hg (by with_unfolding_all rfl)
def Lk (xs:List V) (lo hi:Option Int):List V:=(xs.drop (HT.ID xs.length 0 lo)).take (HT.ID xs.length xs.length hi - HT.ID xs.length 0 lo)
theorem IJ (xs:List V) (lo hi:Option Int):(Lk xs lo hi).length≤xs.length:=by
 unfold Lk
 rw [List.length_take,List.length_drop]
 omega
end
def Mq (n:Nat) (i:Int):Option Nat:=if 0≤i then (if i < n then some i.toNat else none) else if -(n:Int)≤i then some (i + n).toNat else none
def atI {α:Type} (xs:List α) (i:Int):Option α:=(Mq xs.length i).bind fun j => xs[j]?
theorem Kf {n:Nat} {i:Int} {j:Nat} (h:Mq n i = some j):seqIndex? i n = some j∧j < n∧-(n:Int)≤i∧i < n:=by
 unfold Mq at h
 by_cases h0:0≤i
 ·rw [if_pos h0] at h
  by_cases h1:i < n
  ·rw [if_pos h1] at h
   have e:i.toNat = j:=Option.some.inj h
   exact ⟨by rw [seqIndex_of h0 h1,e],by omega,by omega,h1⟩
  ·rw [if_neg h1] at h; cases h
 ·rw [if_neg h0] at h
  by_cases h1 : -(n:Int)≤i
  ·rw [if_pos h1] at h
   have e:(i + n).toNat = j:=Option.some.inj h
   exact ⟨by rw [seqIndex_neg (by omega) h1,e],by omega,h1,by omega⟩
  ·rw [if_neg h1] at h; cases h
theorem DB {α:Type} {xs:List α} {i:Int} {v:α} (h:atI xs i = some v):∃ j,seqIndex? i xs.length = some j∧xs[j]? = some v∧j < xs.length∧-(xs.length:Int)≤i∧i < xs.length:=by
 unfold atI at h
 cases e:Mq xs.length i with
 | none => rw [e] at h; cases h
 | some j =>
  rw [e] at h
  obtain ⟨h1,h2,h3,h4⟩:=Kf e
  exact ⟨j,h1,h,h2,h3,h4⟩
theorem BV {α:Type} {xs:List α} {j:Nat} {v:α} (h:xs[j]? = some v):atI xs (j:Int) = some v:=by
 have hj:j < xs.length:=(List.getElem?_eq_some_iff.mp h).1
 have e:Mq xs.length (j:Int) = some j:=by
  unfold Mq
  rw [if_pos (by omega),if_pos (by omega)]; simp
 unfold atI; rw [e]; exact h
def DC (b:Expr):Prop:=∀ o i,subscripted b false o i = operate [o,i] (getItem o i)
def Ud (X:Cx) (r:R2):Prop :=
 ∀ (value slice:Expr) (pins:List (Addr × Obj)) (s:Shared) (σ:St) (H:Hp) (x y:V) (v u:Value) (Q:VK),Inv X pins σ H s→RelV x v→RelV y u→r x y H Q →
  subscripted slice false v u = operate [v,u] (getItem v u)→wpAny (model X.prog X.w) X.A (subscriptTail value slice v u) (EP X pins σ Q) X.xe s
def Xa (X:Cx) (id:String) (r:V→List V→Hp→VK→Prop):Prop :=
 ∀ (pins:List (Addr × Obj)) (s:Shared) (σ:St) (H:Hp) (x:V) (xs:List V) (v:Value) (us:List Value) (Q:VK),Inv X pins σ H s→RelV x v→Vals xs us→r x xs H Q →
  wpAny (model X.prog X.w) X.A (call (.builtin id) (v :: us)) (EP X pins σ Q) X.xe s
section
variable {X:Cx} {a b:Expr} {ta tb:TE} {pos:Pos}
theorem Mr {r:R2} (hr:Ud X r) (ha:PE X a ta) (hb:PE X b tb) (hs:DC b):PE X (.Subscript a b pos) (US r ta tb):=by
 intro pins s σ H Q I h
 exact Subscript_ (SH ha hb I h fun v u s2 x y H2 I2 rx ry q => hr a b pins s2 σ H2 x y v u Q I2 rx ry q (hs _ _))
def SQ (K:PySem.W.Frag):R2:=fun x y H Q => ∃ p xs i v,x = .ref p∧y = .int i∧SqL K H p xs∧atI xs i = some v∧Q v H
def Ue (K:PySem.W.Frag):R2:=fun x y H Q => ∃ p xs i v,x = .ref p∧y = .int i∧JS K H p xs∧atI xs i = some v∧Q v H
theorem Bo:Ud X (SQ X.K):=by
 intro value slice pins s σ H x y v u Q I rx ry h hs
 obtain ⟨p,xs,i,z,rfl,rfl,hq,he,q⟩:=h
 cases rx
 obtain ⟨t,rfl⟩:=ry
 obtain ⟨its,r,pl,hz⟩:=I.list hq
 obtain ⟨j,h1,h2,h3,h4,h5⟩:=DB he
 obtain ⟨w,ew,rw'⟩:=r.get h2
 have hl:=r.length
 have hn:=Du
 have fin:EP X pins σ Q w s:=⟨z,H,I,rw',q⟩
 by_cases h0:0≤i
 ·have hj:i.toNat = j:=by
   rw [seqIndex_of h0 h5] at h1
   exact Option.some.inj h1
  exact item_listR pl.isList h0 (by omega) (by rw [hj]; simpa using ew) fin hs
 ·have hj:(i + (its.toArray.size:Int)).toNat = j:=by
   rw [seqIndex_neg (by omega) h4] at h1
   rw [List.size_toArray,← hl]
   exact Option.some.inj h1
  exact subscriptTail_builtinR (x:=w) pl.isList.typeIs slot_list_getitem.lookup
   (wpAny_getItem_list_neg (Q:=fun r s' => r = w∧EP X pins σ Q r s') pl.isList (by omega) (by rw [List.size_toArray] <;> omega) (by omega) (by rw [hj]; simpa using ew) ⟨rfl,fin⟩) hs
theorem SR:Ud X (Ue X.K):=by
 intro value slice pins s σ H x y v u Q I rx ry h hs
 obtain ⟨p,xs,i,z,rfl,rfl,hq,he,q⟩:=h
 cases rx
 obtain ⟨t,rfl⟩:=ry
 obtain ⟨its,r,pl,hz⟩:=I.tuple hq
 obtain ⟨j,h1,h2,h3,h4,h5⟩:=DB he
 obtain ⟨w,ew,rw'⟩:=r.get h2
 have hl:=r.length
 have hn:=Du
 have fin:EP X pins σ Q w s:=⟨z,H,I,rw',q⟩
 exact subscriptTail_builtinR (x:=w) pl.typeIs slot_tuple_getitem.lookup
  (getItem_tuple (j:=j) (Q:=fun r s' => r = w∧EP X pins σ Q r s') pl (by omega) (by omega) (by rw [List.size_toArray,← hl]; exact h1) (by simpa using ew) ⟨rfl,fin⟩) hs
theorem Jd (its:List Value) (n j:Nat) (u:Value):Obj.mapSeq (·.setIfInBounds j u) { cls:=.type "list",data:=.seq its.toArray n } = { cls:=.type "list",data:=.seq (its.set j u).toArray n }:=by
 simp [Obj.mapSeq]
theorem Inv.lst {pins:List (Addr × Obj)} {σ:St} {H:Hp} {s:Shared} {p:Addr} {xs:List V} (I:Inv X pins σ H s) (h:H p = some (.lst xs)) :
  ∃ (its:List Value) (n:Nat),Vals xs its∧s.heap.get? p = some { cls:=.type "list",data:=.seq its.toArray n }∧xs.length≤sizeLine:=by
 obtain ⟨z,its,n,r,e⟩:=I.hok p _ h
 exact ⟨its,n,r,e,z⟩
theorem Inv.lstUpd {pins:List (Addr × Obj)} {σ:St} {H:Hp} {s:Shared} {p:Addr} {xs ys:List V} {its its':List Value} {n n':Nat} {f:Obj→Obj} (I:Inv X pins σ H s) (h:H p = some (.lst xs))
  (ho:s.heap.get? p = some { cls:=.type "list",data:=.seq its.toArray n }) (hf:f { cls:=.type "list",data:=.seq its.toArray n } = { cls:=.type "list",data:=.seq its'.toArray n' }) (r:Vals ys its') (hz:ys.length≤sizeLine) (t:Nat) :
  Inv X pins σ (Aw H p (.lst ys)) { s with heap:=s.heap.update p f,toks:=t }:=by
 have e:(s.heap.update p f).get? p = some { cls:=.type "list",data:=.seq its'.toArray n' }:=by
  rw [Heap.get?_update_self f ho (by rw [hf] <;> rfl),hf]
 refine I.write (x:=p) (e:=p) (by rw [h]; trivial) (.inl rfl) (fun b u hb q => (Heap.get?_update_other _ _ (Ne.symm hb)).trans q) ⟨_,e⟩ ?_
 exact ⟨hz,its',n',r,e⟩
def Uf:V→V→V→Hp→(Hp→Prop)→Prop:=fun o i v H Q => ∃ p xs k j,o = .ref p∧i = .int k∧H p = some (.lst xs)∧Mq xs.length k = some j∧Q (Aw H p (.lst (xs.set j v)))
theorem Ms:UM X Uf:=by
 intro pins s σ H o i v ov iv u Q I ro ri rv h
 obtain ⟨p,xs,k,j,rfl,rfl,hp,hj,q⟩:=h
 cases ro
 obtain ⟨t,rfl⟩:=ri
 obtain ⟨its,n,r,ho,hz⟩:=I.lst hp
 obtain ⟨h1,h2,h3,h4⟩:=Kf hj
 have hl:=r.length
 have hn:=Du
 have I':Inv X pins σ (Aw H p (.lst (xs.set j v))) { s with heap:=s.heap.update p (Obj.mapSeq (·.setIfInBounds j u)) } :=
  I.lstUpd hp ho (Jd its n j u) (r.set rv j) (by rw [List.length_set]; exact hz) s.toks
 by_cases h0:0≤k
 ·have hk:k.toNat = j:=by
   rw [seqIndex_of h0 h4] at h1
   exact Option.some.inj h1
  exact PySem.W.ki_setAt ho h0 (by omega) (by rw [List.size_toArray,← hl]; exact h4) (by rw [hk]; exact ⟨_,I',q⟩)
 ·have hk:(k + (its.toArray.size:Int)).toNat = j:=by
   rw [seqIndex_neg (by omega) h3] at h1
   rw [List.size_toArray,← hl]
   exact Option.some.inj h1
  exact PySem.W.ki_setBack ho (by omega) (by rw [List.size_toArray,← hl]; exact h3) (by omega) (by rw [hk]; exact ⟨_,I',q⟩)
theorem Gx (lo hi:Option Int) (n:Nat):(sliceBounds lo hi none n).1 = ((HT.ID n 0 lo:Nat):Int)∧(sliceBounds lo hi none n).2.1 = ((HT.ID n n hi:Nat):Int)∧(sliceBounds lo hi none n).2.2 = 1:=by
 refine ⟨?_,?_,rfl⟩
 ·cases lo with
  | none => simp [sliceBounds,HT.ID]
  | some i =>
   simp only [sliceBounds,HT.ID,Option.getD_none,show (1:Int) > 0 by decide,if_true]
   by_cases h:i < 0
   ·simp only [h,if_true] <;> omega
   ·simp only [h,if_false] <;> omega
 ·cases hi with
  | none => simp [sliceBounds,HT.ID]
  | some i =>
   simp only [sliceBounds,HT.ID,Option.getD_none,show (1:Int) > 0 by decide,if_true]
   by_cases h:i < 0
   ·simp only [h,if_true] <;> omega
   ·simp only [h,if_false] <;> omega
theorem Fz (its:List Value) (lo hi:Option Int):slicePick its.toArray lo hi none = ((its.drop (HT.ID its.length 0 lo)).take (HT.ID its.length its.length hi - HT.ID its.length 0 lo)).toArray:=by
 obtain ⟨h1,h2,h3⟩:=Gx lo hi its.toArray.size
 unfold slicePick
 rw [h1,h2,h3]
 simp only [sliceRange_one,pick_run,List.size_toArray] <;> rfl
def Wu (K:PySem.W.Frag):V→Option Int→Option Int→Hp→VK→Prop:=fun x lo hi H Q => ∃ a xs,x = .ref a∧SqL K H a xs∧∀ p,H p = none→Q (.ref p) (Aw H p (.lst (Lk xs lo hi)))
theorem Pl:XZ X (Wu X.K):=by
 intro pins s σ H x v vl vu lo hi sl Q I rx hs pl pu h
 obtain ⟨a,xs,rfl,hx,q⟩:=h
 cases rx
 obtain ⟨its,r,ht,hz⟩:=I.list hx
 have hlen:=r.length
 refine ⟨"list",_,slot_list_getitem.lookup,ht.isList.typeIs,?_⟩
 refine wpAny_getItem_list_slice ht.isList hs pl pu .none (by simp) ?_ (by rw [List.size_toArray] <;> omega)
 rw [Fz,← hlen]
 refine ⟨.ref s.heap.objs.size,_,I.laid (t':=s.toks) (o:=.lst (Lk xs lo hi)) (fun b ob q => Heap.get?_push_of_some _ q) (Nat.le_refl _) ?_,rfl,q _ (I.hok.fresh (Nat.le_refl _))⟩
 exact ⟨Nat.le_trans (IJ xs lo hi) hz,_,0,(r.drop (HT.ID xs.length 0 lo)).take (HT.ID xs.length xs.length hi - HT.ID xs.length 0 lo),Heap.get?_push_size _ rfl⟩
def DQ:V→Bool
 | .non => true
 | .bl _ => true
 | .int _ => true
 | .str _ => true
 | _ => false
def JT:V→V→Bool
 | .non,.non => true
 | .bl a,.bl b => a == b
 | .bl a,.int b => (if a then 1 else 0) == b
 | .int a,.bl b => a == (if b then 1 else 0)
 | .int a,.int b => a == b
 | .str a,.str b => a == b
 | _,_ => false
theorem SS {A:Around} {s:Shared} {y x:V} {u v:Value} (ry:RelV y u) (rx:RelV x v) (fy:DQ y = true) (fx:DQ x = true):SeqAt.EqAt A s u v (JT y x):=by
 cases y with
 | non =>
  cases ry
  cases x with
  | non => cases rx; exact SeqAt.EqAt.same _
  | bl b => cases rx; exact SeqAt.EqAt.none_bool b
  | int b => obtain ⟨t,rfl⟩:=rx; exact SeqAt.EqAt.none_int b t
  | str b => obtain ⟨t,rfl⟩:=rx; exact SeqAt.EqAt.none_str b t
  | _ => exact absurd (show false = true from fx) Bool.false_ne_true
 | bl a =>
  cases ry
  cases x with
  | non => cases rx; exact SeqAt.EqAt.bool_none a
  | bl b => cases rx; exact SeqAt.EqAt.bool_bool a b
  | int b => obtain ⟨t,rfl⟩:=rx; exact SeqAt.EqAt.bool_int a b t
  | str b => obtain ⟨t,rfl⟩:=rx; exact SeqAt.EqAt.bool_str a b t
  | _ => exact absurd (show false = true from fx) Bool.false_ne_true
 | int a =>
  obtain ⟨t',rfl⟩:=ry
  cases x with
  | non => cases rx; exact SeqAt.EqAt.int_none a t'
  | bl b => cases rx; exact SeqAt.EqAt.int_bool a t' b
  | int b => obtain ⟨t,rfl⟩:=rx; exact SeqAt.EqAt.int_int a t' b t
  | str b => obtain ⟨t,rfl⟩:=rx; exact SeqAt.EqAt.int_str a t' b t
  | _ => exact absurd (show false = true from fx) Bool.false_ne_true
 | str a =>
  obtain ⟨t',rfl⟩:=ry
  cases x with
  | non => cases rx; exact SeqAt.EqAt.str_none a t'
  | bl b => cases rx; exact SeqAt.EqAt.str_bool a t' b
  | int b => obtain ⟨t,rfl⟩:=rx; exact SeqAt.EqAt.str_int a t' b t
  | str b => obtain ⟨t,rfl⟩:=rx; exact SeqAt.EqAt.str_str a t' b t
  | _ => exact absurd (show false = true from fx) Bool.false_ne_true
 | _ => exact absurd (show false = true from fy) Bool.false_ne_true
def UC (x:V) (u:Value):Bool:=match u with
 | .none => JT .non x
 | .bool b => JT (.bl b) x
 | .int i _ => JT (.int i) x
 | .str z _ => JT (.str z) x
 | _ => false
theorem Je {x y:V} {u:Value} (r:RelV y u) (f:DQ y = true):UC x u = JT y x:=by
 cases y with
 | non => cases r; rfl
 | bl b => cases r; rfl
 | int i => obtain ⟨t,rfl⟩:=r; rfl
 | str z => obtain ⟨t,rfl⟩:=r; rfl
 | _ => exact absurd (show false = true from f) Bool.false_ne_true
theorem Ez {A:Around} {s:Shared} {x:V} {v:Value} (rx:RelV x v) (fx:DQ x = true):∀ {xs:List V} {us:List Value},Vals xs us→xs.all DQ = true→∀ u∈us,SeqAt.EqAt A s u v (UC x u)
 | _,_,.nil,_ => fun u hu => by cases hu
 | y :: xs,u :: us,.cons r t,f => fun u' hu => by
  rw [List.all_cons,Bool.and_eq_true] at f
  rcases List.mem_cons.mp hu with rfl | hu
  ·rw [Je r f.1]; exact SS r rx f.1 fx
  ·exact Ez rx fx t f.2 u' hu
theorem CK:BL X (.builtin "len") (fun xs H Q => ∃ p ys,xs = [.ref p]∧(SqL X.K H p ys∨JS X.K H p ys)∧Q (.int ys.length) H):=by
 intro pins s σ H xs us Q I r h
 obtain ⟨p,ys,rfl,hq,q⟩:=h
 obtain ⟨u,rfl,rx⟩:=EO r
 cases rx
 have hn:=Du
 rcases hq with hq | hq
 ·obtain ⟨its,r',pl,hz⟩:=I.list hq
  have hlen:=r'.length
  exact Calls.call_len_list pl.isList (by simp only [List.size_toArray] <;> omega) ⟨.int ys.length,H,I.tok _,⟨s.toks + 1,by rw [List.size_toArray,hlen]⟩,q⟩
 ·obtain ⟨its,r',pl,hz⟩:=I.tuple hq
  have hlen:=r'.length
  exact len_tuple pl (by simp only [List.size_toArray] <;> omega) ⟨.int ys.length,H,I.tok _,⟨s.toks + 1,by rw [List.size_toArray,hlen]⟩,q⟩
def Wv (K:PySem.W.Frag) (T:String) (x:V) (H:Hp):Prop:=match x with
 | .str _ => T = "str"
 | .int _ => T = "int"
 | .ref p => (T = "list"∧∃ xs,SqL K H p xs)∨(T = "tuple"∧∃ o,K.lookup p = some o∧o.cls = .type "tuple"∧o.dict = none) ∨
   (T = "dict"∧((∃ kvs,H p = some (.dK kvs))∨∃ kvs,H p = some (.dT kvs)))∨(T = "set"∧∃ S n,H p = some (.set S n))
 | _ => False
theorem ST {pins:List (Addr × Obj)} {σ:St} {H:Hp} {s:Shared} {T:String} {x:V} {v:Value} (I:Inv X pins σ H s) (r:RelV x v) (ty:Wv X.K T x H) :
  s.TypeIs v T∧∀ a,v = .ref a→∃ ob,s.heap.get? a = some ob∧ob.dict = none:=by
 cases x with
 | str z =>
  obtain ⟨t,rfl⟩:=r
  cases (show T = "str" from ty)
  exact ⟨typeIs_str s z t,fun _ e => nomatch e⟩
 | int i =>
  obtain ⟨t,rfl⟩:=r
  cases (show T = "int" from ty)
  exact ⟨typeIs_int s i t,fun _ e => nomatch e⟩
 | ref p =>
  cases r
  rcases ty with ⟨rfl,xs,hq⟩ | ⟨rfl,o,hk,hc,hd⟩ | ⟨rfl,hk⟩ | ⟨rfl,S,n,hk⟩
  ·obtain ⟨its,_,pl,_⟩:=I.list hq
   refine ⟨pl.isList.typeIs,fun a e => ?_⟩
   cases e
   obtain ⟨o,n,e,c,hd,_⟩:=pl
   exact ⟨o,e,hd⟩
  ·refine ⟨⟨o,I.kIn p o hk,hc⟩,fun a e => ?_⟩
   cases e
   exact ⟨o,I.kIn _ o hk,hd⟩
  ·have z:∃ o,s.heap.get? p = some o∧o.ExactDict:=by
    rcases hk with ⟨kvs,hk⟩ | ⟨kvs,hk⟩
    ·obtain ⟨_,_,_,_,o,_,_,e,ex,_⟩:=I.hok p _ hk
     exact ⟨o,e,ex⟩
    ·obtain ⟨_,_,_,_,o,_,_,e,ex,_⟩:=I.hok p _ hk
     exact ⟨o,e,ex⟩
   obtain ⟨o,e,ex⟩:=z
   refine ⟨⟨o,e,ex.1⟩,fun a e2 => ?_⟩
   cases e2
   exact ⟨o,e,ex.2.1⟩
  ·obtain ⟨o,_,_,_,e,ex,_⟩:=I.hok p _ hk
   refine ⟨⟨o,e,ex.1⟩,fun a e2 => ?_⟩
   cases e2
   exact ⟨o,e,ex.2.1⟩
 | _ => exact False.elim ty
def Xu (K:PySem.W.Frag) (T:String) (r:V→List V→Hp→VK→Prop) (to:TE) (t:TA):TE:=fun σ H Q => to σ H fun x H1 => Wv K T x H1∧t σ H1 fun xs H2 => r x xs H2 Q
variable {o e:Expr} {es:List Expr} {to:TE} {t:TA} {name:Str} {apos cpos:Pos} {T id:String} {r:V→List V→Hp→VK→Prop}
theorem Mt (pa:PlainAttrs T) (slot:Slot T name id) (hty:typeOf (.builtin id) = pure (.type "method_descriptor")) (hm:Xa X id r) (ho:PE X o to) (ha:PA X (e :: es) t)
  (hbase:attributeBase o name X.env (eval o X.env) = eval o X.env:=by rfl)
  (hfew:((backTo cpos (starEach (e :: es) X.env)).all (fun x => !x.1) && (backToKw cpos (keywordEach [] X.env)).all (fun x => x.1.isSome)
   && decide ((e :: es).length + ([]:List Keyword).length + (if ([]:List Keyword).isEmpty then 0 else 1) < 30)) = true:=by rfl)
  (hline:(apos.endLine == cpos.line) = true:=by rfl) (hs:starEach (e :: es) X.env = (false,eval e X.env) :: starEach es X.env:=by rfl) (hplain:(backTo cpos (starEach es X.env)).any (·.1) = false:=by rfl) :
  PE X (.Call (.Attribute o name apos) (e :: es) [] cpos) (Xu X.K T r to t):=by
 intro pins s σ H Q I h
 refine wpAny_Call_method_late hbase hfew hline rfl (Aq (ho pins s σ H _ I h) fun v s1 ⟨x,H1,I1,r1,ty,q1⟩ => ?_)
 obtain ⟨h1,h2⟩:=ST I1 r1 ty
 refine ⟨T,id,pa,slot,hty,h1,h2,?_⟩
 have hA:=ha cpos pins s1 σ H1 _ I1 q1
 rw [hs] at hA ⊢
 refine Calls.callWith_builtin (by show (false || (backTo cpos (starEach es X.env)).any (·.1)) = false; rw [hplain] <;> rfl) (Calls.evalArgs_plain ?_)
 exact Aq hA fun us s2 ⟨vs,H2,I2,r2,q2⟩ => hm pins s2 σ H2 x vs v us Q I2 r1 r2 q2
end
def Ug (X:Cx) (id:String) (r:V→List V→Hp→VK→Prop):Prop :=
 ∀ (pins:List (Addr × Obj)) (s:Shared) (σ:St) (H:Hp) (x:V) (xs:List V) (v:Value) (us:List Value) (Q:VK),Inv X pins σ H s→RelV x v→Vals xs us→r x xs H Q →
  wpAny (model X.prog X.w) X.A (call (.builtin id) (v :: us)) (EP X pins σ Q) X.xe s
theorem Vals.one:∀ {x:V} {us:List Value},Vals [x] us→∃ u,us = [u]∧RelV x u
 | _,_,.cons r .nil => ⟨_,rfl,r⟩
theorem Vals.eraseIdx:∀ {xs:List V} {us:List Value} (i:Nat),Vals xs us→Vals (xs.eraseIdx i) (us.eraseIdx i)
 | _,_,_,.nil => .nil
 | _,_,0,.cons _ t => t
 | _,_,i + 1,.cons r t => .cons r (Vals.eraseIdx i t)
theorem GP {α:Type}:∀ (l:List α) (i:Nat),(l.eraseIdx i).length≤l.length
 | [],_ => Nat.le_refl _
 | _ :: _,0 => Nat.le_succ _
 | _ :: r,i + 1 => Nat.succ_le_succ (GP r i)
section
variable {X:Cx} {pins:List (Addr × Obj)} {σ:St} {H:Hp} {s:Shared} {l b:Addr} {xs ys zs:List V}
theorem Inv.lset {its its':List Value} {n:Nat} {f:Array Value→Array Value} {t':Nat} (I:Inv X pins σ H s) (hH:H l = some (.lst xs))
  (e:s.heap.get? l = some { cls:=.type "list",data:=.seq its.toArray n }) (hf:f its.toArray = its'.toArray) (hv:Vals ys its') (hz:ys.length≤sizeLine) :
  Inv X pins σ (Aw H l (.lst ys)) { s with heap:=s.heap.update l (Obj.mapSeq f),toks:=t' }:=by
 have q:=PySem.IsL.update e f
 rw [hf] at q
 refine I.write (x:=l) (e:=l) (by rw [hH]; exact trivial) (.inl rfl) (fun b' u hb hu => (Heap.get?_update_other s.heap (Obj.mapSeq f) (Ne.symm hb)).trans hu) ⟨_,q⟩ ?_
 exact ⟨hz,its',_,hv,q⟩
theorem Inv.lnew {its:List Value} {t':Nat} (I:Inv X pins σ H s) (hv:Vals ys its) (hz:ys.length≤sizeLine) :
  Inv X pins σ (Aw H s.heap.objs.size (.lst ys)) { s with heap:=s.heap.push { cls:=.type "list",data:=.seq its.toArray },toks:=t' } :=
 I.laid (fun _ _ q => Heap.get?_push_of_some _ q) (Nat.le_refl _) ⟨hz,its,0,hv,Heap.get?_push_size _ rfl⟩
theorem Inv.fresh (I:Inv X pins σ H s):H s.heap.objs.size = none:=I.hok.fresh (Nat.le_refl _)
theorem Inv.lstM (I:Inv X pins σ H s) (hH:H l = some (.lst xs)):xs.length≤sizeLine∧∃ (its:List Value) (n:Nat),Vals xs its∧xs.length = its.length∧s.heap.get? l = some { cls:=.type "list",data:=.seq its.toArray n }:=by
 obtain ⟨z,its,n,r,e⟩:=I.hok l _ hH
 exact ⟨z,its,n,r,r.length,e⟩
theorem Mu {n:Nat} (h:n≤sizeLine):Builtin.List.listTooLong n = false:=by
 unfold Builtin.List.listTooLong
 exact decide_eq_false (by omega)
end
section
variable {X:Cx}
def Kg:V→List V→Hp→VK→Prop:=fun x vs H Q => ∃ l xs y,x = .ref l∧vs = [y]∧H l = some (.lst xs)∧xs.length < sizeLine∧Q .non (Aw H l (.lst (xs ++ [y])))
theorem GQ:Ug X "list.append" Kg:=by
 intro pins s σ H x vs v us Q I rx rv h
 obtain ⟨l,xs,y,rfl,rfl,hH,hz,q⟩:=h
 cases rx
 obtain ⟨u,rfl,ru⟩:=rv.one
 obtain ⟨z,its,n,r,hl,e⟩:=I.lstM hH
 refine call_meets F.slot_list_append ⟨_,e,rfl⟩ F.entry_list_append (F.args_list_append_2 _ _) (PySem.list_append l its.toArray n u (by rw [List.size_toArray]; omega)) ⟨e,?_⟩
 refine ⟨.non,_,I.lset (its':=its ++ [u]) hH e (by simp) (r.append (.cons ru .nil)) ?_,rfl,q⟩
 rw [List.length_append,List.length_singleton]
 omega
def Pm:V→List V→Hp→VK→Prop:=fun x vs H Q => ∃ l b xs zs,x = .ref l∧vs = [.ref b]∧H l = some (.lst xs)∧H b = some (.lst zs)∧xs.length + zs.length≤sizeLine∧Q .non (Aw H l (.lst (xs ++ zs)))
theorem Ll:Ug X "list.extend" Pm:=by
 intro pins s σ H x vs v us Q I rx rv h
 obtain ⟨l,b,xs,zs,rfl,rfl,hH,hB,hz,q⟩:=h
 cases rx
 obtain ⟨u,rfl,ru⟩:=rv.one
 cases ru
 obtain ⟨z,its,n,r,hl,e⟩:=I.lstM hH
 obtain ⟨z2,its2,n2,r2,hl2,e2⟩:=I.lstM hB
 have hsz:its.toArray.size + its2.toArray.size≤sizeLine:=by rw [List.size_toArray,List.size_toArray]; omega
 have hlong:¬ (!its.toArray.isEmpty && Builtin.List.listTooLong (its.toArray.size + its2.toArray.size)) = true:=by
  rw [Mu hsz,Bool.and_false]
  exact Bool.false_ne_true
 refine call_meets F.slot_list_extend ⟨_,e,rfl⟩ F.entry_list_extend (F.args_list_extend_2 _ _)
  (AutoSeq1.list_extend_list_list_0 l its.toArray n b its2.toArray n2 hlong (by rw [List.size_toArray]; omega) (by omega)) ⟨e,e2,?_⟩
 refine ⟨.non,_,I.lset (its':=its ++ its2) hH e (by simp) (r.append r2) ?_,rfl,q⟩
 rw [List.length_append]
 omega
def SU:V→List V→Hp→VK→Prop:=fun x vs H Q => ∃ l xs i k y,x = .ref l∧vs = [.int i]∧H l = some (.lst xs)∧-(2 ^ 63)≤i∧i < 2 ^ 63∧seqIndex? i xs.length = some k∧xs[k]? = some y∧Q y (Aw H l (.lst (xs.eraseIdx k)))
theorem Mv:Ug X "list.pop" SU:=by
 intro pins s σ H x vs v us Q I rx rv h
 obtain ⟨l,xs,i,k,y,rfl,rfl,hH,h1,h2,hk,hy,q⟩:=h
 cases rx
 obtain ⟨u,rfl,ru⟩:=rv.one
 obtain ⟨t,rfl⟩:=ru
 obtain ⟨z,its,n,r,hl,e⟩:=I.lstM hH
 obtain ⟨w,hw,rw'⟩:=r.get hy
 refine call_meets F.slot_list_pop ⟨_,e,rfl⟩ F.entry_list_pop (F.args_list_pop_2 _ _)
  (MeetsSeq.list_pop_at l its.toArray n i t k w (fitsIndex_both h1 h2) (by rw [List.size_toArray,← hl]; exact hk) (by rw [← Array.getElem?_toList]; exact hw) (by rw [List.size_toArray]; omega)) ⟨e,?_⟩
 refine ⟨y,_,I.lset (its':=its.eraseIdx k) hH e ?_ (r.eraseIdx k) ?_,rw',q⟩
 ·show its.toArray.eraseIdxIfInBounds k = (its.eraseIdx k).toArray
  rw [List.eraseIdxIfInBounds_toArray]
 ·have:=GP xs k
  omega
def Uh:R2:=fun x y H Q => ∃ l b xs zs,x = .ref l∧y = .ref b∧H l = some (.lst xs)∧H b = some (.lst zs)∧xs.length + zs.length≤sizeLine∧∀ p,H p = none→Q (.ref p) (Aw H p (.lst (xs ++ zs)))
theorem Jf:DA X (binaryOp .Add) Uh:=by
 intro pins s σ H x y v u Q I rx ry h
 obtain ⟨l,b,xs,zs,rfl,rfl,hH,hB,hz,q⟩:=h
 cases rx
 cases ry
 obtain ⟨z,its,n,r,hl,e⟩:=I.lstM hH
 obtain ⟨z2,its2,n2,r2,hl2,e2⟩:=I.lstM hB
 refine PySem.P.add_list e e2 ?_ (by rw [List.size_toArray,List.size_toArray]; omega)
 have ea:its.toArray ++ its2.toArray = (its ++ its2).toArray:=by simp
 rw [ea]
 exact ⟨.ref _,_,I.lnew (t':=s.toks) (r.append r2) (by rw [List.length_append]; omega),rfl,q _ I.fresh⟩
end
section
variable {prog:Program} {w:World} {A:Around} {E:Value→Shared→Prop} {s:Shared}
end
section
variable {X:Cx}
end
end L2
namespace Att
open PySem PySem.W PySem.Calls PyProof.Rows
theorem Ea {P:Params} {h:Heap}:∀ (ns:List Int) (vs:List Value),WellAll P h vs (ns.map WData.int)→IntsAre vs ns:=by
 intro ns
 induction ns with
 | nil =>
  intro vs w
  rw [List.map_nil] at w
  cases w
  exact .nil
 | cons n ns ih =>
  intro vs w
  rw [List.map_cons] at w
  cases w with
  | cons a b =>
   cases a
   exact .cons _ _ (ih _ b)
theorem Lm {l:OpenLaw} {n:Nat} (hn:l.most = some n) {P:Params} {h:Heap} {args:List WData} {vals:List Value}
  (hpre:l.row.toRowW.claim.pre args = true) (hwl:WellAll P h vals args) :
  ∃ a vs ns,vals = [Value.ref a]∧args = [WData.list (ns.map WData.int)]∧h.get? a = some { cls:=.type "list",data:=.seq vs.toArray }∧IntsAre vs ns∧ns.length≤n:=by
 have hsh:WShape.hasAll [] args [.list .int] = true:=(pre_splitW hpre).1
 have hc:l.pre.holds [] { args:=args } = true:=(pre_splitW hpre).2
 obtain ⟨d,r,rfl,h1,h2⟩:=hasAllW_cons hsh
 obtain rfl:=hasAllW_nil h2
 obtain ⟨xs,rfl,h3⟩:=hasW_list h1
 obtain ⟨ns,rfl⟩:=items_int h3
 have hlen:ns.length≤n:=by
  unfold OpenLaw.pre at hc
  have h4:(WTm.not (.lt (.lit (.int (n:Int))) (.len (.arg 0)))).holds [] { args:=[.list (ns.map .int)] } = true:=by
   have h4:=(holds_andW hc).1
   rw [hn] at h4
   exact h4
  have h5:=condW_of h4 (w_not (w_lt w_lit (w_len_list (w_arg rfl))))
  rw [List.length_map] at h5
  refine Nat.le_of_not_lt fun q => ?_
  have q':(n:Int) < ((ns.length:Nat):Int):=by omega
  first
   | (rw [decide_eq_true q'] at h5; exact absurd h5 (by decide))
   | (simp at h5; omega)
 cases hwl with
 | cons w1 w2 =>
  cases w2
  cases w1 with
  | list ho hall => exact ⟨_,_,ns,rfl,rfl,ho,Ea ns _ hall,hlen⟩
theorem Ln (l:OpenLaw) (args:List WData):l.row.toRowW.claim.post args (.bool true) args = true :=
 postW_of (r:=l.row.toRowW) (X:=(true == true))
  (show WShape.has [] (.bool true) .bool = true by first | rfl | decide | simp [WShape.has,WShape.arms,WShape.armsAll])
  (show (WTm.eq .res (.lit (.bool true))).value [] { args:=args,res:=some (.bool true),after:=args } = some (.bool (true == true)) from w_eq_bool (w_res rfl) w_lit) rfl
theorem IL {l:OpenLaw} {n:Nat} {q:Program} {loose:List Str} {XP:(Str→Option Value)→Heap→Prop} {YP:World→Heap→Prop} {d:DefRec}
  (hn:l.most = some n) (hdf:d.params.defaults = [])
  (call:∀ (w:World) (s₀ s₁:Shared) (mg mb:Str→Option Value) (fa:Addr) (o:Obj) (pm cd doc:Value) (a:Addr) (vs:List Value) (ns:List Int),
   Ground q loose [] XP w s₀ mg mb s₁.heap→YP w s₁.heap →
   s₁.heap.get? fa = some o→o.data = .func (docDef d.name d.params d.body d.scope pm cd doc)→s₁.heap.CodeRec cd d.name→mg d.name = some (.ref fa) →
   s₁.heap.get? a = some { cls:=.type "list",data:=.seq vs.toArray }→IntsAre vs ns→ns.length≤n→s₁.gens = #[] →
   codeAny (model l.prog w) callerA (.call (.ref fa) ⟨[.ref a],[]⟩) (fun r s' => r = .ok (.ret (.bool true))∧OldK s₁.heap s'.heap∧s'.os = s₁.os∧AllBare s'.gens) s₁) :
  WalkO q loose XP YP l.row.toRowW d [] (fun f vs => PySem.call f vs):=by
 intro w s₀ s₁ mg mb G Y fa o pm cd doc dV kV ho hd hcd hD hmg hg args vals as hpre hlay hrd hwl hlo
 obtain rfl:dV = .none:=Dflts.none hD hdf
 obtain rfl:kV = .none:=Dflts.noKw hD
 obtain ⟨a,vs,ns,rfl,rfl,hobj,hints,hlen⟩:=Lm hn hpre hwl
 refine enter_call (codeAny_mono (call w s₀ s₁ mg mb fa o pm cd doc a vs ns G Y ho (fd_plain hd) hcd hmg hobj hints hlen hg) fun r s' hq => ?_)
 obtain ⟨rfl,h2,h3,h4⟩:=hq
 exact ⟨.inl ⟨.bool true,.bool true,[],rfl,fun _ => rfl,.bool true,Ln l _,fun _ => ⟨List.Pairwise.nil,fun _ hm => (nomatch hm)⟩⟩,h2,h3,h4⟩
section
variable {prog:Program} {w:World} {A:Around} {E:Value→Shared→Prop} {s:Shared} {K:Frag}
end
end Att
namespace L2
open PySem PySem.Spec PyProof.Rows
theorem Dw:∀ {vs:List Value} {ns:List Int},IntsAre vs ns→Vals (ns.map V.int) vs
 | _,_,.nil => .nil
 | _,_,.cons n t h => .cons ⟨t,rfl⟩ (Dw h)
def SV (H:Hp):Prop:=∀ b,H b = none∨∃ o xs,H b = some (.frz o (.lst xs))
theorem Mw {P:Program} {w:World} {K:PySem.W.Frag} {mg mb:Str→Option Value} {CX:Mo} {k:Nat} {fa a:Addr} {fd:FuncData} {x:Str} {sp:Sp} {s₁:Shared} {vs:List Value} {ns:List Int}
  (KX:K.In s₁.heap) (hns:s₁.heap.Ns mainGlobals mg) (hb:s₁.heap.Ns builtinsNs mb) (hbb:∀ x:Str,x≠"__name__"→mb x = bootBuiltins x) (hlim:s₁.heap.NoLimit) (hg:s₁.gens = #[])
  (ha:s₁.heap.get? a = some { cls:=.type "list",data:=.seq vs.toArray }) (hi:IntsAre vs ns) (hl:ns.length≤sizeLine) (hr:Room k callerA)
  (F:∀ base:Heap,K.In base→base.Ns mainGlobals mg→FnOk P w K mg base CX k fa fd [x] sp) (hbind:∀ (s:Shared) (u:Value),BindsTo s fd ⟨[u],[]⟩ [(x,u)])
  (hsp:∀ H:Hp,SV H→SqL K H a (ns.map V.int)→sp [.ref a] H (fun v _ => v = .bl true) fun _ _ _ => False)
  (hCX:∀ H e s',CX [] H s₁ (fun _ _ _ => False) e s'→False) :
  codeAny (model P w) callerA (.call (.ref fa) ⟨[.ref a],[]⟩) (fun r s' => r = .ok (.ret (.bool true))∧OldK s₁.heap s'.heap∧s'.os = s₁.os∧AllBare s'.gens) s₁:=by
 have rv:=Dw hi
 have lenV:=hi.length
 have core:∀ H:Hp,SV H→SqL K H a (ns.map V.int)→HOk P w H s₁.heap→(∀ b,H b≠none→b = a)→(H a≠none→K.lookup a = none) →
   codeAny (model P w) callerA (.call (.ref fa) ⟨[.ref a],[]⟩) (fun r s' => r = .ok (.ret (.bool true))∧OldK s₁.heap s'.heap∧s'.os = s₁.os∧AllBare s'.gens) s₁:=by
  intro H hO hS hok hA hK
  have base_of:∀ {b:Addr} {o:Obj},s₁.heap.get? b = some o→H b = none→(Gq s₁.heap H).get? b = some o:=fun e n => MV e n
  have noA:∀ {b:Addr} {o:Obj} {es:Array DictEntry} {ep:Nat},s₁.heap.get? b = some o→o.data = .dict es ep→H b = none:=fun {b o es ep} e d => by
   cases q:H b with
   | none => rfl
   | some u =>
    have e':b = a:=hA b (by rw [q]; simp)
    subst e'
    rw [ha] at e; cases e
    have d':Data.seq vs.toArray _ = Data.dict es ep:=d
    cases d'
  have nsK:∀ {b:Addr} {m:Str→Option Value},s₁.heap.Ns b m→(Gq s₁.heap H).Ns b m:=fun {b m} ⟨o,es,ep,e,d,r⟩ => ⟨o,es,ep,base_of e (noA e d),d,r⟩
  have hKb:K.In (Gq s₁.heap H):=fun b o e => base_of (KX b o e) (by
   cases q:H b with
   | none => rfl
   | some u =>
    have e':b = a:=hA b (by rw [q]; simp)
    subst e'
    rw [hK (by rw [q]; simp)] at e; cases e)
  have hM:Mod K mg (Gq s₁.heap H):=⟨hKb,nsK hns,⟨mb,nsK hb,hbb⟩,let ⟨mc,h1,h2⟩:=hlim; ⟨mc,nsK h1,h2⟩⟩
  have e0:Env0 P w K mg (Gq s₁.heap H) callerA [] s₁ H:=⟨rfl,hM,fun b o e => Pa e,Nat.le_of_eq (Lb _ _),trivial,fun b hb => absurd (show b∈([]:List Addr) from hb) (by simp),hok,.of_eq hg⟩
  refine codeAny_mono ((F _ hKb (nsK hns)).run callerA [] s₁ H ⟨[.ref a],[]⟩ [.ref a] [.ref a] _ _ hr e0 (hbind s₁ (.ref a)) (.cons rfl .nil) (hsp H hO hS)) fun r s' h => ?_
  cases r with
  | error e => exact (hCX H e s' h).elim
  | ok fl =>
   cases fl with
   | next => exact False.elim h
   | brk => exact False.elim h
   | cont => exact False.elim h
   | ret u =>
    obtain ⟨v,H',os,bare,un,hok',r',q⟩:=h
    have q':v = .bl true:=q
    subst q'
    obtain rfl:u = Value.bool true:=r'
    refine ⟨rfl,OldK.of_keep fun b o e => ?_,os,bare⟩
    cases q:H b with
    | none => exact un.keep b o e q (by intro z; exact absurd (show b∈([]:List Addr) from z) (by simp)) (by simp)
    | some u =>
     rcases hO b with z | ⟨ob,xs,z⟩
     ·rw [q] at z; cases z
     ·have z2:=un.frzs b ob _ z
      obtain ⟨e1,_⟩:=hok b _ z
      obtain ⟨e2,_⟩:=hok' b _ z2
      rw [e] at e1; cases e1
      exact e2
 cases hk:K.lookup a with
 | some o =>
  have e:=KX a o hk
  rw [ha] at e
  cases e
  refine core (fun _ => none) (fun _ => .inl rfl) (.inr ⟨_,vs.toArray,_,hk,rfl,rfl,rfl,by rw [List.size_toArray,lenV]; exact hl,by simpa using rv⟩) (fun b u z => by have z':(none:Option HO) = some u:=z; cases z') (fun b z => absurd rfl z) fun z => absurd rfl z
 | none =>
  refine core (fun b => if b = a then some (.frz { cls:=.type "list",data:=.seq vs.toArray } (.lst (ns.map V.int))) else none) (fun b => ?_) (.inl (.inr ⟨{ cls:=.type "list",data:=.seq vs.toArray },if_pos rfl⟩)) (fun b u z => ?_) (fun b z => ?_) fun _ => hk
  ·by_cases hb:b = a
   ·exact .inr ⟨_,_,if_pos hb⟩
   ·exact .inl (if_neg hb)
  ·by_cases hb:b = a
   ·have z':=(if_pos hb).symm.trans z
    cases z'
    subst hb
    exact ⟨ha,by rw [List.length_map]; exact hl,vs,_,rv,ha⟩
   ·have z':=(if_neg hb).symm.trans z
    cases z'
  ·by_cases hb:b = a
   ·exact hb
   ·exact absurd (if_neg hb) z
theorem Pn {l:PySem.W.OpenLaw} {n k:Nat} {q:Program} {loose:List Str} {XP:(Str→Option Value)→Heap→Prop} {YP:World→Heap→Prop} {d:DefRec} {K:Params→PySem.W.Frag} {CX:World→Mo} {sp:World→Sp} {x:Str}
  (hn:l.most = some n) (hn2:n≤sizeLine) (hdf:d.params.defaults = []) (hr:Room k callerA)
  (hY:∀ (w:World) (h:Heap),YP w h→(K w.params).In h)
  (F:∀ (w:World) (mg:Str→Option Value) (fa:Addr) (h:Heap),(K w.params).In h→h.Ns mainGlobals mg→mg d.name = some (.ref fa) →
   ∃ fd:FuncData,(∀ (s:Shared) (u:Value),BindsTo s fd ⟨[u],[]⟩ [(x,u)]) ∧
    ∀ base:Heap,(K w.params).In base→base.Ns mainGlobals mg→FnOk l.prog w (K w.params) mg base (CX w) k fa fd [x] (sp w))
  (hsp:∀ (w:World) (H:Hp) (a:Addr) (ns:List Int),ns.length≤n→SV H→SqL (K w.params) H a (ns.map V.int)→sp w [.ref a] H (fun v _ => v = .bl true) fun _ _ _ => False)
  (hCX:∀ (w:World) (H:Hp) (s:Shared) (e:Value) (s':Shared),CX w [] H s (fun _ _ _ => False) e s'→False) :
  PySem.W.WalkO q loose XP YP l.row.toRowW d [] (fun f vs => PySem.call f vs):=by
 refine Att.IL hn hdf fun w s₀ s₁ mg mb fa o pm cd doc a vs ns G Y ho hd hcd hmg hobj hints hlen hg => ?_
 have KX:=hY w _ Y
 obtain ⟨fd,hb,hF⟩:=F w mg fa _ KX G.T.g hmg
 exact Mw KX G.T.g G.T.b G.T.builtins G.T.nolimit hg hobj hints (Nat.le_trans hlen hn2) hr hF hb (fun H hO hS => hsp w H a ns hlen hO hS) fun H e s' => hCX w H s₁ e s'
def Di (s:Stmt):Arguments:=match s with
 | .FunctionDef _ a _ _ _ _ _ _ _ _ => a
 | _ => { posonlyargs:=[],args:=[],vararg:=none,kwonlyargs:=[],kw_defaults:=[],kwarg:=none,defaults:=[] }
def Am (s:Stmt):List Stmt:=match s with
 | .FunctionDef _ _ b _ _ _ _ _ _ _ => b
 | _ => []
def AA (s:Stmt):Scope:=match s with
 | .FunctionDef _ _ _ _ _ _ sc _ _ _ => sc
 | _ => { kind:=.function,names:=[],isGenerator:=false,isCoroutine:=false }
abbrev Ww:Mo:=fun _ _ _ _ _ _ => False
abbrev E0:XK:=fun _ _ _ => False
structure Fun (K:PySem.W.Frag) (x qual:Str) (st:Stmt) (f:Addr) (fd:FuncData):Prop where
 ex:∃ (oc:Value) (od:Option Addr) (kV doc pm:Value) (an:Option Addr) (cdv ct:Value) (osl:Array (Option Value)),
  fd = PySem.W.fnOf x qual (Di st) (Am st) (AA st) .none kV doc pm an cdv ct∧K.lookup f = some ⟨oc,od,.func fd,osl⟩∧PySem.W.codeIn K cdv qual = true
 kp:PySem.W.keepIn K (.ref f) = true
section
variable {P:Program} {w:World} {K:PySem.W.Frag} {mg:Str→Option Value} {base:Heap}
theorem Fun.binds {x qual:Str} {st:Stmt} {f:Addr} {fd:FuncData} {ps:List Str} (F:Fun K x qual st f fd)
  (h:∀ (kV doc pm:Value) (an:Option Addr) (cdv ct:Value) (us:List Value),us.length = ps.length→bindArgs (PySem.W.fnOf x qual (Di st) (Am st) (AA st) .none kV doc pm an cdv ct) ⟨us,[]⟩ = pure (ps.zip us)):Binds K fd ps []:=by
 obtain ⟨oc,od,kV,doc,pm,an,cdv,ct,osl,rfl,lk,hcd⟩:=F.ex
 exact .all (h kV doc pm an cdv ct)
end
section
variable {X:Cx}
theorem pv (i:Nat) {x:Str} {pos:Pos} (hN:X.N[i]? = some x:=by rfl) (hv:Rr X.env.scope x:=by first | exact Or.inl rfl | exact Or.inr (Or.inl rfl) | exact Or.inr (Or.inr rfl)) (hd:(x == ("__debug__" : Str)) = false:=by decide)
  (hcd:(x == ("__classdict__" : Str)) = false:=by decide):PE X (.Name x pos) (Rs i):=JU hN hv hd hcd
end
theorem DO {A B:Prop} (h:B):if false = true then A else B:=by
 rw [if_neg Bool.false_ne_true]
 exact h
theorem Eb {A B:Prop} (h:A):if true = true then A else B:=by
 rw [if_pos rfl]
 exact h
theorem Wx {c A B:Prop} [Decidable c] (h1:c→A) (h2:¬ c→B):if c then A else B:=by
 by_cases h:c
 ·rw [if_pos h]
  exact h1 h
 ·rw [if_neg h]
  exact h2 h
def Same (H H':Hp):Prop:=∀ b o,H b = some o→H' b = some o
theorem Same.refl (H:Hp):Same H H:=fun _ _ h => h
end L2
set_option maxHeartbeats 4000000
namespace K24
open PySem L2
def kE (P:Params) (x:Str) (n:Tok) (v:Value):DictEntry:=⟨PyData.keyHash P x,.str x n,v⟩
def tp (i:Nat):Stmt:=PySem.Challenge.pw_noshortring_k24_lacking_ties.main.body.getD i (.Pass ⟨0,0,0,0⟩)
def kF (x:Str) (i:Nat) (m:Str) (t:Tok) (c:Addr):Obj:=⟨.type "function",none,.func (PySem.W.fnOf x x (Di (tp i)) (Am (tp i)) (AA (tp i)) .none .none .none (.str m t) none (.ref c) .none),#[]⟩
def kC (x:Str) (a b c:Tok) (vs:List Value):Obj:=⟨.type "code",none,.fields ((Value.str x a :: .str x b :: .str "/claim/cut.py" c :: vs).toArray),#[]⟩
def kD (x:Str) (a b c:Tok) (l n:Int) (r:Addr) (g:Int) (q:Addr) (z:Int) (k:Tok) (vs:List Value):Obj:=kC x a b c (.int l 0 :: .int n 0 :: .int 0 0 :: .int 0 0 :: .int 3 0 :: .ref r :: .bool true :: .int g 0 :: .ref q :: (vs ++ [.int z 0,.int l 0,.str "/claim/cut.py" k]))
def Kk:Params→PySem.W.Frag:=fun P => (nat_lit 3,⟨(.type "dict"),none,(.dict #[kE P "__name__" 165 (.str "law_noshortring_k24_lacking_ties" 475),kE P "__doc__" 166 .none,kE P "__package__" 167 .none,kE P "__loader__" 168 (.builtin "__main__.__loader__#opaque"),kE P "__spec__" 169 .none,kE P "__annotations__" 170 (.ref 6),kE P "__builtins__" 171 (.ref 4),kE P "__file__" 173 (.str "/claim/cut.py" 172),kE P "__cached__" 174 .none,kE P "RingError" 206 (.ref 24),kE P "NoPlace" 222 (.ref 37),kE P "NoNumber" 238 (.ref 49),kE P "NoLine" 254 (.ref 61),kE P "NoRing" 270 (.ref 73),kE P "NotEven" 286 (.ref 85),kE P "NoWeb" 311 (.ref 104),kE P "NoText" 336 (.ref 123),kE P "TooGreat" 363 (.ref 142),kE P "is_whole" 374 (.ref 151),kE P "need_number" 383 (.ref 158),kE P "LEAST_RING" 387 (.int 3 386),kE P "is_place" 395 (.ref 165),kE P "need_place" 403 (.ref 172),kE P "nears_of" 409 (.ref 177),kE P "fars_from" 415 (.ref 182),kE P "MOST_TIES" 419 (.int 15 418),kE P "MOST_RING" 421 (.int 16 420),kE P "need_any_ties" 428 (.ref 189),kE P "need_ring" 435 (.ref 196),kE P "need_any_ties_and_ring" 443 (.ref 203),kE P "ties_at" 451 (.ref 208),kE P "places_to_tie" 457 (.ref 213),kE P "may_tie" 468 (.ref 220),kE P "lacks" 474 (.ref 225),kE P "_law_cell_at" 484 (.ref 232),kE P "_law_next" 491 (.ref 239),kE P "_law_pen_of" 499 (.ref 246),kE P "_law_draw" 508 (.ref 253),kE P "_law_whole_of" 515 (.ref 260),kE P "_law_kind_of" 523 (.ref 267),kE P "_law_refused" 531 (.ref 274),kE P "_law_web_of" 537 (.ref 279),kE P "_law_near" 543 (.ref 284),kE P "_law_round" 549 (.ref 289),kE P "_law_fars" 555 (.ref 294),kE P "_law_through" 561 (.ref 299),kE P "_law_shortest" 567 (.ref 304),kE P "_law_lacks_of" 573 (.ref 309),kE P "_law_part_of" 579 (.ref 314),kE P "_law_partners" 593 (.ref 321),kE P "_law_odd_of" 602 (.ref 328),kE P "_law_no_place" 611 (.ref 335),kE P "_law_told_of" 624 (.ref 342),kE P "_law_right" 638 (.ref 349),kE P "law" 644 (.ref 354)] 55),#[]⟩) ::
  (nat_lit 23,⟨(.type "dict"),none,(.dict #[kE P "__module__" 196 (.str "noshortring.errors" 187),kE P "__firstlineno__" 200 (.int 2 199),kE P "__static_attributes__" 201 (.ref 22),kE P "__weakref__" 203 (.ref 25),kE P "__doc__" 204 .none] 3),#[]⟩) ::
  (nat_lit 24,⟨(.type "type"),none,(.cls ⟨"RingError",[(.type "ValueError")],[(.ref 24),(.type "ValueError"),(.type "Exception"),(.type "BaseException"),(.type "object")],23,"RingError",true,[],[(.ref 37),(.ref 49),(.ref 61),(.ref 73),(.ref 85),(.ref 104),(.ref 123),(.ref 142)],false,none,false⟩),#[(some (.ref 15)),none,(some (.str "RingError" 189)),(some (.str "RingError" 197)),(some (.builtin "ValueError.__new__")),(some (.bool true))]⟩) ::
  (nat_lit 36,⟨(.type "dict"),none,(.dict #[kE P "__module__" 214 (.str "noshortring.errors" 187),kE P "__firstlineno__" 218 (.int 4 217),kE P "__static_attributes__" 219 (.ref 35),kE P "__doc__" 220 .none] 2),#[]⟩) ::
  (nat_lit 37,⟨(.type "type"),none,(.cls ⟨"NoPlace",[(.ref 24)],[(.ref 37),(.ref 24),(.type "ValueError"),(.type "Exception"),(.type "BaseException"),(.type "object")],36,"NoPlace",true,[],[],false,none,false⟩),#[(some (.ref 28)),none,(some (.str "NoPlace" 207)),(some (.str "NoPlace" 215)),(some (.builtin "ValueError.__new__")),(some (.bool true))]⟩) ::
  (nat_lit 48,⟨(.type "dict"),none,(.dict #[kE P "__module__" 230 (.str "noshortring.errors" 187),kE P "__firstlineno__" 234 (.int 6 233),kE P "__static_attributes__" 235 (.ref 47),kE P "__doc__" 236 .none] 2),#[]⟩) ::
  (nat_lit 49,⟨(.type "type"),none,(.cls ⟨"NoNumber",[(.ref 24)],[(.ref 49),(.ref 24),(.type "ValueError"),(.type "Exception"),(.type "BaseException"),(.type "object")],48,"NoNumber",true,[],[],false,none,false⟩),#[(some (.ref 40)),none,(some (.str "NoNumber" 223)),(some (.str "NoNumber" 231)),(some (.builtin "ValueError.__new__")),(some (.bool true))]⟩) ::
  (nat_lit 61,⟨(.type "type"),none,(.cls ⟨"NoLine",[(.ref 24)],[(.ref 61),(.ref 24),(.type "ValueError"),(.type "Exception"),(.type "BaseException"),(.type "object")],60,"NoLine",true,[],[],false,none,false⟩),#[(some (.ref 52)),none,(some (.str "NoLine" 239)),(some (.str "NoLine" 247)),(some (.builtin "ValueError.__new__")),(some (.bool true))]⟩) ::
  (nat_lit 73,⟨(.type "type"),none,(.cls ⟨"NoRing",[(.ref 24)],[(.ref 73),(.ref 24),(.type "ValueError"),(.type "Exception"),(.type "BaseException"),(.type "object")],72,"NoRing",true,[],[],false,none,false⟩),#[(some (.ref 64)),none,(some (.str "NoRing" 255)),(some (.str "NoRing" 263)),(some (.builtin "ValueError.__new__")),(some (.bool true))]⟩) ::
  (nat_lit 85,⟨(.type "type"),none,(.cls ⟨"NotEven",[(.ref 24)],[(.ref 85),(.ref 24),(.type "ValueError"),(.type "Exception"),(.type "BaseException"),(.type "object")],84,"NotEven",true,[],[],false,none,false⟩),#[(some (.ref 76)),none,(some (.str "NotEven" 271)),(some (.str "NotEven" 279)),(some (.builtin "ValueError.__new__")),(some (.bool true))]⟩) ::
  (nat_lit 104,⟨(.type "type"),none,(.cls ⟨"NoWeb",[(.ref 24)],[(.ref 104),(.ref 24),(.type "ValueError"),(.type "Exception"),(.type "BaseException"),(.type "object")],103,"NoWeb",true,[],[],false,none,false⟩),#[(some (.ref 88)),none,(some (.str "NoWeb" 287)),(some (.str "NoWeb" 295)),(some (.builtin "ValueError.__new__")),(some (.bool true))]⟩) ::
  (nat_lit 123,⟨(.type "type"),none,(.cls ⟨"NoText",[(.ref 24)],[(.ref 123),(.ref 24),(.type "ValueError"),(.type "Exception"),(.type "BaseException"),(.type "object")],122,"NoText",true,[],[],false,none,false⟩),#[(some (.ref 107)),none,(some (.str "NoText" 312)),(some (.str "NoText" 320)),(some (.builtin "ValueError.__new__")),(some (.bool true))]⟩) ::
  (nat_lit 142,⟨(.type "type"),none,(.cls ⟨"TooGreat",[(.ref 24)],[(.ref 142),(.ref 24),(.type "ValueError"),(.type "Exception"),(.type "BaseException"),(.type "object")],141,"TooGreat",true,[],[],false,none,false⟩),#[(some (.ref 126)),none,(some (.str "TooGreat" 337)),(some (.str "TooGreat" 345)),(some (.builtin "ValueError.__new__")),(some (.bool true))]⟩) ::
  (nat_lit 150,kD "is_whole" 366 367 368 28 3 145 181 146 372 373 [.none,(.ref 147),(.ref 148),(.ref 149)]) ::
  (nat_lit 151,kF "is_whole" 11 "noshortring.common" 364 150) ::
  (nat_lit 157,kD "need_number" 375 376 377 32 3 152 181 153 381 382 [.none,(.ref 154),(.ref 155),(.ref 156)]) ::
  (nat_lit 158,kF "need_number" 12 "noshortring.common" 364 157) ::
  (nat_lit 164,kD "is_place" 388 389 390 37 2 159 181 160 393 394 [.none,(.ref 161),(.ref 162),(.ref 163)]) ::
  (nat_lit 165,kF "is_place" 15 "noshortring.webs" 384 164) ::
  (nat_lit 171,kD "need_place" 396 397 398 39 2 166 181 167 401 402 [.none,(.ref 168),(.ref 169),(.ref 170)]) ::
  (nat_lit 172,kF "need_place" 16 "noshortring.webs" 384 171) ::
  (nat_lit 176,kD "nears_of" 404 405 406 42 1 173 181 174 407 408 [.none,.none,.none,(.ref 175)]) ::
  (nat_lit 177,kF "nears_of" 17 "noshortring.webs" 384 176) ::
  (nat_lit 181,kD "fars_from" 410 411 412 48 2 178 181 179 413 414 [.none,.none,.none,(.ref 180)]) ::
  (nat_lit 182,kF "fars_from" 18 "noshortring.webs" 384 181) ::
  (nat_lit 188,kD "need_any_ties" 422 423 424 67 1 183 181 184 426 427 [.none,(.ref 185),(.ref 186),(.ref 187)]) ::
  (nat_lit 189,kF "need_any_ties" 22 "noshortring.fewest" 416 188) ::
  (nat_lit 195,kD "need_ring" 429 430 431 69 1 190 181 191 433 434 [.none,(.ref 192),(.ref 193),(.ref 194)]) ::
  (nat_lit 196,kF "need_ring" 23 "noshortring.fewest" 416 195) ::
  (nat_lit 202,kD "need_any_ties_and_ring" 436 437 438 71 2 197 181 198 441 442 [.none,(.ref 199),(.ref 200),(.ref 201)]) ::
  (nat_lit 203,kF "need_any_ties_and_ring" 24 "noshortring.fewest" 416 202) ::
  (nat_lit 207,kD "ties_at" 446 447 448 75 1 204 181 205 449 450 [.none,.none,.none,(.ref 206)]) ::
  (nat_lit 208,kF "ties_at" 26 "noshortring.papers" 444 207) ::
  (nat_lit 212,kD "places_to_tie" 452 453 454 77 4 209 181 210 455 456 [.none,.none,.none,(.ref 211)]) ::
  (nat_lit 213,kF "places_to_tie" 27 "noshortring.papers" 444 212) ::
  (nat_lit 219,kD "may_tie" 458 459 460 83 5 214 181 215 466 467 [.none,(.ref 216),(.ref 217),(.ref 218)]) ::
  (nat_lit 220,kF "may_tie" 28 "noshortring.papers" 444 219) ::
  (nat_lit 224,kD "lacks" 469 470 471 88 2 221 181 222 472 473 [.none,.none,.none,(.ref 223)]) ::
  (nat_lit 225,kF "lacks" 29 "noshortring.papers" 444 224) ::
  (nat_lit 231,kD "_law_cell_at" 477 478 479 92 2 226 181 227 482 483 [.none,(.ref 228),(.ref 229),(.ref 230)]) ::
  (nat_lit 232,kF "_law_cell_at" 31 "law_noshortring_k24_lacking_ties" 475 231) ::
  (nat_lit 238,kD "_law_next" 485 486 487 96 1 233 181 234 489 490 [.none,(.ref 235),(.ref 236),(.ref 237)]) ::
  (nat_lit 239,kF "_law_next" 32 "law_noshortring_k24_lacking_ties" 475 238) ::
  (nat_lit 245,kD "_law_pen_of" 492 493 494 99 1 240 181 241 497 498 [.none,(.ref 242),(.ref 243),(.ref 244)]) ::
  (nat_lit 246,kF "_law_pen_of" 33 "law_noshortring_k24_lacking_ties" 475 245) ::
  (nat_lit 252,kD "_law_draw" 500 501 502 102 2 247 181 248 506 507 [.none,(.ref 249),(.ref 250),(.ref 251)]) ::
  (nat_lit 253,kF "_law_draw" 34 "law_noshortring_k24_lacking_ties" 475 252) ::
  (nat_lit 259,kD "_law_whole_of" 509 510 511 109 1 254 181 255 513 514 [.none,(.ref 256),(.ref 257),(.ref 258)]) ::
  (nat_lit 260,kF "_law_whole_of" 35 "law_noshortring_k24_lacking_ties" 475 259) ::
  (nat_lit 266,kD "_law_kind_of" 516 517 518 111 1 261 181 262 521 522 [.none,(.ref 263),(.ref 264),(.ref 265)]) ::
  (nat_lit 267,kF "_law_kind_of" 36 "law_noshortring_k24_lacking_ties" 475 266) ::
  (nat_lit 273,kD "_law_refused" 524 525 526 117 1 268 181 269 529 530 [.none,(.ref 270),(.ref 271),(.ref 272)]) ::
  (nat_lit 274,kF "_law_refused" 37 "law_noshortring_k24_lacking_ties" 475 273) ::
  (nat_lit 278,kD "_law_web_of" 532 533 534 124 2 275 181 276 535 536 [.none,.none,.none,(.ref 277)]) ::
  (nat_lit 279,kF "_law_web_of" 38 "law_noshortring_k24_lacking_ties" 475 278) ::
  (nat_lit 283,kD "_law_near" 538 539 540 126 2 280 181 281 541 542 [.none,.none,.none,(.ref 282)]) ::
  (nat_lit 284,kF "_law_near" 39 "law_noshortring_k24_lacking_ties" 475 283) ::
  (nat_lit 288,kD "_law_round" 544 545 546 128 3 285 181 286 547 548 [.none,.none,.none,(.ref 287)]) ::
  (nat_lit 289,kF "_law_round" 40 "law_noshortring_k24_lacking_ties" 475 288) ::
  (nat_lit 293,kD "_law_fars" 550 551 552 130 2 290 181 291 553 554 [.none,.none,.none,(.ref 292)]) ::
  (nat_lit 294,kF "_law_fars" 41 "law_noshortring_k24_lacking_ties" 475 293) ::
  (nat_lit 298,kD "_law_through" 556 557 558 143 2 295 181 296 559 560 [.none,.none,.none,(.ref 297)]) ::
  (nat_lit 299,kF "_law_through" 42 "law_noshortring_k24_lacking_ties" 475 298) ::
  (nat_lit 303,kD "_law_shortest" 562 563 564 147 1 300 181 301 565 566 [.none,.none,.none,(.ref 302)]) ::
  (nat_lit 304,kF "_law_shortest" 43 "law_noshortring_k24_lacking_ties" 475 303) ::
  (nat_lit 308,kD "_law_lacks_of" 568 569 570 150 2 305 181 306 571 572 [.none,.none,.none,(.ref 307)]) ::
  (nat_lit 309,kF "_law_lacks_of" 44 "law_noshortring_k24_lacking_ties" 475 308) ::
  (nat_lit 313,kD "_law_part_of" 574 575 576 152 2 310 181 311 577 578 [.none,.none,.none,(.ref 312)]) ::
  (nat_lit 314,kF "_law_part_of" 45 "law_noshortring_k24_lacking_ties" 475 313) ::
  (nat_lit 320,kD "_law_partners" 580 581 582 182 4 315 181 316 591 592 [.none,(.ref 317),(.ref 318),(.ref 319)]) ::
  (nat_lit 321,kF "_law_partners" 46 "law_noshortring_k24_lacking_ties" 475 320) ::
  (nat_lit 327,kD "_law_odd_of" 594 595 596 190 3 322 181 323 600 601 [.none,(.ref 324),(.ref 325),(.ref 326)]) ::
  (nat_lit 328,kF "_law_odd_of" 47 "law_noshortring_k24_lacking_ties" 475 327) ::
  (nat_lit 334,kD "_law_no_place" 603 604 605 192 2 329 181 330 609 610 [.none,(.ref 331),(.ref 332),(.ref 333)]) ::
  (nat_lit 335,kF "_law_no_place" 48 "law_noshortring_k24_lacking_ties" 475 334) ::
  (nat_lit 341,kD "_law_told_of" 612 613 614 195 6 336 181 337 622 623 [.none,(.ref 338),(.ref 339),(.ref 340)]) ::
  (nat_lit 342,kF "_law_told_of" 49 "law_noshortring_k24_lacking_ties" 475 341) ::
  (nat_lit 348,kD "_law_right" 625 626 627 202 3 343 181 344 636 637 [.none,(.ref 345),(.ref 346),(.ref 347)]) ::
  (nat_lit 349,kF "_law_right" 50 "law_noshortring_k24_lacking_ties" 475 348) ::
  (nat_lit 353,kD "law" 639 640 641 213 1 350 181 351 642 643 [.none,.none,.none,(.ref 352)]) ::
  (nat_lit 354,kF "law" 51 "law_noshortring_k24_lacking_ties" 475 353) :: []
def ka:List Addr:=[3,23,24,36,37,48,49,61,73,85,104,123,142,150,151,157,158,164,165,171,172,176,177,181,182,188,189,195,196,202,203,207,208,212,213,219,220,224,225,231,232,238,239,245,246,252,253,259,260,266,267,273,274,278,279,283,284,288,289,293,294,298,299,303,304,308,309,313,314,320,321,327,328,334,335,341,342,348,349,353,354]
abbrev kq:Program:=PySem.W.view PySem.Challenge.pw_noshortring_k24_lacking_ties [1,2,3,4,5,6,7,8,9,11,12,14,15,16,17,18,20,21,22,23,24,26,27,28,29,31,32,33,34,35,36,37,38,39,40,41,42,43,44,45,46,47,48,49,50,51]
theorem Wy:(fun (_:Params→PySem.W.Frag) (_:Program) => true) Kk PySem.Challenge.pw_noshortring_k24_lacking_ties = true:=by k_qdec
theorem left:PySem.W.LeftO PySem.Challenge.pw_noshortring_k24_lacking_ties kq [] (fun s => PySem.W.xlAt kq [] s && PySem.W.recOk [] s) (fun s => ka.map s.heap.get?) (fun w => (Kk w.params).map fun (p:Addr × Obj) => some p.2) 6234:=by
 intro w
 delta kq
 rw [PySem.W.Fast.te12719220599169876433,PySem.W.Fast.te8700534734267333208,PySem.W.Fast.te14364793385576792824,PySem.W.Fast.te4187177175401517315,PySem.W.Fast.te5923862056798008813]
 kernel_rfl
end K24
namespace L2
open PySem PySem.Spec PyProof.Rows
theorem Gy {env:Env}:∀ (l:List (Str × NameKind)) (acc:List (Str × Addr)),(∀ y∈l,y.2 = .free→∃ c,env.cells.lookup y.1 = some c) →
  (∀ x c,acc.lookup x = some c→env.cells.lookup x = some c) →
  ∃ cl,(forIn l acc (fun (x:Str × NameKind) (r:List (Str × Addr)) => (match x with
   | (name,kind) => if (kind == NameKind.free) = true then (do let a ← cellOf env name; pure (ForInStep.yield ((name,a) :: r))) else pure (ForInStep.yield r):Sem (ForInStep (List (Str × Addr)))))) = (pure cl:Sem _) ∧
   (∀ x c,cl.lookup x = some c→env.cells.lookup x = some c)∧(∀ x,(acc.lookup x).isSome = true→(cl.lookup x).isSome = true)∧∀ y∈l,y.2 = .free→(cl.lookup y.1).isSome = true
 | [],acc,_,ha => ⟨acc,rfl,ha,fun _ h => h,fun _ h => nomatch h⟩
 | (n,k) :: r,acc,h,ha => by
  have hr:∀ y∈r,y.2 = .free→∃ c,env.cells.lookup y.1 = some c:=fun y hy => h y (List.mem_cons_of_mem _ hy)
  by_cases hk:k = .free
  ·subst hk
   obtain ⟨c,hc⟩:=h (n,.free) List.mem_cons_self rfl
   have hc:env.cells.lookup n = some c:=hc
   have ha':∀ x c',((n,c) :: acc).lookup x = some c'→env.cells.lookup x = some c':=fun x c' e => by
    rw [List.lookup_cons] at e
    cases hx:x == n with
    | true => rw [hx] at e; cases e; rw [beq_iff_eq.mp hx]; exact hc
    | false => rw [hx] at e; exact ha x c' e
   obtain ⟨cl,e,h1,h2,h3⟩:=Gy r ((n,c) :: acc) hr ha'
   refine ⟨cl,?_,h1,fun x hx => h2 x ?_,fun y hy hf => ?_⟩
   ·rw [List.forIn_cons]
    simp only [cellOf,hc,beq_self_eq_true,if_true]
    exact e
   ·rw [List.lookup_cons]
    cases x == n with
    | true => rfl
    | false => exact hx
   ·rcases List.mem_cons.mp hy with rfl | hy
    ·exact h2 n (by rw [List.lookup_cons,beq_self_eq_true]; rfl)
    ·exact h3 y hy hf
  ·have hb:(k == NameKind.free) = false:=by simpa using hk
   obtain ⟨cl,e,h1,h2,h3⟩:=Gy r acc hr ha
   refine ⟨cl,?_,h1,h2,fun y hy hf => ?_⟩
   ·rw [List.forIn_cons]
    simp only [hb,Bool.false_eq_true,if_false]
    exact e
   ·rcases List.mem_cons.mp hy with rfl | hy
    ·exact absurd hf hk
    ·exact h3 y hy hf
theorem Po {env:Env} {csc:Scope} (h:∀ y∈csc.names,y.2 = .free→∃ c,env.cells.lookup y.1 = some c) :
  ∃ cl,closureFor csc env = pure cl∧(∀ x c,cl.lookup x = some c→env.cells.lookup x = some c)∧∀ y∈csc.names,y.2 = .free→(cl.lookup y.1).isSome = true:=by
 obtain ⟨cl,e,h1,_,h3⟩:=Gy csc.names [] h (fun x c e => by cases e)
 refine ⟨cl,?_,h1,h3⟩
 unfold closureFor
 have e':=congrArg (fun m:Sem (List (Str × Addr)) => m >>= fun r => pure r) e
 exact e'
theorem Dj {env:Env}:∀ {names:List (Str × NameKind)} {x:Str},names.lookup x = some .free →
  (names.map fun (n,k) => if (k == NameKind.free && env.scope.kind == .function && env.kindOf n == some .cell) then (n,NameKind.cell) else (n,k)).lookup x = some .cell ∨
  (names.map fun (n,k) => if (k == NameKind.free && env.scope.kind == .function && env.kindOf n == some .cell) then (n,NameKind.cell) else (n,k)).lookup x = some .free
 | [],_,h => by simp at h
 | (n,k) :: r,x,h => by
  have ih:=@Dj env r x
  rw [List.map_cons]
  show List.lookup x ((if (k == NameKind.free && env.scope.kind == .function && env.kindOf n == some .cell) = true then (n,NameKind.cell) else (n,k)) :: _) = _∨List.lookup x ((if (k == NameKind.free && env.scope.kind == .function && env.kindOf n == some .cell) = true then (n,NameKind.cell) else (n,k)) :: _) = _
  cases hx:x == n with
  | true =>
   simp only [List.lookup_cons,hx] at h
   cases h
   split
   ·exact .inl (by rw [List.lookup_cons,hx])
   ·exact .inr (by rw [List.lookup_cons,hx])
  | false =>
   simp only [List.lookup_cons,hx] at h
   split
   ·simp only [List.lookup_cons,hx]; exact ih h
   ·simp only [List.lookup_cons,hx]; exact ih h
def Kh:Option NameKind→Bool
 | some .cell => true
 | _ => false
theorem IM {k:Option NameKind} (h:Kh k = true):k = some .cell:=by
 cases k with
 | none => cases h
 | some k => cases k <;> first | rfl | cases h
def Pp (X:Cx) (csc:Scope) (cl:List (Str × Addr)) (N':List Str) (s:Shared) (H:Hp) (fp:List Addr):Cx :=
 { X with N:=N',s₀:=s,H₀:=H,env:=compEnvC csc cl s.heap.objs.size X.env,outer:=X.stack,ex:=fp,fn:=fun x => Kh (csc.names.lookup x),pn:=[],xe:=fun _ _ => False }
structure LcCx (X:Cx) (csc:Scope) (N':List Str) (X':Cx):Prop where
 is:∃ cl s H fp,X' = Pp X csc cl N' s H fp
def Bp (σ:St) (cap:List (Str × Nat)):St:=cap.map fun p => (σ[p.2]?).join
structure LcOk (X:Cx) (csc:Scope) (nc:List Str) (cap:List (Str × Nat)):Prop where
 kind:csc.kind = .function
 cells:∀ y∈csc.names,y.2 = .cell→csc.names.lookup y.1 = some .cell
 locals:∀ y∈csc.names,y.2 = .local→csc.names.lookup y.1 = some .local
 free:∀ y∈csc.names,y.2 = .free→X.env.scope.names.lookup y.1 = some .cell∨X.env.scope.names.lookup y.1 = some .free
 caps:∀ p∈cap,X.N[p.2]? = some p.1∧csc.names.lookup p.1 = some .free
abbrev Af (nc:List Str) (cap:List (Str × Nat)):List Str:=nc ++ cap.map (·.1)
abbrev GA (nc:List Str) (σ:St) (cap:List (Str × Nat)):St:=List.replicate nc.length none ++ Bp σ cap
theorem Ao {α:Type}:∀ {l:List (Str × α)} {x:Str} {v:α},l.lookup x = some v→(x,v)∈l
 | [],_,_,h => by simp at h
 | (n,k) :: r,x,v,h => by
  rw [List.lookup_cons] at h
  cases hx:x == n with
  | true => rw [hx] at h; cases h; rw [beq_iff_eq.mp hx]; exact List.mem_cons_self
  | false => rw [hx] at h; exact List.mem_cons_of_mem _ (Ao h)
theorem Jg:∀ (names:List (Str × NameKind)) (L:Nat) (a acc:List (Str × Addr)),cellsFrom L names (a ++ acc) = cellsFrom L names a ++ acc
 | [],_,_,_ => rfl
 | (n,k) :: r,L,a,acc => by
  unfold cellsFrom
  split
  ·exact Jg r (L + 1) ((n,L) :: a) acc
  ·exact Jg r L a acc
theorem SW (names:List (Str × NameKind)) (L:Nat) (acc:List (Str × Addr)):cellsFrom L names acc = cellsFrom L names [] ++ acc:=Jg names L [] acc
theorem Jh:∀ (names:List (Str × NameKind)) (L:Nat) (acc:List (Str × Addr)) (x:Str) (c:Addr),(x,c)∈cellsFrom L names acc→(x,.cell)∈names∨(x,c)∈acc
 | [],_,_,_,_,h => .inr h
 | (n,k) :: r,L,acc,x,c,h => by
  unfold cellsFrom at h
  split at h
  ·rename_i hk
   rcases Jh r (L + 1) _ x c h with h | h
   ·exact .inl (List.mem_cons_of_mem _ h)
   ·rcases List.mem_cons.mp h with h | h
    ·cases h
     rw [eq_of_beq hk]
     exact .inl List.mem_cons_self
    ·exact .inr h
  ·rcases Jh r L _ x c h with h | h
   ·exact .inl (List.mem_cons_of_mem _ h)
   ·exact .inr h
theorem Gz:∀ (names:List (Str × NameKind)) (L:Nat) (acc:List (Str × Addr)) (x:Str),((x,.cell)∈names∨(acc.lookup x).isSome = true)→((cellsFrom L names acc).lookup x).isSome = true
 | [],_,_,_,h => h.elim (fun z => by cases z) id
 | (n,k) :: r,L,acc,x,h => by
  unfold cellsFrom
  split
  ·refine Gz r (L + 1) _ x ?_
   rcases h with h | h
   ·rcases List.mem_cons.mp h with h | h
    ·cases h
     exact .inr (by rw [List.lookup_cons,beq_self_eq_true]; rfl)
    ·exact .inl h
   ·refine .inr ?_
    rw [List.lookup_cons]
    cases x == n with
    | true => rfl
    | false => exact h
  ·rename_i hk
   refine Gz r L acc x ?_
   rcases h with h | h
   ·rcases List.mem_cons.mp h with h | h
    ·cases h; exact absurd rfl hk
    ·exact .inl h
   ·exact .inr h
theorem DT {α:Type}:∀ {l m:List (Str × α)} {x:Str},(l ++ m).lookup x = match l.lookup x with | some v => some v | none => m.lookup x
 | [],_,_ => rfl
 | (n,k) :: r,m,x => by
  rw [List.cons_append,List.lookup_cons,List.lookup_cons]
  cases x == n with
  | true => rfl
  | false => exact DT
structure LcCells (X:Cx) (csc:Scope) (cs:List (Str × Addr)) (s:Shared) (h1:Heap):Prop where
 at_:∀ x c,cs.lookup x = some c→(csc.names.lookup x = some .cell∧s.heap.objs.size≤c∧h1.IsCell c none)∨(csc.names.lookup x≠some .cell∧X.env.cells.lookup x = some c)
 has:∀ x,csc.names.lookup x = some .free∨csc.names.lookup x = some .cell→∃ c,cs.lookup x = some c
 inj:∀ x y c,cs.lookup x = some c→cs.lookup y = some c→x = y
theorem Pq {X:Cx} {csc:Scope} {cl:List (Str × Addr)} {nc:List Str} {cap:List (Str × Nat)} {pins:List (Addr × Obj)} {σ:St} {H:Hp} {s:Shared} {o:Obj}
  (ok:LcOk X csc nc cap) (I:Inv X pins σ H s) (hc1:∀ x c,cl.lookup x = some c→X.env.cells.lookup x = some c) (hc2:∀ y∈csc.names,y.2 = .free→(cl.lookup y.1).isSome = true) :
  LcCells X csc (cellsFrom (s.heap.objs.size + 1) csc.names cl) s (pushCells (s.heap.push o) csc.names):=by
 have nk:=cellsFrom_ok csc.names (s.heap.push o) (s.heap.objs.size + 1) [] ⟨fun _ _ hm => (nomatch hm),List.Pairwise.nil⟩ (by rw [Heap.size_push]; exact Nat.le_refl _)
 rw [Heap.size_push] at nk
 rw [SW]
 have split:∀ x c,(cellsFrom (s.heap.objs.size + 1) csc.names [] ++ cl).lookup x = some c→((x,c)∈cellsFrom (s.heap.objs.size + 1) csc.names []∧csc.names.lookup x = some .cell)∨(csc.names.lookup x≠some .cell∧cl.lookup x = some c):=fun x c e => by
  rw [DT] at e
  cases hx:(cellsFrom (s.heap.objs.size + 1) csc.names []).lookup x with
  | some v =>
   rw [hx] at e
   cases e
   have m:=Ao hx
   refine .inl ⟨m,?_⟩
   rcases Jh _ _ _ _ _ m with z | z
   ·exact ok.cells _ z rfl
   ·cases z
  | none =>
   rw [hx] at e
   refine .inr ⟨fun z => ?_,e⟩
   have:=Gz csc.names (s.heap.objs.size + 1) [] x (.inl (Ao z))
   rw [hx] at this
   cases this
 refine ⟨fun x c e => ?_,fun x hx => ?_,fun x y c e1 e2 => ?_⟩
 ·rcases split x c e with ⟨m,k⟩ | ⟨k,e⟩
  ·exact .inl ⟨k,Nat.le_of_succ_le (nk.empty x c m).2,(nk.empty x c m).1⟩
  ·exact .inr ⟨k,hc1 x c e⟩
 ·refine Option.isSome_iff_exists.mp ?_
  rw [DT]
  cases hn:(cellsFrom (s.heap.objs.size + 1) csc.names []).lookup x with
  | some v => rfl
  | none =>
   rcases hx with hx | hx
   ·exact hc2 _ (Ao hx) rfl
   ·have:=Gz csc.names (s.heap.objs.size + 1) [] x (.inl (Ao hx))
    rw [hn] at this
    cases this
 ·have old:∀ z,cl.lookup z = some c→c < s.heap.objs.size:=fun z e => by
   obtain ⟨v,hv⟩:=I.cell z c (hc1 z c e)
   exact hv.lt
  rcases split x c e1 with ⟨m1,_⟩ | ⟨_,g1⟩ <;> rcases split y c e2 with ⟨m2,_⟩ | ⟨_,g2⟩
  ·exact name_of_addr nk.apart m1 m2
  ·exact absurd (Nat.lt_of_lt_of_le (old y g2) (Nat.le_of_succ_le (nk.empty x c m1).2)) (Nat.lt_irrefl _)
  ·exact absurd (Nat.lt_of_lt_of_le (old x g1) (Nat.le_of_succ_le (nk.empty y c m2).2)) (Nat.lt_irrefl _)
  ·exact I.ok.inj x y c (hc1 x c g1) (hc1 y c g2)
section
variable {M:Model} {A:Around} {E:Value→Shared→Prop} {s:Shared}
theorem Mx {scope:Scope} {globals:Addr} {closure:List (Str × Addr)} {qual:Str} {env:Env} {Q:Env→Shared→Prop}
  (hQ:Q (newEnv scope s.heap.objs.size globals (cellsFrom (s.heap.objs.size + 1) scope.names closure) qual none .none (some env) builtinsNs) { s with heap:=pushCells (s.heap.push { cls:=.type "dict",data:=.dict #[] }) scope.names }) :
  wpAny M A (newFunctionEnv scope globals closure [] qual none .none (some env)) Q E s:=by
 simp only [newFunctionEnv,Option.isSome_some,if_true]
 refine wpAny_bind (wpAny_alloc ?_)
 refine wpAny_bind (wpAny_layCells _ (fun name kind cells => by cases hkc:kind == NameKind.cell <;> simp [hkc]) _ _ _ _ ?_)
 rw [show ({ s with heap:=s.heap.push { cls:=.type "dict",data:=.dict #[] } }:Shared).heap.objs.size = s.heap.objs.size + 1 from Heap.size_push ..]
 refine wpAny_bind ?_
 rw [List.forIn_nil]
 exact wpAny_pure (wpAny_pure hQ)
end
theorem SX {X:Cx} {csc:Scope} {cl:List (Str × Addr)} {nc:List Str} {cap:List (Str × Nat)} {pins:List (Addr × Obj)} {σ:St} {H:Hp} {s:Shared} {h1:Heap} {fp:List Addr}
  (ok:LcOk X csc nc cap) (I:Inv X pins σ H s) (C:LcCells X csc cl s h1)
  (hf:∀ b∈fp,Ev X pins H b) (ho:∀ b∈fp,∃ o,s.heap.get? b = some o)
  (hn:h1.Ns s.heap.objs.size (fun _ => none)) (kept:∀ b o,s.heap.get? b = some o→h1.get? b = some o) :
  Inv (Pp X csc cl (Af nc cap) s H fp) [] (GA nc σ cap) H { s with heap:=h1 }:=by
 have frel:∀ x,csc.names.lookup x = some .free→(compEnvC csc cl s.heap.objs.size X.env).kindOf x = some .cell∨(compEnvC csc cl s.heap.objs.size X.env).kindOf x = some .free:=fun x h => Dj h
 have back:∀ {names:List (Str × NameKind)} {x:Str},((names.map fun (n,k) => if (k == NameKind.free && X.env.scope.kind == .function && X.env.kindOf n == some .cell) then (n,NameKind.cell) else (n,k)).lookup x = some .cell ∨
   (names.map fun (n,k) => if (k == NameKind.free && X.env.scope.kind == .function && X.env.kindOf n == some .cell) then (n,NameKind.cell) else (n,k)).lookup x = some .free) →
   names.lookup x = some .free∨names.lookup x = some .cell:=by
  intro names
  induction names with
  | nil => intro x h; simp at h
  | cons p r ih =>
   obtain ⟨n,k⟩:=p
   intro x h
   rw [List.map_cons] at h
   cases hx:x == n with
   | true =>
    rw [List.lookup_cons,hx]
    have e:∀ (kk:NameKind) (l:List (Str × NameKind)),((n,kk) :: l).lookup x = some kk:=fun kk l => by rw [List.lookup_cons,hx]
    by_cases hcnd:(k == NameKind.free && X.env.scope.kind == .function && X.env.kindOf n == some .cell) = true
    ·left
     have:(k == NameKind.free) = true:=by
      revert hcnd; cases (k == NameKind.free) <;> simp
     show some k = some .free
     rw [eq_of_beq this]
    ·simp only [if_neg hcnd] at h
     rw [e,] at h
     exact h.symm
   | false =>
    have e:∀ (kk:NameKind) (l:List (Str × NameKind)),((n,kk) :: l).lookup x = l.lookup x:=fun kk l => by rw [List.lookup_cons,hx]
    by_cases hcnd:(k == NameKind.free && X.env.scope.kind == .function && X.env.kindOf n == some .cell) = true
    ·simp only [if_pos hcnd] at h
     rw [e] at h
     rw [e]
     exact ih h
    ·simp only [if_neg hcnd] at h
     rw [e] at h
     rw [e]
     exact ih h
 refine ⟨⟨I.ok.mod,ok.kind,I.ok.glob,I.ok.blt,Nat.le_refl _,C.inj,fun x hx => C.has x (back hx),fun x c e1 e2 => ?_,I.ok.hd,I.ok.frames,.inl rfl,fun b hb => ⟨?_,fun x c e => ?_⟩,
  I.bs,Nat.le_trans I.ok.bsz I.sz,fun b o e hb => ?_,fun b hb z => ?_,I.stack,I.stkFree⟩,rfl,I.bare,⟨fun b o e _ _ _ => kept b o e,fun b o e _ _ _ => ⟨o.slots,kept b o e⟩,fun b o e n _ => n,fun b o e _ => ⟨o,kept b o e⟩,fun _ _ e => e,fun _ _ _ e => e,fun b ps e => ⟨#[],by rw [show H b = some (HO.tbl ps) from e]; simp⟩⟩,
  ⟨_,hn,fun i x v e1 e2 e3 => ?_⟩,fun x c e => ?_,I.hok.fresh (Nat.le_refl _),fun x c e => (C.at_ x c e).elim (fun z => I.hok.fresh z.2.1) (fun z => I.freeC x c z.2),fun p hp => absurd (show p∈([]:List (Addr × Obj)) from hp) (by simp),I.hok.kept kept,?_⟩
 ·rcases C.at_ x c e2 with z | z
  ·exact z.2.1
  ·exact absurd (IM e1) z.1
 ·obtain ⟨o,e⟩:=ho b hb
  exact Nat.ne_of_lt (Heap.lt_size e)
 ·rcases C.at_ x c e with z | z
  ·obtain ⟨o,e⟩:=ho b hb
   exact Nat.ne_of_gt (Nat.lt_of_lt_of_le (Heap.lt_size e) z.2.1)
  ·exact (hf b hb).2.2.2.2.1 x c z.2
 ·have h1:=(hf b hb).2.2.2.1
  rcases h1 with z | z
  ·exact I.ok.noex b o e z
  ·exact absurd (Nat.lt_of_lt_of_le (Heap.lt_size e) (Nat.le_trans I.ok.bsz z)) (Nat.lt_irrefl _)
 ·have h1:=(hf b hb).2.1
  have h2:=(hf b hb).2.2.1
  exact (List.mem_cons.mp (I.stkSub b z)).elim h1 h2
 ·-- the names
  have hlen:nc.length≤i:=by
   by_cases hi:i < nc.length
   ·have e2':(List.replicate nc.length (none:Option V) ++ Bp σ cap)[i]? = some (some v):=e2
    rw [List.getElem?_append_left (by simpa using hi),List.getElem?_replicate] at e2'
    split at e2' <;> cases e2'
   ·omega
  have e1':(nc ++ cap.map (·.1))[i]? = some x:=e1
  have e2':(List.replicate nc.length (none:Option V) ++ Bp σ cap)[i]? = some (some v):=e2
  rw [List.getElem?_append_right hlen,List.getElem?_map] at e1'
  rw [List.getElem?_append_right (by simpa using hlen)] at e2'
  simp only [List.length_replicate] at e2'
  unfold Bp at e2'
  rw [List.getElem?_map] at e2'
  cases hp:cap[i - nc.length]? with
  | none => rw [hp] at e1'; cases e1'
  | some p =>
   rw [hp] at e1' e2'
   have e1'':p.1 = x:=Option.some.inj e1'
   have e2'':(σ[p.2]?).join = some v:=Option.some.inj e2'
   subst e1''
   obtain ⟨c1,c2⟩:=ok.caps p (List.mem_of_getElem? hp)
   have hσ:σ[p.2]? = some (some v):=by
    cases q:σ[p.2]? with
    | none => rw [q] at e2''; cases e2''
    | some w' => rw [q] at e2''; exact congrArg some e2''
   have vis:X.env.scope.names.lookup p.1 = some .cell∨X.env.scope.names.lookup p.1 = some .free:=ok.free _ (Ao c2) rfl
   obtain ⟨m,_,hl⟩:=I.loc
   obtain ⟨u,r,l⟩:=hl p.2 p.1 v c1 hσ (vis.elim (fun z => .inr (.inl z)) fun z => .inr (.inr z))
   refine ⟨u,r,.inr ⟨frel p.1 c2,?_⟩⟩
   rcases l with ⟨k,_⟩ | ⟨_,c,e,z⟩
   ·have k:X.env.scope.names.lookup p.1 = some .local:=k
    rcases vis with q | q <;> (rw [q] at k; cases k)
   ·obtain ⟨c',e''⟩:=C.has p.1 (.inl c2)
    have q:X.env.cells.lookup p.1 = some c':=by
     rcases C.at_ _ _ e'' with z | z
     ·rw [c2] at z; cases z.1
     ·exact z.2
    rw [e] at q; cases q
    obtain ⟨o,z1,z2⟩:=z
    exact ⟨c,e'',o,kept c o z1,z2⟩
 ·rcases C.at_ x c e with z | z
  ·exact ⟨none,z.2.2⟩
  ·obtain ⟨v,o,z1,z2⟩:=I.cell x c z.2
   exact ⟨v,o,kept c o z1,z2⟩
 ·show (List.replicate nc.length (none:Option V) ++ Bp σ cap).length = (nc ++ cap.map (·.1)).length
  unfold Bp
  simp
section
variable {prog:Program} {w:World} {A:Around} {R:Result→Shared→Prop} {s:Shared}
abbrev Ps:Value→Shared→Prop:=fun _ _ => False
theorem Ck {elt target iter:Expr} {ifs:List Expr} {scope:Scope} {pos:Pos} {it acc:Value} {env:Env} (I:Nat→Shared→Prop)
  (turn:∀ n s,I n s→wpAny (model prog w) A (pyNext it) (fun r s₁ => match r with
   | none => R (.ok .next) s₁
   | some v => wpAny (model prog w) A (letOwnedTupleGo target it v) (fun _ s₂ => wpAny (model prog w) A (assign target env v) (fun _ s₃ =>
     wpAny (model prog w) A (forIn ifs true fun c r => if r = true then do let ok ← isTrue c env (eval c env); pure (ForInStep.yield ok) else pure (ForInStep.yield r)) (fun ok s₄ =>
      if ok = true then wpAny (model prog w) A (eval elt env) (fun x s₅ =>
       wpAny (model prog w) A (call (.builtin "list.append") [acc,x]) (fun _ s₆ => ∃ m,m < n∧I m s₆) Ps s₅) Ps s₄
      else ∃ m,m < n∧I m s₄) Ps s₃) Ps s₂) Ps s₁) Ps s)
  (n:Nat) (h:I n s) :
  codeAny (model prog w) A (.compLoop (.ListComp elt [⟨target,iter,ifs,0⟩] scope pos) 0 it acc env) R s:=by
 refine codeAny_loop rfl I (fun n s hI => ?_) n h
 show wpAny _ A ((compTurn (.ListComp elt [⟨target,iter,ifs,0⟩] scope pos) 0 it acc env).onRaise (fun x => do noteFrame x env; theTreesLotGoes x)) _ _ s
 refine wpAny_noted (wpAny_noRaise ?_)
 rw [compTurn_list]
 refine wpAny_bind (wpAny_standAt (wpAny_bind (Aq (turn n s hI) fun r s₁ h₁ => ?_)))
 cases r with
 | none => exact wpAny_pure h₁
 | some v =>
  refine wpAny_bind (Aq h₁ fun _ s₂ h₂ => wpAny_bind (Aq h₂ fun _ s₃ h₃ => wpAny_bind (Aq h₃ fun ok s₄ h₄ => ?_)))
  cases ok with
  | true =>
   rw [if_pos rfl] at h₄ ⊢
   exact wpAny_bind (wpAny_bind (Aq h₄ fun x s₅ h₅ => wpAny_bind (Aq h₅ fun _ s₆ h₆ => wpAny_pure (wpAny_pure ⟨rfl,h₆⟩))))
  | false =>
   rw [if_neg Bool.false_ne_true] at h₄ ⊢
   exact wpAny_bind (wpAny_pure (wpAny_pure ⟨rfl,h₄⟩))
end
def SY (X:Cx) (ifs:List Expr) (t:TT):Prop :=
 ∀ (pins:List (Addr × Obj)) (s:Shared) (σ:St) (H:Hp) (Q:Bool→Hp→Prop),Inv X pins σ H s→t σ H Q →
  wpAny (model X.prog X.w) X.A (forIn ifs true fun c r => if r = true then do let ok ← isTrue c X.env (eval c X.env); pure (ForInStep.yield ok) else pure (ForInStep.yield r)) (TP X pins σ Q) X.xe s
def Ui:TT:=fun _ H Q => Q true H
theorem Pt {X:Cx}:SY X [] Ui:=fun _ _ _ H _ I h => wpAny_tests_nil ⟨H,I,h⟩
theorem Pu {X:Cx} {c:Expr} {t:TT} (h:PT X c t):SY X [c] t:=fun pins s σ H Q I q => wpAny_tests_one (h pins s σ H Q I q)
def RE (nc:List Str) (cap:List (Str × Nat)) (g:TG) (tt:TT) (te:TE) (σ:St) (J:It) (p:Addr) (H:Hp) (Q:Hp→Prop):Prop :=
 ∃ W:Nat→Nat→Hp→Prop,(∃ m,W 0 m (Aw H p (.lst [])))∧∀ i m H2,W i m H2 →
  (J.stop i H2∧Q H2)∨(J.go i H2∧∃ N:Hp→Prop,(∀ H',N H'→∃ m',m' < m∧W (i + 1) m' H')∧∀ x H3,J.yld i H2 x H3→g x (GA nc σ cap) H3 fun σ4 H4 => (∃ pre:St,pre.length = nc.length∧σ4 = pre ++ Bp σ cap)∧tt σ4 H4 fun b H5 =>
   if b = true then te σ4 H5 fun y H6 => ∃ ys,H6 p = some (.lst ys)∧ys.length < sizeLine∧N (Aw H6 p (.lst (ys ++ [y])))
   else N H5)
def WO (wi:TI) (nc:List Str) (cap:List (Str × Nat)) (g:TG) (tt:TT) (te:TE):TE:=fun σ H Q => wi σ H fun J H1 => ∀ p,H1 p = none→RE nc cap g tt te σ J p H1 (Q (.ref p))
section
variable {X:Cx} {elt tg iter:Expr} {ifs:List Expr} {csc:Scope} {nc:List Str} {cap:List (Str × Nat)} {wi:TI} {g:TG} {tt:TT} {te:TE} {pos:Pos}
theorem IN {pins:List (Addr × Obj)} {σ:St} {s2:Shared} {H2:Hp} {it:Addr} {fp:List Addr} {tn:Nat→Heap→Prop} {J:It} {cl:List (Str × Addr)} {Q:Hp→Prop} {RR:Value→Addr→Result→Shared→Prop} {E:Value→Shared→Prop}
  (hc:X.calm = true) (ok:LcOk X csc nc cap) (hg:∀ X',LcCx X csc (Af nc cap) X'→PG X' tg g) (ht:∀ X',LcCx X csc (Af nc cap) X'→SY X' ifs tt) (he:∀ X',LcCx X csc (Af nc cap) X'→PE X' elt te)
  (hc1:∀ x c,cl.lookup x = some c→X.env.cells.lookup x = some c) (hc2:∀ y∈csc.names,y.2 = .free→(cl.lookup y.1).isSome = true)
  (I2:Inv X pins σ H2 s2) (T:Turn X.prog X.w X.K tg J fp it tn) (st2:tn 0 s2.heap) (f2:∀ b∈fp,Ev X pins H2 b) (run:RE nc cap g tt te σ J s2.heap.objs.size H2 Q)
  (out:∀ (C:Addr) (H':Hp) (s':Shared),Inv X pins σ H' s'→(∃ m,s'.heap.Ns C m)→H' C = none→C≠X.env.locals→X.s₀.heap.objs.size≤C→(∀ x c,X.env.cells.lookup x = some c→c≠C)→(∀ p∈X.pn ++ pins,p.1≠C)→Q H'→RR (.ref s2.heap.objs.size) C (.ok .next) s') :
  wpAny (model X.prog X.w) X.A (newList []) (fun acc s₃ => wpAny (model X.prog X.w) X.A (newFunctionEnv csc X.env.globals cl [] X.env.qual none .none (some X.env)) (fun cenv s₄ =>
   codeAny (model X.prog X.w) X.A (.compStart (.ListComp elt [⟨tg,iter,ifs,0⟩] csc pos) 0 (.ref it) acc { cenv with scope:=relabel csc X.env }) (RR acc cenv.locals) s₄) E s₃) E s2:=by
 refine wpAny_newObj_type ?_
 have hp:H2 s2.heap.objs.size = none:=I2.hok.fresh (Nat.le_refl _)
 have I3:Inv X pins σ (Aw H2 s2.heap.objs.size (.lst [])) { s2 with heap:=s2.heap.push { cls:=.type "list",dict:=none,data:=.seq ([]:List Value).toArray } } :=
  I2.laid (t':=s2.toks) (fun b u e => Heap.get?_push_of_some _ e) (Nat.le_refl _) ⟨Nat.zero_le _,[],0,.nil,Heap.get?_push_size _ rfl⟩
 generalize hs3:({ s2 with heap:=s2.heap.push { cls:=.type "list",dict:=none,data:=.seq ([]:List Value).toArray } }:Shared) = s3 at I3
 have hk3:∀ b o,s2.heap.get? b = some o→s3.heap.get? b = some o:=fun b o e => by rw [← hs3]; exact Heap.get?_push_of_some _ e
 generalize hp0:s2.heap.objs.size = p at *
 have hlt:∀ b∈fp,b < p:=fun b hb => by
  obtain ⟨o,e,_⟩:=T.obj 0 _ st2 b hb
  rw [← hp0]; exact Heap.lt_size e
 have f3:∀ b∈fp,Ev X pins (Aw H2 p (.lst [])) b:=fun b hb => ⟨by rw [AI (Nat.ne_of_lt (hlt b hb))]; exact (f2 b hb).1,(f2 b hb).2⟩
 have st3:tn 0 s3.heap:=T.keep 0 _ _ st2 fun b _ o e => hk3 b o e
 refine Mx ?_
 have LC:=Pq (o:={ cls:=.type "dict",data:=.dict #[] }) ok I3 hc1 hc2
 have hns:(pushCells (s3.heap.push { cls:=.type "dict",data:=.dict #[] }) csc.names).Ns s3.heap.objs.size (fun _ => none):=(Heap.Ns.new s3.heap (.type "dict")).keeps (pushCells_keeps _ _)
 have kept4:∀ b o,s3.heap.get? b = some o→(pushCells (s3.heap.push { cls:=.type "dict",data:=.dict #[] }) csc.names).get? b = some o:=fun b o e => pushCells_keeps _ _ b o (Heap.get?_push_of_some _ e)
 generalize hcs:cellsFrom (s3.heap.objs.size + 1) csc.names cl = cs at LC ⊢
 generalize hh1:pushCells (s3.heap.push { cls:=.type "dict",data:=.dict #[] }) csc.names = h₁ at LC hns kept4 ⊢
 have hcc:∀ x c,cs.lookup x = some c→X.env.cells.lookup x = some c∨s3.heap.objs.size≤c:=fun x c e => (LC.at_ x c e).elim (fun z => .inr z.2.1) (fun z => .inl z.2)
 have I4:Inv (Pp X csc cs (Af nc cap) s3 (Aw H2 p (.lst [])) fp) [] (GA nc σ cap) (Aw H2 p (.lst [])) { s3 with heap:=h₁ } :=
  SX ok I3 LC f3 (fun b hb => (T.obj 0 _ st3 b hb).imp fun o q => q.1) hns kept4
 have st4:tn 0 h₁:=T.keep 0 _ _ st3 fun b _ o e => kept4 b o e
 generalize hX':Pp X csc cs (Af nc cap) s3 (Aw H2 p (.lst [])) fp = X' at I4
 have is':LcCx X csc (Af nc cap) X':=⟨_,_,_,_,hX'.symm⟩
 have hP:X'.prog = X.prog:=by rw [← hX']; rfl
 have hw:X'.w = X.w:=by rw [← hX']; rfl
 have hK:X'.K = X.K:=by rw [← hX']; rfl
 have hA:X'.A = X.A:=by rw [← hX']; rfl
 have hcal:X'.calm = true:=by rw [← hX']; exact hc
 have hE:X'.env = compEnvC csc cs s3.heap.objs.size X.env:=by rw [← hX']; rfl
 have hxe:X'.xe = Ps:=by rw [← hX']; rfl
 have hfs:X'.fs = Er X.stack:=by rw [← hX']; rfl
 have hex:X'.ex = fp:=by rw [← hX']; rfl
 have hs0:X'.s₀ = s3:=by rw [← hX']; rfl
 have hH0:X'.H₀ = Aw H2 p (.lst []):=by rw [← hX']; rfl
 have hpn:X'.pn = []:=by rw [← hX']; rfl
 have stat:∀ {H':Hp},(∀ b∈fp,H' b = none)→∀ b∈fp,Ev X' [] H' b:=fun {H'} hn b hb => by
  obtain ⟨_,q2,q3,q4,q5,q6⟩:=f3 b hb
  obtain ⟨o,e,_⟩:=T.obj 0 _ st3 b hb
  refine ⟨hn b hb,?_,?_,?_,?_,?_⟩
  ·rw [hE]; exact Nat.ne_of_lt (Heap.lt_size e)
  ·rw [hfs]; exact fun z => (List.mem_cons.mp (I3.stkSub b z)).elim q2 q3
  ·rw [hex]; exact .inl hb
  ·rw [hE]; exact fun x c e' => (hcc x c e').elim (fun z => q5 x c z) fun z => Nat.ne_of_gt (Nat.lt_of_lt_of_le (Heap.lt_size e) z)
  ·rw [hpn]; intro p hp; simp at hp
 obtain ⟨W,⟨m0,w0⟩,turn⟩:=run
 have loop:∀ s4:Shared,s4 = { s3 with heap:=h₁ }→codeAny (model X.prog X.w) X.A (.compLoop (.ListComp elt [⟨tg,iter,ifs,0⟩] csc pos) 0 (.ref it) (.ref p) (compEnvC csc cs s3.heap.objs.size X.env)) (RR (.ref p) s3.heap.objs.size) s4:=by
  rintro s4 rfl
  refine Ck (fun n s' => ∃ i H',Inv X' [] (GA nc σ cap) H' s'∧tn i s'.heap∧(∀ b∈fp,H' b = none)∧W i n H') ?_ m0 ⟨0,_,I4,st4,fun b hb => (f3 b hb).1,w0⟩
  rintro n s5 ⟨i,H5,I5,st5,fr5,w5⟩
  rcases turn i n H5 w5 with ⟨stop,qn⟩ | ⟨go,N,hN,step⟩
  ·have q:=T.done X' hP hw hK hcal i [] s5 (GA nc σ cap) H5 Ps I5 (stat fr5) st5 stop
   rw [hA] at q
   refine Aq q fun r s6 ⟨hr,I6⟩ => ?_
   subst hr
   have B:=I6.base
   rw [hfs,hex,hs0,hH0] at B
   have I7:Inv X pins σ H5 s6:=by
    refine I3.call' (ch:=fp) (by rw [I6.os,hs0]) B (by have:=I6.hok; rw [hP,hw] at this; exact this) I6.bare fun b hb => ?_
    obtain ⟨_,q2,q3,q4,q5,q6⟩:=f3 b hb
    exact ⟨q4,q2,q5,q6⟩
   obtain ⟨m,hm,_⟩:=I6.loc
   have hCf:=I6.free
   rw [hE] at hm hCf
   refine out _ H5 s6 I7 ⟨m,hm⟩ hCf (Nat.ne_of_gt I3.lt) I3.sz (fun x c e z => ?_) (fun p hp z => ?_) qn
   ·obtain ⟨v,hv⟩:=I3.cell x c e
    exact absurd hv.lt (by rw [z]; exact Nat.lt_irrefl _)
   ·exact absurd (Heap.lt_size (I3.pin p hp).1) (by rw [z]; exact Nat.lt_irrefl _)
  ·have q:=T.item X' hP hw hK hcal i [] s5 (GA nc σ cap) H5 Ps I5 (stat fr5) st5 go
   rw [hA] at q
   refine Aq q fun r s6 ⟨u,hr,h6⟩ => ?_
   subst hr
   refine Aq h6 fun _ s7 ⟨x,H7,I7,r7,y7,st7,fr7⟩ => ?_
   have I7':=I7.pinned (stat fr7) (T.obj _ _ st7)
   have q8:=hg X' is' _ s7 _ H7 x u _ I7' r7 (step x H7 y7)
   rw [hP,hw,hA,hE,hxe] at q8
   refine Aq q8 fun _ s8 ⟨σ8,H8,I8,⟨pre,hpl,hσ8⟩,q8⟩ => ?_
   have q9:=ht X' is' _ s8 σ8 H8 _ I8 q8
   rw [hP,hw,hA,hE,hxe] at q9
   have wk:∀ {s':Shared} {H':Hp} {pl:List (Addr × Obj)},Inv X' pl σ8 H' s'→Inv X' pl (GA nc σ cap) H' s':=fun {s' H' pl} J' => by
    refine J'.weak (by rw [J'.len,I4.len]) fun j v e => ?_
    rw [hσ8]
    by_cases hj:j < nc.length
    ·have e:(List.replicate nc.length (none:Option V) ++ Bp σ cap)[j]? = some (some v):=e
     rw [List.getElem?_append_left (by simpa using hj),List.getElem?_replicate] at e
     split at e <;> cases e
    ·have e:(List.replicate nc.length (none:Option V) ++ Bp σ cap)[j]? = some (some v):=e
     rw [List.getElem?_append_right (by simpa using hj)] at e
     rw [List.getElem?_append_right (by omega),hpl]
     simpa using e
   have again:∀ {s':Shared} {H':Hp} {m':Nat},Inv X' ([] ++ Ew fp s7.heap) σ8 H' s'→m' < n→W (i + 1) m' H' →
     ∃ m,m < n∧∃ i H',Inv X' [] (GA nc σ cap) H' s'∧tn i s'.heap∧(∀ b∈fp,H' b = none)∧W i m H':=fun {s' H' m'} J' hm hW => by
    refine ⟨m',hm,i + 1,H',wk J'.unpinned,T.keep _ _ _ st7 fun b hb o e => (J'.pin (b,o) (List.mem_append_right _ (List.mem_append_right _ (CJ hb e)))).1,fun b hb => ?_,hW⟩
    obtain ⟨o,e,d⟩:=T.obj _ _ st7 b hb
    exact (J'.pin (b,o) (List.mem_append_right _ (List.mem_append_right _ (CJ hb e)))).2.1
   refine Aq q9 fun b s9 ⟨H9,I9,q9⟩ => ?_
   cases b with
   | false =>
    rw [if_neg Bool.false_ne_true] at q9 ⊢
    obtain ⟨m',hm,hW⟩:=hN _ q9
    exact again I9 hm hW
   | true =>
    rw [if_pos rfl] at q9 ⊢
    have qe:=he X' is' _ s9 σ8 H9 _ I9 q9
    rw [hP,hw,hA,hE,hxe] at qe
    refine Aq qe fun u s10 ⟨y,H10,I10,ry,ys,hys,hlen,hNn⟩ => ?_
    obtain ⟨m',hm,hW⟩:=hN _ hNn
    have qa:=GQ (X:=X') _ s10 σ8 H10 (.ref p) [y] (.ref p) [u] (fun _ H' => H' = Aw H10 p (.lst (ys ++ [y]))) I10 rfl (.cons ry .nil) ⟨p,ys,y,rfl,rfl,hys,hlen,rfl⟩
    rw [hP,hw,hA,hxe] at qa
    refine Aq qa fun _ s11 ⟨_,H11,I11,_,e11⟩ => ?_
    subst e11
    exact again I11 hm hW
 have st5:=loop _ rfl
 exact codeAny_compStart_list (loop _ rfl) (T.self X.A 0 _ _ _ st4 (loop _ rfl))
end
section
variable {X:Cx} {elt tg iter:Expr} {ifs:List Expr} {csc:Scope} {nc:List Str} {cap:List (Str × Nat)} {wi:TI} {g:TG} {tt:TT} {te:TE} {pos:Pos}
theorem LcOk.clos {pins:List (Addr × Obj)} {σ:St} {H:Hp} {s:Shared} (ok:LcOk X csc nc cap) (I:Inv X pins σ H s) :
  ∃ cl,closureFor csc X.env = pure cl∧(∀ x c,cl.lookup x = some c→X.env.cells.lookup x = some c)∧∀ y∈csc.names,y.2 = .free→(cl.lookup y.1).isSome = true :=
 Po fun y hy hf => I.ok.has y.1 (ok.free y hy hf)
theorem Uj (hc:X.calm = true) (ok:LcOk X csc nc cap) (hi:PI X tg iter wi) (hg:∀ X',LcCx X csc (Af nc cap) X'→PG X' tg g) (ht:∀ X',LcCx X csc (Af nc cap) X'→SY X' ifs tt) (he:∀ X',LcCx X csc (Af nc cap) X'→PE X' elt te)
  (hs:∀ x,foldedSetIterable iter X.env x = pure x:=by intro _; rfl):PE X (.ListComp elt [⟨tg,iter,ifs,0⟩] csc pos) (WO wi nc cap g tt te):=by
 intro pins s σ H Q I h
 obtain ⟨cl,hcl,hc1,hc2⟩:=ok.clos I
 rw [eval_ListComp]
 refine wpAny_comprehension_free (use:=none) rfl hs hcl ok.kind ok.locals (Aq (hi pins s σ H _ I h) fun v s1 h1 => Aq h1 fun itv s2 h2 => ?_)
 obtain ⟨it,fp,tn,J,H2,e,I2,T,st2,f2,run⟩:=h2
 subst e
 refine IN (RR:=fun acc C => compPost (model X.prog X.w) X.A X.xe none (EP X pins σ Q) acc C) hc ok hg ht he hc1 hc2 I2 T st2 f2 (run _ (I2.hok.fresh (Nat.le_refl _))) ?_
 intro C H' s' I' hn h1 h2 h3 h4 h5 q
 obtain ⟨m,hn⟩:=hn
 refine ⟨m,hn,fun h' sb => ⟨.ref s2.heap.objs.size,H',?_,rfl,q⟩⟩
 exact I'.turned (t':=s'.toks) (fun b o hb e => (sb.2 b hb).trans e) h1 h2 (.inr h3) h4 h5
def SZ (i:Nat) (te:TE):TS:=fun D σ H => te σ H fun v H1 => D.nx (σ.set i (some v)) H1
theorem IO {i:Nat} {x:Str} {px spos:Pos} (hN:X.N.Nodup) (hx:X.N[i]? = some x) (hk:X.env.scope.names.lookup x = some .local) (hsw:swapsWith (.ListComp elt [⟨tg,iter,ifs,0⟩] csc pos) (some (.Name x px)) spos.line X.env = pure true)
  (hc:X.calm = true) (ok:LcOk X csc nc cap) (hi:PI X tg iter wi) (hg:∀ X',LcCx X csc (Af nc cap) X'→PG X' tg g) (ht:∀ X',LcCx X csc (Af nc cap) X'→SY X' ifs tt) (he:∀ X',LcCx X csc (Af nc cap) X'→PE X' elt te)
  (hs:∀ x,foldedSetIterable iter X.env x = pure x:=by intro _; rfl):PS X (.Assign [.Name x px] (.ListComp elt [⟨tg,iter,ifs,0⟩] csc pos) spos) (SZ i (WO wi nc cap g tt te)):=by
 intro pins s σ H D I h
 obtain ⟨cl,hcl,hc1,hc2⟩:=ok.clos I
 rw [exec_Assign_Name_used _ _ _ _ hsw]
 refine wpAny_bind (wpAny_standAt (wpAny_bind ?_))
 show wpAny _ X.A (do let _ ← comprehension (.ListComp elt [⟨tg,iter,ifs,0⟩] csc pos) csc X.env _ (newList []) false (eval iter X.env) (some (assign (.Name x px) X.env))) _ _ s
 refine wpAny_bind (Aq (wpAny_comprehension_free (use:=some (assign (.Name x px) X.env)) (Q:=fun _ s' => SP X pins D .next s') rfl hs hcl ok.kind ok.locals
  (Aq (hi pins s σ H _ I h) fun v s1 h1 => Aq h1 fun itv s2 h2 => ?_)) fun _ s' hq => wpAny_pure (wpAny_pure hq))
 obtain ⟨it,fp,tn,J,H2,e,I2,T,st2,f2,run⟩:=h2
 subst e
 refine IN (RR:=fun acc C => compPost (model X.prog X.w) X.A X.xe (some (assign (.Name x px) X.env)) (fun _ s' => SP X pins D .next s') acc C) hc ok hg ht he hc1 hc2 I2 T st2 f2 (run _ (I2.hok.fresh (Nat.le_refl _))) ?_
 intro C H' s' I' hn h1 h2 h3 h4 h5 q
 obtain ⟨m,hn⟩:=hn
 show wpAny _ X.A (assign (.Name x px) X.env (.ref s2.heap.objs.size)) _ _ _
 refine wpAny_assign_Name (GI I' hN hx (.inl hk) (v:=.ref s2.heap.objs.size) rfl (fun s'' I'' ha => ?_) (.inr hk))
 obtain ⟨a,sb,ha⟩:=ha
 have hCa:C≠a:=by
  rcases ha with ha | ha
  ·rw [ha]; exact h2
  ·exact fun z => h4 x a ha z.symm
 refine ⟨m,hn.sameBut sb hCa,fun h' sb' => ⟨_,H',?_,q⟩⟩
 exact I''.turned (t':=s''.toks) (fun b o hb e => (sb'.2 b hb).trans e) h1 h2 (.inr h3) h4 h5
end
section
variable {K:PySem.W.Frag} {nc:List Str} {cap:List (Str × Nat)} {g:TG} {tt:TT} {te:TE} {σ:St} {p a:Addr} {H:Hp} {Q:Hp→Prop}
end
theorem ObjOk.obj {P:Program} {w:World} {H:Hp} {h:Heap} {a:Addr} {o:HO} (x:ObjOk P w H h a o):∃ ob,h.get? a = some ob:=by
 cases o with
 | lst xs => obtain ⟨_,_,_,_,e⟩:=x; exact ⟨_,e⟩
 | tup xs => obtain ⟨_,_,_,o,e,_⟩:=x; exact ⟨_,e⟩
 | dK kvs => obtain ⟨_,_,_,_,o,_,_,e,_⟩:=x; exact ⟨_,e⟩
 | dT kvs => obtain ⟨_,_,_,_,o,_,_,e,_⟩:=x; exact ⟨_,e⟩
 | set S n => obtain ⟨o,_,_,_,e,_⟩:=x; exact ⟨_,e⟩
 | ins C dx fs => obtain ⟨_,_,_,e,_⟩:=x; exact ⟨_,e⟩
 | own y => obtain ⟨_,e⟩:=x; exact ⟨_,e⟩
 | xd fs => obtain ⟨_,⟨_,_,_,e,_⟩,_⟩:=x; exact ⟨_,e⟩
 | rng lo hi => obtain ⟨_,_,_,e⟩:=x; exact ⟨_,e⟩
 | frz ob u => obtain ⟨e,_⟩:=x; exact ⟨_,e⟩
 | tbl ps => exact ⟨_,(show h.get? a = some _ from x)⟩
 | met f y => exact ⟨_,(show h.get? a = some _ from x)⟩
 | ext φ => obtain ⟨_,⟨_,e⟩,_⟩:=x; exact ⟨_,e⟩
theorem HOk.none_of {P:Program} {w:World} {H:Hp} {h:Heap} {a:Addr} (x:HOk P w H h) (e:h.get? a = none):H a = none:=by
 cases q:H a with
 | none => rfl
 | some u =>
  obtain ⟨ob,e'⟩:=(x a u q).obj
  rw [e] at e'; cases e'
structure Fly (P:Program) (w:World) (outer:List Env) (H:Hp) (s:Shared) (H':Hp) (x:Addr) (cls:Value) (s':Shared):Prop where
 os:s'.os = s.os
 bare:AllBare s'.gens
 un:Un (Er outer) [] H H' s.heap s'.heap
 hok:HOk P w H' s'.heap
 fr:H' x = none
 fly:∃ B t,(∀ b,H' b≠none→∃ o,B.get? b = some o)∧(∀ b o,s.heap.get? b = some o→b ∉ Er outer→∃ o',B.get? b = some o')∧Heap.FlyingW B outer x cls (.ref t) s'.heap
def CXe (P:Program) (w:World):Mo:=fun outer H s E e s' => ∃ x cls H',e = .ref x∧Fly P w outer H s H' x cls s'∧E cls none H'
theorem CXe.never {P:Program} {w:World} {outer:List Env} {H:Hp} {s s':Shared} {e:Value} (h:CXe P w outer H s E0 e s'):False:=by
 obtain ⟨_,_,_,_,_,q⟩:=h
 exact q
structure XFly (X:Cx) (W:St→XK):Prop where
 fly:∀ (pins:List (Addr × Obj)) (σ:St) (H:Hp) (s:Shared) (e:Value) (s':Shared),Inv X pins σ H s→CXe X.prog X.w X.stack H s (W σ) e s'→X.xe e s'
structure XOk (X:Cx) (W:St→XK):Prop where
 made:∀ (pins:List (Addr × Obj)) (σ:St) (H:Hp) (s:Shared) (h':Heap) (x:Addr) (cls:Value),Inv X pins σ H s→Heap.MadeExcOf s.heap h' x cls []→W σ cls none H→X.xe (.ref x) { s with heap:=h' }
 fly:∀ (pins:List (Addr × Obj)) (σ:St) (H:Hp) (s:Shared) (e:Value) (s':Shared),Inv X pins σ H s→CXe X.prog X.w X.stack H s (W σ) e s'→X.xe e s'
 own:PassesOwn (model X.prog X.w) X.A X.env X.xe
theorem HOk.by_keep {P:Program} {w:World} {H:Hp} {h h':Heap} (x:HOk P w H h) (k:∀ b o,H b≠none→h.get? b = some o→h'.get? b = some o):HOk P w H h':=fun a o e =>
 (x a o e).stay (fun b u hb q => k b u (by
  rcases hb with rfl | hb
  ·rw [e]; exact fun z => nomatch z
  ·rw [hb]; exact fun z => nomatch z) q) (fun _ q => q) fun _ _ q => q
section
variable {P:Program} {w:World} {K:PySem.W.Frag} {mg:Str→Option Value} {base:Heap} {N:List Str} {qual:Str} {scope:Scope} {f:Addr} {cd:Value} {A:Around} {outer:List Env} {s:Shared} {H:Hp} {E:XK}
theorem Ki {X:Cx} {pins:List (Addr × Obj)} {σ:St} {H1:Hp} {s2:Shared} {h':Heap} {x:Addr} {cls:Value} {B:Heap} {t:Addr} (hst:X.stack = X.env :: X.outer) (hex:X.ex = []) (hfr:X.env.frame = some X.env.locals) (I:Inv X pins σ H1 s2)
  (hB1:∀ b,H1 b≠none→∃ o,B.get? b = some o) (hB2:∀ b o,X.s₀.heap.get? b = some o→b ∉ Er X.outer→∃ o',B.get? b = some o') (hx:H1 x = none) (hs2:B.StaysIn s2.heap) (fl:Heap.FlyingW B X.outer x cls (.ref t) h') (up:s2.heap.UpToSlots h') :
  Fly X.prog X.w X.outer X.H₀ X.s₀ H1 x cls { s2 with heap:=h' }:=by
 have fsm:∀ b o,b∈X.fs→s2.heap.get? b = some o→∃ sl,h'.get? b = some { o with slots:=sl }:=fun b o hb e => by
  obtain ⟨_,o',e',hd⟩:=I.funs.mem hb
  rw [e] at e'; cases e'
  exact up b o e hd
 have same:∀ b o o',B.get? b = some o'→s2.heap.get? b = some o→h'.get? b = some o:=fun b o o' e1 e2 => by
  have q:=hs2 b o' e1
  rw [e2] at q; cases q
  exact fl.1 b o e1
 refine ⟨I.os,I.bare,⟨fun b o e n hb _ => ?_,fun b o e n hb _ => ?_,fun b o e n _ => ?_,fun b o e _ => ?_,I.base.tups,I.base.frzs,I.base.tbls⟩,I.hok.by_keep fun b o hb e => ?_,hx,B,t,hB1,hB2,fl⟩
 ·obtain ⟨o',e'⟩:=hB2 b o e hb
  exact same b o o' e' (I.base.keep b o e n hb (by rw [hex]; simp))
 ·obtain ⟨sl,e1⟩:=I.base.slot b o e n hb (by rw [hex]; simp)
  obtain ⟨sl',e2⟩:=fsm b _ hb e1
  exact ⟨sl',e2⟩
 ·exact I.base.free b o e n (by rw [hex]; simp)
 ·obtain ⟨o1,e1⟩:=I.base.there b o e (by rw [hex]; simp)
  by_cases hb:b∈X.fs
  ·obtain ⟨sl,e2⟩:=fsm b o1 hb e1
   exact ⟨_,e2⟩
  ·obtain ⟨o',e'⟩:=hB2 b o e hb
   exact ⟨o',fl.1 b o' e'⟩
 ·obtain ⟨o',e'⟩:=hB1 b hb
  exact same b o o' e' e
theorem Aa:XOk (Cj (CXe P w) P w K mg base N qual scope f cd A outer s H E) (fun _ => E) where
 made:=by
  intro pins σ H1 s1 h' x cls I hx q
  have hin:∀ env∈(Cj (CXe P w) P w K mg base N qual scope f cd A outer s H E).stack,∀ b,env.frame = some b→b∈Er (Cj (CXe P w) P w K mg base N qual scope f cd A outer s H E).stack:=fun env he b hb => List.mem_filterMap.mpr ⟨env,he,hb⟩
  have hxn:H1 x = none:=I.hok.none_of hx.new
  have I':Inv (Cj (CXe P w) P w K mg base N qual scope f cd A outer s H E) pins σ H1 { s1 with heap:=h' }:=I.kept (t':=s1.toks) hx.keeps
  refine wpAny_leaves_madeW (base:=PySem.W.hideAll s1.heap (Er (Cj (CXe P w) P w K mg base N qual scope f cd A outer s H E).stack)) (h:=s1.heap) I.ok.frames rfl (fun b o q => PySem.W.of_hideAll _ q) (PySem.W.funFrames_hide I.stack hin) hx fun h2 t x1 x2 x3 x4 => ?_
  refine ⟨x,cls,H1,rfl,?_,q⟩
  refine Ki (X:=Cj (CXe P w) P w K mg base N qual scope f cd A outer s H E) rfl rfl rfl I' (fun b hb => ?_) (fun b o e hb => ?_) hxn (fun b o e => hx.keeps b o (PySem.W.of_hideAll _ e)) x1 x4
  ·cases e:H1 b with
   | none => exact absurd e hb
   | some u =>
    obtain ⟨o,eo⟩:=(I.hok b u e).obj
    exact ⟨o,PySem.W.hideAll_get _ eo fun z => hb (I.stkFree b z)⟩
  ·obtain ⟨o1,e1⟩:=I.base.there b o e (fun z => nomatch z)
   refine ⟨o1,PySem.W.hideAll_get _ e1 fun z => ?_⟩
   rcases List.mem_cons.mp (I.stkSub b z) with z | z
   ·exact absurd z (Nat.ne_of_lt (Nat.lt_of_lt_of_le (Heap.lt_size e) I.ok.above))
   ·exact hb z
 fly:=by
  rintro pins σ H1 s1 e s2 I ⟨x,cls,H2,rfl,F,q⟩
  obtain ⟨B,t,b1,b2,fl⟩:=F.fly
  have I2:Inv (Cj (CXe P w) P w K mg base N qual scope f cd A outer s H E) pins σ H2 s2:=I.call' (ch:=[]) F.os F.un F.hok F.bare (fun b z => absurd z (by simp))
  refine wpAny_leaves_onW I.ok.frames rfl fl fun h' x1 x2 => ?_
  refine ⟨x,cls,H2,rfl,?_,q⟩
  refine Ki (X:=Cj (CXe P w) P w K mg base N qual scope f cd A outer s H E) rfl rfl rfl I2 b1 (fun b o e hb => ?_) F.fr fl.1 x1 x2
  obtain ⟨o1,e1⟩:=I.base.there b o e (fun z => nomatch z)
  refine b2 b o1 e1 fun z => ?_
  rcases List.mem_cons.mp (I.stkSub b z) with z | z
  ·exact absurd z (Nat.ne_of_lt (Nat.lt_of_lt_of_le (Heap.lt_size e) I.ok.above))
  ·exact hb z
 own:=PassesOwn.leaving
end
section
variable {X:Cx} {W:St→XK}
def Sa (W:St→XK) (C:Addr):TS:=fun _ σ H => W σ (.ref C) none H
def Ji (sp:Sp) (W:St→XK) (t:TA):TE:=fun σ H Q => t σ H fun vs H1 => sp vs H1 Q (W σ)
theorem XOk.f (x:XOk X W):XFly X W:=⟨x.fly⟩
theorem IP {k:Nat} {f:Addr} {fd:FuncData} {ps:List Str} {sp:Sp} {x:Str} {p pos:Pos} {e:Expr} {es:List Expr} {t:TA} (xo:XFly X W) (F:FnOk X.prog X.w X.K X.mg X.base (CXe X.prog X.w) k f fd ps sp) (hr:Room k X.A) (hg:Gl X x) (hm:X.mg x = some (.ref f)) (hk:PySem.W.keepIn X.K (.ref f) = true) (hb:Binds X.K fd ps [])
  (ha:PA X (e :: es) t) (hdb:(x == ("__debug__" : Str)) = false:=by decide) (he:starEach (e :: es) X.env = (false,eval e X.env) :: starEach es X.env:=by rfl) (hpl:(backTo pos (starEach es X.env)).any (·.1) = false:=by rfl) :
  PE X (.Call (.Name x p) (e :: es) [] pos) (Ji sp W t):=by
 intro pins s σ H Q I h
 refine wpAny_Call_Name_kw (Df I hg hm ?_ hdb)
 refine PySem.W.callWith_K (h₀:=X.base) I.ok.mod.kin hk (Aq (ha pos pins s σ H _ I h) fun us s1 ⟨vs,H1,I1,r,q⟩ => ⟨I1.kIn,?_⟩) he hpl
 have r2:Vals vs (us ++ []):=by rw [List.append_nil]; exact r
 have hl:(us ++ []).length = ps.length:=by rw [← r2.length]; exact F.len _ _ _ _ q
 refine wpAny_call (codeAny_mono (F.run X.A X.stack s1 H1 ⟨us,[]⟩ (us ++ []) vs Q (W σ) hr I1.env0 (hb s1 us I1.kIn hl) r2 q) fun r s' hq => ?_)
 cases r with
 | error e => exact xo.fly pins σ H1 s1 e s' I1 hq
 | ok fl =>
  cases fl with
  | ret u => exact I1.after hq
  | next => exact False.elim hq
  | brk => exact False.elim hq
  | cont => exact False.elim hq
end
open PySem.Calls
section
variable {prog:Program} {w:World} {A:Around} {E:Value→Shared→Prop} {s:Shared} {K:PySem.W.Frag} {x D:Addr} {ox:Obj} {od:Option Obj} {name:Str}
structure ExcCls (K:PySem.W.Frag) (D:Addr):Prop where
 ga:PySem.W.findIn K (.ref D) "__getattribute__" = some (some (.builtin "BaseException.__getattribute__"))
 gn:PySem.W.findIn K (.ref D) "__getattr__" = some none
 be:PySem.W.mroIn K D (.type "BaseException") = some true
 ob:PySem.W.mroIn K D (.type "object") = some true
 cl:PySem.W.findIn K (.ref D) "__class__" = some (some (.builtin "object.__class__"))
 gt:PySem.W.specialIn K (.builtin "object.__class__") "__get__" = some (some (.builtin "getset_descriptor.__get__"))
 tk:PySem.W.takesIn K (.builtin "object.__class__") = some true
def TyAt (D x:Addr) (h:Heap):Prop:=∃ ox,h.get? x = some ox∧ox.cls = .ref D
theorem TyAt.looks {M:Model} {h:Heap} (p:TyAt D x h):PySem.W.Looks M h (typeOf (.ref x)) (.ref D):=by
 obtain ⟨o,h1,h2⟩:=p
 exact h2 ▸ (PySem.W.Looks.ld h1).andThen .now
open PySem.W Builtin Builtin.ObjectAttr Builtin.Getset_descriptor in
theorem Jj {R:Result→Shared→Prop} {tp:Value} (X:K.In s.heap) (I:TyAt D x s.heap) (hm:PySem.W.mroIn K D (.type "object") = some true) (h:R (.ok (.ret (.ref D))) s) :
  codeAny (model prog w) A (.call (.builtin "getset_descriptor.__get__") ⟨[.builtin "object.__class__",.ref x,tp],[]⟩) R s:=by
 obtain ⟨hh,gg,dd,tt,oo⟩:=s
 have L0:=I.looks (M:=model prog w)
 have L1:=PySem.W.looks_mroIn (M:=model prog w) X hm
 refine codeAny_call_builtin
  KF.slot_gs.plain KF.entry_gs (KF.slot_gs.check _ _ _ _ _ _ _ _
   KF.type_class (KF.args_gs _ _ _) ?_)
 unfold Builtin.«getset_descriptor.__get__»
  descrGet
 rw [dga_obj]
 refine wpAny_bind (wpAny_pure ?_)
 unfold descrGetter descrCheckInstance
  descrNameAndClass isInstance
 simp only [KF.owner_class]
 repeat lk
 refine ⟨Code.quiet_builtin _
  (by decide +kernel),codeAny_builtin KF.entry_class ?_⟩
 unfold Builtin.«object.__class__» shownTypeOf
 repeat lk
 exact h
theorem ExcCls.find {M:Model} {h:Heap} (c:ExcCls K D) (X:K.In h):PySem.W.Looks M h (Builtin.ObjectAttr.find (.ref x) (.ref D) "__class__") (.bind (.builtin "getset_descriptor.__get__") (.builtin "object.__class__")):=by
 have L1:=PySem.W.looks_findIn (M:=M) X c.cl
 have L2:PySem.W.Looks M h (Builtin.ObjectAttr.getOf (some (.builtin "object.__class__"))) (some (.builtin "getset_descriptor.__get__")):=PySem.W.looks_specialIn X c.gt
 have L3:=PySem.W.looks_takesIn (M:=M) X c.tk
 refine L1.andThen (L2.andThen ?_)
 exact (show PySem.W.Looks M h (Builtin.ObjectAttr.dataDescriptor? (some (.builtin "object.__class__")) (some (.builtin "getset_descriptor.__get__"))) (some (.builtin "getset_descriptor.__get__",.builtin "object.__class__"))
  from L3.andThen .now).andThen (PySem.W.Looks.tag .now)
theorem Lo {Q:Option Value→Shared→Prop} (c:ExcCls K D) (X:K.In s.heap) (I:TyAt D x s.heap) (h:Q (some (.ref D)) { s with toks:=s.toks + 1 }):wpAny (model prog w) A (getAttr? (.ref x) "__class__") Q E s:=by
 obtain ⟨hh,g,d,t,os⟩:=s
 have L0:=I.looks (M:=model prog w)
 have L1:=PySem.W.looks_findIn (M:=model prog w) X c.ga
 have L2:=PySem.W.looks_findIn (M:=model prog w) X c.gn
 have L3:=PySem.W.looks_mroIn (M:=model prog w) X c.be
 have L4:=c.find (x:=x) (M:=model prog w) X
 have hb:bindSpecial (.builtin "BaseException.__getattribute__") (.ref x) = pure (.builtin "BaseException.__getattribute__",[.ref x]):=PySem.F.excAttr_ValueError.ga.bind _
 have hk:builtinKind "BaseException.__getattribute__" = some .slot:=by decide +kernel
 have hsplit:splitId "BaseException.__getattribute__" = some ("BaseException","__getattribute__"):=by decide +kernel
 have hx2:(Value.builtin "BaseException.__getattribute__" == Value.builtin "object.__getattribute__") = false:=by decide +kernel
 unfold getAttr? getAttrBy? getAttrBy
 refine wpAny_bind (wpAny_mkText (wpAny_bind (wpAny_attempt (wpAny_holding (wpAny_bind (L0.at (wpAny_bind (L1.at ?_))))))))
 dsimp only
 rw [hx2,Bool.and_false,if_neg Bool.false_ne_true]
 unfold getAttrByItsOwn hookBefore
 refine wpAny_bind (L2.at ?_)
 refine wpAny_bind (wpAny_attempt (wpAny_holding ?_))
 unfold callGetattribute boundAndCalled
 rw [hb]
 show wpAny _ _ (call (.builtin "BaseException.__getattribute__") [.ref x,.str "__class__" t]) _ _ _
 refine wpAny_call (codeAny_call_builtin PySem.F.excAttr_ValueError.ga.plain PySem.F.entry_bexc_ga ?_)
 have ha:=PySem.F.args_bexc_ga (.ref x) (.str "__class__" t)
 simp only [checkBuiltinCall,hk,hsplit]
 refine wpAny_bind ?_
 unfold isInstance
 refine wpAny_bind (L0.at (L3.at ?_))
 rw [if_neg (by decide)]
 refine wpAny_of_eq ha ?_
 show wpAny _ _ (typeOf (.ref x) >>= fun tp => Builtin.ObjectAttr.find (.ref x) tp "__class__" >>= _) _ _ _
 refine wpAny_bind (L0.at (wpAny_bind (L4.at ?_)))
 show wpAny _ _ ((holding [.builtin "object.__class__"] (call (.builtin "getset_descriptor.__get__") [.builtin "object.__class__",.ref x,.ref D])) >>= ret) _ _ _
 refine wpAny_bind (wpAny_holding (wpAny_call (Jj (s:=⟨hh,g,d,t + 1,os⟩) X I c.ob ?_)))
 exact wpAny_pure (wpAny_pure (wpAny_pure h))
theorem ExcCls.isTy {M:Model} {h:Heap} (c:ExcCls K D) (X:K.In h):PySem.W.Looks M h (isType (.ref D)) true:=by
 obtain ⟨cd,hc,_⟩:=Option.bind_eq_some_iff.mp (show (PySem.W.clsIn K D).bind _ = some true from c.be)
 unfold PySem.W.clsIn at hc
 split at hc
 ·rename_i c' d' cd' sl' ho
  intro A' Q' E' s' k q
  unfold isType loadHead
  exact wpAny_bind (wpAny_loadPart (k _ _ (X _ _ ho)) (wpAny_pure q))
 ·cases hc
theorem My (c:ExcCls K D):PySem.W.KitX K (.ref x) (.ref D) (TyAt D x) where
 ty:=fun _ _ _ I => I.looks
 it:=fun _ _ X _ => c.isTy X
 ne:=fun h tp dd its n sl X htp => by
  refine Bool.eq_false_iff.mpr fun q => ?_
  have e:D = tp:=Value.ref.inj (beq_iff_eq.mp q)
  subst e
  obtain ⟨cd,hc,_⟩:=Option.bind_eq_some_iff.mp (show (PySem.W.clsIn K D).bind _ = some true from c.be)
  unfold PySem.W.clsIn at hc
  split at hc
  ·rename_i c' d' cd' sl' ho
   have z:=(X _ _ ho).symm.trans htp
   cases z
  ·cases hc
 ca:=fun X I k => Lo c X I k
end
def HA (D x:Addr):HO:=.ext (TyAt D x)
theorem Pv {P:Program} {w:World} {H:Hp} {h:Heap} {D x:Addr} (p:TyAt D x h):ObjOk P w H h x (HA D x):=by
 refine ⟨p,?_,fun h1 h2 q k => ?_⟩
 ·obtain ⟨o,e,_⟩:=p
  exact ⟨o,e⟩
 ·obtain ⟨o,e,c⟩:=q
  exact ⟨o,k o e,c⟩
theorem Jk {X:Cx} {pins:List (Addr × Obj)} {σ:St} {H:Hp} {s:Shared} {A:Around} {E:Value→Shared→Prop} {Q:Value→Shared→Prop} {c:Value} {b:Bool} {D x:Addr} (I:Inv X pins σ H s) (hx:H x = some (HA D x)) (k:ExcCls X.K D)
  (e:PySem.W.kitOne X.K (.ref D) c = some b) (h:∀ tk,Q (.bool b) { s with toks:=tk }):wpAny (model X.prog X.w) A (call (.builtin "isinstance") [.ref x,c]) Q E s:=by
 obtain ⟨p,_,_⟩:=(show ObjOk X.prog X.w H s.heap x (HA D x) from I.hok x _ hx)
 exact PySem.W.kia_one (My k) I.kIn p e (fun z => nomatch z) h
abbrev Lp:List Value:=[.type "ValueError",.type "Exception",.type "BaseException",.type "object"]
theorem Pw {K:PySem.W.Frag} {h:Heap} {C:Addr} {bmB:List Value} {newId:String} (X:K.In h) (q:PySem.W.excIn K C bmB newId = true) :
  ∃ bm N nm qn bs hdct sn sub ab col dd k0 k1 k2 k3 k5 mN,h.get? C = some (excClassObj nm qn C N bs bm hdct sn sub ab col dd k0 k1 k2 k3 k5 newId)∧h.Ns N mN∧mN "__init__" = none∧OwnTail h bmB bm:=by
 unfold PySem.W.excIn at q
 split at q
 ·rename_i dd cd sl ho
  split at q
  ·rename_i C' bm k0 k1 k2 k3 n k5 hm hs
   simp only [Bool.and_eq_true,beq_iff_eq,
    Bool.not_eq_true'] at q
   obtain ⟨⟨⟨⟨⟨e1,e2⟩,hdel⟩,ht⟩,hok⟩,hni⟩:=q
   subst e1 e2
   obtain ⟨nm,bs,mro,ns,qn,hd,sn,sub,ab,col,del⟩:=cd
   dsimp only at hm hdel hok hni
   subst hm hdel
   have hsl:sl = #[k0,k1,k2,k3,some (.builtin n),k5]:=by
    obtain ⟨l⟩:=sl
    simp only at hs
    rw [hs]
   subst hsl
   exact ⟨bm,ns,nm,qn,bs,hd,sn,sub,ab,col,dd,k0,k1,k2,k3,k5,_,X _ _ ho,
    .of_isNs (PySem.W.isNs_of_in X hok),PySem.W.nsMap_none_of_in X hok hni,PySem.W.tail_of_in X ht⟩
  ·cases q
 ·cases q
theorem Lq {X:Cx} {W:St→XK} {x:Str} {C:Addr} {np cpos pos:Pos} (xo:XOk X W) (hc:X.calm = true) (hg:Gl X x) (hm:X.mg x = some (.ref C)) (q:PySem.W.excIn X.K C Lp "ValueError.__new__" = true)
  (hd:(x == ("__debug__" : Str)) = false:=by decide):PS X (.Raise (some (.Call (.Name x np) [] [] cpos)) none pos) (Sa W C):=by
 intro pins s σ H D I h
 obtain ⟨bm,N,nm,qn,bs,hdct,sn,sub,ab,col,dd,k0,k1,k2,k3,k5,mN,hC,hN,hni,T⟩:=Pw I.kIn q
 refine wpAny_Raise_call_subT (C:=C) (nm:=nm) (q:=qn) (N:=N) (bs:=bs) (bm:=bm) (hdct:=hdct) (sn:=sn) (sub:=sub) (ab:=ab) (col:=col) (dd:=dd) (k0:=k0) (k1:=k1) (k2:=k2) (k3:=k3) (k5:=k5)
  PySem.F.excBase_ValueError (mN:=mN) (T.hasType PySem.F.excBase_ValueError.hasBase) (I.ok.hd hc) rfl hni (Df I hg hm ⟨rfl,?_⟩ hd)
 exact evalArgs_empty ⟨rfl,Nat.zero_le _,hC,hN,T,fun h' e hx => xo.made pins σ H s h' e (.ref C) I hx h⟩
theorem IQ {M:Model} {A:Around} {E:Value→Shared→Prop} {s:Shared} {K:PySem.W.Frag} {C B x:Addr} {b:Bool} {Q:Bool→Shared→Prop} (X:K.In s.heap) (p:TyAt C x s.heap) (k:PySem.W.kitCls K (.ref C) (.ref B) = some b)
  (hb:PySem.W.mroIn K B (.type "BaseException") = some true) (h:Q b s):wpAny M A (excMatches (.ref x) (.ref B)) Q E s:=by
 obtain ⟨L1,L2,L3⟩:=PySem.W.kit_cls (M:=M) X k
 have L4:=PySem.W.looks_mroIn (M:=M) X hb
 have L0:=p.looks (M:=M)
 have f:=tc_notTuple
 obtain ⟨hh,g,d,t,os⟩:=s
 unfold excMatches isInstance isExcClass
 refine wpAny_bind (wpAny_bind (L1.at ?_))
 rw [f]
 refine wpAny_pure ?_
 rw [if_neg Bool.false_ne_true]
 refine wpAny_bind (wpAny_pure ?_)
 simp only [List.forIn_cons,List.forIn_nil]
 refine wpAny_bind (wpAny_bind (wpAny_bind (wpAny_bind (L2.at ?_))))
 rw [if_pos rfl]
 refine L4.at ?_
 rw [if_neg (by decide)]
 refine wpAny_pure (wpAny_pure (wpAny_bind (L0.at (wpAny_bind (wpAny_bind (wpAny_bind (L3.at ?_)))))))
 cases b with
 | true =>
  rw [if_pos rfl]
  exact wpAny_pure (wpAny_pure (wpAny_pure h))
 | false =>
  rw [if_neg Bool.false_ne_true]
  exact wpAny_pure (wpAny_pure (wpAny_pure h))
section
variable {X:Cx} {pins:List (Addr × Obj)} {σ:St} {H:Hp} {s:Shared}
theorem Inv.track {x:Addr} {o:HO} {vs:Array Value} (I:Inv X pins σ H s) (hx:H x = none) (hf:∃ ob,s.heap.get? x = some ob∧ob.data = .fields vs) (hs0:X.s₀.heap.get? x = none) (hp:∀ p∈X.pn ++ pins,p.1≠x)
  (ok:ObjOk X.prog X.w (Aw H x o) s.heap x o):Inv X pins σ (Aw H x o) s:=by
 obtain ⟨ob,eob,dob⟩:=hf
 have ne:∀ b u,H b = some u→b≠x:=fun b u e z => by rw [z,hx] at e; cases e
 have hL:X.env.locals≠x:=fun z => by
  obtain ⟨m,⟨o',es,ep,ho',hd',_⟩,_⟩:=I.loc
  rw [z,eob] at ho'; cases ho'; rw [dob] at hd'; cases hd'
 have hC:∀ y c,X.env.cells.lookup y = some c→c≠x:=fun y c e z => by
  obtain ⟨v,o',ho',hd'⟩:=I.cell y c e
  rw [z,eob] at ho'; cases ho'; rw [dob] at hd'; cases hd'
 refine ⟨I.ok,I.os,I.bare,⟨I.base.keep,I.base.slot,fun b o e n hb => ?_,I.base.there,fun b xs e => ?_,fun b o u e => ?_,fun b ps e => ?_⟩,I.loc,I.cell,?_,fun y c e => ?_,fun p hp' => ?_,fun b u e => ?_,I.len⟩
 ·have nb:b≠x:=fun z => by rw [z,hs0] at e; cases e
  rw [AI nb]
  exact I.base.free b o e n hb
 ·have q:=I.base.tups b xs e
  rw [AI (ne b _ q)]
  exact q
 ·have q:=I.base.frzs b o u e
  rw [AI (ne b _ q)]
  exact q
 ·obtain ⟨more,q⟩:=I.base.tbls b ps e
  exact ⟨more,by rw [AI (ne b _ q)]; exact q⟩
 ·rw [AI hL]; exact I.free
 ·rw [AI (hC y c e)]; exact I.freeC y c e
 ·obtain ⟨e,n,r⟩:=I.pin p hp'
  exact ⟨e,by rw [AI (hp p hp')]; exact n,r⟩
 ·by_cases hb:b = x
  ·subst hb
   rw [AK] at e; cases e
   exact ok
  ·rw [AI hb] at e
   exact (I.hok b u e).stay (fun _ _ _ q => q) (fun c q => by rw [AI (ne c _ q)]; exact q) fun c xs q => by rw [AI (ne c _ q)]; exact q
theorem Inv.gone {i:Nat} {n:Str} {pos:Pos} {M:Model} {A:Around} {E:Value→Shared→Prop} {Q:Unit→Shared→Prop} (I:Inv X pins σ H s) (hN:X.N.Nodup) (hi:X.N[i]? = some n) (hk:X.env.scope.names.lookup n = some .local)
  (h:∀ s',Inv X pins (σ.set i none) H s'→Q () s'):wpAny M A (do bindName X.env n .none; unbindBehindTheSuite X.env n pos) Q E s:=by
 obtain ⟨m,hn,hl⟩:=id I.loc
 have hcls:(X.env.scope.kind == .class || (X.env.scope.kind == .module && X.env.locals != X.env.globals)) = false:=by rw [I.ok.kind]; rfl
 have cne:=I.cne
 refine wpAny_nameGoes_keeps hk hn hcls fun h' v hn' hs => ?_
 obtain ⟨oL,_,_,hoL,_⟩:=id hn
 have old:∀ b o,X.s₀.heap.get? b = some o→b≠X.env.locals:=fun b o e => Nat.ne_of_lt (Nat.lt_of_lt_of_le (Heap.lt_size e) I.ok.above)
 refine h _ ⟨I.ok,I.os,I.bare,⟨fun b o e n hb hx => ?_,fun b o e n hb hx => ?_,I.base.free,fun b o e hx => ?_,I.base.tups,I.base.frzs,I.base.tbls⟩,⟨_,hn',fun j y v' e1 e2 e3 => ?_⟩,fun y c e => ?_,I.free,I.freeC,fun p hp => ?_,fun b u e => ?_,by simpa using I.len⟩
 ·exact (hs.2 b (old b o e)).trans (I.base.keep b o e n hb hx)
 ·obtain ⟨sl,e1⟩:=I.base.slot b o e n hb hx
  exact ⟨sl,(hs.2 b (old b o e)).trans e1⟩
 ·obtain ⟨o',e1⟩:=I.base.there b o e hx
  exact ⟨o',(hs.2 b (old b o e)).trans e1⟩
 ·by_cases hj:j = i
  ·subst hj
   have hiσ:j < σ.length:=by rw [I.len]; exact (List.getElem?_eq_some_iff.mp hi).1
   rw [List.getElem?_set_self hiσ] at e2
   cases e2
  ·rw [List.getElem?_set_ne (Ne.symm hj)] at e2
   obtain ⟨u',r',q⟩:=hl j y v' e1 e2 e3
   refine ⟨u',r',?_⟩
   rcases q with ⟨k,e⟩ | ⟨k,c,e,z⟩
   ·refine .inl ⟨k,?_⟩
    have:y≠n:=fun e => hj (Et hN e1 (e ▸ hi))
    simp [this,e]
   ·exact .inr ⟨k,c,e,z.sameBut hs (cne y c e)⟩
 ·obtain ⟨w',z⟩:=I.cell y c e
  exact ⟨w',z.sameBut hs (cne y c e)⟩
 ·obtain ⟨e,n,ne,nf,d⟩:=I.pin p hp
  exact ⟨(hs.2 p.1 ne).trans e,n,ne,nf,d⟩
 ·refine (I.hok b u e).stay (fun c w' hc q => (hs.2 c ?_).trans q) (fun _ q => q) fun _ _ q => q
  rintro rfl
  rcases hc with rfl | hc
  ·rw [I.free] at e; cases e
  ·rw [I.free] at hc; cases hc
end
theorem Fly.un' {P:Program} {w:World} {outer:List Env} {H H':Hp} {s s':Shared} {x t:Addr} {cls:Value} {B h':Heap} (F:Fly P w outer H s H' x cls s') (b1:∀ b,H' b≠none→∃ o,B.get? b = some o) (b2:∀ b o,s.heap.get? b = some o→b ∉ Er outer→∃ o',B.get? b = some o')
  (fl:Heap.FlyingW B outer x cls (.ref t) s'.heap) (st:B.StaysIn h') (up:s'.heap.UpToSlots h'):Un (Er outer) [] H H' s.heap h'∧HOk P w H' h':=by
 have same:∀ b o o',B.get? b = some o'→s'.heap.get? b = some o→h'.get? b = some o:=fun b o o' e1 e2 => by
  have q:=fl.1 b o' e1
  rw [e2] at q; cases q
  exact st b o e1
 have fsm:∀ b o,b∈Er outer→s'.heap.get? b = some o→∃ sl,h'.get? b = some { o with slots:=sl }:=fun b o hb e => by
  obtain ⟨_,o',e',hd⟩:=fl.2.2.1.mem hb
  rw [e] at e'; cases e'
  exact up b o e hd
 refine ⟨⟨fun b o e n hb hx => ?_,fun b o e n hb hx => ?_,F.un.free,fun b o e hx => ?_,F.un.tups,F.un.frzs,F.un.tbls⟩,F.hok.by_keep fun b o hb e => ?_⟩
 ·obtain ⟨o',e'⟩:=b2 b o e hb
  exact same b o o' e' (F.un.keep b o e n hb hx)
 ·obtain ⟨sl,e1⟩:=F.un.slot b o e n hb hx
  obtain ⟨sl',e2⟩:=fsm b _ hb e1
  exact ⟨sl',e2⟩
 ·obtain ⟨o1,e1⟩:=F.un.there b o e hx
  by_cases hb:b∈Er outer
  ·obtain ⟨sl,e2⟩:=fsm b o1 hb e1
   exact ⟨_,e2⟩
  ·obtain ⟨o',e'⟩:=b2 b o e hb
   exact ⟨o',st b o' e'⟩
 ·obtain ⟨o',e'⟩:=b1 b hb
  exact same b o o' e' e
def DR (X:Cx) (pins:List (Addr × Obj)) (E':Value→Shared→Prop):Cx:={ X with pn:=X.pn ++ pins,xe:=E' }
structure TryIs (X X':Cx):Prop where
 is:∃ pins E',X' = DR X pins E'
def PU (X:Cx) (x:Addr):Cx:={ X with A:=X.A.mark (some (.ref x)),calm:=false,xe:=fun _ _ => False }
section
variable {X:Cx} {pins pins':List (Addr × Obj)} {σ:St} {H:Hp} {s:Shared} {E':Value→Shared→Prop} {x:Addr}
theorem Cx.Ok.toTry (ok:X.Ok):(DR X pins E').Ok :=
 ⟨ok.mod,ok.kind,ok.glob,ok.blt,ok.above,ok.inj,ok.has,ok.cab,ok.hd,ok.frames,ok.stk,ok.exf,ok.bs,ok.bsz,ok.noex,ok.exfs,ok.funs,ok.frf⟩
theorem Cx.Ok.ofTry (ok:(DR X pins E').Ok):X.Ok :=
 ⟨ok.mod,ok.kind,ok.glob,ok.blt,ok.above,ok.inj,ok.has,ok.cab,ok.hd,ok.frames,ok.stk,ok.exf,ok.bs,ok.bsz,ok.noex,ok.exfs,ok.funs,ok.frf⟩
theorem Cx.Ok.toH (ok:X.Ok):(PU X x).Ok :=
 ⟨ok.mod,ok.kind,ok.glob,ok.blt,ok.above,ok.inj,ok.has,ok.cab,fun (e:false = true) => (Bool.false_ne_true e).elim,ok.frames,ok.stk,ok.exf,ok.bs,ok.bsz,ok.noex,ok.exfs,ok.funs,ok.frf⟩
theorem Inv.toTry (I:Inv X pins σ H s):Inv (DR X pins E') [] σ H s :=
 ⟨I.ok.toTry,I.os,I.bare,I.base,I.loc,I.cell,I.free,I.freeC,fun p hp => I.pin p (by rw [List.append_nil] at hp; exact hp),I.hok,I.len⟩
theorem Inv.ofTry (I:Inv (DR X pins E') pins' σ H s):Inv X pins σ H s :=
 ⟨I.ok.ofTry,I.os,I.bare,I.base,I.loc,I.cell,I.free,I.freeC,fun p hp => I.pin p (List.mem_append_left _ hp),I.hok,I.len⟩
theorem Inv.toH (I:Inv X pins σ H s):Inv (PU X x) pins σ H s:=⟨I.ok.toH,I.os,I.bare,I.base,I.loc,I.cell,I.free,I.freeC,I.pin,I.hok,I.len⟩
theorem Inv.ofH (ok:X.Ok) (I:Inv (PU X x) pins σ H s):Inv X pins σ H s:=⟨ok,I.os,I.bare,I.base,I.loc,I.cell,I.free,I.freeC,I.pin,I.hok,I.len⟩
theorem SP.ofTry {D:Ends} {f:Flow} {s':Shared} (h:SP (DR X pins E') [] D f s'):SP X pins D f s':=by
 cases f with
 | next => obtain ⟨σ',H',I,q⟩:=h; exact ⟨σ',H',I.ofTry,q⟩
 | brk => obtain ⟨σ',H',I,q⟩:=h; exact ⟨σ',H',I.ofTry,q⟩
 | cont => obtain ⟨σ',H',I,q⟩:=h; exact ⟨σ',H',I.ofTry,q⟩
 | ret u => obtain ⟨v,σ',H',I,r,q⟩:=h; exact ⟨v,σ',H',I.ofTry,r,q⟩
end
def RF (i:Nat) (D:Ends):Ends:={ nx:=fun σ H => D.nx (σ.set i none) H,rt:=D.rt,bk:=fun σ H => D.bk (σ.set i none) H,ct:=fun σ H => D.ct (σ.set i none) H }
def WT (K:PySem.W.Frag) (B:Addr) (i:Nat) (th:TS) (D:Ends):St→XK:=fun σ cls _ H => ∃ C,cls = .ref C∧PySem.W.kitCls K (.ref C) (.ref B) = some true∧∀ x,H x = none→th (RF i D) (σ.set i (some (.ref x))) (Aw H x (HA C x))
def Wz (tb:(St→XK)→TS) (K:PySem.W.Frag) (B:Addr) (i:Nat) (th:TS):TS:=fun D σ H => tb (WT K B i th D) D σ H
theorem Mz {X:Cx} {body suite:List Stmt} {b₀:Stmt} {n x:Str} {i:Nat} {B:Addr} {np hpos pos:Pos} {tb:(St→XK)→TS} {th:TS} (hst:X.stack = X.env :: X.outer) (hex:X.ex = []) (hfr:X.env.frame = some X.env.locals) (hN:X.N.Nodup) (hi:X.N[i]? = some n)
  (hk:X.env.scope.names.lookup n = some .local) (hg:Gl X x) (hm:X.mg x = some (.ref B)) (hbe:PySem.W.mroIn X.K B (.type "BaseException") = some true)
  (hb:∀ (W:St→XK) (X':Cx),TryIs X X'→XFly X' W→PSs X' body (tb W)) (hh:∀ y,PSs (PU X y) (b₀ :: suite) th) (hd:(x == ("__debug__" : Str)) = false:=by decide) :
  PS X (.Try body [.ExceptHandler (some (.Name x np)) (some n) (b₀ :: suite) hpos] [] [] pos) (Wz tb X.K B i th):=by
 intro pins s σ H D I h
 refine wpAny_Try_except ?_
 generalize hXE:(fun (e:Value) (s₁:Shared) => wpAny (model X.prog X.w) X.A (noteFrame e X.env) (fun _ s₂ => wpAny (model X.prog X.w) X.A (setFlight e none) (fun _ s₃ => wpAny (model X.prog X.w) X.A (handleBy e X.env [.ExceptHandler (some (.Name x np)) (some n) (b₀ :: suite) hpos]) (SP X pins D) X.xe s₃) X.xe s₂) X.xe s₁) = XE
 have xf:XFly (DR X pins XE) (WT X.K B i th D):=by
  refine ⟨fun pins' σ1 H1 s1 e s2 I1 c => ?_⟩
  obtain ⟨y,cls,H2,rfl,F,C,rfl,kc,hq⟩:=c
  obtain ⟨B',t,b1,b2,fl⟩:=F.fly
  have fl':Heap.FlyingW B' (X.env :: X.outer) y (.ref C) (.ref t) s2.heap:=hst ▸ (show Heap.FlyingW B' X.stack y (.ref C) (.ref t) s2.heap from fl)
  have frA:X.A.frames = some (X.env :: X.outer):=hst ▸ I.ok.frames
  have inv_at:∀ hp:Heap,B'.StaysIn hp→s2.heap.UpToSlots hp→Inv X pins σ1 H2 { s2 with heap:=hp }:=fun hp st up => by
   obtain ⟨u,ho⟩:=F.un' b1 b2 fl st up
   exact Inv.ofTry (I1.call' (s':={ s2 with heap:=hp }) (ch:=[]) F.os u ho F.bare fun b z => absurd z (by simp))
  show XE (.ref y) s2
  rw [← hXE]
  refine wpAny_looks_onW frA hfr fl' fun h4 held4 up4 => ?_
  refine wpAny_landsW held4 fun h5 fl5 up5 => ?_
  have up5':=up4.trans up5
  have I5:=inv_at h5 fl5.1 up5'
  refine wpAny_handleBy_cons (codeAny_handlers_test ?_) (by intro q; cases q)
  refine Df (X:=PU X y) I5.toH hg hm ?_ hd
  refine IQ (K:=X.K) I5.kIn fl5.there kc hbe ?_
  refine codeAny_handlers_suite_as ?_
  refine lands_againW fl5 fun h6 fl6 up6 => ?_
  have I6:=inv_at h6 fl6.1 (up5'.trans up6)
  have hyB:B'.get? y = none:=fl.2.1
  have nofr:∀ b o,s1.heap.get? b = some o→b ∉ Er X.stack→b≠y:=fun b o e hb z => by
   obtain ⟨o',e'⟩:=b2 b o e hb
   rw [z,hyB] at e'; cases e'
  obtain ⟨oe,vs,eoe,_,doe,_⟩:=fl.first
  have yfr:y ∉ Er X.stack:=fun z => by
   obtain ⟨_,o',e',hd'⟩:=fl.2.2.1.mem (show y∈(DR X pins XE).stack.filterMap (·.frame) from z)
   rw [eoe] at e'; cases e'
   exact hd' vs doe
  have hs0:X.s₀.heap.get? y = none:=by
   cases e:X.s₀.heap.get? y with
   | none => rfl
   | some o =>
    have exf:y ∉ X.ex:=by rw [hex]; simp
    obtain ⟨o1,e1⟩:=I1.base.there y o e exf
    exact absurd rfl (nofr y o1 e1 yfr)
  obtain ⟨oe6,vs6,eoe6,_,doe6,_⟩:=fl6.first
  have I7:Inv X pins σ1 (Aw H2 y (HA C y)) { s2 with heap:=h6 }:=I6.track F.fr ⟨oe6,eoe6,doe6⟩ hs0 (fun p hp => by
   obtain ⟨e,_,nl,nf,_⟩:=I1.pin p (List.mem_append_left _ hp)
   exact nofr p.1 p.2 e fun z => (List.mem_cons.mp (I1.stkSub p.1 z)).elim nl nf) (Pv fl6.there)
  refine BJ (X:=PU X y) I7.toH hN hi (.inl hk) (v:=.ref y) rfl (fun s8 I8 => ?_) (.inr hk)
  refine wpAny_mono (hh y _ s8 _ _ (RF i D) I8 (hq y F.fr)) (fun f s9 hf => ?_) fun _ _ z => False.elim z
  cases f with
  | next => obtain ⟨σ9,H9,I9,q9⟩:=hf; exact (I9.ofH I.ok).gone hN hi hk fun s10 I10 => ⟨_,_,I10,q9⟩
  | brk => obtain ⟨σ9,H9,I9,q9⟩:=hf; exact (I9.ofH I.ok).gone hN hi hk fun s10 I10 => ⟨_,_,I10,q9⟩
  | cont => obtain ⟨σ9,H9,I9,q9⟩:=hf; exact (I9.ofH I.ok).gone hN hi hk fun s10 I10 => ⟨_,_,I10,q9⟩
  | ret u => obtain ⟨v,σ9,H9,I9,r,q9⟩:=hf; exact (I9.ofH I.ok).gone hN hi hk fun s10 I10 => ⟨v,_,_,I10,r,q9⟩
 have q:=hb _ (DR X pins XE) ⟨_,_,rfl⟩ xf [] s σ H D I.toTry h
 refine wpAny_mono q (fun f s1 hf => ?_) fun e s1 he => he
 cases f with
 | next => exact wpAny_execs_nil (SP.ofTry (f:=.next) hf)
 | brk => exact SP.ofTry (f:=.brk) hf
 | cont => exact SP.ofTry (f:=.cont) hf
 | ret u => exact SP.ofTry (f:=.ret u) hf
structure RoomH (k:Nat) (A:Around):Prop where
 dp:A.depth + 3 * k + 5 < recursionLimit
 un:A.units + 16 * k + 200 < cLine
theorem Room.toH {k:Nat} {A:Around} {x:Value} (r:Room k A):RoomH k (A.mark (some x)):=⟨r.dp,r.un⟩
structure FnH (P:Program) (w:World) (K:PySem.W.Frag) (mg:Str→Option Value) (base:Heap) (k:Nat) (f:Addr) (fd:FuncData) (ps:List Str) (sp:Sp):Prop where
 len:∀ vs H Q E,sp vs H Q E→vs.length = ps.length
 run:∀ (A:Around) (outer:List Env) (s:Shared) (H:Hp) (args:Args) (us:List Value) (vs:List V) (Q:VK),RoomH k A→Env0 P w K mg base A outer s H→BindsTo s fd args (ps.zip us)→Vals vs us→sp vs H Q E0 →
  codeAny (model P w) A (.call (.ref f) args) (CR Ww outer P w H s Q E0) s
def Sb (P:Program) (w:World) (K:PySem.W.Frag) (mg:Str→Option Value) (base:Heap) (N:List Str) (qual:Str) (scope:Scope) (f:Addr) (cd:Value) (A:Around) (outer:List Env) (s:Shared) (H:Hp):Cx :=
 { Cj Ww P w K mg base N qual scope f cd A outer s H E0 with calm:=false,xe:=fun _ _ => False }
theorem Fun.okH {P:Program} {w:World} {K:PySem.W.Frag} {mg:Str→Option Value} {base:Heap} {x qual:Str} {st:Stmt} {f:Addr} {fd:FuncData} {N ps:List Str} {k:Nat} {sp:Sp} (F:Fun K x qual st f fd) (S:FnScope N ps (AA st))
  (len:∀ vs H Q E,sp vs H Q E→vs.length = ps.length)
  (hbody:∀ (cdv:Value) (A:Around) (outer:List Env) (s:Shared) (H:Hp) (vs:List V) (Q:VK),RoomH k (A.deeper (envOfC qual (AA st) s.heap.objs.size f cdv))→sp vs H Q E0 →
   ∃ t,PSs (Sb P w K mg base N qual (AA st) f cdv A outer s H) (Am st) t∧t { nx:=fun _ H' => Q .non H',rt:=Q } (start N vs) H):FnH P w K mg base (k + 1) f fd ps sp:=by
 obtain ⟨oc,od,kV,doc,pm,an,cdv,ct,osl,rfl,lk,hcd⟩:=F.ex
 refine ⟨len,fun A outer s H args us vs Q hr e0 hb r hsp => ?_⟩
 have hl:=len _ _ _ _ hsp
 have KX:K.In s.heap:=e0.mod.kin.keeps fun b o e => (e0.bs b o e).1
 have lim:s.heap.NoLimit:=e0.mod.nolimit.keeps fun b o e => (e0.bs b o e).1
 have hkind:∀ y∈ps.zip us,(AA st).names.lookup y.1 = some .local∨((AA st).names.lookup y.1 = some .cell∧((cellsFrom (s.heap.objs.size + 1) (AA st).names []).lookup y.1).isSome = true):=fun ⟨n,v⟩ hy => by
  rcases S.par n (List.of_mem_zip hy).1 with q | q
  ·exact .inl q
  ·exact .inr ⟨q,PySem.W.cellsFrom_some _ _ _ (.inl q)⟩
 refine codeAny_call_function (by have:=hr.dp; omega) (KX _ _ lk) rfl S.co S.gen rfl (PySem.W.codeRec_of KX hcd) (hb _ _ _ _ ?_)
 refine wpAny_newFunctionEnv_cells S.kind hkind fun env he s1 x => ?_
 subst he
 refine ⟨lim.keeps x.toInCall.keep,codeAny_func ?_⟩
 obtain ⟨t,ht,hq⟩:=hbody cdv A outer s H vs Q ⟨by have:=hr.dp; show A.depth + 1 + 3 * k + 5 < _; omega,by have:=hr.un; show A.units + 3 + 16 * k + 200 < _; omega⟩ hsp
 have I0:Inv (Cj Ww P w K mg base N qual (AA st) f cdv { A with handled:=none } outer s H E0) [] (start N vs) H s1 :=
  GO S rfl (⟨e0.frames,e0.mod,e0.bs,e0.bsz,e0.funs,e0.frf,e0.hok,e0.bare⟩:Env0 P w K mg base { A with handled:=none } outer s H) hl r x
 have I:Inv (Sb P w K mg base N qual (AA st) f cdv A outer s H) [] (start N vs) H s1:=by
  have ok:=I0.ok
  exact ⟨⟨ok.mod,ok.kind,ok.glob,ok.blt,ok.above,ok.inj,ok.has,ok.cab,fun (e:false = true) => (Bool.false_ne_true e).elim,ok.frames,ok.stk,ok.exf,ok.bs,ok.bsz,ok.noex,ok.exfs,ok.funs,ok.frf⟩,I0.os,I0.bare,I0.base,I0.loc,I0.cell,I0.free,I0.freeC,I0.pin,I0.hok,I0.len⟩
 refine wpAny_mono (ht [] s1 (start N vs) H _ I hq) (fun fl s' hs => ?_) fun e s' hs => False.elim hs
 have fin:∀ {σ':St} {H':Hp} {v:V} {u:Value},Inv (Sb P w K mg base N qual (AA st) f cdv A outer s H) [] σ' H' s'→RelV v u→Q v H'→CE outer P w H s Q u s' :=
  fun {σ' H' v u} J rv q => ⟨v,H',J.os,J.bare,J.base,J.hok,rv,q⟩
 cases fl with
 | ret u =>
  obtain ⟨v,σ',H',J,rv,q⟩:=hs
  exact fin J rv q
 | next =>
  obtain ⟨σ',H',J,q⟩:=hs
  exact fin (v:=V.non) (u:=Value.none) J rfl q
 | brk =>
  obtain ⟨_,_,_,q⟩:=hs
  exact False.elim q
 | cont =>
  obtain ⟨_,_,_,q⟩:=hs
  exact False.elim q
theorem IR {X:Cx} {k:Nat} {f:Addr} {fd:FuncData} {ps:List Str} {sp:Sp} {x:Str} {p pos:Pos} {e:Expr} {es:List Expr} {t:TA} (F:FnH X.prog X.w X.K X.mg X.base k f fd ps sp) (hr:RoomH k X.A) (hg:Gl X x) (hm:X.mg x = some (.ref f)) (hk:PySem.W.keepIn X.K (.ref f) = true) (hb:Binds X.K fd ps [])
  (ha:PA X (e :: es) t) (hdb:(x == ("__debug__" : Str)) = false:=by decide) (he:starEach (e :: es) X.env = (false,eval e X.env) :: starEach es X.env:=by rfl) (hpl:(backTo pos (starEach es X.env)).any (·.1) = false:=by rfl) :
  PE X (.Call (.Name x p) (e :: es) [] pos) (Ji sp (fun _ => E0) t):=by
 intro pins s σ H Q I h
 refine wpAny_Call_Name_kw (Df I hg hm ?_ hdb)
 refine PySem.W.callWith_K (h₀:=X.base) I.ok.mod.kin hk (Aq (ha pos pins s σ H _ I h) fun us s1 ⟨vs,H1,I1,r,q⟩ => ⟨I1.kIn,?_⟩) he hpl
 have r2:Vals vs (us ++ []):=by rw [List.append_nil]; exact r
 have hl:(us ++ []).length = ps.length:=by rw [← r2.length]; exact F.len _ _ _ _ q
 refine wpAny_call (codeAny_mono (F.run X.A X.stack s1 H1 ⟨us,[]⟩ (us ++ []) vs Q hr I1.env0 (hb s1 us I1.kIn hl) r2 q) fun r s' hq => ?_)
 cases r with
 | error e => exact False.elim hq
 | ok fl =>
  cases fl with
  | ret u => exact I1.after hq
  | next => exact False.elim hq
  | brk => exact False.elim hq
  | cont => exact False.elim hq
theorem Fun.okX {P:Program} {w:World} {K:PySem.W.Frag} {mg:Str→Option Value} {base:Heap} {x qual:Str} {st:Stmt} {f:Addr} {fd:FuncData} {N ps:List Str} {k:Nat} {sp:Sp} (F:Fun K x qual st f fd) (S:FnScope N ps (AA st)) (len:∀ vs H Q E,sp vs H Q E→vs.length = ps.length)
  (hbody:∀ (cdv:Value) (A:Around) (outer:List Env) (s:Shared) (H:Hp) (vs:List V) (Q:VK) (E:XK),Room k (A.deeper (envOfC qual (AA st) s.heap.objs.size f cdv))→sp vs H Q E →
   ∃ t,PSs (Cj (CXe P w) P w K mg base N qual (AA st) f cdv A outer s H E) (Am st) t∧t { nx:=fun _ H' => Q .non H',rt:=Q } (start N vs) H):FnOk P w K mg base (CXe P w) (k + 1) f fd ps sp:=by
 obtain ⟨oc,od,kV,doc,pm,an,cdv,ct,osl,rfl,lk,hcd⟩:=F.ex
 exact Ub lk hcd S len fun A outer s H vs Q E hr hsp => hbody cdv A outer s H vs Q E hr hsp
section
variable {X:Cx}
def Xv (K:PySem.W.Frag) (H:Hp) (x:V) (t:Value):Prop:=TyOf K H x t∨∃ a D,x = .ref a∧t = .ref D∧H a = some (HA D a)∧ExcCls K D
def Uk (K:PySem.W.Frag):List V→Hp→VK→Prop:=fun vs H Q => ∃ x c t cv b,vs = [x,c]∧RelV c cv∧Xv K H x t∧PySem.W.kitOne K t cv = some b∧Q (.bl b) H
theorem BG:BL X (.builtin "isinstance") (Uk X.K):=by
 intro pins s σ H xs us Q I r h
 obtain ⟨x,c,t,cv,b,rfl,rc,ty,e,q⟩:=h
 obtain ⟨u,w',rfl,rx,rw'⟩:=Mm r
 have e2:w' = cv:=by
  cases c with
  | ty n => exact (show w' = Value.type n from rw').trans (show cv = Value.type n from rc).symm
  | ref a => exact (show w' = Value.ref a from rw').trans (show cv = Value.ref a from rc).symm
  | non => exact (show w' = Value.none from rw').trans (show cv = Value.none from rc).symm
  | bl b => exact (show w' = Value.bool b from rw').trans (show cv = Value.bool b from rc).symm
  | int i => exact absurd e (by obtain ⟨k,rfl⟩:=rc; unfold PySem.W.kitOne; rcases ty with ty | ⟨_,_,_,rfl,_⟩ <;> first | (cases ty <;> (intro z; simp [PySem.W.kitCls] at z)) | (intro z; simp [PySem.W.kitCls] at z))
  | str i => exact absurd e (by obtain ⟨k,rfl⟩:=rc; unfold PySem.W.kitOne; rcases ty with ty | ⟨_,_,_,rfl,_⟩ <;> first | (cases ty <;> (intro z; simp [PySem.W.kitCls] at z)) | (intro z; simp [PySem.W.kitCls] at z))
  | byt i => exact absurd e (by obtain ⟨k,rfl⟩:=rc; unfold PySem.W.kitOne; rcases ty with ty | ⟨_,_,_,rfl,_⟩ <;> first | (cases ty <;> (intro z; simp [PySem.W.kitCls] at z)) | (intro z; simp [PySem.W.kitCls] at z))
  | flt i => exact absurd e (by obtain ⟨k,rfl⟩:=rc; unfold PySem.W.kitOne; rcases ty with ty | ⟨_,_,_,rfl,_⟩ <;> first | (cases ty <;> (intro z; simp [PySem.W.kitCls] at z)) | (intro z; simp [PySem.W.kitCls] at z))
 subst e2
 rcases ty with ty | ⟨a,D,rfl,rfl,hx,k⟩
 ·exact Lj I rx ty e fun tk => ⟨.bl b,H,I.tok tk,rfl,q⟩
 ·cases (show u = Value.ref a from rx)
  exact Jk I hx k e fun tk => ⟨.bl b,H,I.tok tk,rfl,q⟩
def Sc (K:PySem.W.Frag):V→List V→Hp→VK→Prop:=fun x vs H Q => ∃ l xs y,x = .ref l∧vs = [y]∧SqL K H l xs∧DQ y = true∧xs.all DQ = true∧Q (.int (xs.countP fun z => JT z y)) H
theorem FA {x:V}:∀ {xs:List V} {us:List Value},Vals xs us→xs.all DQ = true→us.countP (UC x) = xs.countP fun y => JT y x
 | _,_,.nil,_ => rfl
 | y :: xs,u :: us,.cons r t,f => by
  rw [List.all_cons,Bool.and_eq_true] at f
  rw [List.countP_cons,List.countP_cons,Je r f.1,FA t f.2]
theorem NA:Ug X "list.count" (Sc X.K):=by
 intro pins s σ H x vs v us Q I rx rv h
 obtain ⟨l,xs,y,rfl,rfl,hl,fy,fx,q⟩:=h
 cases rx
 obtain ⟨u,rfl,ru⟩:=rv.one
 obtain ⟨its,r,p,hz⟩:=I.list hl
 obtain ⟨⟨cls,dd,data,sl⟩,n,ho,hc,hdd,hd⟩:=id p
 simp only at hc hd
 subst hc hd
 refine call_meets F.slot_list_count ⟨_,ho,rfl⟩ F.entry_list_count (F.args_list_count_2 _ _) (SeqAt.list_countAt l its.toArray n dd sl u (UC y)) ⟨ho,fun z hz => Ez ru fy r fx z (by simpa using hz),?_⟩
 rw [show its.toArray.toList = its from rfl,FA r fx]
 exact ⟨.int _,H,I.tok _,⟨_,rfl⟩,q⟩
def Sd (K:PySem.W.Frag):V→List V→Hp→VK→Prop:=fun x vs H Q => ∃ l xs y j,x = .ref l∧vs = [y]∧SqL K H l xs∧DQ y = true∧xs.all DQ = true∧(∃ z,xs[j]? = some z∧JT z y = true)∧(∀ m z,m < j→xs[m]? = some z→JT z y = false)∧Q (.int (j:Nat)) H
theorem NB:Ug X "list.index" (Sd X.K):=by
 intro pins s σ H x vs v us Q I rx rv h
 obtain ⟨l,xs,y,j,rfl,rfl,hl,fy,fx,⟨z,ez,hit⟩,hno,q⟩:=h
 cases rx
 obtain ⟨u,rfl,ru⟩:=rv.one
 obtain ⟨its,r,p,hz⟩:=I.list hl
 obtain ⟨⟨cls,dd,data,sl⟩,n,ho,hc,hdd,hd⟩:=id p
 simp only at hc hd
 subst hc hd
 have hlen:=r.length
 have hj:j < xs.length:=(List.getElem?_eq_some_iff.mp ez).1
 have at_:∀ m (hm:m < its.toArray.size) z,xs[m]? = some z→UC y its.toArray[m] = JT z y:=fun m hm z e => by
  obtain ⟨w',e',rw'⟩:=r.get e
  have:its.toArray[m] = w':=by
   have:its[m]'(by simpa using hm) = w':=Option.some.inj (by rw [← e']; simp)
   simpa using this
  rw [this]
  exact Je rw' (List.all_eq_true.mp fx z (List.mem_of_getElem? e))
 refine call_meets F.slot_list_index ⟨_,ho,rfl⟩ F.entry_list_index (F.args_list_index_2 _ _)
  (SeqAt.list_indexAt l its.toArray n dd sl u (UC y) j (by simpa [← hlen] using hj) (by have:=Du; omega) ?_ ?_) ⟨ho,fun z hz => Ez ru fy r fx z (by simpa using hz),⟨.int _,H,I.tok _,⟨_,rfl⟩,q⟩⟩
 ·rw [at_ j _ z ez]; exact hit
 ·intro m hm hlt
  have hmx:m < xs.length:=by omega
  rw [at_ m hm xs[m] (by simp [hmx])]
  exact hno m _ hlt (by simp [hmx])
end
end L2
namespace StT
local macro_rules | `(tactic| omega) => `(tactic| first | lia | omega)
open PySem PySem.SetTable
theorem Jl:∀ (m:Nat) (l:List Nat),(∀ e,e < m→e∈l)→m≤l.length
 | 0,_,_ => Nat.zero_le _
 | m + 1,l,h => by
  have hm:m∈l:=h m (Nat.lt_succ_self m)
  have ih:=Jl m (l.erase m) fun e he => by
   rw [List.mem_erase_of_ne (Nat.ne_of_lt he)]
   exact h e (Nat.lt_succ_of_lt he)
  rw [List.length_erase_of_mem hm] at ih
  have:0 < l.length:=List.length_pos_of_mem hm
  omega
theorem BS:∀ (n:Nat) (l:List Nat),l.Nodup→(∀ x∈l,x < n)→l.length≤n
 | 0,[],_,_ => Nat.le_refl _
 | 0,x :: _,_,h => absurd (h x List.mem_cons_self) (Nat.not_lt_zero _)
 | n + 1,l,nd,h => by
  have ih:=BS n (l.erase n) (nd.erase n) fun x hx => by
   have h1:=h x (List.mem_of_mem_erase hx)
   have h2:x≠n:=fun e => by
    subst e
    exact absurd hx (List.Nodup.not_mem_erase nd)
   omega
  by_cases hn:n∈l
  ·rw [List.length_erase_of_mem hn] at ih
   omega
  ·rw [List.erase_of_not_mem hn] at ih
   omega
def NC (xs:Array Nat):Prop:=xs.toList.Pairwise (· < ·)
theorem FB {xs:Array Nat} (r:NC xs) {i j:Nat} {x y:Nat} (hi:xs[i]? = some x) (hj:xs[j]? = some y) (h:i < j):x < y:=by
 obtain ⟨h1,rfl⟩:=Array.getElem?_eq_some_iff.mp hi
 obtain ⟨h2,rfl⟩:=Array.getElem?_eq_some_iff.mp hj
 have:=List.pairwise_iff_getElem.mp r i j (by simpa using h1) (by simpa using h2) h
 simpa using this
theorem HB {xs:Array Nat} {j:Nat}:∀ (fuel lo hi:Nat),hi - lo≤fuel→lo≤hi→hi≤xs.size→(∀ i x,i < lo→xs[i]? = some x→x < j)→(∀ i x,hi≤i→xs[i]? = some x→j≤x)→NC xs →
  (below.go xs j fuel lo hi≤xs.size)∧(∀ i x,i < below.go xs j fuel lo hi→xs[i]? = some x→x < j)∧∀ i x,below.go xs j fuel lo hi≤i→xs[i]? = some x→j≤x
 | 0,lo,hi,hf,hlo,hhi,h1,h2,r => by
  have:lo = hi:=by omega
  subst this
  exact ⟨hhi,h1,h2⟩
 | fuel + 1,lo,hi,hf,hlo,hhi,h1,h2,r => by
  unfold below.go
  by_cases hl:lo < hi
  ·rw [if_pos hl]
   have hm:(lo + hi) / 2 < xs.size:=by omega
   have em:xs[(lo + hi) / 2]? = some xs[(lo + hi) / 2]:=by simp [hm]
   have eg:xs.getD ((lo + hi) / 2) j = xs[(lo + hi) / 2]:=by simp [Array.getD,hm]
   dsimp only
   rw [eg]
   by_cases hc:xs[(lo + hi) / 2] < j
   ·rw [if_pos hc]
    refine HB fuel _ _ (by omega) (by omega) hhi (fun i x hi' e => ?_) h2 r
    by_cases hx:i = (lo + hi) / 2
    ·subst hx
     rw [em] at e; cases e
     exact hc
    ·exact Nat.lt_trans (FB r e em (by omega)) hc
   ·rw [if_neg hc]
    refine HB fuel _ _ (by omega) (by omega) (by omega) h1 (fun i x hi' e => ?_) r
    by_cases hx:i = (lo + hi) / 2
    ·subst hx
     rw [em] at e; cases e
     omega
    ·have:=FB r em e (by omega)
     omega
  ·rw [if_neg hl]
   have:lo = hi:=by omega
   subst this
   exact ⟨hhi,h1,h2⟩
theorem CM {xs:Array Nat} {j:Nat} (r:NC xs):(below xs j≤xs.size)∧(∀ i x,i < below xs j→xs[i]? = some x→x < j)∧∀ i x,below xs j≤i→xs[i]? = some x→j≤x :=
 HB _ _ _ (by omega) (by omega) (Nat.le_refl _) (fun i x h => absurd h (Nat.not_lt_zero _)) (fun i x h e => by
  have:=(Array.getElem?_eq_some_iff.mp e).1
  omega) r
theorem Bh {xs:Array Nat} {i j:Nat} (r:NC xs) (h:xs[i]? = some j):below xs j = i:=by
 obtain ⟨b1,b2,b3⟩:=CM (j:=j) r
 have hi:i < xs.size:=(Array.getElem?_eq_some_iff.mp h).1
 apply Nat.le_antisymm
 ·apply Nat.le_of_not_lt
  intro hc
  exact absurd (b2 i j hc h) (Nat.lt_irrefl _)
 ·apply Nat.le_of_not_lt
  intro hc
  have e:xs[below xs j]? = some xs[below xs j]:=by simp [Nat.lt_trans hc hi]
  have h1:=b3 _ _ (Nat.le_refl _) e
  have h2:=FB r e h hc
  omega
theorem Av {α:Type} (xs:Array α) (p:Nat) (x:α):(insertAt xs p x).toList = xs.toList.take p ++ x :: xs.toList.drop p:=by
 unfold insertAt
 simp
 rw [List.take_of_length_le (by simp)]
theorem getElem?_insertAt {α:Type} (xs:Array α) (p:Nat) (x:α) (hp:p≤xs.size) (i:Nat):(insertAt xs p x)[i]? = if i < p then xs[i]? else if i = p then some x else xs[i - 1]?:=by
 have e:(insertAt xs p x)[i]? = (insertAt xs p x).toList[i]?:=by simp
 rw [e,Av]
 have hl:(xs.toList.take p).length = p:=by simp [hp]
 by_cases h1:i < p
 ·rw [if_pos h1,List.getElem?_append_left (by omega),List.getElem?_take_of_lt h1]
  simp
 ·rw [if_neg h1,List.getElem?_append_right (by omega),hl]
  by_cases h2:i = p
  ·subst h2
   simp
  ·rw [if_neg h2]
   have:i - p = (i - p - 1) + 1:=by omega
   rw [this,List.getElem?_cons_succ,List.getElem?_drop]
   have:p + (i - p - 1) = i - 1:=by omega
   rw [this]
   simp
theorem Bv {α:Type} (xs:Array α) (p:Nat) (x:α) (hp:p≤xs.size):(insertAt xs p x).size = xs.size + 1:=by
 rw [← Array.length_toList,Av]
 simp
 omega
theorem Jm {xs:Array Nat} {j:Nat} (r:NC xs) (hj:∀ i:Nat,xs[i]?≠some j):NC (insertAt xs (below xs j) j):=by
 obtain ⟨b1,b2,b3⟩:=CM (j:=j) r
 unfold NC
 rw [Av]
 have lt:∀ y∈xs.toList.take (below xs j),y < j:=fun y hy => by
  obtain ⟨i,hi⟩:=List.getElem?_of_mem hy
  have hlt:i < below xs j:=by
   have:=(List.getElem?_eq_some_iff.mp hi).1
   simp at this; omega
  rw [List.getElem?_take_of_lt hlt] at hi
  exact b2 i y hlt (by simpa using hi)
 have gt:∀ y∈xs.toList.drop (below xs j),j < y:=fun y hy => by
  obtain ⟨i,hi⟩:=List.getElem?_of_mem hy
  rw [List.getElem?_drop] at hi
  have hi':xs[below xs j + i]? = some y:=by simpa using hi
  have h1:=b3 _ y (Nat.le_add_right _ _) hi'
  have h2:y≠j:=fun e => hj _ (e ▸ hi')
  omega
 refine List.pairwise_append.mpr ⟨List.Pairwise.sublist (List.take_sublist _ _) r,List.pairwise_cons.mpr ⟨gt,List.Pairwise.sublist (List.drop_sublist _ _) r⟩,fun a ha b hb => ?_⟩
 rcases List.mem_cons.mp hb with rfl | hb
 ·exact lt a ha
 ·exact Nat.lt_trans (lt a ha) (gt b hb)
def adv (m:Nat) (p:Probe):Probe:=(SetTable.mk m #[] #[] 0 false 0 false).advance p
theorem FD (t:SetTable) (p:Probe):t.advance p = adv t.mask p:=rfl
theorem FE {m:Nat} {p:Probe} (h:0 < p.more):adv m p = ⟨p.j + 1,p.more - 1,p.i,p.perturb,p.dummy⟩:=by
 unfold adv advance
 exact if_pos h
theorem FF {m:Nat} {p:Probe} (h:¬ 0 < p.more):adv m p = ⟨(leap m p.i p.perturb).1,runEnd m (leap m p.i p.perturb).1 - (leap m p.i p.perturb).1,(leap m p.i p.perturb).1,(leap m p.i p.perturb).2,p.dummy⟩:=by
 unfold adv advance
 exact if_neg h
def advN (m:Nat):Nat→Probe→Probe
 | 0,p => p
 | n + 1,p => advN m n (adv m p)
theorem Bj (m:Nat):∀ (a b:Nat) (p:Probe),advN m (a + b) p = advN m b (advN m a p)
 | 0,b,p => by rw [Nat.zero_add]; rfl
 | a + 1,b,p => by
  rw [Nat.succ_add]
  exact Bj m a b (adv m p)
theorem GR (m n:Nat) (p:Probe):advN m (n + 1) p = adv m (advN m n p):=Bj m n 1 p
def st (m:Nat) (x:Nat × Nat) (d:Option Nat):Probe:={ j:=x.1,more:=runEnd m x.1 - x.1,i:=x.1,perturb:=x.2,dummy:=d }
theorem IS (t:SetTable) (h:Int):t.probeStart h = st t.mask (bits h % (t.mask + 1),bits h) none:=rfl
def Jn (m:Nat):Nat→Nat × Nat→Nat × Nat
 | 0,x => x
 | n + 1,x => Jn m n (leap m x.1 x.2)
theorem Dx (m i:Nat) (h:i≤m):i + (runEnd m i - i)≤m∧runEnd m i - i≤9:=by
 unfold runEnd
 split <;> omega
theorem HC (m:Nat):∀ (k:Nat) (p:Probe),k≤p.more→advN m k p = { p with j:=p.j + k,more:=p.more - k }
 | 0,p,_ => rfl
 | k + 1,p,h => by
  show advN m k (adv m p) = _
  have e:adv m p = { p with j:=p.j + 1,more:=p.more - 1 }:=FE (by omega)
  rw [e,HC m k _ (by show k≤p.more - 1; omega)]
  show ({ p with j:=p.j + 1 + k,more:=p.more - 1 - k }:Probe) = { p with j:=p.j + (k + 1),more:=p.more - (k + 1) }
  rw [show p.j + 1 + k = p.j + (k + 1) by omega,show p.more - 1 - k = p.more - (k + 1) by omega]
theorem FG (m:Nat) (p:Probe):advN m (p.more + 1) p = st m (leap m p.i p.perturb) p.dummy:=by
 rw [GR,HC m p.more p (Nat.le_refl _)]
 rw [FF (by show ¬ 0 < p.more - p.more; omega)]
 rfl
theorem FI (m:Nat):∀ (L:Nat) (x:Nat × Nat),x.1≤m→(Jn m L x).1≤m
 | 0,_,h => h
 | L + 1,x,_ => FI m L _ (by show (x.1 * 5 + 1 + x.2 / 32) % (m + 1)≤m; have:=Nat.mod_lt (x.1 * 5 + 1 + x.2 / 32) (show 0 < m + 1 by omega); omega)
theorem ND (m:Nat):∀ (L:Nat) (x:Nat × Nat) (d:Option Nat),x.1≤m→∃ n,n≤10 * L∧advN m n (st m x d) = st m (Jn m L x) d
 | 0,x,d,_ => ⟨0,by omega,rfl⟩
 | L + 1,x,d,h => by
  have hl:(leap m x.1 x.2).1≤m:=FI m 1 x h
  obtain ⟨n,hn,e⟩:=ND m L (leap m x.1 x.2) d hl
  have h9:=(Dx m x.1 h).2
  refine ⟨(st m x d).more + 1 + n,?_,?_⟩
  ·show runEnd m x.1 - x.1 + 1 + n≤_; omega
  ·rw [Bj,FG]
   exact e
theorem Kj (m:Nat):∀ (a b:Nat) (x:Nat × Nat),Jn m (a + b) x = Jn m b (Jn m a x)
 | 0,b,x => by rw [Nat.zero_add]; rfl
 | a + 1,b,x => by rw [Nat.succ_add]; exact Kj m a b _
theorem Kl (m:Nat):∀ (L:Nat) (x:Nat × Nat),(Jn m L x).2 = x.2 / 32 ^ L
 | 0,x => by simp [Jn]
 | L + 1,x => by
  show (Jn m L (leap m x.1 x.2)).2 = _
  rw [Kl m L]
  show x.2 / 32 / 32 ^ L = x.2 / 32 ^ (L + 1)
  rw [Nat.div_div_eq_div_mul,Nat.pow_succ,Nat.mul_comm]
def UD (m:Nat):Nat→Nat→List Nat
 | 0,_ => []
 | n + 1,i => i :: UD m n ((i * 5 + 1) % (m + 1))
def fN (m:Nat):Nat→Nat→Nat
 | 0,i => i
 | n + 1,i => fN m n ((i * 5 + 1) % (m + 1))
theorem Ul (m:Nat):∀ (L i:Nat),Jn m L (i,0) = (fN m L i,0)
 | 0,_ => rfl
 | L + 1,i => by
  show Jn m L ((i * 5 + 1 + 0 / 32) % (m + 1),0 / 32) = _
  rw [Nat.zero_div,Nat.add_zero]
  exact Ul m L _
theorem HD (m:Nat):∀ (a b x:Nat),fN m (a + b) x = fN m b (fN m a x)
 | 0,b,x => by rw [Nat.zero_add]; rfl
 | a + 1,b,x => by rw [Nat.succ_add]; exact HD m a b _
theorem HE (m:Nat):∀ (n i e:Nat),e∈UD m n i→∃ k,k < n∧fN m k i = e
 | 0,_,_,h => by simp [UD] at h
 | n + 1,i,e,h => by
  rcases List.mem_cons.mp h with rfl | h
  ·exact ⟨0,Nat.succ_pos _,rfl⟩
  ·obtain ⟨k,hk,hf⟩:=HE m n _ e h
   exact ⟨k + 1,by omega,hf⟩
def Bl (m:Nat):Prop:=m = 7∨m = 31∨m = 127∨m = 511
theorem XA {m:Nat} (h:Bl m):fN m (m + 1) 0 = 0∧∀ e,e≤m→e∈UD m (m + 1) 0:=by
 have all:∀ k,((List.range (k + 1)).all fun e => (UD k (k + 1) 0).contains e) = true→∀ e,e≤k→e∈UD k (k + 1) 0:=fun k hk e he => by
  have:=List.all_eq_true.mp hk e (List.mem_range.mpr (Nat.lt_succ_of_le he))
  exact List.contains_iff_mem.mp this
 rcases h with rfl | rfl | rfl | rfl
 ·exact ⟨by decide +kernel,all 7 (by decide +kernel)⟩
 ·exact ⟨by decide +kernel,all 31 (by decide +kernel)⟩
 ·exact ⟨by decide +kernel,all 127 (by decide +kernel)⟩
 ·exact ⟨by decide +kernel,all 511 (by decide +kernel)⟩
theorem Xw {m:Nat} (h:Bl m) {i e:Nat} (hi:i≤m) (he:e≤m):∃ k,k≤m∧fN m k i = e:=by
 obtain ⟨c0,call⟩:=XA h
 obtain ⟨a,ha,ea⟩:=HE m _ _ _ (call i hi)
 obtain ⟨b,hb,eb⟩:=HE m _ _ _ (call e he)
 by_cases hab:a≤b
 ·refine ⟨b - a,by omega,?_⟩
  rw [← ea,← HD,show a + (b - a) = b by omega]
  exact eb
 ·refine ⟨m + 1 - a + b,by omega,?_⟩
  rw [← ea,← HD,show a + (m + 1 - a + b) = (m + 1) + b by omega,HD,c0]
  exact eb
structure Pr (m:Nat) (p:Probe):Prop where
 ij:p.j + p.more≤m
 more:p.more≤9
 i:p.i≤m
 pert:p.perturb < 2 ^ 64
theorem Pr.st {m:Nat} {x:Nat × Nat} {d:Option Nat} (h1:x.1≤m) (h2:x.2 < 2 ^ 64):Pr m (st m x d):=⟨(Dx m x.1 h1).1,(Dx m x.1 h1).2,h1,h2⟩
theorem Pr.adv {m:Nat} {p:Probe} (h:Pr m p):Pr m (adv m p):=by
 by_cases hm:0 < p.more
 ·rw [FE hm]
  exact ⟨by have:=h.ij; show p.j + 1 + (p.more - 1)≤m; omega,by have:=h.more; show p.more - 1≤9; omega,h.i,h.pert⟩
 ·rw [FF hm]
  have hl:(leap m p.i p.perturb).1≤m:=FI m 1 (p.i,p.perturb) h.i
  exact ⟨(Dx m _ hl).1,(Dx m _ hl).2,hl,Nat.lt_of_le_of_lt (Nat.div_le_self _ _) h.pert⟩
theorem Pr.advN {m:Nat}:∀ {n:Nat} {p:Probe},Pr m p→Pr m (advN m n p)
 | 0,_,h => h
 | n + 1,_,h => Pr.advN (n:=n) h.adv
theorem Pr.j {m:Nat} {p:Probe} (h:Pr m p):p.j≤m:=by have:=h.ij; omega
theorem Km (h:Int):bits h < 2 ^ 64:=by
 unfold bits
 have h1:=Int.emod_nonneg h (show (2 ^ 64:Int)≠0 by decide)
 have h2:=Int.emod_lt_of_pos h (show (0:Int) < 2 ^ 64 by decide)
 have h3:((2:Nat) ^ 64:Nat) = 18446744073709551616:=by decide
 omega
def start (m:Nat) (h:Int):Probe:=st m (bits h % (m + 1),bits h) none
theorem Pr.start (m:Nat) (h:Int):Pr m (start m h):=Pr.st (by show bits h % (m + 1)≤m; have:=Nat.mod_lt (bits h) (show 0 < m + 1 by omega); omega) (Km h)
theorem Um {q:Nat} (h:q < 2 ^ 64):q / 32 ^ 13 = 0:=Nat.div_eq_of_lt (Nat.lt_of_lt_of_le h (by decide))
theorem RG {m:Nat} (hm:Bl m) {x:Nat × Nat} (h1:x.1≤m) (h2:x.2 < 2 ^ 64) {e:Nat} (he:e≤m):∃ L,L≤m + 13∧(Jn m L x).1 = e:=by
 have e13:Jn m 13 x = ((Jn m 13 x).1,0):=by
  have:=Kl m 13 x
  rw [Um h2] at this
  rw [← this]
 obtain ⟨k,hk,ek⟩:=Xw hm (FI m 13 x h1) he
 refine ⟨13 + k,by omega,?_⟩
 rw [Kj,e13,Ul]
 exact ek
theorem RH {m:Nat} (hm:Bl m) {p:Probe} (h:Pr m p) {e:Nat} (he:e≤m):∃ n,n < 10 * (m + 15)∧(advN m n p).j = e:=by
 have hl:(leap m p.i p.perturb).1≤m:=FI m 1 (p.i,p.perturb) h.i
 obtain ⟨L,hL,eL⟩:=RG hm (x:=leap m p.i p.perturb) hl (Nat.lt_of_le_of_lt (Nat.div_le_self _ _) h.pert) he
 obtain ⟨n,hn,en⟩:=ND m L (leap m p.i p.perturb) p.dummy hl
 refine ⟨p.more + 1 + n,by have:=h.more; omega,?_⟩
 rw [Bj,FG,en]
 exact eL
theorem Lr (m:Nat) (p:Probe):(adv m p).dummy = p.dummy:=by
 by_cases h:0 < p.more
 ·rw [FE h]
 ·rw [FF h]
theorem DU (m:Nat):∀ (n:Nat) (p:Probe),(advN m n p).dummy = p.dummy
 | 0,_ => rfl
 | n + 1,p => (DU m n _).trans (Lr m p)
end StT
namespace StT
local macro_rules | `(tactic| omega) => `(tactic| first | lia | omega)
open PySem PySem.SetTable
def IT (t:SetTable) (j:Nat):Prop:=∃ i:Nat,t.place[i]? = some j
structure Tb (t:SetTable) (hs:List Int):Prop where
 mask:Bl t.mask
 dum:t.dummies = #[]
 ris:NC t.place
 le:∀ i j:Nat,t.place[i]? = some j→j≤t.mask
 size:t.place.size = hs.length
 fnd:∀ (i j:Nat) (h:Int),t.place[i]? = some j→hs[i]? = some h→∃ n,(advN t.mask n (start t.mask h)).j = j∧∀ k,k < n→IT t (advN t.mask k (start t.mask h)).j
section
variable {t:SetTable} {hs:List Int}
theorem Tb.odd (T:Tb t hs):t.mask % 2 = 1:=by rcases T.mask with h | h | h | h <;> rw [h]
theorem Tb.low (T:Tb t hs):7≤t.mask:=by rcases T.mask with h | h | h | h <;> omega
theorem Tb.live (T:Tb t hs) {i j:Nat} (h:t.place[i]? = some j):t.slot j = .live i:=by
 unfold slot
 rw [Bh T.ris h]
 simp only [h,beq_self_eq_true,if_true]
theorem Tb.empty (T:Tb t hs) {j:Nat} (h:¬ IT t j):t.slot j = .empty:=by
 unfold slot
 have h1:(t.place[below t.place j]? == some j) = false:=by
  rw [beq_eq_false_iff_ne]
  exact fun e => h ⟨_,e⟩
 have h2:has t.dummies j = false:=by
  unfold has
  rw [T.dum]
  rfl
 simp only [h1,h2,Bool.false_eq_true,if_false]
theorem Tb.room (T:Tb t hs) (h:hs.length≤t.mask):∃ e,e≤t.mask∧¬ IT t e:=by
 apply Classical.byContradiction
 intro hn
 have:=Jl (t.mask + 1) t.place.toList fun e he => by
  have:IT t e:=Classical.byContradiction fun hc => hn ⟨e,by omega,hc⟩
  obtain ⟨i,hi⟩:=this
  exact List.mem_of_getElem? (i:=i) (by simpa using hi)
 rw [Array.length_toList,T.size] at this
 omega
theorem Px (T:Tb t hs) {hashAt:Nat→Int} {h:Int} {p:Probe} {i:Nat} (fuel:Nat) (h1:t.place[i]? = some p.j) (h2:hashAt i≠h):probe.go t hashAt h (fuel + 1) p = probe.go t hashAt h fuel (adv t.mask p):=by
 rw [probe.go,T.live h1]
 simp only [beq_iff_eq,if_neg h2,FD]
theorem IU (T:Tb t hs) {hashAt:Nat→Int} {h:Int}:∀ (n fuel:Nat) (p:Probe),(∀ k,k < n→∃ i,t.place[i]? = some (advN t.mask k p).j∧hashAt i≠h)→probe.go t hashAt h (fuel + n) p = probe.go t hashAt h fuel (advN t.mask n p)
 | 0,_,_,_ => rfl
 | n + 1,fuel,p,hk => by
  obtain ⟨i,h1,h2⟩:=hk 0 (Nat.succ_pos _)
  have h1:t.place[i]? = some p.j:=h1
  rw [← Nat.add_assoc,Px T _ h1 h2]
  exact IU T n fuel _ fun k hk' => hk (k + 1) (Nat.succ_lt_succ hk')
theorem NE (T:Tb t hs) {hashAt:Nat→Int} {h:Int} {p:Probe} {fuel:Nat} (h1:¬ IT t p.j):probe.go t hashAt h (fuel + 1) p = some (.empty p.j p.dummy):=by
 rw [probe.go,T.empty h1]
theorem Se (T:Tb t hs) {hashAt:Nat→Int} {h:Int} {p:Probe} {fuel i:Nat} (h1:t.place[i]? = some p.j) (h2:hashAt i = h):probe.go t hashAt h (fuel + 1) p = some (.candidate p.j i (adv t.mask p)):=by
 rw [probe.go,T.live h1]
 simp only [beq_iff_eq,if_pos h2,FD]
theorem least {S:Nat→Prop}:∀ (n:Nat),S n→∃ m,m≤n∧S m∧∀ k,k < m→¬ S k:=by
 intro n
 induction n using Nat.strongRecOn with
 | ind n ih =>
  intro hn
  by_cases h:∃ k,k < n∧S k
  ·obtain ⟨k,hk,sk⟩:=h
   obtain ⟨m,h1,h2,h3⟩:=ih k hk sk
   exact ⟨m,by omega,h2,h3⟩
  ·exact ⟨n,Nat.le_refl _,hn,fun k hk sk => h ⟨k,hk,sk⟩⟩
theorem EQ (T:Tb t hs) (hl:hs.length≤t.mask) {p:Probe} (pr:Pr t.mask p) (hashAt:Nat→Int) (h:Int):∃ n,(∀ k,k < n→∃ i,t.place[i]? = some (advN t.mask k p).j∧hashAt i≠h) ∧
  ((¬ IT t (advN t.mask n p).j∧t.probe hashAt h p = some (.empty (advN t.mask n p).j p.dummy))∨∃ i,t.place[i]? = some (advN t.mask n p).j∧hashAt i = h∧t.probe hashAt h p = some (.candidate (advN t.mask n p).j i (advN t.mask (n + 1) p))):=by
 obtain ⟨e,he,hne⟩:=T.room hl
 obtain ⟨n0,hn0,en0⟩:=RH T.mask pr he
 obtain ⟨n,hn,sn,ln⟩:=least (S:=fun n => ¬ IT t (advN t.mask n p).j∨∃ i,t.place[i]? = some (advN t.mask n p).j∧hashAt i = h) n0 (.inl (by rw [en0]; exact hne))
 have pre:∀ k,k < n→∃ i,t.place[i]? = some (advN t.mask k p).j∧hashAt i≠h:=fun k hk => by
  have:=ln k hk
  have ho:IT t (advN t.mask k p).j:=Classical.byContradiction fun hc => this (.inl hc)
  obtain ⟨i,hi⟩:=ho
  exact ⟨i,hi,fun z => this (.inr ⟨i,hi,z⟩)⟩
 have hfuel:10 * turns t.mask = (10 * (t.mask + 15) - n - 1 + 1) + n:=by unfold turns; omega
 refine ⟨n,pre,?_⟩
 unfold probe
 rw [hfuel,IU T n _ p pre]
 rcases sn with sn | ⟨i,h1,h2⟩
 ·exact .inl ⟨sn,by rw [NE T sn,DU]⟩
 ·exact .inr ⟨i,h1,h2,by rw [Se T h1 h2,GR]⟩
theorem Tb.put (T:Tb t hs) {h:Int} {n:Nat} (hfree:¬ IT t (advN t.mask n (start t.mask h)).j) (hway:∀ k,k < n→IT t (advN t.mask k (start t.mask h)).j) :
  Tb (t.put (advN t.mask n (start t.mask h)).j).1 (hs.take (t.put (advN t.mask n (start t.mask h)).j).2 ++ h :: hs.drop (t.put (advN t.mask n (start t.mask h)).j).2)∧(t.put (advN t.mask n (start t.mask h)).j).2≤hs.length ∧
   (t.put (advN t.mask n (start t.mask h)).j).1.mask = t.mask∧(t.put (advN t.mask n (start t.mask h)).j).1.plain = t.plain∧(t.put (advN t.mask n (start t.mask h)).j).1.led = t.led∧(t.put (advN t.mask n (start t.mask h)).j).1.moves = t.moves:=by
 have hj:(advN t.mask n (start t.mask h)).j≤t.mask:=(Pr.start t.mask h).advN.j
 generalize hJ:(advN t.mask n (start t.mask h)).j = J at *
 have hd:has t.dummies J = false:=by
  unfold has
  rw [T.dum]
  rfl
 have hnot:∀ i:Nat,t.place[i]?≠some J:=fun i e => hfree ⟨i,e⟩
 have hb:=(CM (j:=J) T.ris).1
 have e1:(t.put J).1 = { t with place:=insertAt t.place (below t.place J) J }:=by
  unfold SetTable.put
  simp only [hd,Bool.false_eq_true,if_false]
 have e2:(t.put J).2 = below t.place J:=rfl
 rw [e1,e2]
 have ix:=getElem?_insertAt t.place (below t.place J) J hb
 have hl:(hs.take (below t.place J)).length = below t.place J:=by rw [List.length_take,← T.size]; omega
 have ih:∀ i:Nat,(hs.take (below t.place J) ++ h :: hs.drop (below t.place J))[i]? = if i < below t.place J then hs[i]? else if i = below t.place J then some h else hs[i - 1]?:=fun i => by
  by_cases h1:i < below t.place J
  ·rw [if_pos h1,List.getElem?_append_left (by omega),List.getElem?_take_of_lt h1]
  ·rw [if_neg h1,List.getElem?_append_right (by omega),hl]
   by_cases h2:i = below t.place J
   ·subst h2; simp
   ·rw [if_neg h2,show i - below t.place J = (i - below t.place J - 1) + 1 by omega,List.getElem?_cons_succ,List.getElem?_drop]
    rw [show below t.place J + (i - below t.place J - 1) = i - 1 by omega]
 have occ:∀ x,IT t x→IT { t with place:=insertAt t.place (below t.place J) J } x:=fun x ⟨i,hi⟩ => by
  by_cases h1:i < below t.place J
  ·exact ⟨i,by show (insertAt t.place (below t.place J) J)[i]? = some x; rw [ix,if_pos h1]; exact hi⟩
  ·exact ⟨i + 1,by show (insertAt t.place (below t.place J) J)[i + 1]? = some x; rw [ix,if_neg (by omega),if_neg (by omega)]; exact hi⟩
 refine ⟨⟨T.mask,T.dum,Jm T.ris hnot,fun i j e => ?_,?_,fun i j h' e eh => ?_⟩,by rw [← T.size]; exact hb,rfl,rfl,rfl,rfl⟩
 ·have e:(insertAt t.place (below t.place J) J)[i]? = some j:=e
  rw [ix] at e
  by_cases h1:i < below t.place J
  ·rw [if_pos h1] at e; exact T.le i j e
  ·rw [if_neg h1] at e
   by_cases h2:i = below t.place J
   ·rw [if_pos h2] at e; cases e; exact hj
   ·rw [if_neg h2] at e; exact T.le _ j e
 ·show (insertAt t.place (below t.place J) J).size = _
  rw [Bv _ _ _ hb,T.size]
  have hb':below t.place J≤hs.length:=by rw [← T.size]; exact hb
  rw [List.length_append,hl,List.length_cons,List.length_drop]
  omega
 ·have e:(insertAt t.place (below t.place J) J)[i]? = some j:=e
  rw [ix] at e
  rw [ih] at eh
  by_cases h1:i < below t.place J
  ·rw [if_pos h1] at e eh
   obtain ⟨k,ek,wk⟩:=T.fnd i j h' e eh
   exact ⟨k,ek,fun k' hk => occ _ (wk k' hk)⟩
  ·rw [if_neg h1] at e eh
   by_cases h2:i = below t.place J
   ·rw [if_pos h2] at e eh
    cases e; cases eh
    exact ⟨n,hJ,fun k hk => occ _ (hway k hk)⟩
   ·rw [if_neg h2] at e eh
    obtain ⟨k,ek,wk⟩:=T.fnd _ j h' e eh
    exact ⟨k,ek,fun k' hk => occ _ (wk k' hk)⟩
theorem Tb.fresh (f mv:Nat) (led:Bool):Tb (SetTable.fresh f mv led) []:=by
 refine ⟨.inl rfl,rfl,List.Pairwise.nil,fun i j e => ?_,rfl,fun i j h e => ?_⟩
 ·have e:(#[]:Array Nat)[i]? = some j:=e
  simp at e
 ·have e:(#[]:Array Nat)[i]? = some j:=e
  simp at e
end
end StT
namespace StT
local macro_rules | `(tactic| omega) => `(tactic| first | lia | omega)
open PySem PySem.SetTable
structure LC (m:Nat) (owner:Array (Option Nat)) (hs:List Int):Prop where
 size:owner.size = m + 1
 put:∀ (r:Nat) (h:Int),hs[r]? = some h→∃ j,j≤m∧owner[j]? = some (some r)∧∃ n,(advN m n (start m h)).j = j∧∀ k,k < n→∃ r',owner[(advN m k (start m h)).j]? = some (some r')
 lt:∀ j r:Nat,owner[j]? = some (some r)→r < hs.length
 inj:∀ j j' r:Nat,owner[j]? = some (some r)→owner[j']? = some (some r)→j = j'
section
variable {m:Nat} {owner:Array (Option Nat)} {hs:List Int}
theorem HF (hz:owner.size = m + 1) {x:Nat} (hx:x≤m):owner.getD x (some 0) = owner[x]'(by omega)∧owner[x]? = some (owner[x]'(by omega)):=by
 have hx':x < owner.size:=by omega
 exact ⟨by simp [Array.getD,hx'],by simp [hx']⟩
theorem RI (hz:owner.size = m + 1) {x:Nat} (hx:x≤m) (h:(owner.getD x (some 0)).isNone = false):∃ r,owner[x]? = some (some r):=by
 obtain ⟨h1,h2⟩:=HF hz hx
 rw [h1] at h
 cases e:owner[x]'(by omega) with
 | none => rw [e] at h; cases h
 | some r => exact ⟨r,by rw [h2,e]⟩
theorem Py (hz:owner.size = m + 1) {x:Nat} (hx:x≤m) (h:(owner.getD x (some 0)).isNone = true):owner[x]? = some none:=by
 obtain ⟨h1,h2⟩:=HF hz hx
 rw [h1] at h
 cases e:owner[x]'(by omega) with
 | none => rw [h2,e]
 | some r => rw [e] at h; cases h
theorem Jo {i q k:Nat} (hk:k≤runEnd m i - i):(advN m k (st m (i,q) none)).j = i + k:=by
 rw [HC m k _ hk]
 rfl
theorem GS (m i:Nat):i≤runEnd m i:=by
 unfold runEnd
 split <;> omega
theorem GT (hz:owner.size = m + 1) {j:Nat}:∀ (fuel i q:Nat),i≤m→layClean.free m owner fuel i q = some j →
  ∃ n,(advN m n (st m (i,q) none)).j = j∧(∀ k,k < n→∃ r,owner[(advN m k (st m (i,q) none)).j]? = some (some r))∧owner[j]? = some none∧j≤m
 | 0,i,q,_,e => by simp [layClean.free] at e
 | fuel + 1,i,q,hi,e => by
  have hr:=Dx m i hi
  have hge:=GS m i
  rw [layClean.free] at e
  cases hf:(List.range (runEnd m i + 1 - i)).find? fun k => (owner.getD (i + k) (some 0)).isNone with
  | some k =>
   rw [hf] at e
   cases e
   have hk1:(owner.getD (i + k) (some 0)).isNone = true:=by simpa using List.find?_some hf
   have hkm:k < runEnd m i + 1 - i:=List.mem_range.mp (List.mem_of_find?_eq_some hf)
   refine ⟨k,Jo (by omega),fun k' hk' => ?_,Py hz (by omega) hk1,by omega⟩
   rw [Jo (by omega)]
   refine RI hz (by omega) ?_
   have:=List.find?_range_eq_some.mp hf
   have h3:=this.2.2 k' hk'
   simpa using h3
  | none =>
   rw [hf] at e
   have hl:(leap m i q).1≤m:=FI m 1 (i,q) hi
   obtain ⟨n,h1,h2,h3⟩:=GT hz fuel _ _ hl e
   have all:∀ k,k≤runEnd m i - i→∃ r,owner[(advN m k (st m (i,q) none)).j]? = some (some r):=fun k hk => by
    rw [Jo hk]
    refine RI hz (by omega) ?_
    have:=List.find?_eq_none.mp hf k (List.mem_range.mpr (by omega))
    exact Bool.eq_false_iff.mpr this
   have hleap:advN m (runEnd m i - i + 1) (st m (i,q) none) = st m (leap m i q) none:=FG m (st m (i,q) none)
   refine ⟨(runEnd m i - i + 1) + n,?_,fun k hk => ?_,h3⟩
   ·rw [Bj,hleap]
    exact h1
   ·by_cases hk':k≤runEnd m i - i
    ·exact all k hk'
    ·have e2:k = (runEnd m i - i + 1) + (k - (runEnd m i - i + 1)):=by omega
     rw [e2,Bj,hleap]
     exact h2 _ (by omega)
theorem GU (hz:owner.size = m + 1) {e:Nat} (he:owner[e]? = some none) (hem:e≤m):∀ (fuel L i q:Nat),i≤m→L < fuel→(Jn m L (i,q)).1 = e→layClean.free m owner fuel i q≠none
 | 0,L,_,_,_,h,_ => absurd h (Nat.not_lt_zero _)
 | fuel + 1,L,i,q,hi,hL,eL => by
  rw [layClean.free]
  have hge:=GS m i
  cases hf:(List.range (runEnd m i + 1 - i)).find? fun k => (owner.getD (i + k) (some 0)).isNone with
  | some k => simp
  | none =>
   cases L with
   | zero =>
    have eL:i = e:=eL
    subst eL
    have:=List.find?_eq_none.mp hf 0 (List.mem_range.mpr (by omega))
    obtain ⟨h1,h2⟩:=HF hz hem
    rw [he] at h2
    have h2:=Option.some.inj h2
    rw [Nat.add_zero,h1,← h2] at this
    exact absurd rfl this
   | succ L =>
    exact GU hz he hem fuel L _ _ (FI m 1 (i,q) hi) (by omega) eL
def Dk (m:Nat) (acc:Option (Array (Option Nat) × Nat)) (h:Int):Option (Array (Option Nat) × Nat):=do
 let (owner,k) ← acc
 let j ← layClean.free m owner (turns m) (bits h % (m + 1)) (bits h)
 pure (owner.setIfInBounds j (some k),k + 1)
theorem IV (m:Nat) (hs:Array Int):layClean m hs = (hs.toList.foldl (Dk m) (some (Array.replicate (m + 1) none,0))).map (·.1):=by
 unfold layClean
 rw [Array.foldl_toList]
 rfl
theorem LC.room (c:LC m owner hs) (h:hs.length≤m):∃ e,e≤m∧owner[e]? = some none:=by
 apply Classical.byContradiction
 intro hn
 have all:∀ e,e≤m→∃ r,owner[e]? = some (some r):=fun e he => by
  have hz:=c.size
  cases q:owner[e]'(by omega) with
  | none => exact absurd ⟨e,he,by rw [← q]; simp [show e < owner.size by omega]⟩ hn
  | some r => exact ⟨r,by rw [← q]; simp [show e < owner.size by omega]⟩
 have hf:∀ e,∃ r,e≤m→owner[e]? = some (some r):=fun e => by
  by_cases he:e≤m
  ·obtain ⟨r,hr⟩:=all e he; exact ⟨r,fun _ => hr⟩
  ·exact ⟨0,fun z => absurd z he⟩
 obtain ⟨f,hf⟩:=Classical.axiomOfChoice hf
 have hl:=BS hs.length ((List.range (m + 1)).map f) (by
  refine List.Pairwise.map f (R:=fun a b => a≠b∧a≤m∧b≤m) (fun a b hab e => ?_) ?_
  ·have h1:=hf a hab.2.1
   have h2:=hf b hab.2.2
   rw [e] at h1
   exact hab.1 (c.inj a b _ h1 h2)
  ·refine List.Pairwise.imp_of_mem (fun {a b} ha hb h => ⟨Nat.ne_of_lt h,?_,?_⟩) (List.pairwise_lt_range (n:=m + 1))
   ·have:=List.mem_range.mp ha; omega
   ·have:=List.mem_range.mp hb; omega) (fun x hx => by
  obtain ⟨e,he,rfl⟩:=List.mem_map.mp hx
  exact c.lt e _ (hf e (by have:=List.mem_range.mp he; omega)))
 rw [List.length_map,List.length_range] at hl
 omega
theorem LC.step (hm:Bl m) (c:LC m owner hs) (hl:hs.length≤m) (h:Int):∃ o',Dk m (some (owner,hs.length)) h = some (o',hs.length + 1)∧LC m o' (hs ++ [h]):=by
 obtain ⟨e,he,hne⟩:=c.room hl
 have hb:bits h % (m + 1)≤m:=by have:=Nat.mod_lt (bits h) (show 0 < m + 1 by omega); omega
 obtain ⟨L,hL,eL⟩:=RG hm (x:=(bits h % (m + 1),bits h)) hb (Km h) he
 have hs':=GU c.size hne he (turns m) L _ _ hb (by unfold turns; omega) eL
 cases hf:layClean.free m owner (turns m) (bits h % (m + 1)) (bits h) with
 | none => exact absurd hf hs'
 | some j =>
  obtain ⟨n,h1,h2,h3,h4⟩:=GT c.size _ _ _ hb hf
  have hj:j < owner.size:=by rw [c.size]; omega
  refine ⟨owner.setIfInBounds j (some hs.length),?_,?_⟩
  ·unfold Dk
   show (layClean.free m owner (turns m) (bits h % (m + 1)) (bits h) >>= _) = _
   rw [hf]
   rfl
  ·have at_:∀ x:Nat,(owner.setIfInBounds j (some hs.length))[x]? = if x = j then some (some hs.length) else owner[x]?:=fun x => by
    rw [Array.getElem?_setIfInBounds]
    by_cases hx:x = j
    ·subst hx; simp [hj]
    ·rw [if_neg (Ne.symm hx),if_neg hx]
   have occ:∀ x r:Nat,owner[x]? = some (some r)→∃ r',(owner.setIfInBounds j (some hs.length))[x]? = some (some r'):=fun x r hr => by
    rw [at_]
    by_cases hx:x = j
    ·exact ⟨_,if_pos hx⟩
    ·exact ⟨r,by rw [if_neg hx]; exact hr⟩
   refine ⟨by simpa using c.size,fun r h' e' => ?_,fun x r hr => ?_,fun x y r hx hy => ?_⟩
   ·by_cases hr:r < hs.length
    ·rw [List.getElem?_append_left hr] at e'
     obtain ⟨x,q1,q2,n',q3,q4⟩:=c.put r h' e'
     refine ⟨x,q1,?_,n',q3,fun k hk => ?_⟩
     ·rw [at_,if_neg]; exact q2
      rintro rfl
      rw [h3] at q2; cases q2
     ·obtain ⟨r',hr'⟩:=q4 k hk
      exact occ _ r' hr'
    ·rw [List.getElem?_append_right (by omega)] at e'
     have hr0:r - hs.length = 0:=by
      have:=(List.getElem?_eq_some_iff.mp e').1
      simp at this; omega
     rw [hr0] at e'
     cases e'
     have:r = hs.length:=by omega
     subst this
     refine ⟨j,h4,by rw [at_,if_pos rfl],n,h1,fun k hk => ?_⟩
     obtain ⟨r',hr'⟩:=h2 k hk
     exact occ _ r' hr'
   ·rw [at_] at hr
    rw [List.length_append]
    by_cases hx:x = j
    ·rw [if_pos hx] at hr; cases hr; simp
    ·rw [if_neg hx] at hr
     have:=c.lt x r hr
     omega
   ·rw [at_] at hx hy
    by_cases h1:x = j
    ·rw [if_pos h1] at hx
     cases hx
     by_cases h2:y = j
     ·rw [h1,h2]
     ·rw [if_neg h2] at hy
      exact absurd (c.lt y _ hy) (Nat.lt_irrefl _)
    ·rw [if_neg h1] at hx
     by_cases h2:y = j
     ·rw [if_pos h2] at hy
      cases hy
      exact absurd (c.lt x _ hx) (Nat.lt_irrefl _)
     ·rw [if_neg h2] at hy
      exact c.inj x y r hx hy
theorem LC.steps (hm:Bl m):∀ (rest hs:List Int) (owner:Array (Option Nat)),LC m owner hs→hs.length + rest.length≤m + 1→∃ o',rest.foldl (Dk m) (some (owner,hs.length)) = some (o',hs.length + rest.length)∧LC m o' (hs ++ rest)
 | [],hs,owner,c,_ => ⟨owner,rfl,by rw [List.append_nil]; exact c⟩
 | h :: rest,hs,owner,c,hl => by
  simp only [List.length_cons] at hl
  obtain ⟨o1,e1,c1⟩:=c.step hm (by omega) h
  obtain ⟨o2,e2,c2⟩:=LC.steps hm rest (hs ++ [h]) o1 c1 (by rw [List.length_append]; simp; omega)
  refine ⟨o2,?_,by rw [List.append_assoc] at c2; exact c2⟩
  rw [List.foldl_cons,e1]
  have:(hs ++ [h]).length = hs.length + 1:=by simp
  rw [this] at e2
  rw [e2]
  simp only [List.length_cons]
  congr 2
  omega
theorem IW (hm:Bl m) (hs:Array Int) (hl:hs.size≤m + 1):∃ owner,layClean m hs = some owner∧LC m owner hs.toList:=by
 have c0:LC m (Array.replicate (m + 1) none) []:=⟨by simp,fun r h e => by simp at e,fun j r e => by
  rw [Array.getElem?_replicate] at e; split at e <;> simp at e,fun j j' r e => by
  rw [Array.getElem?_replicate] at e; split at e <;> simp at e⟩
 obtain ⟨o,e,c⟩:=LC.steps hm hs.toList [] _ c0 (by simpa using hl)
 refine ⟨o,?_,by simpa using c⟩
 rw [IV]
 have e':hs.toList.foldl (Dk m) (some (Array.replicate (m + 1) none,0)) = _:=e
 rw [e']
 rfl
end
end StT
namespace StT
open PySem PySem.SetTable
section
variable {m:Nat}
theorem Kn (hm:Bl m) (hs:Array Int) (hl:hs.size≤m + 1) (f mv:Nat) (led plain:Bool):∃ t' order,laid m f mv led plain hs = some (t',order)∧t'.mask = m∧t'.led = led∧t'.plain = plain∧t'.moves = mv∧order.size = hs.size ∧
  (∀ i r:Nat,order[i]? = some r→r < hs.size)∧(∀ i i' r:Nat,order[i]? = some r→order[i']? = some r→i = i')∧(∀ r,r < hs.size→∃ i:Nat,order[i]? = some r)∧Tb t' (order.toList.map fun r => hs.getD r 0):=by
 obtain ⟨owner,e,c⟩:=IW hm hs hl
 generalize hlive:(List.range (m + 1)).filterMap (fun j => (owner.getD j none).map (j,·)) = live
 have mem:∀ j r,(j,r)∈live↔j≤m∧owner[j]? = some (some r):=fun j r => by
  rw [← hlive,List.mem_filterMap]
  constructor
  ·rintro ⟨x,hx,ex⟩
   have hx:=List.mem_range.mp hx
   have hxo:x < owner.size:=by rw [c.size]; exact hx
   have eg:owner.getD x none = owner[x]:=by simp [Array.getD,hxo]
   rw [eg] at ex
   cases q:owner[x] with
   | none => rw [q] at ex; cases ex
   | some r' =>
    rw [q] at ex
    cases ex
    exact ⟨by omega,by rw [← q]; simp [hxo]⟩
  ·rintro ⟨h1,h2⟩
   obtain ⟨hxo,q⟩:=Array.getElem?_eq_some_iff.mp h2
   refine ⟨j,List.mem_range.mpr (by omega),?_⟩
   have eg:owner.getD j none = owner[j]:=by simp [Array.getD,hxo]
   rw [eg,q]
   rfl
 have pw:live.Pairwise fun a b => a.1 < b.1:=by
  rw [← hlive,List.pairwise_filterMap]
  refine List.Pairwise.imp (fun {a b} h x hx y hy => ?_) (List.pairwise_lt_range (n:=m + 1))
  cases q1:owner.getD a none with
  | none => rw [q1] at hx; cases hx
  | some r1 =>
   cases q2:owner.getD b none with
   | none => rw [q2] at hy; cases hy
   | some r2 =>
    rw [q1] at hx; rw [q2] at hy
    cases hx; cases hy
    exact h
 have lt:∀ j r,(j,r)∈live→r < hs.size:=fun j r h => by have:=c.lt j r ((mem j r).mp h).2; simpa using this
 have pwr:live.Pairwise fun a b => a.2≠b.2:=by
  refine List.Pairwise.imp_of_mem (fun {a b} ha hb h e => ?_) pw
  obtain ⟨a1,a2⟩:=a
  obtain ⟨b1,b2⟩:=b
  have h1:=(mem _ _).mp ha
  have h2:=(mem _ _).mp hb
  have e:a2 = b2:=e
  subst e
  have:=c.inj _ _ _ h1.2 h2.2
  have h:a1 < b1:=h
  omega
 have nd:(live.map (·.2)).Nodup:=List.Pairwise.map _ (fun _ _ h => h) pwr
 have all:∀ r,r < hs.size→∃ j,(j,r)∈live:=fun r hr => by
  obtain ⟨j,h1,h2,_⟩:=c.put r (hs[r]) (by simp [hr])
  exact ⟨j,(mem j r).mpr ⟨h1,h2⟩⟩
 have len:live.length = hs.size:=by
  apply Nat.le_antisymm
  ·have:=BS hs.size (live.map (·.2)) nd fun x hx => by
    obtain ⟨⟨j,r⟩,h1,rfl⟩:=List.mem_map.mp hx
    exact lt j r h1
   simpa using this
  ·have:=Jl hs.size (live.map (·.2)) fun r hr => by
    obtain ⟨j,hj⟩:=all r hr
    exact List.mem_map.mpr ⟨_,hj,rfl⟩
   simpa using this
 refine ⟨{ mask:=m,place:=(live.map (·.1)).toArray,dummies:=#[],finger:=f,led:=led,moves:=mv,plain:=plain },(live.map (·.2)).toArray,?_,rfl,rfl,rfl,rfl,by simpa using len,fun i r h => ?_,fun i i' r h h' => ?_,fun r hr => ?_,?_⟩
 ·unfold laid
  rw [e]
  show some _ = some _
  rw [hlive]
 ·have h:(live.map (·.2))[i]? = some r:=by simpa using h
  rw [List.getElem?_map] at h
  cases q:live[i]? with
  | none => rw [q] at h; cases h
  | some x => rw [q] at h; cases h; exact lt x.1 x.2 (List.mem_of_getElem? q)
 ·have h:(live.map (·.2))[i]? = some r:=by simpa using h
  have h':(live.map (·.2))[i']? = some r:=by simpa using h'
  obtain ⟨l1,e1⟩:=List.getElem?_eq_some_iff.mp h
  obtain ⟨l2,e2⟩:=List.getElem?_eq_some_iff.mp h'
  rcases Nat.lt_trichotomy i i' with hlt | heq | hgt
  ·exact absurd (e1.trans e2.symm) (List.pairwise_iff_getElem.mp nd i i' l1 l2 hlt)
  ·exact heq
  ·exact absurd (e2.trans e1.symm) (List.pairwise_iff_getElem.mp nd i' i l2 l1 hgt)
 ·obtain ⟨j,hj⟩:=all r hr
  obtain ⟨i,hi⟩:=List.getElem?_of_mem hj
  exact ⟨i,by simp [hi]⟩
 ·have at_:∀ i j:Nat,(live.map (·.1)).toArray[i]? = some j→∃ r,live[i]? = some (j,r):=fun i j h => by
   have h:(live.map (·.1))[i]? = some j:=by simpa using h
   rw [List.getElem?_map] at h
   cases q:live[i]? with
   | none => rw [q] at h; cases h
   | some x =>
    rw [q] at h
    cases h
    exact ⟨x.2,rfl⟩
  refine ⟨hm,rfl,?_,fun i j h => ?_,by simp,fun i j h e1 e2 => ?_⟩
  ·show (live.map (·.1)).toArray.toList.Pairwise (· < ·)
   exact List.Pairwise.map _ (fun _ _ h => h) pw
  ·obtain ⟨r,hr⟩:=at_ i j h
   exact ((mem j r).mp (List.mem_of_getElem? hr)).1
  ·obtain ⟨r,hr⟩:=at_ i j e1
   have hrlt:=lt j r (List.mem_of_getElem? hr)
   have e2:((live.map (·.2)).map fun r => hs.getD r 0)[i]? = some h:=by simpa using e2
   rw [List.getElem?_map,List.getElem?_map,hr] at e2
   have e2:hs.getD r 0 = h:=Option.some.inj e2
   have eh:hs.toList[r]? = some h:=by
    rw [← e2]
    simp [Array.getD,hrlt]
   obtain ⟨j2,q1,q2,n,q3,q4⟩:=c.put r h eh
   have ej:=c.inj j2 j r q2 ((mem j r).mp (List.mem_of_getElem? hr)).2
   subst ej
   refine ⟨n,q3,fun k hk => ?_⟩
   obtain ⟨r',hr'⟩:=q4 k hk
   have hk':(advN m k (start m h)).j≤m:=(Pr.start m h).advN.j
   obtain ⟨i',hi'⟩:=List.getElem?_of_mem ((mem _ r').mpr ⟨hk',hr'⟩)
   refine ⟨i',?_⟩
   show (live.map (·.1)).toArray[i']? = _
   simp [hi']
theorem GV {n:Nat} (h:Bl m) (h1:n * 5 < m * 3) (h2:m * 3≤(n + 1) * 5) (h3:n < 300):Bl (sizeAbove (grown (n + 1)) - 1)∧n + 1≤sizeAbove (grown (n + 1)) - 1∧(n + 1) * 5 < (sizeAbove (grown (n + 1)) - 1) * 3∧sizeAbove (grown (n + 1))≤512:=by
 rcases h with rfl | rfl | rfl | rfl
 ·have:n = 4:=by omega
  subst this
  refine ⟨.inr (.inl (by decide)),by decide,by decide,by decide⟩
 ·have:n = 18:=by omega
  subst this
  refine ⟨.inr (.inr (.inl (by decide))),by decide,by decide,by decide⟩
 ·have:n = 76:=by omega
  subst this
  refine ⟨.inr (.inr (.inr (by decide))),by decide,by decide,by decide⟩
 ·omega
theorem Az {α:Type} (es:Array α):∀ (l:List Nat),(∀ r∈l,r < es.size)→∀ i:Nat,(l.filterMap fun r => es[r]?)[i]? = (l[i]?).bind fun r => es[r]?
 | [],_,i => by simp
 | r :: l,h,i => by
  have hr:=h r List.mem_cons_self
  have e:es[r]? = some es[r]:=by simp [hr]
  rw [List.filterMap_cons,e]
  cases i with
  | zero => simp
  | succ i =>
   simp only [List.getElem?_cons_succ]
   exact Az es l (fun x hx => h x (List.mem_cons_of_mem _ hx)) i
theorem BW {α:Type} (es:Array α):∀ (l:List Nat),(∀ r∈l,r < es.size)→(l.filterMap fun r => es[r]?).length = l.length
 | [],_ => rfl
 | r :: l,h => by
  have hr:=h r List.mem_cons_self
  have e:es[r]? = some es[r]:=by simp [hr]
  rw [List.filterMap_cons,e]
  simp [BW es l (fun x hx => h x (List.mem_cons_of_mem _ hx))]
end
open PyProof.Rows
section
variable {prog:Program} {w:World} {A:Around} {E:Value→Shared→Prop} {s:Shared}
abbrev IK (prog:Program) (w:World) (h:Heap) (k:List Int) (a:Addr):Prop:=IsTupleKey (intKind prog w) h k a
abbrev tk (prog:Program) (w:World):HeapKind prog w (List Int):=tupleKind (intKind prog w)
theorem DD {n:Int} {v:Value} (h:(intKind prog w).is n v = true):∃ t,v = .int n t:=by
 cases v with
 | int m t =>
  have h2:(intKind prog w).is m (.int m t) = true:=intKind_is _ _ _ _
  have e:=(intKind prog w).inj _ _ _ h h2
  subst e
  exact ⟨t,rfl⟩
 | _ => exact absurd h (by simp [intKind,Value.isInt])
theorem FJ {ks:List Int} {vs:List Value} (h:ItemsAre (intKind prog w) ks vs):∀ v∈vs,∃ n t,v = .int n t:=by
 induction h with
 | nil => intro v hv; simp at hv
 | cons h1 _ ih =>
  intro v hv
  rcases List.mem_cons.mp hv with rfl | hv
  ·obtain ⟨t,e⟩:=DD h1
   exact ⟨_,t,e⟩
  ·exact ih v hv
theorem Uo {k:List Int} {a:Addr} {Q:Bool→Shared→Prop} (hk:IK prog w s.heap k a) (h:Q true s):wpAny (model prog w) A (hashByValue 8 (.ref a)) Q E s:=by
 have hT:=hk.typeIs
 obtain ⟨o,items,n,ho,_,hd,hi⟩:=hk
 have hints:=FJ hi
 unfold hashByValue
 refine wpAny_bind (wpAny_specialOf hT PySem.F.slot_tuple_hash.lookup ?_)
 dsimp only
 refine wpAny_bind (wpAny_seqItems ho hd ?_)
 show wpAny _ _ ((forIn items _ _) >>= _) _ _ s
 rw [← Array.forIn_toList]
 refine wpAny_bind (wpAny_forIn_list _ (fun rest r s' => r.1 = none∧s' = s∧∀ v∈rest,∃ n t,v = Value.int n t) _ ?_ ?_ _ _ ⟨rfl,rfl,hints⟩)
 ·rintro v rest r s' ⟨hr,rfl,hall⟩
  obtain ⟨n,t,rfl⟩:=hall v List.mem_cons_self
  refine wpAny_bind (wpAny_pure ?_)
  simp only [Bool.not_true,Bool.false_eq_true,if_false]
  exact wpAny_pure ⟨rfl,rfl,fun u hu' => hall u (List.mem_cons_of_mem _ hu')⟩
 ·rintro ⟨r1,r2⟩ s' ⟨hr,rfl,_⟩
  simp only at hr
  subst hr
  exact wpAny_pure h
theorem Ko {k:List Int} {a:Addr} {Q:Bool→Shared→Prop} (hk:IK prog w s.heap k a) (h:Q false s):wpAny (model prog w) A (ofAClassStatement 8 (.ref a)) Q E s:=by
 have hT:=hk.typeIs
 obtain ⟨o,items,n,ho,hc,hd,hi⟩:=hk
 have hints:=FJ hi
 unfold ofAClassStatement
 refine wpAny_bind (wpAny_typeOf hT ?_)
 dsimp only
 rw [if_pos (by decide)]
 refine wpAny_bind (wpAny_pure ?_)
 simp only [Bool.not_true,Bool.false_eq_true,if_false]
 refine wpAny_bind (wpAny_seqItems ho hd ?_)
 show wpAny _ _ ((forIn items _ _) >>= _) _ _ s
 rw [← Array.forIn_toList]
 refine wpAny_bind (wpAny_forIn_list _ (fun rest r s' => r.1 = none∧s' = s∧∀ v∈rest,∃ n t,v = Value.int n t) _ ?_ ?_ _ _ ⟨rfl,rfl,hints⟩)
 ·rintro v rest r s' ⟨hr,rfl,hall⟩
  obtain ⟨n,t,rfl⟩:=hall v List.mem_cons_self
  unfold ofAClassStatement
  refine wpAny_bind (wpAny_pure ?_)
  simp only [Bool.false_eq_true,if_false]
  exact wpAny_pure ⟨rfl,rfl,fun u hu' => hall u (List.mem_cons_of_mem _ hu')⟩
 ·rintro ⟨r1,r2⟩ s' ⟨hr,rfl,_⟩
  simp only at hr
  subst hr
  exact wpAny_pure h
theorem Pz {k:List Int} {a:Addr} {Q:Bool→Shared→Prop} {l:List Value} (hk:IK prog w s.heap k a) (hl:∀ v∈l,∃ k' b,v = .ref b∧IK prog w s.heap k' b) (h:Q false s):wpAny (model prog w) A (searchCouldBeSeen (.ref a) l) Q E s:=by
 unfold searchCouldBeSeen
 refine wpAny_bind (wpAny_forIn_list _ (fun rest r s' => r.1 = none∧s' = s∧∀ v∈rest,∃ k' b,v = Value.ref b∧IK prog w s.heap k' b) _ ?_ ?_ _ _ ⟨rfl,rfl,hl⟩)
 ·rintro v rest r s' ⟨hr,rfl,hall⟩
  obtain ⟨k',b,rfl,hb⟩:=hall v List.mem_cons_self
  have go:∀ u∈rest,∃ k' b,u = Value.ref b∧IK prog w s'.heap k' b:=fun u hu' => hall u (List.mem_cons_of_mem _ hu')
  dsimp only
  split
  ·exact wpAny_pure ⟨rfl,rfl,go⟩
  ·refine wpAny_bind (wpAny_eqIsQuiet_tuple hk ?_)
   simp only [Bool.not_true,Bool.false_eq_true,if_false]
   refine wpAny_bind (wpAny_eqIsQuiet_tuple hb ?_)
   simp only [Bool.not_true,Bool.false_eq_true,if_false]
   refine wpAny_bind (Ko hk ?_)
   simp only [Bool.false_eq_true,if_false]
   refine wpAny_bind (Ko hb ?_)
   simp only [Bool.false_eq_true,if_false]
   exact wpAny_pure ⟨rfl,rfl,go⟩
 ·rintro ⟨r1,r2⟩ s' ⟨hr,rfl,_⟩
  simp only at hr
  subst hr
  exact wpAny_pure h
end
local macro_rules | `(tactic| omega) => `(tactic| first | lia | omega)
open PySem PySem.SetTable PyProof.Rows
section
variable {prog:Program} {w:World} {A:Around} {E:Value→Shared→Prop} {s:Shared}
def Ls (xs:List (List Int × Addr)) (prog:Program) (w:World):List (Int × Value):=xs.map fun p => ((tk prog w).hash p.1,Value.ref p.2)
structure SetD (prog:Program) (w:World) (h:Heap) (a:Addr) (xs:List (List Int × Addr)) (o:Obj) (es:Array (Int × Value)) (ep:Nat) (t:SetTable):Prop where
 get:h.get? a = some o
 ex:o.ExactSet
 dat:o.data = .set es ep t
 es:es.toList = Ls xs prog w
 key:∀ (i:Nat) (k:List Int) (x:Addr),xs[i]? = some (k,x)→IK prog w h k x
 nd:(xs.map (·.1)).Nodup
 tb:Tb t (xs.map fun p => (tk prog w).hash p.1)
 pl:t.plain = true
 room:xs.length * 5 < t.mask * 3
 led:t.led = !w.params.followText "set-order"
variable {a:Addr} {xs:List (List Int × Addr)} {o:Obj} {es:Array (Int × Value)} {ep:Nat} {t:SetTable}
theorem SetD.size (S:SetD prog w s.heap a xs o es ep t):es.size = xs.length:=by
 rw [← Array.length_toList,S.es]; simp [Ls]
theorem SetD.fits (S:SetD prog w s.heap a xs o es ep t):t.fits es.size = true:=by
 have h1:=S.tb.size
 have h2:=S.room
 have h3:t.fill = t.place.size:=by unfold SetTable.fill; rw [S.tb.dum]; rfl
 rw [List.length_map] at h1
 unfold SetTable.fits
 rw [h3,S.size,h1]
 simp only [beq_self_eq_true,Bool.true_and,decide_eq_true_eq]
 omega
theorem SetD.len (S:SetD prog w s.heap a xs o es ep t):(xs.map fun p => (tk prog w).hash p.1).length≤t.mask:=by
 have:=S.room
 rw [List.length_map]; omega
theorem SetD.at (S:SetD prog w s.heap a xs o es ep t) {i:Nat} {k:List Int} {x:Addr} (h:xs[i]? = some (k,x)):es[i]? = some ((tk prog w).hash k,.ref x):=by
 have:es[i]? = es.toList[i]?:=by simp
 rw [this,S.es,Ls,List.getElem?_map,h]
 rfl
theorem SetD.of_at (S:SetD prog w s.heap a xs o es ep t) {i:Nat} (h:i < xs.length):∃ k x,xs[i]? = some (k,x):=⟨_,_,by simp [h]; rfl⟩
abbrev Eh:Array (Int × Value)→Nat→Int:=PySem.W.hashAt
theorem SetD.hash (S:SetD prog w s.heap a xs o es ep t) {i:Nat} {k:List Int} {x:Addr} (h:xs[i]? = some (k,x)):Eh es i = (tk prog w).hash k:=by
 show ((es[i]?).map Prod.fst).getD 0 = _
 rw [S.at h]
 rfl
theorem IX (S:SetD prog w s.heap a xs o es ep t) (hu:A.units < cLine) {k:List Int} {x:Addr} (hk:IK prog w s.heap k x) {Q:SetFound→Shared→Prop}
  (hT:∀ (i:Nat) (y:Addr),xs[i]? = some (k,y)→Q (.there none) s)
  (hF:(∀ (i:Nat) (y:Addr),xs[i]?≠some (k,y))→∀ n,¬ IT t (advN t.mask n (start t.mask ((tk prog w).hash k))).j→(∀ c,c < n→IT t (advN t.mask c (start t.mask ((tk prog w).hash k))).j)→Q (.free (advN t.mask n (start t.mask ((tk prog w).hash k))).j false) s) :
  ∀ (fuel c:Nat) (stand:Option Probe),stand.getD (t.probeStart ((tk prog w).hash k)) = advN t.mask c (start t.mask ((tk prog w).hash k)) →
   (∀ c',c' < c→IT t (advN t.mask c' (start t.mask ((tk prog w).hash k))).j∧∀ (i:Nat) (y:Addr),t.place[i]? = some (advN t.mask c' (start t.mask ((tk prog w).hash k))).j→xs[i]?≠some (k,y)) →
   (∃ N,c≤N∧¬ IT t (advN t.mask N (start t.mask ((tk prog w).hash k))).j∧N - c < fuel) →
   wpAny (model prog w) A (setSearchFrom a (.ref x) ((tk prog w).hash k) true fuel stand) Q E s:=by
 intro fuel
 induction fuel with
 | zero => rintro c stand _ _ ⟨N,_,_,h⟩; exact absurd h (Nat.not_lt_zero _)
 | succ fuel ih =>
  rintro c stand hst hpre ⟨N,hcN,hN,hfu⟩
  have hsz:t.place.size = xs.length:=by have:=S.tb.size; rwa [List.length_map] at this
  unfold setSearchFrom
  refine wpAny_bind (wpAny_setState_of S.get S.dat S.fits ?_)
  dsimp only
  have hgw:t.gaveWay = false:=by unfold SetTable.gaveWay; rw [S.tb.odd]; rfl
  rw [hgw]
  simp only [Bool.false_eq_true,if_false]
  obtain ⟨n,hn,hstop⟩:=EQ S.tb S.len (p:=advN t.mask c (start t.mask ((tk prog w).hash k))) (Pr.start _ _).advN (Eh es) ((tk prog w).hash k)
  rw [hst]
  have hadd:∀ m,advN t.mask m (advN t.mask c (start t.mask ((tk prog w).hash k))) = advN t.mask (c + m) (start t.mask ((tk prog w).hash k)):=fun m => (Bj _ _ _ _).symm
  have pre2:∀ c',c' < c + n→IT t (advN t.mask c' (start t.mask ((tk prog w).hash k))).j∧∀ (i:Nat) (y:Addr),t.place[i]? = some (advN t.mask c' (start t.mask ((tk prog w).hash k))).j→xs[i]?≠some (k,y):=fun c' hc' => by
   by_cases hlt:c' < c
   ·exact hpre c' hlt
   ·obtain ⟨i,h1,h2⟩:=hn (c' - c) (by omega)
    rw [hadd,show c + (c' - c) = c' by omega] at h1
    refine ⟨⟨i,h1⟩,fun i' y h1' e => ?_⟩
    have:i' = i:=by
     rw [← Bh S.tb.ris h1',← Bh S.tb.ris h1]
    subst this
    exact h2 (S.hash e)
  obtain ⟨met,hmet⟩:∃ met,t.probe (Eh es) ((tk prog w).hash k) (advN t.mask c (start t.mask ((tk prog w).hash k))) = some met:=by
   rcases hstop with ⟨_,hp⟩ | ⟨_,_,_,hp⟩ <;> exact ⟨_,hp⟩
  split
  case h_2 heq => exact absurd hmet (heq met)
  rename_i met' heq
  have heq:t.probe (Eh es) ((tk prog w).hash k) (advN t.mask c (start t.mask ((tk prog w).hash k))) = some met':=heq
  rcases hstop with ⟨hf,hp⟩ | ⟨i,h1,h2,hp⟩
  ·rw [hp] at heq
   cases heq
   dsimp only
   rw [DU]
   show wpAny _ _ (pure _) _ _ s
   rw [hadd] at hf ⊢
   refine wpAny_pure (hF (fun i y e => ?_) (c + n) hf fun c' hc' => (pre2 c' hc').1)
   have hi:i < xs.length:=(List.getElem?_eq_some_iff.mp e).1
   have hpl:t.place[i]? = some (t.place[i]'(by omega)):=by simp [show i < t.place.size by omega]
   obtain ⟨n',e1,w1⟩:=S.tb.fnd i _ ((tk prog w).hash k) hpl (by rw [List.getElem?_map,e]; rfl)
   by_cases hlt:n' < c + n
   ·exact (pre2 n' hlt).2 i y (by rw [e1]; exact hpl) e
   ·by_cases heq:n' = c + n
    ·subst heq
     exact hf ⟨i,by rw [e1]; exact hpl⟩
    ·exact hf (w1 (c + n) (by omega))
  ·rw [hp] at heq
   cases heq
   dsimp only
   rw [hadd] at h1
   have hi:i < xs.length:=by rw [← hsz]; exact (Array.getElem?_eq_some_iff.mp h1).1
   obtain ⟨k',y,ek⟩:=S.of_at hi
   have hky:=S.key i k' y ek
   have seen:∀ v,v∈(es.filter fun e => e.1 == (tk prog w).hash k).toList.map (·.2)→∃ k' b,v = Value.ref b∧IK prog w s.heap k' b:=fun v hv => by
    obtain ⟨⟨h',v'⟩,hm,rfl⟩:=List.mem_map.mp hv
    have hm:(h',v')∈es.toList:=by
     have:=hm
     simp only [Array.toList_filter] at this
     exact (List.mem_filter.mp this).1
    rw [S.es,Ls] at hm
    obtain ⟨⟨k2,b⟩,hb,eb⟩:=List.mem_map.mp hm
    cases eb
    obtain ⟨j,hj⟩:=List.getElem?_of_mem hb
    exact ⟨k2,b,rfl,S.key j k2 b hj⟩
   cases hled:t.led with
   | true =>
    simp only [Bool.not_true,Bool.false_eq_true,if_false]
    rw [S.at ek]
    dsimp only
    refine wpAny_bind (wpAny_holding (wpAny_eqBool_tuple hu hky hk ?_))
    refine wpAny_bind (wpAny_setState_of S.get S.dat S.fits ?_)
    dsimp only
    by_cases hkk:k' = k
    ·subst hkk
     rw [decide_eq_true rfl]
     exact wpAny_pure (hT i y ek)
    ·rw [decide_eq_false hkk]
     have hsm:t.sameMemory t.moves t.mask = some true:=by unfold SetTable.sameMemory; rw [if_pos (by simp)]
     rw [hsm]
     simp only [Bool.and_false,Bool.false_eq_true,if_false,if_true]
     rw [hadd,S.tb.live h1]
     dsimp only
     rw [S.at ek]
     dsimp only
     have hss:isSame (Value.ref y) (Value.ref y) = pure true:=by
      show (if (y == y) = true then _ else _) = _
      rw [if_pos (beq_self_eq_true y)]
     rw [hss]
     refine wpAny_bind (wpAny_pure ?_)
     simp only [if_true]
     refine wpAny_bind (wpAny_pure ?_)
     dsimp only
     rw [hadd]
     refine ih (c + n + 1) _ rfl (fun c' hc' => ?_) ?_
     ·by_cases hlt:c' < c + n
      ·exact pre2 c' hlt
      ·have:c' = c + n:=by omega
       subst this
       refine ⟨⟨i,h1⟩,fun i' y' h1' e => ?_⟩
       have:i' = i:=by
        rw [← Bh S.tb.ris h1',← Bh S.tb.ris h1]
       subst this
       rw [ek] at e
       exact hkk (congrArg Prod.fst (Option.some.inj e))
     ·have hle:c + n < N:=by
       rcases Nat.lt_trichotomy (c + n) N with hlt | heq | hgt
       ·exact hlt
       ·exact absurd ⟨i,by rw [← heq]; exact h1⟩ hN
       ·exact absurd (pre2 N hgt).1 hN
      exact ⟨N,by omega,hN,by omega⟩
   | false =>
    simp only [Bool.not_false,if_true]
    refine wpAny_bind (Pz hk seen ?_)
    simp only [Bool.false_eq_true,if_false]
    rw [S.at ek]
    dsimp only
    refine wpAny_bind (wpAny_holding (wpAny_eqBool_tuple hu hky hk ?_))
    refine wpAny_bind (wpAny_setState_of S.get S.dat S.fits ?_)
    dsimp only
    by_cases hkk:k' = k
    ·subst hkk
     rw [decide_eq_true rfl]
     exact wpAny_pure (hT i y ek)
    ·rw [decide_eq_false hkk]
     have hsm:t.sameMemory t.moves t.mask = some true:=by unfold SetTable.sameMemory; rw [if_pos (by simp)]
     rw [hsm]
     simp only [Bool.and_false,Bool.false_eq_true,if_false,if_true]
     rw [hadd,S.tb.live h1]
     dsimp only
     rw [S.at ek]
     dsimp only
     have hss:isSame (Value.ref y) (Value.ref y) = pure true:=by
      show (if (y == y) = true then _ else _) = _
      rw [if_pos (beq_self_eq_true y)]
     rw [hss]
     refine wpAny_bind (wpAny_pure ?_)
     simp only [if_true]
     refine wpAny_bind (wpAny_pure ?_)
     dsimp only
     rw [hadd]
     refine ih (c + n + 1) _ rfl (fun c' hc' => ?_) ?_
     ·by_cases hlt:c' < c + n
      ·exact pre2 c' hlt
      ·have:c' = c + n:=by omega
       subst this
       refine ⟨⟨i,h1⟩,fun i' y' h1' e => ?_⟩
       have:i' = i:=by
        rw [← Bh S.tb.ris h1',← Bh S.tb.ris h1]
       subst this
       rw [ek] at e
       exact hkk (congrArg Prod.fst (Option.some.inj e))
     ·have hle:c + n < N:=by
       rcases Nat.lt_trichotomy (c + n) N with hlt | heq | hgt
       ·exact hlt
       ·exact absurd ⟨i,by rw [← heq]; exact h1⟩ hN
       ·exact absurd (pre2 N hgt).1 hN
      exact ⟨N,by omega,hN,by omega⟩
end
end StT
namespace StT
local macro_rules | `(tactic| omega) => `(tactic| first | lia | omega)
open PySem PySem.SetTable PyProof.Rows
section
variable {prog:Program} {w:World} {A:Around} {E:Value→Shared→Prop} {s:Shared}
variable {a:Addr} {xs:List (List Int × Addr)} {o:Obj} {es:Array (Int × Value)} {ep:Nat} {t:SetTable}
def SetX (prog:Program) (w:World) (h:Heap) (a:Addr) (xs:List (List Int × Addr)):Prop:=∃ o es ep t,SetD prog w h a xs o es ep t
theorem NF {h:Heap} {k:List Int} {x:Addr} (hk:IK prog w h k x) (hg:h.get? a = some o) (he:o.ExactSet):x≠a:=by
 rintro rfl
 obtain ⟨o',items,n,ho,hc,_⟩:=hk
 rw [hg] at ho
 cases ho
 rw [he.1] at hc
 exact absurd hc (by decide)
theorem CO {h h':Heap} {k:List Int} {x:Addr} (hk:IK prog w h k x) (hs:∀ u,h.get? x = some u→h'.get? x = some u):IK prog w h' k x:=by
 obtain ⟨o',items,n,ho,hc,hd,hi⟩:=hk
 exact ⟨o',items,n,hs _ ho,hc,hd,hi⟩
theorem DE (hg:s.heap.get? a = some o) (hd:o.data = .set es ep t) (es':Array (Int × Value)) (t':SetTable):(s.heap.update a (Obj.putSet es' t')).get? a = some { o with data:=.set es' (ep + 1) t' }:=by
 have:=Heap.get?_update_self (Obj.putSet es' t') hg (by rw [putSet_of es' t' hd]; rfl)
 rw [putSet_of es' t' hd] at this; exact this
theorem Jp:(Ls xs prog w).length = xs.length:=by simp [Ls]
theorem NG {n:Nat} (hg:s.heap.get? a = some o) (he:o.ExactSet) (hd:o.data = .set es ep t) (hes:es.toList = Ls xs prog w) (hkey:∀ (i:Nat) (k:List Int) (x:Addr),xs[i]? = some (k,x)→IK prog w s.heap k x)
  (hnd:(xs.map (·.1)).Nodup) (htb:Tb t (xs.map fun p => (tk prog w).hash p.1)) (hpl:t.plain = true) (hled:t.led = !w.params.followText "set-order") (hn:xs.length = n + 1) (h1:n * 5 < t.mask * 3) (h2:t.mask * 3≤(n + 1) * 5) (h3:n < 300) {Q:Unit→Shared→Prop}
  (h:∀ h' xs',Heap.SameBut a s.heap h'→SetX prog w h' a xs'→(∀ p,p∈xs'↔p∈xs)→xs'.length = xs.length→Q () { s with heap:=h' }):wpAny (model prog w) A (setRelay a (grown (n + 1))) Q E s:=by
 obtain ⟨m1,m2,m3,m4⟩:=GV htb.mask h1 h2 h3
 have hsz:es.size = n + 1:=by rw [← Array.length_toList,hes,Jp,hn]
 have hfill:t.fill = t.place.size:=by unfold SetTable.fill; rw [htb.dum]; rfl
 have hps:t.place.size = n + 1:=by have:=htb.size; rw [List.length_map,hn] at this; exact this
 have hlow:=htb.low
 have hfit:t.fits es.size = true:=by
  unfold SetTable.fits
  rw [hfill,hsz,hps]
  simp only [beq_self_eq_true,Bool.true_and,decide_eq_true_eq]
  omega
 unfold setRelay
 refine wpAny_bind (wpAny_setState_of hg hd hfit ?_)
 dsimp only
 rw [if_neg (by rw [sizeLine_eq]; omega)]
 refine wpAny_bind ?_
 obtain ⟨t',order,el,q1,q2,q3,q4,q5,q6,q7,q8,q9⟩:=Kn m1 (es.map (·.1)) (by rw [Array.size_map,hsz]; omega) t.finger (t.movedTo (sizeAbove (grown (n + 1)) - 1)) t.led t.plain
 rw [Array.size_map] at q5 q6 q8
 have el':t.relaid (es.map (·.1)) (grown (n + 1)) = some (t',order):=el
 rw [el']
 have hfm:(order.filterMap (es[·]?)).toList = order.toList.filterMap fun r => es[r]?:=by simp
 have hmem:∀ r∈order.toList,r < es.size:=fun r hr => by
  obtain ⟨i,hi⟩:=List.getElem?_of_mem hr
  exact q6 i r (by simpa using hi)
 have hes':(order.filterMap (es[·]?)).size = es.size:=by
  rw [← Array.length_toList,hfm,BW es _ hmem,Array.length_toList,q5]
 show wpAny _ _ (if ((order.filterMap fun r => es[r]?).size != es.size) = true then _ else pure (order.filterMap fun r => es[r]?,t')) _ _ s
 rw [if_neg (by rw [hes']; simp)]
 refine wpAny_pure ?_
 dsimp only
 refine wpAny_storeSet_of hg hd ?_ (by rw [hes',hsz,sizeLine_eq]; omega)
 generalize hE:order.filterMap (es[·]?) = es' at *
 have hxs:∀ r,r < es.size→∃ p,xs[r]? = some p:=fun r hr => ⟨_,by simp [show r < xs.length by rw [hn]; omega]; rfl⟩
 have hfx:(order.toList.filterMap fun r => xs[r]?).length = es.size:=by
  have:=BW xs.toArray order.toList (fun r hr => by rw [List.size_toArray,hn]; have:=hmem r hr; omega)
  simp only [List.getElem?_toArray] at this
  rw [this,Array.length_toList,q5]
 have at_:∀ i:Nat,(order.toList.filterMap fun r => xs[r]?)[i]? = (order.toList[i]?).bind fun r => xs[r]?:=fun i => by
  have:=Az xs.toArray order.toList (fun r hr => by rw [List.size_toArray,hn]; have:=hmem r hr; omega) i
  simpa only [List.getElem?_toArray] using this
 have mem:∀ p,p∈(order.toList.filterMap fun r => xs[r]?)↔p∈xs:=fun p => by
  rw [List.mem_filterMap]
  constructor
  ·rintro ⟨r,_,e⟩; exact List.mem_of_getElem? e
  ·intro hp
   obtain ⟨r,hr⟩:=List.getElem?_of_mem hp
   have hrl:r < es.size:=by rw [hsz,← hn]; exact (List.getElem?_eq_some_iff.mp hr).1
   obtain ⟨i,hi⟩:=q8 r hrl
   exact ⟨r,List.mem_of_getElem? (i:=i) (by simpa using hi),hr⟩
 have hesx:∀ i:Nat,es[i]? = (xs[i]?).map fun p => ((tk prog w).hash p.1,Value.ref p.2):=fun i => by
  have:es[i]? = es.toList[i]?:=by simp
  rw [this,hes,Ls,List.getElem?_map]
 refine h _ (order.toList.filterMap fun r => xs[r]?) (Heap.SameBut.update ..) ⟨_,es',ep + 1,t',⟨DE hg hd es' t',he,rfl,?_,fun i k x e => ?_,?_,?_,?_,?_,?_⟩⟩ mem (by rw [hfx,hsz,hn])
 ·apply List.ext_getElem?
  intro i
  rw [hfm,Az es _ hmem,Ls,List.getElem?_map,at_]
  cases order.toList[i]? with
  | none => rfl
  | some r => exact hesx r
 ·have hp:(k,x)∈xs:=(mem _).mp (List.mem_of_getElem? e)
  obtain ⟨r,hr⟩:=List.getElem?_of_mem hp
  have ik:=hkey r k x hr
  exact CO ik fun u hu => ((Heap.SameBut.update s.heap a (Obj.putSet es' t')).2 x (NF ik hg he)).trans hu
 ·rw [List.nodup_iff_pairwise_ne]
  refine List.pairwise_iff_getElem.mpr fun i j hi hj hij e => ?_
  rw [List.length_map] at hi hj
  have e1:=at_ i
  have e2:=at_ j
  rw [List.getElem?_eq_getElem hi] at e1
  rw [List.getElem?_eq_getElem hj] at e2
  rw [List.getElem_map,List.getElem_map] at e
  cases r1:order.toList[i]? with
  | none => rw [r1] at e1; cases e1
  | some r =>
   cases r2:order.toList[j]? with
   | none => rw [r2] at e2; cases e2
   | some r' =>
    rw [r1] at e1
    rw [r2] at e2
    have e1:xs[r]? = some _:=e1.symm
    have e2:xs[r']? = some _:=e2.symm
    obtain ⟨l1,g1⟩:=List.getElem?_eq_some_iff.mp e1
    obtain ⟨l2,g2⟩:=List.getElem?_eq_some_iff.mp e2
    have ee:(xs.map (·.1))[r]'(by simpa using l1) = (xs.map (·.1))[r']'(by simpa using l2):=by rw [List.getElem_map,List.getElem_map,g1,g2]; exact e
    have nd:=List.nodup_iff_pairwise_ne.mp hnd
    have:r = r':=by
     rcases Nat.lt_trichotomy r r' with hlt | heq | hgt
     ·exact absurd ee (List.pairwise_iff_getElem.mp nd r r' _ _ hlt)
     ·exact heq
     ·exact absurd ee.symm (List.pairwise_iff_getElem.mp nd r' r _ _ hgt)
    subst this
    have:=q7 i j r (by simpa using r1) (by simpa using r2)
    omega
 ·have:(order.toList.filterMap fun r => xs[r]?).map (fun p => (tk prog w).hash p.1) = order.toList.map fun r => (es.map (·.1)).getD r 0:=by
   apply List.ext_getElem?
   intro i
   rw [List.getElem?_map,at_,List.getElem?_map]
   cases hr:order.toList[i]? with
   | none => rfl
   | some r =>
    have hrl:=hmem r (List.mem_of_getElem? hr)
    obtain ⟨p,hp⟩:=hxs r hrl
    show (xs[r]?).map _ = some ((es.map (·.1)).getD r 0)
    rw [hp]
    have e3:=hesx r
    rw [hp] at e3
    obtain ⟨l,g⟩:=Array.getElem?_eq_some_iff.mp e3
    simp [Array.getD,hrl,g]
  rw [this]
  exact q9
 ·rw [q3]; exact hpl
 ·rw [hfx,hsz,q1]; exact m3
 ·rw [q2]; exact hled
end
end StT
namespace StT
local macro_rules | `(tactic| omega) => `(tactic| first | lia | omega)
open PySem PySem.SetTable PyProof.Rows
section
variable {prog:Program} {w:World} {A:Around} {E:Value→Shared→Prop} {s:Shared}
variable {a:Addr} {xs:List (List Int × Addr)} {o:Obj} {es:Array (Int × Value)} {ep:Nat} {t:SetTable}
theorem Sf (S:SetX prog w s.heap a xs) (hu:A.units < cLine) {k:List Int} {x:Addr} (hk:IK prog w s.heap k x) (hl:xs.length < 300) {Q:Bool→Shared→Prop}
  (hT:∀ y,(k,y)∈xs→Q false s)
  (hF:(∀ y,(k,y) ∉ xs)→∀ h' xs',Heap.SameBut a s.heap h'→SetX prog w h' a xs'→(∀ p,p∈xs'↔p∈xs∨p = (k,x))→xs'.length = xs.length + 1→Q true { s with heap:=h' }) :
  wpAny (model prog w) A (setAddHashed a (.ref x) ((tk prog w).hash k)) Q E s:=by
 obtain ⟨o,es,ep,t,S⟩:=S
 unfold setAddHashed setAddHashedIn
 refine wpAny_holding (wpAny_bind (wpAny_setState_of S.get S.dat S.fits ?_))
 dsimp only
 have hbs:byScan (.ref x) es = false:=rfl
 rw [hbs]
 simp only [Bool.false_eq_true,if_false]
 obtain ⟨e,he,hne⟩:=S.tb.room S.len
 obtain ⟨N,hN,eN⟩:=RH S.tb.mask (Pr.start t.mask ((tk prog w).hash k)) he
 have hm511:t.mask≤511:=by rcases S.tb.mask with h | h | h | h <;> omega
 refine wpAny_bind (IX S hu hk (fun i y e => ?_) (fun hno n hf hw => ?_) 100000 0 none (IS t _) (fun c hc => absurd hc (Nat.not_lt_zero _)) ⟨N,Nat.zero_le _,by rw [eN]; exact hne,by omega⟩)
 ·dsimp only
  exact wpAny_pure (hT y (List.mem_of_getElem? e))
 ·dsimp only
  refine wpAny_bind (wpAny_setState_of S.get S.dat S.fits ?_)
  dsimp only
  obtain ⟨p1,p2,p3,p4,p5,p6⟩:=S.tb.put hf hw
  generalize hJ:(advN t.mask n (start t.mask ((tk prog w).hash k))).j = J at *
  generalize hput:t.put J = tp at *
  obtain ⟨t1,q⟩:=tp
  dsimp only at p1 p2 p3 p4 p5 p6 ⊢
  rw [List.length_map] at p2
  rw [p4,S.pl]
  simp only [if_true]
  refine wpAny_bind (Uo hk ?_)
  simp only [if_true]
  refine wpAny_bind (wpAny_storeSet_of S.get S.dat ?_ (by
   rw [Bv _ _ _ (by rw [S.size]; exact p2),S.size,sizeLine_eq]; omega))
  have hes1:(insertAt es q ((tk prog w).hash k,.ref x)).toList = Ls (xs.take q ++ (k,x) :: xs.drop q) prog w:=by
   rw [Av,S.es]
   simp [Ls]
  have hmem:∀ p,p∈xs.take q ++ (k,x) :: xs.drop q↔p∈xs∨p = (k,x):=fun p => by
   rw [List.mem_append,List.mem_cons]
   constructor
   ·rintro (h | h | h)
    ·exact .inl (List.mem_of_mem_take h)
    ·exact .inr h
    ·exact .inl (List.mem_of_mem_drop h)
   ·rintro (h | h)
    ·rw [← List.take_append_drop q xs] at h
     rcases List.mem_append.mp h with h | h
     ·exact .inl h
     ·exact .inr (.inr h)
    ·exact .inr (.inl h)
  have hlen:(xs.take q ++ (k,x) :: xs.drop q).length = xs.length + 1:=by
   rw [List.length_append,List.length_cons,List.length_take,List.length_drop]; omega
  have hnod:((xs.take q ++ (k,x) :: xs.drop q).map (·.1)).Nodup:=by
   have hxs:(xs.take q).map (·.1) ++ (xs.drop q).map (·.1) = xs.map (·.1):=by rw [← List.map_append,List.take_append_drop]
   have nd:=S.nd
   rw [← hxs] at nd
   rw [List.map_append,List.map_cons]
   have hkn:k ∉ (xs.take q).map (·.1) ++ (xs.drop q).map (·.1):=by
    rw [hxs]
    intro hm
    obtain ⟨⟨k',y⟩,hp,rfl⟩:=List.mem_map.mp hm
    obtain ⟨i,hi⟩:=List.getElem?_of_mem hp
    exact hno i y hi
   rw [List.mem_append,not_or] at hkn
   obtain ⟨n1,n2,n3⟩:=List.nodup_append.mp nd
   refine List.nodup_append.mpr ⟨n1,List.nodup_cons.mpr ⟨hkn.2,n2⟩,fun b hb c hc => ?_⟩
   rcases List.mem_cons.mp hc with rfl | hc
   ·rintro rfl; exact hkn.1 hb
   ·exact n3 b hb c hc
  have hsb:=Heap.SameBut.update s.heap a (Obj.putSet (insertAt es q ((tk prog w).hash k,.ref x)) t1)
  have hg1:=DE (s:=s) S.get S.dat (insertAt es q ((tk prog w).hash k,.ref x)) t1
  have hkey1:∀ (i:Nat) (k':List Int) (x':Addr),(xs.take q ++ (k,x) :: xs.drop q)[i]? = some (k',x')→IK prog w (s.heap.update a (Obj.putSet (insertAt es q ((tk prog w).hash k,.ref x)) t1)) k' x':=fun i k' x' e => by
   have ik:IK prog w s.heap k' x':=by
    rcases (hmem _).mp (List.mem_of_getElem? e) with h | h
    ·obtain ⟨j,hj⟩:=List.getElem?_of_mem h
     exact S.key j k' x' hj
    ·cases h; exact hk
   exact CO ik fun u hu => (hsb.2 x' (NF ik S.get S.ex)).trans hu
  have htb1:Tb t1 ((xs.take q ++ (k,x) :: xs.drop q).map fun p => (tk prog w).hash p.1):=by
   simpa using p1
  have hno':∀ y,(k,y) ∉ xs:=fun y hy => by
   obtain ⟨i,hi⟩:=List.getElem?_of_mem hy
   exact hno i y hi
  have hfill:t1.fill = xs.length + 1:=by
   unfold SetTable.fill
   rw [htb1.dum]
   have:=htb1.size
   rw [List.length_map,hlen] at this
   rw [this]; rfl
  have hroom:=S.room
  simp only [Bool.not_false,Bool.true_and]
  cases htf:t1.tooFull with
  | true =>
   simp only [if_true]
   have htf':t1.mask * 3≤(xs.length + 1) * 5:=by
    unfold SetTable.tooFull at htf
    rw [hfill] at htf
    simpa using htf
   rw [S.size]
   refine wpAny_bind (NG (s:={ s with heap:=s.heap.update a (Obj.putSet (insertAt es q ((tk prog w).hash k,.ref x)) t1) }) hg1 S.ex rfl hes1 hkey1 hnod htb1 (by rw [p4]; exact S.pl) (by rw [p5]; exact S.led) hlen (by rw [p3]; exact hroom) htf' hl fun h' xs' sb sx mm ll => ?_)
   refine wpAny_pure (hF hno' h' xs' (hsb.trans sb) sx (fun p => (mm p).trans (hmem p)) (ll.trans hlen))
  | false =>
   simp only [Bool.false_eq_true,if_false]
   refine wpAny_pure (hF hno' _ _ hsb ⟨_,_,_,t1,hg1,S.ex,rfl,hes1,hkey1,hnod,htb1,by rw [p4]; exact S.pl,?_,by rw [p5]; exact S.led⟩ hmem hlen)
   unfold SetTable.tooFull at htf
   rw [hfill] at htf
   rw [hlen]
   simpa using htf
def HG (ks:List (List Int × Addr)) (xs:List (List Int × Addr)):Prop:=(∀ p,p∈xs→p∈ks)∧(∀ k y,(k,y)∈ks→∃ y',(k,y')∈xs)∧xs.length≤ks.length
theorem SetX.keep' {h h':Heap} (S:SetX prog w h a xs) (ha:∀ u,h.get? a = some u→h'.get? a = some u) (hk:∀ k x,(k,x)∈xs→∀ u,h.get? x = some u→h'.get? x = some u):SetX prog w h' a xs:=by
 obtain ⟨o,es,ep,t,S⟩:=S
 exact ⟨o,es,ep,t,ha _ S.get,S.ex,S.dat,S.es,fun i k x e => CO (S.key i k x e) (hk k x (List.mem_of_getElem? e)),S.nd,S.tb,S.pl,S.room,S.led⟩
theorem QA {I l:Addr} {items:Array Value} {ps:List (List Int × Addr)} (hh:A.in1.handled = none) (hne:l≠I) (hI:a≠I) (hla:a≠l) (hps:items.toList = ps.map fun p => Value.ref p.2) (hz:ps.length≤300) (hu:A.units + 1 < cLine)
  {R:Result→Shared→Prop}:∀ (n i:Nat) (s:Shared) (xs:List (List Int × Addr)),n = ps.length - i→i≤ps.length→s.heap.IsListIter I l i→s.heap.IsList l items→(∀ k x,(k,x)∈ps→IK prog w s.heap k x∧x≠I)→SetX prog w s.heap a xs→HG (ps.take i) xs →
   (∀ h' tk' xs',(∀ b u,b≠a→b≠I→s.heap.get? b = some u→h'.get? b = some u)→SetX prog w h' a xs'→HG ps xs'→R (.ok (.ret .none)) { s with heap:=h',toks:=tk' }) →
   codeAny (model prog w) A (.builtin "set.update.loop" ⟨[.ref a,.ref I],[]⟩) R s:=by
 have W:=Walks.list (A:=A.in1) (prog:=prog) (w:=w) hh I l hne items
 have hsz:items.size = ps.length:=by rw [← Array.length_toList,hps,List.length_map]
 intro n
 induction n with
 | zero =>
  intro i s xs hn hi hit hl hp hX hS hR
  have:i = ps.length:=by omega
  subst this
  rw [List.take_length] at hS
  refine codeAny_builtin PyProof.Rows.F.entry_set_update_loop ?_
  rw [Around.under_plainId PyProof.Rows.F.plain_set_update_loop _]
  show wpAny _ A.in1 (pyNext (.ref I) >>= _) _ _ s
  refine wpAny_bind (wpAny_pyNext_list_end hh hit hl (by simp [hsz]) fun h' hk => ?_)
  show wpAny _ A.in1 (ret Value.none) _ _ _
  refine wpAny_pure (hR h' s.toks xs (fun b u _ hb e => hk b u hb e) (hX.keep' (fun u e => hk a u hI e) fun k x hx u e => hk x u (hp k x (hS.1 _ hx)).2 e) hS)
 | succ n ih =>
  intro i s xs hn hi hit hl hp hX hS hR
  have hlt:i < ps.length:=by omega
  obtain ⟨⟨k,x⟩,hkx⟩:∃ p,ps[i]? = some p:=⟨_,by simp [hlt]; rfl⟩
  have hitem:items[i]? = some (.ref x):=by
   have:items[i]? = items.toList[i]?:=by simp
   rw [this,hps,List.getElem?_map,hkx]; rfl
  refine codeAny_builtin PyProof.Rows.F.entry_set_update_loop ?_
  rw [Around.under_plainId PyProof.Rows.F.plain_set_update_loop _]
  show wpAny _ A.in1 (pyNext (.ref I) >>= _) _ _ s
  refine wpAny_bind (wpAny_pyNext_list_item hit hl hitem fun h1 hit1 sb1 => ?_)
  have hk1:∀ b u,b≠I→s.heap.get? b = some u→h1.get? b = some u:=fun b u hb e => (sb1.2 b hb).trans e
  have kx:=hp k x (List.mem_of_getElem? hkx)
  have hX1:SetX prog w h1 a xs:=hX.keep' (fun u e => hk1 a u hI e) fun k x hx u e => hk1 x u (hp k x (List.mem_of_mem_take (hS.1 _ hx))).2 e
  have ik1:∀ k x,(k,x)∈ps→IK prog w h1 k x∧x≠I:=fun k x hx => ⟨CO (hp k x hx).1 fun u e => hk1 x u (hp k x hx).2 e,(hp k x hx).2⟩
  have hl1:h1.IsList l items:=hl.at fun o e => hk1 l o hne e
  show wpAny _ A.in1 (holding [Value.ref x] (setAdd a (.ref x)) >>= _) _ _ _
  refine wpAny_bind (wpAny_holding ?_)
  unfold setAdd
  refine wpAny_holding ?_
  refine wpAny_bind ((tk prog w).pyHash (s:={ s with heap:=h1 }) hu (ik1 k x (List.mem_of_getElem? hkx)).1 ?_)
  have htake:ps.take (i + 1) = ps.take i ++ [(k,x)]:=by rw [List.take_add_one,hkx]; rfl
  have hlen:xs.length≤i:=by have:=hS.2.2; rw [List.length_take] at this; omega
  refine Sf (s:={ s with heap:=h1,toks:=s.toks + (tk prog w).draws k }) hX1 hu (ik1 k x (List.mem_of_getElem? hkx)).1 (by omega) (fun y hy => ?_) (fun hno h2 xs' sb sx mm ll => ?_)
  ·refine wpAny_pure ⟨plainId_quiet PyProof.Rows.F.plain_set_update_loop _,ih (i + 1) _ xs (by omega) (by omega) hit1 hl1 ik1 hX1 ⟨fun p hp' => by rw [htake]; exact List.mem_append_left _ (hS.1 p hp'),fun k' y' hm => ?_,by rw [htake,List.length_append]; have:=hS.2.2; omega⟩ fun h' tk' xs' kp sx so => hR h' tk' xs' (fun b u h1' h2' e => kp b u h1' h2' (hk1 b u h2' e)) sx so⟩
   rw [htake] at hm
   rcases List.mem_append.mp hm with hm | hm
   ·exact hS.2.1 k' y' hm
   ·cases List.mem_singleton.mp hm
    exact ⟨y,hy⟩
  ·have keep2:∀ b u,b≠a→h1.get? b = some u→h2.get? b = some u:=fun b u hb e => (sb.2 b hb).trans e
   have nea:∀ k x,(k,x)∈ps→x≠a:=fun k x hx => by
    obtain ⟨o,es,ep,t,S⟩:=hX1
    exact NF (ik1 k x hx).1 S.get S.ex
   refine wpAny_pure ⟨plainId_quiet PyProof.Rows.F.plain_set_update_loop _,ih (i + 1) { s with heap:=h2,toks:=s.toks + (tk prog w).draws k } xs' (by omega) (by omega) (hit1.at fun o e => keep2 I o (Ne.symm hI) e) (hl1.at fun o e => keep2 l o (Ne.symm hla) e)
    (fun k x hx => ⟨CO (ik1 k x hx).1 fun u e => keep2 x u (nea k x hx) e,(hp k x hx).2⟩) sx ⟨fun p hp' => ?_,fun k' y' hm => ?_,by rw [htake,List.length_append,ll]; have:=hS.2.2; simp; omega⟩ fun h' tk' xs2 kp sx so => hR h' tk' xs2 (fun b u h1' h2' e => kp b u h1' h2' (keep2 b u h1' (hk1 b u h2' e))) sx so⟩
   ·rw [htake]
    rcases (mm p).mp hp' with h | h
    ·exact List.mem_append_left _ (hS.1 p h)
    ·exact List.mem_append_right _ (List.mem_singleton.mpr h)
   ·rw [htake] at hm
    rcases List.mem_append.mp hm with hm | hm
    ·obtain ⟨y2,hy2⟩:=hS.2.1 k' y' hm
     exact ⟨y2,(mm _).mpr (.inl hy2)⟩
    ·cases List.mem_singleton.mp hm
     exact ⟨x,(mm _).mpr (.inr rfl)⟩
end
end StT
namespace StT
open PySem PySem.SetTable PyProof.Rows
theorem Ag:Slot "set_iterator" "__next__" "set_iterator.__next__" :=
 .of (owner:="set_iterator") (n:="__next__") (by rw [typeLookup_type,builtinLookup_eq_fast]; kernel_rfl) (by decide +kernel) (by decide +kernel) (by decide +kernel)
  (by first | exact .inl (by decide +kernel) | exact .inr (by decide +kernel)) (by rw [isSubtype_type]; kernel_rfl)
theorem Cd:Slot "set_iterator" "__iter__" "set_iterator.__iter__" :=
 .of (owner:="set_iterator") (n:="__iter__") (by rw [typeLookup_type,builtinLookup_eq_fast]; kernel_rfl) (by decide +kernel) (by decide +kernel) (by decide +kernel)
  (by first | exact .inl (by decide +kernel) | exact .inr (by decide +kernel)) (by rw [isSubtype_type]; kernel_rfl)
theorem CB:entryFor table "set_iterator.__next__" = some Builtin.«set_iterator.__next__»:=entryFor_of_tree (by kernel_rfl)
theorem Dy:entryFor table "set_iterator.__iter__" = some Builtin.«dict_keyiterator.__iter__» :=
 entryFor_alias (id':="dict_keyiterator.__iter__") (by kernel_rfl) (by first | rfl | decide +kernel | (unfold String.splitOn; simp +decide [String.splitOnAux])) (by decide +kernel) (by kernel_rfl)
theorem FL:entryFor table "set.__iter__" = some Builtin.«frozenset.__iter__» :=
 entryFor_alias (id':="frozenset.__iter__") (by kernel_rfl) (by first | rfl | decide +kernel | (unfold String.splitOn; simp +decide [String.splitOnAux])) (by decide +kernel) (by kernel_rfl)
theorem ER:Manifest.owners.lookup (String.ofList ['r','o','t','a','r','e','t','i','_','t','e','s'].reverse) = some Manifest.sig_set_iterator:=by kernel_rfl
theorem Ce (a:Value):argsOk "set_iterator.__next__" ⟨[a],[]⟩:=by
 unfold argsOk; rw [signature?_of (id:="set_iterator.__next__") (n:=['_','_','t','x','e','n','_','_']) (o:=['r','o','t','a','r','e','t','i','_','t','e','s']) (by kernel_rfl) ER]; kernel_rfl
theorem Ec (a:Value):argsOk "set_iterator.__iter__" ⟨[a],[]⟩:=by
 unfold argsOk; rw [signature?_of (id:="set_iterator.__iter__") (n:=['_','_','r','e','t','i','_','_']) (o:=['r','o','t','a','r','e','t','i','_','t','e','s']) (by kernel_rfl) ER]; kernel_rfl
theorem Kq {α:Type}:∀ (l:List α) (i:Nat) (h:i < l.length),(l[i] :: l.eraseIdx i).Perm l
 | x :: l,0,_ => List.Perm.refl _
 | x :: l,i + 1,h => by
  have ih:=Kq l i (by simpa using h)
  simp only [List.getElem_cons_succ,List.eraseIdx_cons_succ]
  exact (List.Perm.swap _ _ _).trans (ih.cons x)
theorem Kr {α:Type} (next:Nat→Nat):∀ (n k:Nat) (left:List α) (out:Array α),left.length = n→(pickOrder.go next n k left out).toList.Perm (out.toList ++ left)
 | 0,k,left,out,h => by
  have:left = []:=List.length_eq_zero_iff.mp h
  subst this
  simp [pickOrder.go]
 | n + 1,k,left,out,h => by
  have hlt:next k % left.length < left.length:=Nat.mod_lt _ (by omega)
  have e:left[next k % left.length]? = some left[next k % left.length]:=by simp [hlt]
  rw [pickOrder.go,e]
  have ih:=Kr next n (k + 1) (left.eraseIdx (next k % left.length)) (out.push left[next k % left.length]) (by rw [List.length_eraseIdx_of_lt hlt]; omega)
  refine ih.trans ?_
  rw [Array.toList_push,List.append_assoc]
  exact List.Perm.append_left _ (Kq left _ hlt)
theorem Lu {α:Type} (next:Nat→Nat) (xs:Array α):(pickOrder next xs).toList.Perm xs.toList:=by
 have:=Kr next xs.size 0 xs.toList #[] (by simp)
 simp only [List.nil_append] at this
 exact this
def Cg (w:World) (a:Addr) (ep:Nat) (es:Array (Int × Value)):Array (Int × Value):=if w.params.followText "set-order" = true then pickOrder (w.params.setOrder a ep) es else es
theorem Dz (w:World) (a:Addr) (ep:Nat) (es:Array (Int × Value)):(Cg w a ep es).toList.Perm es.toList:=by
 unfold Cg
 split
 ·exact Lu _ _
 ·exact List.Perm.refl _
theorem DF (w:World) (a:Addr) (ep:Nat) (es:Array (Int × Value)):(Cg w a ep es).size = es.size:=by
 rw [← Array.length_toList,← Array.length_toList]; exact (Dz w a ep es).length_eq
theorem Jq {xs:Array Nat} (r:NC xs) {i:Nat} (hi:i≤xs.size) {slot:Nat} (hs:(i = 0∧slot = 0)∨(0 < i∧∃ j,xs[i - 1]? = some j∧slot = j + 1)):below xs slot = i:=by
 obtain ⟨b1,b2,b3⟩:=CM (j:=slot) r
 rcases hs with ⟨rfl,rfl⟩ | ⟨h0,j,hj,rfl⟩
 ·apply Classical.byContradiction
  intro hne
  have h0:0 < xs.size:=by omega
  have:=b2 0 xs[0] (by omega) (by simp [h0])
  omega
 ·have hlt:i - 1 < xs.size:=(Array.getElem?_eq_some_iff.mp hj).1
  rcases Nat.lt_trichotomy (below xs (j + 1)) i with hl | he | hg
  ·have hx:xs[below xs (j + 1)]? = some xs[below xs (j + 1)]:=by simp [show below xs (j + 1) < xs.size by omega]
   have h1:=b3 _ _ (Nat.le_refl _) hx
   by_cases hq:below xs (j + 1) = i - 1
   ·have hx2:xs[below xs (j + 1)]? = some j:=by rw [hq]; exact hj
    have:=Option.some.inj (hx.symm.trans hx2)
    omega
   ·have:=FB r hx hj (by omega)
    omega
  ·exact he
  ·have hx:xs[i]? = some xs[i]:=by simp [show i < xs.size by omega]
   have h1:=b2 i _ hg hx
   have:=FB r hj hx (by omega)
   omega
section
variable {prog:Program} {w:World} {A:Around} {E:Value→Shared→Prop} {s:Shared}
variable {a:Addr} {xs:List (List Int × Addr)} {o:Obj} {es:Array (Int × Value)} {ep:Nat} {t:SetTable}
def CC (w:World) (h:Heap) (I a:Addr) (t:SetTable) (ep n i:Nat):Prop:=∃ slot:Nat,h.get? I = some { cls:=.type "set_iterator",dict:=none,data:=.fields #[rawInt slot,rawInt i,.ref a,rawInt n,rawInt ep],slots:=#[] } ∧
 (w.params.followText "set-order" = false→(i = 0∧slot = 0)∨(0 < i∧∃ j,t.place[i - 1]? = some j∧slot = j + 1))
theorem FM (hg:s.heap.get? a = some o) (hd:o.data = .set es ep t) (hf:t.fits es.size = true) (hr:NC t.place) (hpl:t.plain = true) (hled:t.led = !w.params.followText "set-order") {i slot:Nat} (hi:i≤es.size)
  (hs:w.params.followText "set-order" = false→(i = 0∧slot = 0)∨(0 < i∧∃ j,t.place[i - 1]? = some j∧slot = j + 1)) {Q:Option (Value × Nat)→Shared→Prop}
  (hsome:∀ e slot',(Cg w a ep es)[i]? = some e→(w.params.followText "set-order" = false→∃ j,t.place[i]? = some j∧slot' = j + 1)→Q (some (e.2,slot')) s) (hnone:i = es.size→Q none s):wpAny (model prog w) A (setNext a slot i ep) Q E s:=by
 have hps:t.place.size = es.size:=by
  simp only [SetTable.fits,Bool.and_eq_true,beq_iff_eq] at hf
  exact hf.1
 have ask:∀ {R:Bool→Shared→Prop},R (w.params.followText "set-order") s→wpAny (model prog w) A setsByText R E s:=fun h => wpAny_bind (wpAny_askSetting (wpAny_pure h))
 unfold setNext
 refine wpAny_bind (wpAny_setState_of hg hd hf ?_)
 dsimp only
 refine wpAny_bind (ask ?_)
 cases hb:w.params.followText "set-order" with
 | true =>
  simp only [if_true]
  rw [if_neg (by simp)]
  refine wpAny_bind ?_
  unfold setWalk
  refine wpAny_bind (wpAny_setState_of hg hd hf ?_)
  dsimp only
  refine wpAny_bind (ask ?_)
  rw [hb]
  simp only [if_true]
  refine wpAny_bind (wpAny_askSetting (wpAny_pure ?_))
  refine wpAny_pure ?_
  have ho:Cg w a ep es = pickOrder (w.params.setOrder a ep) es:=by unfold Cg; rw [if_pos hb]
  show Q (((pickOrder (w.params.setOrder a ep) es)[i]?).map fun e => (e.2,slot)) s
  rw [← ho]
  cases he:(Cg w a ep es)[i]? with
  | some e => exact hsome e slot he fun z => by rw [hb] at z; cases z
  | none =>
   refine hnone ?_
   have:=Array.getElem?_eq_none_iff.mp he
   rw [DF] at this
   omega
 | false =>
  rw [hb] at hled
  simp only [Bool.false_eq_true,if_false]
  have hdr:(!t.plain && decide (es.size > 1)) = false:=by rw [hpl]; rfl
  show wpAny _ _ (if (!t.plain && decide (es.size > 1)) = true then _ else _) _ _ s
  rw [hdr]
  simp only [Bool.false_eq_true,if_false]
  refine wpAny_bind ?_
  show wpAny _ _ (if (!t.led && !es.isEmpty) = true then _ else pure ()) _ _ s
  rw [hled]
  simp only [Bool.not_false,Bool.not_true,Bool.false_and,Bool.false_eq_true,if_false]
  refine wpAny_pure ?_
  rw [Jq hr (by omega) (hs hb)]
  have ho:Cg w a ep es = es:=by unfold Cg; rw [if_neg (by rw [hb]; decide)]
  by_cases hlt:i < es.size
  ·have e1:es[i]? = some es[i]:=by simp [hlt]
   have e2:t.place[i]? = some (t.place[i]'(by omega)):=by simp [show i < t.place.size by omega]
   rw [e1,e2]
   exact wpAny_pure (hsome es[i] _ (by rw [ho]; exact e1) fun _ => ⟨_,e2,rfl⟩)
  ·have e1:es[i]? = none:=by simp; omega
   rw [e1]
   exact wpAny_pure (hnone (by omega))
end
section
variable {prog:Program} {w:World} {A:Around} {E:Value→Shared→Prop} {s:Shared}
variable {a I:Addr} {xs:List (List Int × Addr)} {o:Obj} {es:Array (Int × Value)} {ep:Nat} {t:SetTable}
structure Wk (w:World) (o:Obj) (es:Array (Int × Value)) (ep:Nat) (t:SetTable):Prop where
 cls:o.cls = .type "set"
 dat:o.data = .set es ep t
 fits:t.fits es.size = true
 ris:NC t.place
 pl:t.plain = true
 led:t.led = !w.params.followText "set-order"
theorem SetD.wk (S:SetD prog w s.heap a xs o es ep t):Wk w o es ep t:=⟨S.ex.1,S.dat,S.fits,S.tb.ris,S.pl,S.led⟩
theorem Bw (K:Wk w o es ep t) (hg:s.heap.get? a = some o) {Q:Array (Int × Value)→Shared→Prop} (h:Q es s):wpAny (model prog w) A (setEntries a) Q E s:=by
 unfold setEntries
 exact wpAny_bind (wpAny_setState_of hg K.dat K.fits (wpAny_pure h))
theorem Lv (K:Wk w o es ep t) (hg:s.heap.get? a = some o) (hne:a≠I) {i:Nat} (hi:i < es.size) (it:CC w s.heap I a t ep es.size i) {Q:Option Value→Shared→Prop}
  (hQ:∀ e h',(Cg w a ep es)[i]? = some e→CC w h' I a t ep es.size (i + 1)→Heap.SameBut I s.heap h'→Q (some e.2) { s with heap:=h' }):wpAny (model prog w) A (pyNext (.ref I)) Q E s:=by
 obtain ⟨slot,ho,hsl⟩:=it
 have hT:s.TypeIs (.ref I) "set_iterator":=⟨_,ho,rfl⟩
 unfold pyNext
 refine wpAny_bind (wpAny_attempt (wpAny_callSpecial?_slot (name:=Str.ofString "__next__") hT Ag (wpAny_call_entry Ag hT CB ?_ (Ce _))))
 refine wpAny_bind (wpAny_pure ?_)
 refine wpAny_bind (wpAny_fieldsOf ho rfl ?_)
 show wpAny _ _ (setEntries a >>= _) _ _ s
 refine wpAny_bind (Bw K hg ?_)
 rw [if_neg (by simp)]
 show wpAny _ _ (setNext a ((slot:Int).toNat) ((i:Int).toNat) ((ep:Int).toNat) >>= _) _ _ s
 simp only [Int.toNat_natCast]
 refine wpAny_bind (FM hg K.dat K.fits K.ris K.pl K.led (Nat.le_of_lt hi) hsl (fun e slot' he hs' => ?_) fun z => by omega)
 dsimp only
 refine wpAny_bind (wpAny_setField_rec ho (by simp) fun h1 ho1 hs1 => ?_)
 refine wpAny_bind (wpAny_setField_rec (s:={ s with heap:=h1 }) ho1 (by simp) fun h2 ho2 hs2 => ?_)
 refine wpAny_pure ⟨_,rfl,wpAny_pure (hQ e h2 he ⟨slot',?_,fun hb => .inr ⟨Nat.succ_pos _,?_⟩⟩ (hs1.trans hs2))⟩
 ·simpa using ho2
 ·simpa using hs' hb
theorem NH (K:Wk w o es ep t) (hh:A.handled = none) (hg:s.heap.get? a = some o) (hne:a≠I) (it:CC w s.heap I a t ep es.size es.size) {Q:Option Value→Shared→Prop}
  (hQ:∀ h',Heap.ExtBut I s.heap h'→Q none { s with heap:=h' }):wpAny (model prog w) A (pyNext (.ref I)) Q E s:=by
 obtain ⟨slot,ho,hsl⟩:=it
 have hT:s.TypeIs (.ref I) "set_iterator":=⟨_,ho,rfl⟩
 unfold pyNext
 refine wpAny_bind (wpAny_attempt (wpAny_callSpecial?_slot (name:=Str.ofString "__next__") hT Ag (wpAny_call_entry Ag hT CB ?_ (Ce _))))
 refine wpAny_bind (wpAny_pure ?_)
 refine wpAny_bind (wpAny_fieldsOf ho rfl ?_)
 show wpAny _ _ (setEntries a >>= _) _ _ s
 refine wpAny_bind (Bw K hg ?_)
 rw [if_neg (by simp)]
 show wpAny _ _ (setNext a ((slot:Int).toNat) ((es.size:Int).toNat) ((ep:Int).toNat) >>= _) _ _ s
 simp only [Int.toNat_natCast]
 refine wpAny_bind (FM hg K.dat K.fits K.ris K.pl K.led (Nat.le_refl _) hsl (fun e slot' he hs' => ?_) fun z => ?_)
 ·have:=(Array.getElem?_eq_some_iff.mp he).1
  rw [DF] at this
  omega
 dsimp only
 refine wpAny_bind (wpAny_setField_rec ho (by simp) fun h1 ho1 hs1 => ?_)
 show wpAny _ _ (newExc (.type "StopIteration") [] >>= _) _ _ _
 refine wpAny_bind ?_
 simp only [newExc,newTuple]
 refine wpAny_bind (wpAny_newObj_type ?_ (by size_fits))
 refine wpAny_bind (m:=firstArgMember _ _) (wpAny_of_eq (a:=Value.none) (by first | rfl | (simp only [firstArgMember]; rfl)) ?_)
 refine wpAny_newObj_type ?_ (by size_fits)
 simp only [raiseNew]
 refine wpAny_bind (wpAny_handled ?_)
 rw [show A.in1.handled = none from hh]
 refine wpAny_bind (wpAny_pure (wpAny_throw ?_))
 refine wpAny_bind (wpAny_isInstance (T:="StopIteration") (b:=true) ⟨_,Heap.get?_push_size _ rfl,rfl⟩ isSubtype_stop ?_)
 exact wpAny_pure (hQ _ ((hs1.extBut.push _).push _))
theorem Lw {n i:Nat} (it:CC w s.heap I a t ep n i) {Q:Value→Shared→Prop} (h:Q (.ref I) s):wpAny (model prog w) A (pyIter (.ref I)) Q E s:=by
 obtain ⟨slot,ho,_⟩:=it
 have hT:s.TypeIs (.ref I) "set_iterator":=⟨_,ho,rfl⟩
 refine wpAny_pyIter_slot hT Cd (wpAny_call_entry Cd hT Dy ?_ (Ec _))
 show wpAny _ _ (ret (.ref I)) _ _ s
 exact wpAny_pure ⟨_,rfl,"set_iterator",_,hT,Ag.lookup,h⟩
theorem NI (K:Wk w o es ep t) (hg:s.heap.get? a = some o) {Q:Value→Shared→Prop}
  (h:Q (.ref s.heap.objs.size) { s with heap:=s.heap.push { cls:=.type "set_iterator",data:=.fields #[rawInt 0,rawInt 0,.ref a,rawInt es.size,rawInt ep] } }):wpAny (model prog w) A (pyIter (.ref a)) Q E s:=by
 have hT:s.TypeIs (.ref a) "set":=⟨_,hg,K.cls⟩
 have ask:∀ {A:Around} {E:Value→Shared→Prop} {R:Bool→Shared→Prop},R (w.params.followText "set-order") s→wpAny (model prog w) A setsByText R E s:=fun h => wpAny_bind (wpAny_askSetting (wpAny_pure h))
 refine wpAny_pyIter_slot hT PySem.F.slot_set_iter (wpAny_call_entry PySem.F.slot_set_iter hT FL ?_ (PySem.F.args_set_iter_1 _))
 unfold Builtin.«frozenset.__iter__»
 refine wpAny_bind (wpAny_bind (wpAny_pure (wpAny_pure ?_)))
 refine wpAny_bind (wpAny_bind (Bw K hg (wpAny_pure ?_)))
 refine wpAny_bind ?_
 unfold setDrawn
 refine wpAny_bind (wpAny_setState_of hg K.dat K.fits ?_)
 dsimp only
 refine wpAny_bind (ask (wpAny_pure ?_))
 have hdr:(!w.params.followText "set-order" && (!t.plain && decide (es.size > 1))) = false:=by rw [K.pl]; simp
 show wpAny _ _ (if (!w.params.followText "set-order" && (!t.plain && decide (es.size > 1))) = true then _ else _) _ _ s
 rw [hdr]
 simp only [Bool.false_eq_true,if_false]
 refine wpAny_bind (wpAny_pure ?_)
 refine wpAny_bind (wpAny_setEpoch_of hg K.dat K.fits ?_)
 refine wpAny_bind ?_
 unfold newFields
 refine wpAny_newObj_type ?_
 refine wpAny_pure ⟨_,rfl,"set_iterator",_,⟨_,Heap.get?_push_size _ rfl,rfl⟩,Ag.lookup,h⟩
theorem Lx (K:Wk w o es ep t) (hh:A.handled = none) (hne:a≠I):Walks prog w A I [I,a] [I] es.size (fun i v => ∃ h,(Cg w a ep es)[i]? = some (h,v)) (fun i h => CC w h I a t ep es.size i∧h.get? a = some o) where
 sub:=fun b hb => by simp at hb; simp [hb]
 frame:=fun i h h' st hk => by
  obtain ⟨⟨slot,h1,h2⟩,h3⟩:=st
  exact ⟨⟨slot,hk I (by simp) _ h1,h2⟩,hk a (by simp) _ h3⟩
 item:=fun i s Q E hi st hQ => Lv K st.2 hne hi st.1 fun e h' he it' sb => hQ e.2 h' s.toks ⟨e.1,he⟩ ⟨it',(sb.2 a hne).trans st.2⟩ fun b o hb e => (sb.2 b (fun z => hb (by simp [z]))).trans e
 done:=fun s Q E st hQ => NH K hh st.2 hne st.1 fun h' he => hQ h' s.toks fun b o hb e => he b o (fun z => hb (by simp [z])) e
 self:=fun i s Q E st hQ => Lw st.1 hQ
theorem NJ {r:Addr} {Q:Bool→Shared→Prop} (hT:s.TypeIs (.ref r) "set") (h:Q false s):wpAny (model prog w) A (Builtin.List.listLengthHint (.ref r)) Q E s:=by
 unfold Builtin.List.listLengthHint
 refine wpAny_bind (wpAny_specialOf hT PySem.F.slot_set_len.lookup ?_)
 generalize hid:("set.__len__" : String) = id0
 wp_delta
 rw [show splitId id0 = some ("set","__len__") from by subst hid; decide +kernel]
 subst hid
 refine wpAny_bind (wpAny_isInstance (T:="set") (b:=true) hT (by rw [isSubtype_type]; kernel_rfl) ?_)
 refine wpAny_ite_split (fun hab => absurd hab (by decide)) (fun _ => ?_)
 refine wpAny_ite_split (fun _ => ?_) (fun hab => absurd (by decide +kernel) hab)
 refine wpAny_bind (wpAny_typeOf hT ?_)
 exact wpAny_pure h
theorem Ks (K:Wk w o es ep t):PySem.W.KdlSrc prog w "set" a a es.size (fun i v => ∃ h,(Cg w a ep es)[i]? = some (h,v)) (fun h => h.get? a = some o) where
 type:=fun _ hm => ⟨_,hm,K.cls⟩
 there:=fun _ hm => ⟨Heap.lt_size hm,Heap.lt_size hm⟩
 keep:=fun _ _ hm hk => hk a (.inl rfl) _ hm
 notList:=by decide
 notTuple:=by decide
 hint:=fun _ _ _ _ hm hq => NJ ⟨_,hm,K.cls⟩ hq
 iter:=fun A s hh hm => ⟨_,_,(fun _ _ hq => NI K hm hq),Lx K hh (Nat.ne_of_lt (Heap.lt_size hm)),⟨⟨0,Heap.get?_push_size _ rfl,fun _ => .inl ⟨rfl,rfl⟩⟩,Heap.get?_push_of_some _ hm⟩⟩
end
end StT
namespace SrtG
open PySem PyProof.Rows
def Kt:Bool→Keyed→Array Keyed→Nat→Nat→Nat→StateT SortSt Sem (Option Nat):=sortPriv% PySem.Builtin.gallop
def BC (left:Bool) (key:Keyed) (arr:Array Keyed) (base i:Nat):StateT SortSt Sem (Option Bool):=do
 let x ← elem' arr (base + i)
 if left then lt' x key else return (← lt' key x).map (!·)
section
variable {prog:Program} {w:World} {A:Around} {E:Value→Shared→Prop} {s:Shared}
def NK (prog:Program) (w:World) (A:Around) (E:Value→Shared→Prop) (s:Shared) (kd:SortKind) (U:Keyed→Prop) (rk:Keyed→Int):Prop :=
 ∀ (st:SortSt) (x y:Keyed) (Q:Option Bool→SortSt→Prop),kindOf st = kd→U x→U y→Q (some (decide (rk x < rk y))) st→wpS (model prog w) A E s (lt' x y) Q st
variable {kd:SortKind} {U:Keyed→Prop} {rk:Keyed→Int}
def RK (rk:Keyed→Int) (xs:Array Keyed) (i:Nat):Int:=match xs[i]? with
 | some p => rk p
 | none => 0
def AllU (U:Keyed→Prop) (xs:Array Keyed):Prop:=∀ (i:Nat) (p:Keyed),xs[i]? = some p→U p
def bt (left:Bool) (rk:Keyed→Int) (key:Keyed) (arr:Array Keyed) (base i:Nat):Bool:=if left then decide (RK rk arr (base + i) < rk key) else !decide (rk key < RK rk arr (base + i))
theorem QB {left:Bool} {key:Keyed} {arr:Array Keyed} {base i:Nat} {st:SortSt} {Q:Option Bool→SortSt→Prop} (C:NK prog w A E s kd U rk) (hk:kindOf st = kd) (hK:U key) (hU:AllU U arr) (hi:base + i < arr.size)
  (h:Q (some (bt left rk key arr base i)) st):wpS (model prog w) A E s (BC left key arr base i) Q st:=by
 unfold BC
 have e:arr[base + i]? = some arr[base + i]:=getElem?_pos arr (base + i) hi
 rw [elem'_eq,e]
 refine wpS_bind (wpS_pure ?_)
 have eR:RK rk arr (base + i) = rk arr[base + i]:=by unfold RK; rw [e]
 unfold bt at h
 rw [eR] at h
 cases left with
 | true =>
  rw [if_pos rfl] at h ⊢
  exact C st _ _ _ hk (hU _ _ e) hK h
 | false =>
  rw [if_neg Bool.false_ne_true] at h ⊢
  exact wpS_bind (C st _ _ _ hk hK (hU _ _ e) (wpS_pure h))
def RJ (P:Nat→Bool) (n r:Nat):Prop:=r≤n∧(∀ i,i < r→P i = true)∧∀ i,r≤i→i < n→P i = false
theorem NL {α:Type} {P:Nat→Bool} {b:Nat→StateT SortSt Sem (Option Bool)} {n l h:Nat} {st:SortSt} (hb:∀ i (Q:Option Bool→SortSt→Prop),i < n→Q (some (P i)) st→wpS (model prog w) A E s (b i) Q st)
  (mono:∀ i j,i≤j→j < n→P j = true→P i = true) (hl:l≤h) (hn:h≤n) (h1:∀ i,i < l→P i = true) (h2:∀ i,h≤i→i < n→P i = false) :
  wpS (model prog w) A E s (forIn [:n] ((none:Option (Option Nat)),l,h) fun x __s =>
   if __s.snd.fst ≥ __s.snd.snd then pure (ForInStep.done (none,__s.snd.fst,__s.snd.snd))
   else do
    let __x ← b (__s.snd.fst + (__s.snd.snd - __s.snd.fst) / 2)
    match __x with
     | some mr =>
      if mr = true then pure (ForInStep.yield (none,__s.snd.fst + (__s.snd.snd - __s.snd.fst) / 2 + 1,__s.snd.snd))
      else pure (ForInStep.yield (none,__s.snd.fst,__s.snd.fst + (__s.snd.snd - __s.snd.fst) / 2))
     | x => pure (ForInStep.done (some none,__s.snd.fst,__s.snd.snd))) (fun c st' => st' = st∧c.1 = none∧RJ P n c.2.2) st:=by
 refine wpS_forRange (I:=fun x c st' => st' = st∧∃ l h,c = (none,l,h)∧l≤h∧h≤n∧(∀ i,i < l→P i = true)∧(∀ i,h≤i→i < n→P i = false)∧h - l≤n - x) ?_ ?_ ⟨rfl,l,h,rfl,hl,hn,h1,h2,by omega⟩
 ·rintro x c st' _ hx ⟨rfl,l,h,rfl,hl,hn,h1,h2,hm⟩
  dsimp only
  by_cases hlh:l ≥ h
  ·rw [if_pos hlh]
   have e:l = h:=by omega
   subst e
   exact wpS_pure ⟨rfl,rfl,hn,h1,h2⟩
  ·rw [if_neg hlh]
   refine wpS_bind (hb _ _ (by omega) ?_)
   dsimp only
   cases hP:P (l + (h - l) / 2) with
   | true =>
    rw [if_pos rfl]
    exact wpS_pure ⟨rfl,_,_,rfl,by omega,hn,fun i hi => mono i _ (by omega) (by omega) hP,h2,by omega⟩
   | false =>
    rw [if_neg Bool.false_ne_true]
    refine wpS_pure ⟨rfl,_,_,rfl,by omega,by omega,h1,fun i hi hin => ?_,by omega⟩
    cases q:P i with
    | false => rfl
    | true => rw [mono _ i hi hin q] at hP; cases hP
 ·rintro c st' ⟨rfl,l,h,rfl,hl,hn,h1,h2,hm⟩
  have e:l = h:=by
   have:max 0 n = n:=by omega
   rw [this] at hm
   omega
  subst e
  exact ⟨rfl,rfl,hn,h1,h2⟩
theorem Ax {left : Bool} {key : Keyed} {arr : Array Keyed} {base n hint : Nat} {st : SortSt} {Q : Option Nat → SortSt → Prop} (C : NK prog w A E s kd U rk) (hk : kindOf st = kd) (hK : U key) (hU : AllU U arr) (hb : base + n ≤ arr.size) (hh : hint < n)
    (mono : ∀ i j, i ≤ j → j < n → bt left rk key arr base j = true → bt left rk key arr base i = true)
    (h : ∀ r, RJ (bt left rk key arr base) n r → Q (some r) st) : wpS (model prog w) A E s (Kt left key arr base n hint) Q st := by
  delta Kt
  have hbey : ∀ i (Q : Option Bool → SortSt → Prop), i < n → Q (some (bt left rk key arr base i)) st → wpS (model prog w) A E s (BC left key arr base i) Q st := fun i Q hi q => QB C hk hK hU (by omega) q
  have fals : ∀ i j, i ≤ j → j < n → bt left rk key arr base i = false → bt left rk key arr base j = false := fun i j hij hj e => by
    cases q : bt left rk key arr base j with
    | false => rfl
    | true => rw [mono i j hij hj q] at e; cases e
  refine wpS_bind (hbey _ _ hh ?_)
  dsimp only
  cases hP : bt left rk key arr base hint with
  | true =>
    rw [if_pos rfl]
    refine wpS_bind (wpS_mono (wpS_forRange (I := fun x c st' => st' = st ∧ ∃ la o, c = (none, la, o) ∧ la < o ∧ x + 1 ≤ o ∧ hint + la < n ∧ bt left rk key arr base (hint + la) = true)
      (Q := fun c st' => st' = st ∧ ∃ la o, c = (none, la, o) ∧ la < o ∧ hint + la < n ∧ bt left rk key arr base (hint + la) = true ∧ (n - hint ≤ o ∨ bt left rk key arr base (hint + o) = false)) ?_ ?_ ⟨rfl, 0, 1, rfl, by omega, by omega, hh, hP⟩) ?_)
    · rintro x c st' _ hx ⟨rfl, la, o, rfl, h1, h2, h3, h4⟩
      dsimp only
      by_cases ho : o ≥ n - hint
      · rw [if_pos ho]
        exact wpS_pure ⟨rfl, la, o, rfl, h1, h3, h4, .inl ho⟩
      · rw [if_neg ho]
        refine wpS_bind (hbey _ _ (by omega) ?_)
        dsimp only
        cases hq : bt left rk key arr base (hint + o) with
        | false =>
          rw [if_pos (by decide)]
          exact wpS_pure ⟨rfl, la, o, rfl, h1, h3, h4, .inr hq⟩
        | true =>
          rw [if_neg (by decide)]
          exact wpS_pure ⟨rfl, o, _, rfl, by omega, by omega, by omega, hq⟩
    · rintro c st' ⟨rfl, la, o, rfl, h1, h2, h3, h4⟩
      exact ⟨rfl, la, o, rfl, h1, h3, h4, .inl (by have : max 0 n = n := by omega
                                                   omega)⟩
    · rintro c st' ⟨rfl, la, o, rfl, h1, h3, h4, h5⟩
      dsimp only
      refine wpS_bind (wpS_mono (NL (α := Unit) hbey mono (by omega) (by omega) (fun i hi => mono i (hint + la) (by omega) h3 h4) (fun i hi hin => ?_)) ?_)
      · rcases h5 with h5 | h5
        · omega
        · exact fals (hint + o) i (by omega) hin h5
      · rintro ⟨c1, c2, c3⟩ st'' ⟨rfl, e, pt⟩
        cases e
        exact wpS_pure (h _ pt)
  | false =>
    rw [if_neg Bool.false_ne_true]
    refine wpS_bind (wpS_mono (wpS_forRange (I := fun x c st' => st' = st ∧ ∃ la o, c = (none, la, o) ∧ la < o ∧ x + 1 ≤ o ∧ la ≤ hint ∧ bt left rk key arr base (hint - la) = false)
      (Q := fun c st' => st' = st ∧ ∃ la o, c = (none, la, o) ∧ la < o ∧ la ≤ hint ∧ bt left rk key arr base (hint - la) = false ∧ (hint + 1 ≤ o ∨ bt left rk key arr base (hint - o) = true)) ?_ ?_ ⟨rfl, 0, 1, rfl, by omega, by omega, by omega, hP⟩) ?_)
    · rintro x c st' _ hx ⟨rfl, la, o, rfl, h1, h2, h3, h4⟩
      dsimp only
      by_cases ho : o ≥ hint + 1
      · rw [if_pos ho]
        exact wpS_pure ⟨rfl, la, o, rfl, h1, h3, h4, .inl ho⟩
      · rw [if_neg ho]
        refine wpS_bind (hbey _ _ (by omega) ?_)
        dsimp only
        cases hq : bt left rk key arr base (hint - o) with
        | true =>
          rw [if_pos rfl]
          exact wpS_pure ⟨rfl, la, o, rfl, h1, h3, h4, .inr hq⟩
        | false =>
          rw [if_neg Bool.false_ne_true]
          exact wpS_pure ⟨rfl, o, _, rfl, by omega, by omega, by omega, hq⟩
    · rintro c st' ⟨rfl, la, o, rfl, h1, h2, h3, h4⟩
      exact ⟨rfl, la, o, rfl, h1, h3, h4, .inl (by have : max 0 n = n := by omega
                                                   omega)⟩
    · rintro c st' ⟨rfl, la, o, rfl, h1, h3, h4, h5⟩
      dsimp only
      refine wpS_bind (wpS_mono (NL (α := Unit) hbey mono (by omega) (by omega) (fun i hi => ?_) (fun i hi hin => fals (hint - la) i hi hin h4)) ?_)
      · rcases h5 with h5 | h5
        · omega
        · exact mono i (hint - o) (by omega) (by omega) h5
      · rintro ⟨c1, c2, c3⟩ st'' ⟨rfl, e, pt⟩
        cases e
        exact wpS_pure (h _ pt)
end
local macro_rules | `(tactic| omega) => `(tactic| first | lia | omega)
open PySem PyProof.Rows
variable {rk:Keyed→Int}
def EC (rk:Keyed→Int) (a:Array Keyed):Prop:=∀ i j,i≤j→j < a.size→RK rk a i≤RK rk a j
structure Mrg (rk:Keyed→Int) (a b out:Array Keyed) (i j:Nat):Prop where
 hi:i≤a.size
 hj:j≤b.size
 perm:out.toList.Perm (a.toList.take i ++ b.toList.take j)
 srt:out.toList.Pairwise fun x y => rk x≤rk y
 ha:∀ x,x∈out.toList→∀ y,i≤y→y < a.size→rk x≤RK rk a y
 hb:∀ x,x∈out.toList→∀ y,j≤y→y < b.size→rk x≤RK rk b y
structure Fin2 (rk:Keyed→Int) (a b r:Array Keyed):Prop where
 perm:r.toList.Perm (a.toList ++ b.toList)
 srt:r.toList.Pairwise fun x y => rk x≤rk y
theorem Ar {a:Array Keyed} {i:Nat} (h:i < a.size):RK rk a i = rk a[i]:=by
 unfold RK
 rw [getElem?_pos a i h]
theorem Mrg.sym {a b out:Array Keyed} {i j:Nat} (m:Mrg rk a b out i j):Mrg rk b a out j i :=
 ⟨m.hj,m.hi,m.perm.trans List.perm_append_comm,m.srt,m.hb,m.ha⟩
theorem Mrg.pushA {a b out:Array Keyed} {i j:Nat} (m:Mrg rk a b out i j) (sa:EC rk a) (h:i < a.size) (hb:∀ y,j≤y→y < b.size→rk a[i]≤RK rk b y):Mrg rk a b (out.push a[i]) (i + 1) j:=by
 have e:(out.push a[i]).toList = out.toList ++ [a[i]]:=Array.toList_push ..
 have t:a.toList.take (i + 1) = a.toList.take i ++ [a[i]]:=by
  rw [List.take_succ]
  have:a.toList[i]? = some a[i]:=by rw [Array.getElem?_toList]; exact getElem?_pos a i h
  rw [this]; rfl
 refine ⟨h,m.hj,?_,?_,?_,?_⟩
 ·rw [e,t]
  have p1:=m.perm.append_right [a[i]]
  refine p1.trans ?_
  rw [List.append_assoc,List.append_assoc]
  exact List.Perm.append_left _ List.perm_append_comm
 ·rw [e,List.pairwise_append]
  refine ⟨m.srt,List.pairwise_singleton _ _,fun x hx y hy => ?_⟩
  cases List.mem_singleton.mp hy
  have:=m.ha x hx i (Nat.le_refl _) h
  rwa [Ar h] at this
 ·intro x hx y hy hys
  rw [e] at hx
  rcases List.mem_append.mp hx with hx | hx
  ·exact m.ha x hx y (by omega) hys
  ·cases List.mem_singleton.mp hx
   have:=sa i y (by omega) hys
   rwa [Ar h] at this
 ·intro x hx y hy hys
  rw [e] at hx
  rcases List.mem_append.mp hx with hx | hx
  ·exact m.hb x hx y hy hys
  ·cases List.mem_singleton.mp hx
   exact hb y hy hys
theorem Mrg.pushB {a b out:Array Keyed} {i j:Nat} (m:Mrg rk a b out i j) (sb:EC rk b) (h:j < b.size) (ha:∀ y,i≤y→y < a.size→rk b[j]≤RK rk a y):Mrg rk a b (out.push b[j]) i (j + 1):=(m.sym.pushA sb h ha).sym
theorem HH (a:Array Keyed) (i k:Nat) (h:i + k < a.size):a.extract i (i + (k + 1)) = (a.extract i (i + k)).push a[i + k]:=by
 apply Array.ext'
 rw [Array.toList_push,Array.toList_extract,Array.toList_extract,List.extract_eq_drop_take,List.extract_eq_drop_take]
 have e1:i + (k + 1) - i = k + 1:=by omega
 have e2:i + k - i = k:=by omega
 rw [e1,e2,List.take_succ,List.getElem?_drop,Array.getElem?_toList,getElem?_pos a (i + k) h]
 rfl
theorem Mrg.appA {a b:Array Keyed} {i j:Nat}:∀ (k:Nat) {out:Array Keyed},Mrg rk a b out i j→EC rk a→i + k≤a.size→(∀ x,x < k→∀ y,j≤y→y < b.size→RK rk a (i + x)≤RK rk b y)→Mrg rk a b (out ++ a.extract i (i + k)) (i + k) j
 | 0,out,m,_,_,_ => by
  have:out ++ a.extract i (i + 0) = out:=by
   apply Array.ext'
   rw [Array.toList_append,Array.toList_extract,List.extract_eq_drop_take]
   have:i + 0 - i = 0:=by omega
   rw [this,List.take_zero,List.append_nil]
  rw [this]; exact m
 | k + 1,out,m,sa,h,hb => by
  have m':=Mrg.appA k m sa (by omega) fun x hx => hb x (by omega)
  have hk:i + k < a.size:=by omega
  rw [HH a i k hk,Array.append_push]
  exact m'.pushA sa hk fun y h1 h2 => by
   have:=hb k (by omega) y h1 h2
   rwa [Ar hk] at this
theorem Mrg.appB {a b:Array Keyed} {i j:Nat} (k:Nat) {out:Array Keyed} (m:Mrg rk a b out i j) (sb:EC rk b) (h:j + k≤b.size) (ha:∀ x,x < k→∀ y,i≤y→y < a.size→RK rk b (j + x)≤RK rk a y):Mrg rk a b (out ++ b.extract j (j + k)) i (j + k):=(Mrg.appA k m.sym sb h ha).sym
theorem Mrg.fin {a b out:Array Keyed} (m:Mrg rk a b out a.size b.size):Fin2 rk a b out:=by
 have p:=m.perm
 rw [← Array.length_toList,← Array.length_toList,List.take_length,List.take_length] at p
 exact ⟨p,m.srt⟩
theorem Mrg.restAB {a b out:Array Keyed} {i j:Nat} (m:Mrg rk a b out i j) (sa:EC rk a) (sb:EC rk b) (h:∀ x y,i≤x→x < a.size→j≤y→y < b.size→RK rk a x≤RK rk b y):Fin2 rk a b (out ++ a.extract i a.size ++ b.extract j b.size):=by
 have hi:=m.hi
 have hj:=m.hj
 have m1:=m.appA (a.size - i) sa (by omega) fun x hx y h1 h2 => h _ _ (by omega) (by omega) h1 h2
 have e1:i + (a.size - i) = a.size:=by omega
 rw [e1] at m1
 have m2:=m1.appB (b.size - j) sb (by omega) fun x hx y h1 h2 => by omega
 have e2:j + (b.size - j) = b.size:=by omega
 rw [e2] at m2
 exact m2.fin
theorem Mrg.restBA {a b out:Array Keyed} {i j:Nat} (m:Mrg rk a b out i j) (sa:EC rk a) (sb:EC rk b) (h:∀ x y,i≤x→x < a.size→j≤y→y < b.size→RK rk b y≤RK rk a x):Fin2 rk a b (out ++ b.extract j b.size ++ a.extract i a.size):=by
 have f:=m.sym.restAB sb sa fun x y h1 h2 h3 h4 => h y x h3 h4 h1 h2
 exact ⟨f.perm.trans List.perm_append_comm,f.srt⟩
end SrtG
namespace SrtG
local macro_rules | `(tactic| omega) => `(tactic| first | lia | omega)
open PySem PyProof.Rows
def IY:Array Keyed→Array Keyed→StateT SortSt Sem (Array Keyed):=sortPriv% PySem.Builtin.mergeLo
def Ku:Nat→StateT SortSt Sem Unit:=sortPriv% PySem.Builtin.setMinGallop
theorem Jr (g:Nat):Ku g = modify fun s => SortSt.mk' (kindOf s) (arrOf s) (pendingOf s) g (failedOf s):=rfl
abbrev dn (a b out:Array Keyed) (ia ib:Nat):Array Keyed:=out ++ a.extract ia a.size ++ b.extract ib b.size
abbrev la (a b out:Array Keyed) (ia ib:Nat):Array Keyed:=out ++ b.extract ib b.size ++ a.extract ia a.size
section
variable {prog:Program} {w:World} {A:Around} {E:Value→Shared→Prop} {s:Shared} {kd:SortKind} {U:Keyed→Prop} {rk:Keyed→Int}
structure Like (st st':SortSt):Prop where
 kd:kindOf st' = kindOf st
 arr:arrOf st' = arrOf st
 pd:pendingOf st' = pendingOf st
 fl:failedOf st' = failedOf st
theorem Like.refl (st:SortSt):Like st st:=⟨rfl,rfl,rfl,rfl⟩
theorem CQ {g:Nat} {st0 st:SortSt} {Q:Unit→SortSt→Prop} (l:Like st0 st) (h:∀ st',Like st0 st'→Q () st'):wpS (model prog w) A E s (Ku g) Q st:=by
 rw [Jr]
 exact wpS_modify (h _ ⟨l.kd,l.arr,l.pd,l.fl⟩)
theorem AL {arr:Array Keyed} {i:Nat} {st:SortSt} {Q:Keyed→SortSt→Prop} (hi:i < arr.size) (h:Q arr[i] st):wpS (model prog w) A E s (elem' arr i) Q st:=by
 rw [elem'_eq,getElem?_pos arr i hi]
 exact wpS_pure h
structure Hd (rk:Keyed→Int) (a b out:Array Keyed) (i j n:Nat):Prop where
 m:Mrg rk a b out i j
 hi:i + 1 < a.size
 hj:j < b.size
 hn:n≤i + j
theorem IZ {a b:Array Keyed} {st:SortSt} {Q:Array Keyed→SortSt→Prop} (C:NK prog w A E s kd U rk) (hk:kindOf st = kd) (uA:AllU U a) (uB:AllU U b) (sa:EC rk a) (sb:EC rk b) (ha0:0 < a.size) (hb0:0 < b.size)
  (hfst:RK rk b 0≤RK rk a 0) (hlst:RK rk b (b.size - 1)≤RK rk a (a.size - 1))
  (h:∀ r st',Like st st'→Fin2 rk a b r→Q r st'):wpS (model prog w) A E s (IY a b) Q st:=by
 have Udn:∀ {out i j},Mrg rk a b out i j→i = a.size∨j = b.size→Fin2 rk a b (dn a b out i j):=fun m hh => m.restAB sa sb fun x y _ _ _ _ => by omega
 have Ula:∀ {out i j},Mrg rk a b out i j→i + 1 = a.size→Fin2 rk a b (la a b out i j):=fun {out i j} m hh => m.restBA sa sb fun x y h1 h2 h3 h4 => by
  have e1:=sb y (b.size - 1) (by omega) (by omega)
  have e:x = a.size - 1:=by omega
  subst e
  omega
 have uAt:∀ {i} (hi:i < a.size),U a[i]:=fun hi => uA _ _ (getElem?_pos a _ hi)
 have uBt:∀ {i} (hi:i < b.size),U b[i]:=fun hi => uB _ _ (getElem?_pos b _ hi)
 delta IY
 refine wpS_bind (wpS_lift (wpAny_rule ⟨rfl,?_⟩))
 refine wpS_bind (AL hb0 ?_)
 have m0:Mrg rk a b #[] 0 0:=⟨by omega,by omega,List.Perm.nil,List.Pairwise.nil,(fun x hx => by cases hx),(fun x hx => by cases hx)⟩
 have m1:Mrg rk a b #[b[0]] 0 1:=m0.pushB sb hb0 fun y _ hy => by
  have e1:=sa 0 y (by omega) hy
  rw [← Ar (rk:=rk) hb0]
  omega
 dsimp only
 by_cases c1:1 = b.size
 ·rw [if_pos (beq_iff_eq.mpr c1)]
  exact wpS_pure (h _ _ (Like.refl _) (Udn m1 (.inr c1)))
 rw [if_neg (fun q => c1 (beq_iff_eq.mp q))]
 by_cases c2:0 + 1 = a.size
 ·rw [if_pos (beq_iff_eq.mpr c2)]
  exact wpS_pure (h _ _ (Like.refl _) (Ula m1 c2))
 rw [if_neg (fun q => c2 (beq_iff_eq.mp q))]
 refine wpS_bind (wpS_get ?_)
 refine wpS_bind (wpS_mono (wpS_forRange (I:=fun x c st' => Like st st'∧∃ out i j mg,c = (none,out,i,j,mg)∧Hd rk a b out i j (x + 1))
  (Q:=fun c st' => Like st st'∧∃ r,c.1 = some r∧Fin2 rk a b r) ?_ ?_ ⟨Like.refl _,_,_,_,_,rfl,m1,by omega,by omega,by omega⟩) ?_)
 ·rintro x c st1 _ hx ⟨lk,out,i,j,mg,rfl,hd⟩
  dsimp only
  refine wpS_bind (wpS_mono (wpS_forRange (I:=fun _ c st' => Like st st'∧∃ out i j ac bc,c = (none,out,i,j,ac,bc)∧Hd rk a b out i j (x + 1))
   (Q:=fun c st' => Like st st'∧((∃ r,c.1 = some r∧Fin2 rk a b r)∨∃ out i j ac bc,c = (none,out,i,j,ac,bc)∧Hd rk a b out i j (x + 1))) ?_ ?_ ⟨lk,_,_,_,_,_,rfl,hd⟩) ?_)
  ·rintro x1 c st2 _ hx1 ⟨lk,out,i,j,ac,bc,rfl,hd⟩
   have hia:i < a.size:=by have:=hd.hi; omega
   have hjb:=hd.hj
   have hin:=hd.hn
   dsimp only
   refine wpS_bind (AL hd.hj ?_)
   refine wpS_bind (AL hia ?_)
   refine wpS_bind (C _ _ _ _ (lk.kd.trans hk) (uBt hd.hj) (uAt hia) ?_)
   dsimp only
   by_cases hlt:rk b[j] < rk a[i]
   ·rw [if_pos (by exact decide_eq_true hlt)]
    have m:=hd.m.pushB sb hd.hj fun y h1 h2 => by
     have:=sa i y h1 h2
     rw [Ar hia] at this
     omega
    refine wpS_bind (AL hd.hj ?_)
    by_cases c3:j + 1 = b.size
    ·rw [if_pos (beq_iff_eq.mpr c3)]
     exact wpS_pure ⟨lk,.inl ⟨_,rfl,Udn m (.inr c3)⟩⟩
    rw [if_neg (fun q => c3 (beq_iff_eq.mp q))]
    have hd':Hd rk a b (out.push b[j]) i (j + 1) (x + 1):=⟨m,hd.hi,by have:=hd.hj; omega,by omega⟩
    split
    ·exact wpS_pure ⟨lk,.inr ⟨_,_,_,_,_,rfl,hd'⟩⟩
    ·exact wpS_pure ⟨lk,_,_,_,_,_,rfl,hd'⟩
   ·rw [if_neg (fun q => hlt (of_decide_eq_true q))]
    have m:=hd.m.pushA sa hia fun y h1 h2 => by
     have:=sb j y h1 h2
     rw [Ar hd.hj] at this
     omega
    refine wpS_bind (AL hia ?_)
    by_cases c3:i + 1 + 1 = a.size
    ·rw [if_pos (beq_iff_eq.mpr c3)]
     exact wpS_pure ⟨lk,.inl ⟨_,rfl,Ula m c3⟩⟩
    rw [if_neg (fun q => c3 (beq_iff_eq.mp q))]
    have hd':Hd rk a b (out.push a[i]) (i + 1) j (x + 1):=⟨m,by have:=hd.hi; omega,hd.hj,by omega⟩
    split
    ·exact wpS_pure ⟨lk,.inr ⟨_,_,_,_,_,rfl,hd'⟩⟩
    ·exact wpS_pure ⟨lk,_,_,_,_,_,rfl,hd'⟩
  ·rintro c st2 ⟨lk,hh⟩
   exact ⟨lk,.inr hh⟩
  rintro c st2 ⟨lk,⟨r,e,f⟩ | ⟨out,i,j,ac,bc,rfl,hd⟩⟩
  ·obtain ⟨c1,c2⟩:=c
   cases e
   exact wpS_pure ⟨lk,_,rfl,f⟩
  dsimp only
  refine wpS_bind (wpS_lift (wpAny_rule ⟨rfl,?_⟩))
  refine wpS_bind (wpS_mono (wpS_forRange (I:=fun y c st' => Like st st'∧∃ out i j mg ac bc,c = (none,out,i,j,mg,ac,bc)∧Hd rk a b out i j (x + 1 + y))
   (Q:=fun c st' => Like st st'∧((∃ r,c.1 = some r∧Fin2 rk a b r)∨∃ out i j mg ac bc,c = (none,out,i,j,mg,ac,bc)∧Hd rk a b out i j (x + 1 + 1))) ?_ ?_ ⟨lk,_,_,_,_,_,_,rfl,hd⟩) ?_)
  ·rintro x1 c st2 _ hx1 ⟨lk,out,i,j,mg,ac,bc,rfl,hd⟩
   have hia:i < a.size:=by have:=hd.hi; omega
   have hjb:=hd.hj
   have hin:=hd.hn
   dsimp only
   refine dite (mg > 1) (fun hmg => ?_) (fun hmg => ?_)
   all_goals first | rw [if_pos hmg] | rw [if_neg hmg]
   all_goals
    refine wpS_bind (CQ lk fun st3 lk => ?_)
    refine wpS_bind (AL hjb ?_)
    refine wpS_bind (Ax C (lk.kd.trans hk) (uBt hjb) uA (by omega) (by omega) ?_ ?_)
    ·intro p q hpq hq e
     unfold bt at e ⊢
     rw [if_neg Bool.false_ne_true] at e ⊢
     have e':=of_decide_eq_false (Bool.not_eq_true' _ |>.mp e)
     have:=sa (i + p) (i + q) (by omega) (by omega)
     exact (Bool.not_eq_true' _).mpr (decide_eq_false (by omega))
    rintro k ⟨kn,kt,kf⟩
    have kt':∀ x,x < k→RK rk a (i + x)≤RK rk b j:=fun x hx => by
     have e:=kt x hx
     unfold bt at e
     rw [if_neg Bool.false_ne_true] at e
     have e':=of_decide_eq_false (Bool.not_eq_true' _ |>.mp e)
     rw [Ar hjb]
     omega
    have kf':∀ y,i + k≤y→y < a.size→rk b[j]≤RK rk a y:=fun y h1 h2 => by
     have e:=kf (y - i) (by omega) (by omega)
     unfold bt at e
     rw [if_neg Bool.false_ne_true] at e
     have e':=of_decide_eq_true (Bool.not_eq_false' _ |>.mp e)
     have ey:i + (y - i) = y:=by omega
     rw [ey] at e'
     omega
    have m:=hd.m.appA k sa (by omega) fun x hx y h1 h2 => by
     have:=sb j y h1 h2
     have:=kt' x hx
     omega
    dsimp only
    by_cases k0:k > 0
    ·rw [if_pos k0]
     by_cases c3:i + k + 1 = a.size
     ·rw [if_pos (beq_iff_eq.mpr c3)]
      exact wpS_pure ⟨lk,.inl ⟨_,rfl,Ula m c3⟩⟩
     rw [if_neg (fun q => c3 (beq_iff_eq.mp q))]
     by_cases c4:i + k = a.size
     ·rw [if_pos (beq_iff_eq.mpr c4)]
      exact wpS_pure ⟨lk,.inl ⟨_,rfl,Udn m (.inl c4)⟩⟩
     rw [if_neg (fun q => c4 (beq_iff_eq.mp q))]
     have hi':i + k < a.size:=by omega
     have hi2:i + k + 1 < a.size:=by omega
     have hn':x + 1 + x1≤i + k + j:=by omega
     refine wpS_bind (AL hjb ?_)
     have m2:=m.pushB sb hjb kf'
     by_cases c5:j + 1 = b.size
     ·rw [if_pos (beq_iff_eq.mpr c5)]
      exact wpS_pure ⟨lk,.inl ⟨_,rfl,Udn m2 (.inr c5)⟩⟩
     rw [if_neg (fun q => c5 (beq_iff_eq.mp q))]
     refine wpS_bind (AL hi' ?_)
     refine wpS_bind (Ax C (lk.kd.trans hk) (uAt hi') uB (by omega) (by omega) ?_ ?_)
     ·intro p q hpq hq e
      unfold bt at e ⊢
      rw [if_pos rfl] at e ⊢
      have e':=of_decide_eq_true e
      have:=sb (j + 1 + p) (j + 1 + q) (by omega) (by omega)
      exact decide_eq_true (by omega)
     rintro k2 ⟨k2n,k2t,k2f⟩
     have k2t':∀ x,x < k2→∀ y,_≤y→y < a.size→RK rk b (j + 1 + x)≤RK rk a y:=fun x hx y h1 h2 => by
      have e:=k2t x hx
      unfold bt at e
      rw [if_pos rfl] at e
      have e':=of_decide_eq_true e
      have:=sa _ y h1 h2
      rw [Ar hi'] at this
      omega
     have k2f':∀ y,j + 1 + k2≤y→y < b.size→rk (a[i + k]'hi')≤RK rk b y:=fun y h1 h2 => by
      have e:=k2f (y - (j + 1)) (by omega) (by omega)
      unfold bt at e
      rw [if_pos rfl] at e
      have e':=of_decide_eq_false e
      have ey:j + 1 + (y - (j + 1)) = y:=by omega
      rw [ey] at e'
      omega
     dsimp only
     by_cases k20:k2 > 0
     ·rw [if_pos k20]
      have m3:=m2.appB k2 sb (by omega) k2t'
      by_cases c6:j + 1 + k2 = b.size
      ·rw [if_pos (beq_iff_eq.mpr c6)]
       exact wpS_pure ⟨lk,.inl ⟨_,rfl,Udn m3 (.inr c6)⟩⟩
      rw [if_neg (fun q => c6 (beq_iff_eq.mp q))]
      have m4:=m3.pushA sa hi' k2f'
      refine wpS_bind (AL hi' ?_)
      split
      ·rename_i c7
       exact wpS_pure ⟨lk,.inl ⟨_,rfl,Ula m4 (beq_iff_eq.mp c7)⟩⟩
      ·rename_i c7
       have c7':¬ _ = _:=fun q => c7 (beq_iff_eq.mpr q)
       split
       ·exact wpS_pure ⟨lk,.inr ⟨_,_,_,_,_,_,rfl,m4,by omega,by omega,by omega⟩⟩
       ·exact wpS_pure ⟨lk,_,_,_,_,_,_,rfl,m4,by omega,by omega,by omega⟩
     ·rw [if_neg k20]
      have e2:j + 1 + k2 = j + 1:=by omega
      rw [e2] at k2f'
      have m4:=m2.pushA sa hi' k2f'
      refine wpS_bind (AL hi' ?_)
      split
      ·rename_i c7
       exact wpS_pure ⟨lk,.inl ⟨_,rfl,Ula m4 (beq_iff_eq.mp c7)⟩⟩
      ·rename_i c7
       have c7':¬ _ = _:=fun q => c7 (beq_iff_eq.mpr q)
       split
       ·exact wpS_pure ⟨lk,.inr ⟨_,_,_,_,_,_,rfl,m4,by omega,by omega,by omega⟩⟩
       ·exact wpS_pure ⟨lk,_,_,_,_,_,_,rfl,m4,by omega,by omega,by omega⟩
    ·rw [if_neg k0]
     have e0:i + k = i:=by omega
     rw [e0] at kf'
     clear m
     have m:=hd.m
     have hi2:=hd.hi
     have hi':=hia
     have hn':=hin
     refine wpS_bind (AL hjb ?_)
     have m2:=m.pushB sb hjb kf'
     by_cases c5:j + 1 = b.size
     ·rw [if_pos (beq_iff_eq.mpr c5)]
      exact wpS_pure ⟨lk,.inl ⟨_,rfl,Udn m2 (.inr c5)⟩⟩
     rw [if_neg (fun q => c5 (beq_iff_eq.mp q))]
     refine wpS_bind (AL hi' ?_)
     refine wpS_bind (Ax C (lk.kd.trans hk) (uAt hi') uB (by omega) (by omega) ?_ ?_)
     ·intro p q hpq hq e
      unfold bt at e ⊢
      rw [if_pos rfl] at e ⊢
      have e':=of_decide_eq_true e
      have:=sb (j + 1 + p) (j + 1 + q) (by omega) (by omega)
      exact decide_eq_true (by omega)
     rintro k2 ⟨k2n,k2t,k2f⟩
     have k2t':∀ x,x < k2→∀ y,_≤y→y < a.size→RK rk b (j + 1 + x)≤RK rk a y:=fun x hx y h1 h2 => by
      have e:=k2t x hx
      unfold bt at e
      rw [if_pos rfl] at e
      have e':=of_decide_eq_true e
      have:=sa _ y h1 h2
      rw [Ar hi'] at this
      omega
     have k2f':∀ y,j + 1 + k2≤y→y < b.size→rk (a[i]'hi')≤RK rk b y:=fun y h1 h2 => by
      have e:=k2f (y - (j + 1)) (by omega) (by omega)
      unfold bt at e
      rw [if_pos rfl] at e
      have e':=of_decide_eq_false e
      have ey:j + 1 + (y - (j + 1)) = y:=by omega
      rw [ey] at e'
      omega
     dsimp only
     by_cases k20:k2 > 0
     ·rw [if_pos k20]
      have m3:=m2.appB k2 sb (by omega) k2t'
      by_cases c6:j + 1 + k2 = b.size
      ·rw [if_pos (beq_iff_eq.mpr c6)]
       exact wpS_pure ⟨lk,.inl ⟨_,rfl,Udn m3 (.inr c6)⟩⟩
      rw [if_neg (fun q => c6 (beq_iff_eq.mp q))]
      have m4:=m3.pushA sa hi' k2f'
      refine wpS_bind (AL hi' ?_)
      split
      ·rename_i c7
       exact wpS_pure ⟨lk,.inl ⟨_,rfl,Ula m4 (beq_iff_eq.mp c7)⟩⟩
      ·rename_i c7
       have c7':¬ _ = _:=fun q => c7 (beq_iff_eq.mpr q)
       split
       ·exact wpS_pure ⟨lk,.inr ⟨_,_,_,_,_,_,rfl,m4,by omega,by omega,by omega⟩⟩
       ·exact wpS_pure ⟨lk,_,_,_,_,_,_,rfl,m4,by omega,by omega,by omega⟩
     ·rw [if_neg k20]
      have e2:j + 1 + k2 = j + 1:=by omega
      rw [e2] at k2f'
      have m4:=m2.pushA sa hi' k2f'
      refine wpS_bind (AL hi' ?_)
      split
      ·rename_i c7
       exact wpS_pure ⟨lk,.inl ⟨_,rfl,Ula m4 (beq_iff_eq.mp c7)⟩⟩
      ·rename_i c7
       have c7':¬ _ = _:=fun q => c7 (beq_iff_eq.mpr q)
       split
       ·exact wpS_pure ⟨lk,.inr ⟨_,_,_,_,_,_,rfl,m4,by omega,by omega,by omega⟩⟩
       ·exact wpS_pure ⟨lk,_,_,_,_,_,_,rfl,m4,by omega,by omega,by omega⟩
  ·rintro c st2 ⟨lk,out,i,j,mg,ac,bc,rfl,hd⟩
   have e:max 0 (a.size + b.size) = a.size + b.size:=by omega
   rw [e] at hd
   exact ⟨lk,.inr ⟨_,_,_,_,_,_,rfl,hd.m,hd.hi,hd.hj,by have:=hd.hn; omega⟩⟩
  rintro c st2 ⟨lk,⟨r,e,f⟩ | ⟨out,i,j,mg,ac,bc,rfl,hd⟩⟩
  ·obtain ⟨c1,c2⟩:=c
   cases e
   exact wpS_pure ⟨lk,_,rfl,f⟩
  dsimp only
  refine wpS_bind (CQ lk fun st3 lk => ?_)
  exact wpS_pure ⟨lk,_,_,_,_,rfl,hd⟩
 ·rintro c st1 ⟨lk,out,i,j,mg,rfl,hd⟩
  have e:max 0 (a.size + b.size) = a.size + b.size:=by omega
  rw [e] at hd
  have:=hd.hn
  have:=hd.hi
  have:=hd.hj
  omega
 ·rintro c st1 ⟨lk,r,e,f⟩
  obtain ⟨c1,c2⟩:=c
  cases e
  exact wpS_pure (h _ _ lk f)
end
end SrtG
namespace SrtG
local macro_rules | `(tactic| omega) => `(tactic| first | lia | omega)
open PySem PyProof.Rows
variable {rk:Keyed→Int}
structure Mrh (rk:Keyed→Int) (a b out:Array Keyed) (i j:Nat):Prop where
 hi:i≤a.size
 hj:j≤b.size
 perm:out.toList.Perm (a.toList.drop i ++ b.toList.drop j)
 srt:out.toList.Pairwise fun x y => rk y≤rk x
 ha:∀ x,x∈out.toList→∀ y,y < i→RK rk a y≤rk x
 hb:∀ x,x∈out.toList→∀ y,y < j→RK rk b y≤rk x
theorem Mrh.sym {a b out:Array Keyed} {i j:Nat} (m:Mrh rk a b out i j):Mrh rk b a out j i :=
 ⟨m.hj,m.hi,m.perm.trans List.perm_append_comm,m.srt,m.hb,m.ha⟩
theorem Mrh.pushA {a b out:Array Keyed} {i j:Nat} (m:Mrh rk a b out (i + 1) j) (sa:EC rk a) (h:i < a.size) (hb:∀ y,y < j→RK rk b y≤rk a[i]):Mrh rk a b (out.push a[i]) i j:=by
 have e:(out.push a[i]).toList = out.toList ++ [a[i]]:=Array.toList_push ..
 have t:a.toList.drop i = a[i] :: a.toList.drop (i + 1):=by
  have hl:i < a.toList.length:=by rw [Array.length_toList]; exact h
  rw [List.drop_eq_getElem_cons hl]
  rfl
 refine ⟨by omega,m.hj,?_,?_,?_,?_⟩
 ·rw [e,t]
  exact List.perm_append_comm.trans (m.perm.cons a[i])
 ·rw [e,List.pairwise_append]
  refine ⟨m.srt,List.pairwise_singleton _ _,fun x hx y hy => ?_⟩
  cases List.mem_singleton.mp hy
  have:=m.ha x hx i (Nat.lt_succ_self _)
  rwa [Ar h] at this
 ·intro x hx y hy
  rw [e] at hx
  rcases List.mem_append.mp hx with hx | hx
  ·exact m.ha x hx y (by omega)
  ·cases List.mem_singleton.mp hx
   have:=sa y i (by omega) h
   rwa [Ar h] at this
 ·intro x hx y hy
  rw [e] at hx
  rcases List.mem_append.mp hx with hx | hx
  ·exact m.hb x hx y hy
  ·cases List.mem_singleton.mp hx
   exact hb y hy
theorem Mrh.pushB {a b out:Array Keyed} {i j:Nat} (m:Mrh rk a b out i (j + 1)) (sb:EC rk b) (h:j < b.size) (ha:∀ y,y < i→RK rk a y≤rk b[j]):Mrh rk a b (out.push b[j]) i j:=(m.sym.pushA sb h ha).sym
theorem HI (a:Array Keyed) (l h:Nat) (hl:l < h) (hh:h≤a.size):(a.extract l h).reverse = (a.extract (l + 1) h).reverse.push (a[l]'(by omega)):=by
 apply Array.ext'
 rw [Array.toList_push,Array.toList_reverse,Array.toList_reverse,Array.toList_extract,Array.toList_extract,List.extract_eq_drop_take,List.extract_eq_drop_take]
 have hln:l < a.toList.length:=by rw [Array.length_toList]; omega
 have e1:h - l = (h - (l + 1)) + 1:=by omega
 rw [List.drop_eq_getElem_cons hln,e1,List.take_succ_cons,List.reverse_cons]
 rfl
theorem Mrh.appA {a b:Array Keyed} {i j:Nat}:∀ (k:Nat) {out:Array Keyed},Mrh rk a b out i j→EC rk a→k≤i→(∀ x,i - k≤x→x < i→∀ y,y < j→RK rk b y≤RK rk a x)→Mrh rk a b (out ++ (a.extract (i - k) i).reverse) (i - k) j
 | 0,out,m,_,_,_ => by
  have:out ++ (a.extract (i - 0) i).reverse = out:=by
   apply Array.ext'
   rw [Array.toList_append,Array.toList_reverse,Array.toList_extract,List.extract_eq_drop_take]
   have:i - (i - 0) = 0:=by omega
   rw [this,List.take_zero,List.reverse_nil,List.append_nil]
  rw [this]; exact m
 | k + 1,out,m,sa,h,hb => by
  have hi:=m.hi
  have m':=Mrh.appA k m sa (by omega) fun x hx => hb x (by omega)
  have hk:i - (k + 1) < a.size:=by omega
  have e:i - (k + 1) + 1 = i - k:=by omega
  rw [HI a (i - (k + 1)) i (by omega) hi,Array.append_push,e]
  rw [← e] at m'
  have q:=m'.pushA sa hk fun y h1 => by
   have:=hb (i - (k + 1)) (by omega) (by omega) y h1
   rwa [Ar hk] at this
  rw [e] at q
  exact q
theorem Mrh.appA' {a b out:Array Keyed} {i j l:Nat} (m:Mrh rk a b out i j) (sa:EC rk a) (h:l≤i) (hb:∀ x,l≤x→x < i→∀ y,y < j→RK rk b y≤RK rk a x):Mrh rk a b (out ++ (a.extract l i).reverse) l j:=by
 have e:i - (i - l) = l:=by omega
 have q:=m.appA (i - l) sa (by omega) (by rw [e]; exact hb)
 rwa [e] at q
theorem Mrh.appB' {a b out:Array Keyed} {i j l:Nat} (m:Mrh rk a b out i j) (sb:EC rk b) (h:l≤j) (ha:∀ x,l≤x→x < j→∀ y,y < i→RK rk a y≤RK rk b x):Mrh rk a b (out ++ (b.extract l j).reverse) i l:=(m.sym.appA' sb h ha).sym
theorem Mrh.fin {a b out:Array Keyed} (m:Mrh rk a b out 0 0):Fin2 rk a b out.reverse:=by
 have p:=m.perm
 rw [List.drop_zero,List.drop_zero] at p
 constructor
 ·rw [Array.toList_reverse]
  exact (List.reverse_perm _).trans p
 ·rw [Array.toList_reverse,List.pairwise_reverse]
  exact m.srt
theorem Mrh.restAB {a b out:Array Keyed} {i j:Nat} (m:Mrh rk a b out i j) (sa:EC rk a) (sb:EC rk b) (h:∀ x y,x < i→y < j→RK rk a x≤RK rk b y):Fin2 rk a b (a.extract 0 i ++ b.extract 0 j ++ out.reverse):=by
 have m1:=m.appB' (l:=0) sb (by omega) fun x _ hx y hy => h y x hy hx
 have m2:=m1.appA' (l:=0) sa (by omega) fun x _ _ y hy => by omega
 have f:=m2.fin
 have e:(out ++ (b.extract 0 j).reverse ++ (a.extract 0 i).reverse).reverse = a.extract 0 i ++ b.extract 0 j ++ out.reverse:=by
  apply Array.ext'
  rw [Array.toList_reverse,Array.toList_append,Array.toList_append,Array.toList_append,Array.toList_append,Array.toList_reverse,Array.toList_reverse,Array.toList_reverse,List.reverse_append,List.reverse_append,List.reverse_reverse,List.reverse_reverse,List.append_assoc]
 rwa [e] at f
theorem Mrh.restBA {a b out:Array Keyed} {i j:Nat} (m:Mrh rk a b out i j) (sa:EC rk a) (sb:EC rk b) (h:∀ x y,x < i→y < j→RK rk b y≤RK rk a x):Fin2 rk a b (b.extract 0 j ++ a.extract 0 i ++ out.reverse):=by
 have f:=m.sym.restAB sb sa fun x y h1 h2 => h y x h2 h1
 exact ⟨f.perm.trans List.perm_append_comm,f.srt⟩
def Ia:Array Keyed→Array Keyed→StateT SortSt Sem (Array Keyed):=sortPriv% PySem.Builtin.mergeHi
abbrev Xx (a b out:Array Keyed) (i j:Nat):Array Keyed:=a.extract 0 i ++ b.extract 0 j ++ out.reverse
abbrev Xy (a b out:Array Keyed) (i j:Nat):Array Keyed:=b.extract 0 j ++ a.extract 0 i ++ out.reverse
end SrtG
namespace SrtG
local macro_rules | `(tactic| omega) => `(tactic| first | lia | omega)
open PySem PyProof.Rows
variable {prog:Program} {w:World} {A:Around} {E:Value→Shared→Prop} {s:Shared} {kd:SortKind} {U:Keyed→Prop} {rk:Keyed→Int}
theorem Mrh.pushA1 {a b out:Array Keyed} {i j:Nat} (m:Mrh rk a b out i j) (sa:EC rk a) (h0:0 < i) (h:i - 1 < a.size) (hb:∀ y,y < j→RK rk b y≤rk a[i - 1]):Mrh rk a b (out.push a[i - 1]) (i - 1) j:=by
 cases i with
 | zero => omega
 | succ i => exact m.pushA sa h hb
structure Hh (rk:Keyed→Int) (a b out:Array Keyed) (i j n:Nat):Prop where
 m:Mrh rk a b out i j
 hi:0 < i
 hj:1 < j
 hn:i + j + n≤a.size + b.size
theorem Ib {a b:Array Keyed} {st:SortSt} {Q:Array Keyed→SortSt→Prop} (C:NK prog w A E s kd U rk) (hk:kindOf st = kd) (uA:AllU U a) (uB:AllU U b) (sa:EC rk a) (sb:EC rk b) (ha0:0 < a.size) (hb0:0 < b.size)
  (hfst:RK rk b 0≤RK rk a 0) (hlst:RK rk b (b.size - 1)≤RK rk a (a.size - 1))
  (h:∀ r st',Like st st'→Fin2 rk a b r→Q r st'):wpS (model prog w) A E s (Ia a b) Q st:=by
 have Udn:∀ {out i j},Mrh rk a b out i j→i = 0∨j = 0→Fin2 rk a b (Xx a b out i j):=fun m hh => m.restAB sa sb fun x y _ _ => by omega
 have Ula:∀ {out i j},Mrh rk a b out i j→j = 1→Fin2 rk a b (Xy a b out i j):=fun {out i j} m hh => m.restBA sa sb fun x y h1 h2 => by
  have hi:=m.hi
  have e1:=sa 0 x (by omega) (by omega)
  have e:y = 0:=by omega
  subst e
  omega
 have uAt:∀ {i} (hi:i < a.size),U a[i]:=fun hi => uA _ _ (getElem?_pos a _ hi)
 have uBt:∀ {i} (hi:i < b.size),U b[i]:=fun hi => uB _ _ (getElem?_pos b _ hi)
 have hal:a.size - 1 < a.size:=by omega
 delta Ia
 refine wpS_bind (wpS_lift (wpAny_rule ⟨rfl,?_⟩))
 refine wpS_bind (AL hal ?_)
 have m0:Mrh rk a b #[] (a.size - 1 + 1) b.size:=by
  have e:a.size - 1 + 1 = a.size:=by omega
  rw [e]
  refine ⟨by omega,by omega,?_,List.Pairwise.nil,(fun x hx => by cases hx),(fun x hx => by cases hx)⟩
  rw [← Array.length_toList,← Array.length_toList,List.drop_length,List.drop_length]
  exact List.Perm.nil
 have m1:Mrh rk a b #[a[a.size - 1]] (a.size - 1) b.size:=m0.pushA sa hal fun y hy => by
  have e1:=sb y (b.size - 1) (by omega) (by omega)
  rw [← Ar (rk:=rk) hal]
  omega
 dsimp only
 by_cases c1:a.size - 1 = 0
 ·rw [if_pos (beq_iff_eq.mpr c1)]
  exact wpS_pure (h _ _ (Like.refl _) (Udn m1 (.inl c1)))
 rw [if_neg (fun q => c1 (beq_iff_eq.mp q))]
 by_cases c2:b.size = 1
 ·rw [if_pos (beq_iff_eq.mpr c2)]
  exact wpS_pure (h _ _ (Like.refl _) (Ula m1 c2))
 rw [if_neg (fun q => c2 (beq_iff_eq.mp q))]
 refine wpS_bind (wpS_get ?_)
 refine wpS_bind (wpS_mono (wpS_forRange (I:=fun x c st' => Like st st'∧∃ out i j mg,c = (none,i,j,out,mg)∧Hh rk a b out i j (x + 1))
  (Q:=fun c st' => Like st st'∧∃ r,c.1 = some r∧Fin2 rk a b r) ?_ ?_ ⟨Like.refl _,_,_,_,_,rfl,m1,by omega,by omega,by omega⟩) ?_)
 ·rintro x c st1 _ hx ⟨lk,out,i,j,mg,rfl,hd⟩
  dsimp only
  refine wpS_bind (wpS_mono (wpS_forRange (I:=fun _ c st' => Like st st'∧∃ out i j ac bc,c = (none,i,j,out,ac,bc)∧Hh rk a b out i j (x + 1))
   (Q:=fun c st' => Like st st'∧((∃ r,c.1 = some r∧Fin2 rk a b r)∨∃ out i j ac bc,c = (none,i,j,out,ac,bc)∧Hh rk a b out i j (x + 1))) ?_ ?_ ⟨lk,_,_,_,_,_,rfl,hd⟩) ?_)
  ·rintro x1 c st2 _ hx1 ⟨lk,out,i,j,ac,bc,rfl,hd⟩
   have hi0:=hd.hi
   have hj0:=hd.hj
   have hin:=hd.hn
   have hia:i - 1 < a.size:=by have:=hd.m.hi; omega
   have hjb:j - 1 < b.size:=by have:=hd.m.hj; omega
   have ei:i - 1 + 1 = i:=by omega
   have ej:j - 1 + 1 = j:=by omega
   have m:=hd.m
   dsimp only
   refine wpS_bind (AL hjb ?_)
   refine wpS_bind (AL hia ?_)
   refine wpS_bind (C _ _ _ _ (lk.kd.trans hk) (uBt hjb) (uAt hia) ?_)
   dsimp only
   by_cases hlt:rk b[j - 1] < rk a[i - 1]
   ·rw [if_pos (by exact decide_eq_true hlt)]
    rw [← ei] at m
    have m:=m.pushA sa hia fun y h1 => by
     have:=sb y (j - 1) (by omega) hjb
     rw [Ar hjb] at this
     omega
    refine wpS_bind (AL hia ?_)
    by_cases c3:i - 1 = 0
    ·rw [if_pos (beq_iff_eq.mpr c3)]
     exact wpS_pure ⟨lk,.inl ⟨_,rfl,Udn m (.inl c3)⟩⟩
    rw [if_neg (fun q => c3 (beq_iff_eq.mp q))]
    have hd':Hh rk a b (out.push a[i - 1]) (i - 1) j (x + 1):=⟨m,by omega,by omega,by omega⟩
    split
    ·exact wpS_pure ⟨lk,.inr ⟨_,_,_,_,_,rfl,hd'⟩⟩
    ·exact wpS_pure ⟨lk,_,_,_,_,_,rfl,hd'⟩
   ·rw [if_neg (fun q => hlt (of_decide_eq_true q))]
    rw [← ej] at m
    have m:=m.pushB sb hjb fun y h1 => by
     have:=sa y (i - 1) (by omega) hia
     rw [Ar hia] at this
     omega
    refine wpS_bind (AL hjb ?_)
    by_cases c3:j - 1 = 1
    ·rw [if_pos (beq_iff_eq.mpr c3)]
     exact wpS_pure ⟨lk,.inl ⟨_,rfl,Ula m c3⟩⟩
    rw [if_neg (fun q => c3 (beq_iff_eq.mp q))]
    have hd':Hh rk a b (out.push b[j - 1]) i (j - 1) (x + 1):=⟨m,by omega,by omega,by omega⟩
    split
    ·exact wpS_pure ⟨lk,.inr ⟨_,_,_,_,_,rfl,hd'⟩⟩
    ·exact wpS_pure ⟨lk,_,_,_,_,_,rfl,hd'⟩
  ·rintro c st2 ⟨lk,hh⟩
   exact ⟨lk,.inr hh⟩
  rintro c st2 ⟨lk,⟨r,e,f⟩ | ⟨out,i,j,ac,bc,rfl,hd⟩⟩
  ·obtain ⟨c1,c2⟩:=c
   cases e
   exact wpS_pure ⟨lk,_,rfl,f⟩
  dsimp only
  refine wpS_bind (wpS_lift (wpAny_rule ⟨rfl,?_⟩))
  refine wpS_bind (wpS_mono (wpS_forRange (I:=fun y c st' => Like st st'∧∃ out i j mg ac bc,c = (none,i,j,out,mg,ac,bc)∧Hh rk a b out i j (x + 1 + y))
   (Q:=fun c st' => Like st st'∧((∃ r,c.1 = some r∧Fin2 rk a b r)∨∃ out i j mg ac bc,c = (none,i,j,out,mg,ac,bc)∧Hh rk a b out i j (x + 1 + 1))) ?_ ?_ ⟨lk,_,_,_,_,_,_,rfl,hd⟩) ?_)
  ·rintro x1 c st2 _ hx1 ⟨lk,out,i,j,mg,ac,bc,rfl,hd⟩
   have hi0:=hd.hi
   have hj0:=hd.hj
   have hin:=hd.hn
   have hia:=hd.m.hi
   have hjl:=hd.m.hj
   have hjb:j - 1 < b.size:=by omega
   dsimp only
   refine dite (mg > 1) (fun hmg => ?_) (fun hmg => ?_)
   all_goals first | rw [if_pos hmg] | rw [if_neg hmg]
   all_goals
    refine wpS_bind (CQ lk fun st3 lk => ?_)
    refine wpS_bind (AL hjb ?_)
    refine wpS_bind (Ax C (lk.kd.trans hk) (uBt hjb) uA (by omega) (by omega) ?_ ?_)
    ·intro p q hpq hq e
     unfold bt at e ⊢
     rw [if_neg Bool.false_ne_true] at e ⊢
     have e':=of_decide_eq_false (Bool.not_eq_true' _ |>.mp e)
     have:=sa (0 + p) (0 + q) (by omega) (by omega)
     exact (Bool.not_eq_true' _).mpr (decide_eq_false (by omega))
    rintro p ⟨kn,kt,kf⟩
    have kf':∀ y,y < p→RK rk a y≤rk b[j - 1]:=fun y hy => by
     have e:=kt y hy
     unfold bt at e
     rw [if_neg Bool.false_ne_true] at e
     have e':=of_decide_eq_false (Bool.not_eq_true' _ |>.mp e)
     rw [Nat.zero_add] at e'
     omega
    have kt':∀ x,p≤x→x < i→∀ y,y < j→RK rk b y≤RK rk a x:=fun x h1 h2 y h3 => by
     have e:=kf x h1 h2
     unfold bt at e
     rw [if_neg Bool.false_ne_true] at e
     have e':=of_decide_eq_true (Bool.not_eq_false' _ |>.mp e)
     rw [Nat.zero_add] at e'
     have:=sb y (j - 1) (by omega) hjb
     rw [Ar hjb] at this
     omega
    have m:=hd.m.appA' sa kn kt'
    dsimp only
    by_cases k0:i - p > 0
    ·rw [if_pos k0]
     by_cases c3:p = 0
     ·rw [if_pos (beq_iff_eq.mpr c3)]
      exact wpS_pure ⟨lk,.inl ⟨_,rfl,Udn m (.inl c3)⟩⟩
     rw [if_neg (fun q => c3 (beq_iff_eq.mp q))]
     have hI:0 < p:=by omega
     have ej:j - 1 + 1 = j:=by omega
     rw [← ej] at m
     have m2:=m.pushB sb hjb kf'
     refine wpS_bind (AL hjb ?_)
     by_cases c5:j - 1 = 1
     ·rw [if_pos (beq_iff_eq.mpr c5)]
      exact wpS_pure ⟨lk,.inl ⟨_,rfl,Ula m2 (by omega)⟩⟩
     rw [if_neg (fun q => c5 (beq_iff_eq.mp q))]
     have hI1:p - 1 < a.size:=by omega
     refine wpS_bind (AL hI1 ?_)
     refine wpS_bind (Ax C (lk.kd.trans hk) (uAt hI1) uB (by omega) (by omega) ?_ ?_)
     ·intro p q hpq hq e
      unfold bt at e ⊢
      rw [if_pos rfl] at e ⊢
      have e':=of_decide_eq_true e
      have:=sb (0 + p) (0 + q) (by omega) (by omega)
      exact decide_eq_true (by omega)
     rintro q ⟨k2n,k2t,k2f⟩
     have k2t':∀ y,y < q→RK rk b y≤rk (a[p - 1]'hI1):=fun y hx => by
      have e:=k2t y hx
      unfold bt at e
      rw [if_pos rfl] at e
      have e':=of_decide_eq_true e
      rw [Nat.zero_add] at e'
      omega
     have k2f':∀ x,q≤x→x < j - 1→∀ y,y < p→RK rk a y≤RK rk b x:=fun x h1 h2 y h3 => by
      have e:=k2f x h1 h2
      unfold bt at e
      rw [if_pos rfl] at e
      have e':=of_decide_eq_false e
      rw [Nat.zero_add] at e'
      have:=sa y (p - 1) (by omega) hI1
      rw [Ar hI1] at this
      omega
     have eI:p - 1 + 1 = p:=by omega
     dsimp only
     by_cases k20:j - 1 - q > 0
     ·rw [if_pos k20]
      have m3:=m2.appB' sb k2n k2f'
      by_cases c6:q = 1
      ·rw [if_pos (beq_iff_eq.mpr c6)]
       exact wpS_pure ⟨lk,.inl ⟨_,rfl,Ula m3 (by omega)⟩⟩
      rw [if_neg (fun q => c6 (beq_iff_eq.mp q))]
      by_cases c8:q = 0
      ·rw [if_pos (beq_iff_eq.mpr c8)]
       exact wpS_pure ⟨lk,.inl ⟨_,rfl,Udn m3 (.inr c8)⟩⟩
      rw [if_neg (fun q => c8 (beq_iff_eq.mp q))]
      have m4:=m3.pushA1 sa hI hI1 k2t'
      refine wpS_bind (AL hI1 ?_)
      by_cases c7:p - 1 = 0
      ·rw [if_pos (beq_iff_eq.mpr c7)]
       exact wpS_pure ⟨lk,.inl ⟨_,rfl,Udn m4 (.inl c7)⟩⟩
      rw [if_neg (fun q => c7 (beq_iff_eq.mp q))]
      split
      ·exact wpS_pure ⟨lk,.inr ⟨_,_,_,_,_,_,rfl,m4,by omega,by omega,by omega⟩⟩
      ·exact wpS_pure ⟨lk,_,_,_,_,_,_,rfl,m4,by omega,by omega,by omega⟩
     ·rw [if_neg k20]
      have e2:q = j - 1:=by omega
      rw [e2] at k2t'
      have m4:=m2.pushA1 sa hI hI1 k2t'
      refine wpS_bind (AL hI1 ?_)
      by_cases c7:p - 1 = 0
      ·rw [if_pos (beq_iff_eq.mpr c7)]
       exact wpS_pure ⟨lk,.inl ⟨_,rfl,Udn m4 (.inl c7)⟩⟩
      rw [if_neg (fun q => c7 (beq_iff_eq.mp q))]
      split
      ·exact wpS_pure ⟨lk,.inr ⟨_,_,_,_,_,_,rfl,m4,by omega,by omega,by omega⟩⟩
      ·exact wpS_pure ⟨lk,_,_,_,_,_,_,rfl,m4,by omega,by omega,by omega⟩
    ·rw [if_neg k0]
     have e0:p = i:=by omega
     rw [e0] at kf'
     clear m
     have m:=hd.m
     have hI:=hi0
     have ej:j - 1 + 1 = j:=by omega
     rw [← ej] at m
     have m2:=m.pushB sb hjb kf'
     refine wpS_bind (AL hjb ?_)
     by_cases c5:j - 1 = 1
     ·rw [if_pos (beq_iff_eq.mpr c5)]
      exact wpS_pure ⟨lk,.inl ⟨_,rfl,Ula m2 (by omega)⟩⟩
     rw [if_neg (fun q => c5 (beq_iff_eq.mp q))]
     have hI1:i - 1 < a.size:=by omega
     refine wpS_bind (AL hI1 ?_)
     refine wpS_bind (Ax C (lk.kd.trans hk) (uAt hI1) uB (by omega) (by omega) ?_ ?_)
     ·intro p q hpq hq e
      unfold bt at e ⊢
      rw [if_pos rfl] at e ⊢
      have e':=of_decide_eq_true e
      have:=sb (0 + p) (0 + q) (by omega) (by omega)
      exact decide_eq_true (by omega)
     rintro q ⟨k2n,k2t,k2f⟩
     have k2t':∀ y,y < q→RK rk b y≤rk (a[i - 1]'hI1):=fun y hx => by
      have e:=k2t y hx
      unfold bt at e
      rw [if_pos rfl] at e
      have e':=of_decide_eq_true e
      rw [Nat.zero_add] at e'
      omega
     have k2f':∀ x,q≤x→x < j - 1→∀ y,y < i→RK rk a y≤RK rk b x:=fun x h1 h2 y h3 => by
      have e:=k2f x h1 h2
      unfold bt at e
      rw [if_pos rfl] at e
      have e':=of_decide_eq_false e
      rw [Nat.zero_add] at e'
      have:=sa y (i - 1) (by omega) hI1
      rw [Ar hI1] at this
      omega
     have eI:i - 1 + 1 = i:=by omega
     dsimp only
     by_cases k20:j - 1 - q > 0
     ·rw [if_pos k20]
      have m3:=m2.appB' sb k2n k2f'
      by_cases c6:q = 1
      ·rw [if_pos (beq_iff_eq.mpr c6)]
       exact wpS_pure ⟨lk,.inl ⟨_,rfl,Ula m3 (by omega)⟩⟩
      rw [if_neg (fun q => c6 (beq_iff_eq.mp q))]
      by_cases c8:q = 0
      ·rw [if_pos (beq_iff_eq.mpr c8)]
       exact wpS_pure ⟨lk,.inl ⟨_,rfl,Udn m3 (.inr c8)⟩⟩
      rw [if_neg (fun q => c8 (beq_iff_eq.mp q))]
      have m4:=m3.pushA1 sa hI hI1 k2t'
      refine wpS_bind (AL hI1 ?_)
      by_cases c7:i - 1 = 0
      ·rw [if_pos (beq_iff_eq.mpr c7)]
       exact wpS_pure ⟨lk,.inl ⟨_,rfl,Udn m4 (.inl c7)⟩⟩
      rw [if_neg (fun q => c7 (beq_iff_eq.mp q))]
      split
      ·exact wpS_pure ⟨lk,.inr ⟨_,_,_,_,_,_,rfl,m4,by omega,by omega,by omega⟩⟩
      ·exact wpS_pure ⟨lk,_,_,_,_,_,_,rfl,m4,by omega,by omega,by omega⟩
     ·rw [if_neg k20]
      have e2:q = j - 1:=by omega
      rw [e2] at k2t'
      have m4:=m2.pushA1 sa hI hI1 k2t'
      refine wpS_bind (AL hI1 ?_)
      by_cases c7:i - 1 = 0
      ·rw [if_pos (beq_iff_eq.mpr c7)]
       exact wpS_pure ⟨lk,.inl ⟨_,rfl,Udn m4 (.inl c7)⟩⟩
      rw [if_neg (fun q => c7 (beq_iff_eq.mp q))]
      split
      ·exact wpS_pure ⟨lk,.inr ⟨_,_,_,_,_,_,rfl,m4,by omega,by omega,by omega⟩⟩
      ·exact wpS_pure ⟨lk,_,_,_,_,_,_,rfl,m4,by omega,by omega,by omega⟩
  ·rintro c st2 ⟨lk,out,i,j,mg,ac,bc,rfl,hd⟩
   have e:max 0 (a.size + b.size) = a.size + b.size:=by omega
   rw [e] at hd
   exact ⟨lk,.inr ⟨_,_,_,_,_,_,rfl,hd.m,hd.hi,hd.hj,by have:=hd.hn; omega⟩⟩
  rintro c st2 ⟨lk,⟨r,e,f⟩ | ⟨out,i,j,mg,ac,bc,rfl,hd⟩⟩
  ·obtain ⟨c1,c2⟩:=c
   cases e
   exact wpS_pure ⟨lk,_,rfl,f⟩
  dsimp only
  refine wpS_bind (CQ lk fun st3 lk => ?_)
  exact wpS_pure ⟨lk,_,_,_,_,rfl,hd⟩
 ·rintro c st1 ⟨lk,out,i,j,mg,rfl,hd⟩
  have e:max 0 (a.size + b.size) = a.size + b.size:=by omega
  rw [e] at hd
  have:=hd.hn
  have:=hd.hi
  have:=hd.hj
  omega
 ·rintro c st1 ⟨lk,r,e,f⟩
  obtain ⟨c1,c2⟩:=c
  cases e
  exact wpS_pure (h _ _ lk f)
end SrtG
namespace SrtG
local macro_rules | `(tactic| omega) => `(tactic| first | lia | omega)
open PySem PyProof.Rows
variable {rk:Keyed→Int}
def Seg (rk:Keyed→Int) (arr:Array Keyed) (lo hi:Nat):Prop:=∀ x y,lo≤x→x≤y→y < hi→RK rk arr x≤RK rk arr y
structure Upd (rk:Keyed→Int) (arr arr':Array Keyed) (lo hi:Nat):Prop where
 perm:arr'.toList.Perm arr.toList
 out:∀ x,x < lo∨hi≤x→arr'[x]? = arr[x]?
 seg:Seg rk arr' lo hi
theorem Bx {arr arr':Array Keyed} {x:Nat} (h:arr'[x]? = arr[x]?):RK rk arr' x = RK rk arr x:=by unfold RK; rw [h]
abbrev back (l:List (Keyed × Nat)) (lo:Nat) (arr:Array Keyed):Array Keyed:=l.foldl (fun a (p,j) => a.setIfInBounds (lo + j) p) arr
theorem FO (lo:Nat):∀ (l:List Keyed) (n:Nat) (arr:Array Keyed),lo + n + l.length≤arr.size→∀ x,(back (l.zipIdx n) lo arr)[x]? = if lo + n≤x∧x < lo + n + l.length then l[x - (lo + n)]? else arr[x]?
 | [],n,arr,_,x => by
  rw [if_neg (by rintro ⟨h1,h2⟩; simp only [List.length_nil] at h2; omega)]
  rfl
 | p :: l,n,arr,h,x => by
  rw [List.length_cons] at h
  have e:back ((p :: l).zipIdx n) lo arr = back (l.zipIdx (n + 1)) lo (arr.setIfInBounds (lo + n) p):=by rw [List.zipIdx_cons]; rfl
  rw [e,FO lo l (n + 1) _ (by rw [Array.size_setIfInBounds]; omega) x,List.length_cons]
  by_cases c:lo + (n + 1)≤x∧x < lo + (n + 1) + l.length
  ·rw [if_pos c,if_pos (by omega)]
   have e2:x - (lo + n) = (x - (lo + (n + 1))) + 1:=by omega
   rw [e2,List.getElem?_cons_succ]
  ·rw [if_neg c,Array.getElem?_setIfInBounds]
   by_cases c2:lo + n = x
   ·rw [if_pos c2,if_pos (by omega),if_pos (by omega)]
    have e2:x - (lo + n) = 0:=by omega
    rw [e2]; rfl
   ·rw [if_neg c2,if_neg (by omega)]
theorem Ly {arr:Array Keyed} {l:List Keyed} {lo:Nat} (h:lo + l.length≤arr.size):(back l.zipIdx lo arr).toList = arr.toList.take lo ++ l ++ arr.toList.drop (lo + l.length):=by
 apply List.ext_getElem?
 intro x
 rw [Array.getElem?_toList,FO lo l 0 arr (by omega) x]
 have hlen:arr.toList.length = arr.size:=Array.length_toList
 by_cases c1:x < lo
 ·rw [if_neg (by omega),List.append_assoc,List.getElem?_append_left (by rw [List.length_take]; omega),List.getElem?_take,if_pos c1,Array.getElem?_toList]
 ·by_cases c2:x < lo + l.length
  ·rw [if_pos (by omega),List.getElem?_append_left (by rw [List.length_append,List.length_take]; omega),List.getElem?_append_right (by rw [List.length_take]; omega),List.length_take]
   have e:min lo arr.toList.length = lo:=by omega
   rw [e]
   rfl
  ·rw [if_neg (by omega),List.getElem?_append_right (by rw [List.length_append,List.length_take]; omega),List.getElem?_drop,List.length_append,List.length_take]
   have e:lo + l.length + (x - (min lo arr.toList.length + l.length)) = x:=by omega
   rw [e,Array.getElem?_toList]
theorem NM {arr merged:Array Keyed} {lo hi s0 e0:Nat} (hhi:lo≤hi) (hs:s0≤lo) (he:hi≤e0) (hz:e0≤arr.size) (perm:merged.toList.Perm (arr.extract lo hi).toList) (srt:merged.toList.Pairwise fun x y => rk x≤rk y)
  (hL:∀ x z,s0≤x→x < lo→x≤z→z < e0→RK rk arr x≤RK rk arr z) (hR:∀ z y,s0≤z→z≤y→hi≤y→y < e0→RK rk arr z≤RK rk arr y):Upd rk arr (back merged.toList.zipIdx lo arr) s0 e0:=by
 have hx:(arr.extract lo hi).toList = (arr.toList.drop lo).take (hi - lo):=by rw [Array.toList_extract,List.extract_eq_drop_take]
 have hlenA:arr.toList.length = arr.size:=Array.length_toList
 have hlen:merged.toList.length = hi - lo:=by
  rw [perm.length_eq,hx,List.length_take,List.length_drop]
  omega
 have hfit:lo + merged.toList.length≤arr.size:=by omega
 have hget:=FO lo merged.toList 0 arr (by omega)
 have hmid:∀ m,m∈merged.toList→∃ z,lo≤z∧z < hi∧rk m = RK rk arr z:=fun m hm => by
  have hm':=perm.mem_iff.mp hm
  rw [hx] at hm'
  obtain ⟨i,hi'⟩:=List.mem_iff_getElem?.mp hm'
  rw [List.getElem?_take] at hi'
  split at hi'
  ·rename_i hlt
   rw [List.getElem?_drop,Array.getElem?_toList] at hi'
   exact ⟨lo + i,by omega,by omega,by unfold RK; rw [hi']⟩
  ·cases hi'
 have hRK:∀ x,lo≤x→x < hi→∃ m,m∈merged.toList∧merged.toList[x - lo]? = some m∧RK rk (back merged.toList.zipIdx lo arr) x = rk m:=fun x h1 h2 => by
  have hl:x - lo < merged.toList.length:=by omega
  refine ⟨_,List.getElem_mem hl,List.getElem?_eq_getElem hl,?_⟩
  unfold RK
  rw [hget x,if_pos (by omega)]
  have e:x - (lo + 0) = x - lo:=by omega
  rw [e,List.getElem?_eq_getElem hl]
 have hout:∀ x,x < lo∨hi≤x→(back merged.toList.zipIdx lo arr)[x]? = arr[x]?:=fun x h => by
  rw [hget x,if_neg (by omega)]
 refine ⟨?_,fun x h => hout x (by omega),?_⟩
 ·rw [Ly hfit]
  have e:arr.toList = arr.toList.take lo ++ ((arr.toList.drop lo).take (hi - lo)) ++ arr.toList.drop (lo + merged.toList.length):=by
   rw [List.append_assoc]
   have e2:lo + merged.toList.length = lo + (hi - lo):=by omega
   rw [e2,← List.drop_drop,List.take_append_drop,List.take_append_drop]
  rw [hx] at perm
  have:=(perm.append_left (arr.toList.take lo)).append_right (arr.toList.drop (lo + merged.toList.length))
  rw [← e] at this
  exact this
 ·intro x y h1 h2 h3
  by_cases cx:x < lo
  ·rw [Bx (hout x (.inl cx))]
   by_cases cy:lo≤y∧y < hi
   ·obtain ⟨m,hm,_,e⟩:=hRK y cy.1 cy.2
    obtain ⟨z,z1,z2,ez⟩:=hmid m hm
    rw [e,ez]
    exact hL x z h1 cx (by omega) (by omega)
   ·rw [Bx (hout y (by omega))]
    exact hL x y h1 cx h2 h3
  ·by_cases cx2:x < hi
   ·obtain ⟨m,hm,hm2,e⟩:=hRK x (by omega) cx2
    rw [e]
    by_cases cy:y < hi
    ·obtain ⟨m',hm',hm2',e'⟩:=hRK y (by omega) cy
     rw [e']
     by_cases exy:x = y
     ·subst exy
      rw [hm2] at hm2'
      cases hm2'
      exact Int.le_refl _
     ·have hl:y - lo < merged.toList.length:=by omega
      have hl':x - lo < merged.toList.length:=by omega
      have:=List.pairwise_iff_getElem.mp srt (x - lo) (y - lo) hl' hl (by omega)
      rw [List.getElem?_eq_getElem hl'] at hm2
      rw [List.getElem?_eq_getElem hl] at hm2'
      cases hm2
      cases hm2'
      exact this
    ·rw [Bx (hout y (by omega))]
     obtain ⟨z,z1,z2,ez⟩:=hmid m hm
     rw [ez]
     exact hR z y (by omega) (by omega) (by omega) h3
   ·rw [Bx (hout x (by omega)),Bx (hout y (by omega))]
    exact hR x y h1 h2 (by omega) h3
end SrtG
namespace SrtG
local macro_rules | `(tactic| omega) => `(tactic| first | lia | omega)
open PySem PyProof.Rows
variable {rk:Keyed→Int}
theorem Ei {arr:Array Keyed} {l h:Nat} (hh:h≤arr.size):(arr.extract l h).size = h - l:=by rw [Array.size_extract]; omega
theorem NN {arr:Array Keyed} {l h x:Nat} (hx:x < h - l) (hh:h≤arr.size):(arr.extract l h)[x]? = arr[l + x]?:=by
 rw [← Array.getElem?_toList,Array.toList_extract,List.extract_eq_drop_take,List.getElem?_take,if_pos hx,List.getElem?_drop,Array.getElem?_toList]
theorem GW {arr:Array Keyed} {l h x:Nat} (hx:x < h - l) (hh:h≤arr.size):RK rk (arr.extract l h) x = RK rk arr (l + x):=by unfold RK; rw [NN hx hh]
theorem AllU.ex {U:Keyed→Prop} {arr:Array Keyed} {l h:Nat} (u:AllU U arr) (hh:h≤arr.size):AllU U (arr.extract l h):=fun i p e => by
 have hi:i < (arr.extract l h).size:=by
  apply Classical.byContradiction
  intro hn
  rw [Array.getElem?_eq_none (Nat.le_of_not_lt hn)] at e
  cases e
 rw [Ei hh] at hi
 rw [NN hi hh] at e
 exact u _ _ e
theorem Seg.ex {arr:Array Keyed} {l h:Nat} (sg:Seg rk arr l h) (hh:h≤arr.size):EC rk (arr.extract l h):=fun i j hij hj => by
 rw [Ei hh] at hj
 rw [GW (by omega) hh,GW hj hh]
 exact sg _ _ (by omega) (by omega) (by omega)
section
variable {prog:Program} {w:World} {A:Around} {E:Value→Shared→Prop} {s:Shared} {kd:SortKind} {U:Keyed→Prop}
theorem QC {st st':SortSt} {Q:PUnit→SortSt→Prop} (h:Q ⟨⟩ st'):wpS (model prog w) A E s (set st':StateT SortSt Sem PUnit) Q st:=by
 unfold wpS; rw [StateT.run_set]; exact wpAny_pure ⟨rfl,h⟩
theorem Ic {i sa na pa sb nb pb:Nat} {st:SortSt} {Q:Bool→SortSt→Prop} (C:NK prog w A E s kd U rk) (hk:kindOf st = kd) (hU:AllU U (arrOf st)) (hf:failedOf st = none)
  (h1:(pendingOf st)[i]? = some (sa,na,pa)) (h2:(pendingOf st)[i + 1]? = some (sb,nb,pb)) (hsb:sb = sa + na) (hna:0 < na) (hnb:0 < nb) (hsz:sb + nb≤(arrOf st).size) (S1:Seg rk (arrOf st) sa sb) (S2:Seg rk (arrOf st) sb (sb + nb))
  (h:∀ st',kindOf st' = kd→failedOf st' = none→pendingOf st' = ((pendingOf st).setIfInBounds i (sa,na + nb,pa)).eraseIdxIfInBounds (i + 1)→Upd rk (arrOf st) (arrOf st') sa (sb + nb)→Q true st') :
  wpS (model prog w) A E s (mergeAt' i) Q st:=by
 delta mergeAt'
 refine wpS_bind (wpS_get ?_)
 rw [h1,h2]
 dsimp only
 refine wpS_bind (QC ?_)
 have hsbz:sb < (arrOf st).size:=by omega
 have uAt:∀ {i} (hi:i < (arrOf st).size),U (arrOf st)[i]:=fun hi => hU _ _ (getElem?_pos (arrOf st) _ hi)
 refine wpS_bind (AL (arr:=arrOf st) hsbz ?_)
 refine wpS_bind (Ax (arr:=arrOf st) C hk (uAt hsbz) hU (by omega) hna ?_ ?_)
 ·intro p q hpq hq e
  unfold bt at e ⊢
  rw [if_neg Bool.false_ne_true] at e ⊢
  have e':=of_decide_eq_false (Bool.not_eq_true' _ |>.mp e)
  have:=S1 (sa + p) (sa + q) (by omega) (by omega) (by omega)
  exact (Bool.not_eq_true' _).mpr (decide_eq_false (by omega))
 rintro k ⟨kn,kt,kf⟩
 have kt':∀ x,sa≤x→x < sa + k→RK rk (arrOf st) x≤RK rk (arrOf st) sb:=fun x hx1 hx => by
  have e:=kt (x - sa) (by omega)
  unfold bt at e
  rw [if_neg Bool.false_ne_true] at e
  have e':=of_decide_eq_false (Bool.not_eq_true' _ |>.mp e)
  have ex:sa + (x - sa) = x:=by omega
  rw [ex] at e'
  rw [Ar hsbz]
  omega
 have kf':∀ x,sa + k≤x→x < sb→RK rk (arrOf st) sb < RK rk (arrOf st) x:=fun x hx1 hx => by
  have e:=kf (x - sa) (by omega) (by omega)
  unfold bt at e
  rw [if_neg Bool.false_ne_true] at e
  have e':=of_decide_eq_true (Bool.not_eq_false' _ |>.mp e)
  have ex:sa + (x - sa) = x:=by omega
  rw [ex] at e'
  rw [Ar hsbz]
  omega
 dsimp only
 by_cases c1:na - k = 0
 ·rw [if_pos (beq_iff_eq.mpr c1)]
  refine wpS_pure (h _ hk hf rfl ⟨List.Perm.refl _,fun _ _ => rfl,fun x y hx1 hx2 hx3 => ?_⟩)
  by_cases cy:y < sb
  ·exact S1 x y hx1 hx2 cy
  ·by_cases cx:x < sb
   ·have e1:=kt' x hx1 (by omega)
    have e2:=S2 sb y (by omega) (by omega) hx3
    exact Int.le_trans e1 e2
   ·exact S2 x y (by omega) hx2 hx3
 rw [if_neg (fun q => c1 (beq_iff_eq.mp q))]
 have el:sa + k + (na - k) - 1 = sb - 1:=by omega
 rw [el]
 have hlz:sb - 1 < (arrOf st).size:=by omega
 refine wpS_bind (AL (arr:=arrOf st) hlz ?_)
 refine wpS_bind (Ax (arr:=arrOf st) C hk (uAt hlz) hU (by omega) (by omega) ?_ ?_)
 ·intro p q hpq hq e
  unfold bt at e ⊢
  rw [if_pos rfl] at e ⊢
  have e':=of_decide_eq_true e
  have:=S2 (sb + p) (sb + q) (by omega) (by omega) (by omega)
  exact decide_eq_true (by omega)
 rintro n2 ⟨nn,nt,nf⟩
 have nt':∀ x,sb≤x→x < sb + n2→RK rk (arrOf st) x < RK rk (arrOf st) (sb - 1):=fun x hx1 hx => by
  have e:=nt (x - sb) (by omega)
  unfold bt at e
  rw [if_pos rfl] at e
  have e':=of_decide_eq_true e
  have ex:sb + (x - sb) = x:=by omega
  rw [ex] at e'
  rw [Ar hlz]
  omega
 have nf':∀ x,sb + n2≤x→x < sb + nb→RK rk (arrOf st) (sb - 1)≤RK rk (arrOf st) x:=fun x hx1 hx => by
  have e:=nf (x - sb) (by omega) (by omega)
  unfold bt at e
  rw [if_pos rfl] at e
  have e':=of_decide_eq_false e
  have ex:sb + (x - sb) = x:=by omega
  rw [ex] at e'
  rw [Ar hlz]
  omega
 dsimp only
 have hlast:=kf' (sb - 1) (by omega) (by omega)
 by_cases c2:n2 = 0
 ·have:=nf' sb (by omega) (by omega)
  omega
 rw [if_neg (fun q => c2 (beq_iff_eq.mp q))]
 have hy:sb + n2≤(arrOf st).size:=by omega
 have hx':sb≤(arrOf st).size:=by omega
 have sA:EC rk ((arrOf st).extract (sa + k) sb):=Seg.ex (fun x y q1 q2 q3 => S1 x y (by omega) q2 q3) hx'
 have sB:EC rk ((arrOf st).extract sb (sb + n2)):=Seg.ex (fun x y q1 q2 q3 => S2 x y q1 q2 (by omega)) hy
 have zA:((arrOf st).extract (sa + k) sb).size = sb - (sa + k):=Ei hx'
 have zB:((arrOf st).extract sb (sb + n2)).size = sb + n2 - sb:=Ei hy
 have q0:RK rk ((arrOf st).extract sb (sb + n2)) 0≤RK rk ((arrOf st).extract (sa + k) sb) 0:=by
  rw [GW (by omega) hy,GW (by omega) hx']
  have:=kf' (sa + k + 0) (by omega) (by omega)
  exact Int.le_of_lt this
 have q1:RK rk ((arrOf st).extract sb (sb + n2)) (((arrOf st).extract sb (sb + n2)).size - 1)≤RK rk ((arrOf st).extract (sa + k) sb) (((arrOf st).extract (sa + k) sb).size - 1):=by
  rw [zA,zB,GW (by omega) hy,GW (by omega) hx']
  have:=nt' (sb + (sb + n2 - sb - 1)) (by omega) (by omega)
  have e:sa + k + (sb - (sa + k) - 1) = sb - 1:=by omega
  rw [e]
  exact Int.le_of_lt this
 have fin:∀ r (st':SortSt),Like (setPending st (((pendingOf st).setIfInBounds i (sa,na + nb,pa)).eraseIdxIfInBounds (i + 1))) st'→Fin2 rk ((arrOf st).extract (sa + k) sb) ((arrOf st).extract sb (sb + n2)) r →
   wpS (model prog w) A E s (do
    modify fun z => setArr z (back r.toList.zipIdx (sa + k) (arrOf z))
    return (failedOf (← get)).isNone) Q st':=fun r st' lk f => by
  refine wpS_bind (wpS_modify ?_)
  refine wpS_bind (wpS_get ?_)
  have e:(failedOf st').isNone = true:=by rw [lk.fl]; show (failedOf st).isNone = true; rw [hf]; rfl
  show wpS _ _ _ _ (pure ((failedOf st').isNone)) _ _
  rw [e]
  refine wpS_pure (h _ (lk.kd.trans hk) (lk.fl.trans hf) lk.pd ?_)
  have ea:arrOf st' = arrOf st:=lk.arr
  show Upd rk (arrOf st) (back r.toList.zipIdx (sa + k) (arrOf st')) sa (sb + nb)
  rw [ea]
  refine NM (hi:=sb + n2) (by omega) (by omega) (by omega) hsz ?_ f.srt ?_ ?_
  ·have e2:((arrOf st).extract (sa + k) (sb + n2)).toList = ((arrOf st).extract (sa + k) sb).toList ++ ((arrOf st).extract sb (sb + n2)).toList:=by
    rw [Array.toList_extract,Array.toList_extract,Array.toList_extract,List.extract_eq_drop_take,List.extract_eq_drop_take,List.extract_eq_drop_take]
    have e3:sb + n2 - (sa + k) = (sb - (sa + k)) + (sb + n2 - sb):=by omega
    rw [e3,List.take_add,List.drop_drop]
    have e4:sa + k + (sb - (sa + k)) = sb:=by omega
    rw [e4]
   rw [e2]
   exact f.perm
  ·intro x z hx1 hx2 hx3 hx4
   by_cases cz:z < sb
   ·exact S1 x z hx1 hx3 cz
   ·have e1:=kt' x hx1 hx2
    have e2:=S2 sb z (by omega) (by omega) hx4
    exact Int.le_trans e1 e2
  ·intro z y hx1 hx2 hx3 hx4
   by_cases cz:z < sb
   ·have e1:=S1 z (sb - 1) hx1 (by omega) (by omega)
    exact Int.le_trans e1 (nf' y hx3 hx4)
   ·exact S2 z y (by omega) hx2 hx4
 by_cases c3:na - k≤n2
 ·rw [if_pos c3]
  exact wpS_bind (IZ (a:=(arrOf st).extract (sa + k) sb) (b:=(arrOf st).extract sb (sb + n2)) C hk (hU.ex hx') (hU.ex hy) sA sB (by omega) (by omega) q0 q1 fin)
 ·rw [if_neg c3]
  exact wpS_bind (Ib (a:=(arrOf st).extract (sa + k) sb) (b:=(arrOf st).extract sb (sb + n2)) C hk (hU.ex hx') (hU.ex hy) sA sB (by omega) (by omega) q0 q1 fin)
end
end SrtG
namespace SrtG
open PySem PyProof.Rows
variable {rk:Keyed→Int}
structure Kp (st0 st:SortSt) (lo hi:Nat):Prop where
 kd:kindOf st = kindOf st0
 pd:pendingOf st = pendingOf st0
 fl:failedOf st = failedOf st0
 perm:(arrOf st).toList.Perm (arrOf st0).toList
 out:∀ x,x < lo∨hi≤x→(arrOf st)[x]? = (arrOf st0)[x]?
theorem Kp.refl (st:SortSt) (lo hi:Nat):Kp st st lo hi:=⟨rfl,rfl,rfl,List.Perm.refl _,fun _ _ => rfl⟩
theorem Kp.size {st0 st:SortSt} {lo hi:Nat} (k:Kp st0 st lo hi):(arrOf st).size = (arrOf st0).size:=by
 rw [← Array.length_toList,← Array.length_toList]; exact k.perm.length_eq
theorem AllU.of_perm {U:Keyed→Prop} {a b:Array Keyed} (u:AllU U a) (p:b.toList.Perm a.toList):AllU U b:=fun i q e => by
 have hm:q∈b.toList:=by rw [← Array.getElem?_toList] at e; exact List.mem_of_getElem? e
 have hm':=p.mem_iff.mp hm
 obtain ⟨j,hj⟩:=List.mem_iff_getElem?.mp hm'
 rw [Array.getElem?_toList] at hj
 exact u j q hj
theorem Kp.setA {st0 st:SortSt} {lo hi:Nat} (k:Kp st0 st lo hi) {xs:Array Keyed} (hp:xs.toList.Perm (arrOf st).toList) (ho:∀ x,x < lo∨hi≤x→xs[x]? = (arrOf st)[x]?):Kp st0 (setArr st xs) lo hi :=
 ⟨k.kd,k.pd,k.fl,hp.trans k.perm,fun x hx => (ho x hx).trans (k.out x hx)⟩
theorem Cl {xs ys:Array Keyed} {i j:Nat} (h:xs[i]? = ys[j]?):RK rk xs i = RK rk ys j:=by unfold RK; rw [h]
theorem GX {xs:Array Keyed} {src d:Nat} (hs:src < xs.size) (hd:d≤src) (k:Nat):RK rk (bubble xs src d) k = if k = src - d then RK rk xs src else if src - d < k∧k≤src then RK rk xs (k - 1) else RK rk xs k:=by
 have e:=getElem?_bubble hs d hd k
 by_cases c1:k = src - d
 ·rw [if_pos c1] at e ⊢; exact Cl e
 ·rw [if_neg c1] at e ⊢
  by_cases c2:src - d < k∧k≤src
  ·rw [if_pos c2] at e ⊢; exact Cl e
  ·rw [if_neg c2] at e ⊢; exact Cl e
section
variable {prog:Program} {w:World} {A:Around} {E:Value→Shared→Prop} {s:Shared} {kd:SortKind} {U:Keyed→Prop}
theorem BM {st:SortSt} {i j:Nat} {Q:Option Bool→SortSt→Prop} (C:NK prog w A E s kd U rk) (hk:kindOf st = kd) (hU:AllU U (arrOf st)) (hi:i < (arrOf st).size) (hj:j < (arrOf st).size)
  (h:Q (some (decide (RK rk (arrOf st) i < RK rk (arrOf st) j))) st):wpS (model prog w) A E s (ltAt' i j) Q st:=by
 rw [ltAt'_eq]
 refine wpS_bind (wpS_get ?_)
 refine wpS_bind (AL hi ?_)
 refine wpS_bind (AL hj ?_)
 rw [Ar hi,Ar hj] at h
 exact C _ _ _ _ hk (hU _ _ (getElem?_pos (arrOf st) _ hi)) (hU _ _ (getElem?_pos (arrOf st) _ hj)) h
theorem Js {st:SortSt} {lo n ok:Nat} {Q:Bool→SortSt→Prop} (C:NK prog w A E s kd U rk) (hk:kindOf st = kd) (hU:AllU U (arrOf st)) (hn:lo + n≤(arrOf st).size) (hok:ok≤n) (hs:Seg rk (arrOf st) lo (lo + ok))
  (h:∀ st',Kp st st' lo (lo + n)→Seg rk (arrOf st') lo (lo + n)→Q true st'):wpS (model prog w) A E s (binarySort' lo n ok) Q st:=by
 rw [binarySort'_eq]
 refine wpS_bind (wpS_mono (wpS_forRange (I:=fun k c st' => c = (none,())∧Kp st st' lo (lo + n)∧Seg rk (arrOf st') lo (lo + min k n))
  (Q:=fun c st' => c = (none,())∧Kp st st' lo (lo + n)∧Seg rk (arrOf st') lo (lo + n)) ?step ?fin ?init) ?post)
 case post =>
  rintro c st' ⟨rfl,hB',hs'⟩
  exact wpS_pure (h st' hB' hs')
 case init =>
  refine ⟨rfl,Kp.refl _ _ _,fun i j hi hij hj => ?_⟩
  by_cases c1:ok = 0
  ·have:i = j:=by omega
   subst this; exact Int.le_refl _
  ·exact hs i j hi hij (by omega)
 case fin =>
  rintro c st' ⟨hc,hB',hs'⟩
  refine ⟨hc,hB',?_⟩
  have e:min (max (max ok 1) n) n = n:=by omega
  rwa [e] at hs'
 case step =>
  rintro k c st' hak hkn ⟨rfl,hB',hs'⟩
  have e:min k n = k:=by omega
  rw [e] at hs'
  have hz:=hB'.size
  have hks:lo + k < (arrOf st').size:=by omega
  have hU':=hU.of_perm hB'.perm
  refine wpS_bind (wpS_mono (wpS_forRange (I:=fun x c st'' => st'' = st'∧∃ l r,c = (none,l,r)∧l≤r∧r≤k∧r - l≤k - x ∧
    (∀ i,i < l→RK rk (arrOf st') (lo + i)≤RK rk (arrOf st') (lo + k))∧(∀ i,r≤i→i < k→RK rk (arrOf st') (lo + k) < RK rk (arrOf st') (lo + i)))
   (Q:=fun c st'' => st'' = st'∧∃ l r,c = (none,l,r)∧l≤k ∧
    (∀ i,i < l→RK rk (arrOf st') (lo + i)≤RK rk (arrOf st') (lo + k))∧(∀ i,l≤i→i < k→RK rk (arrOf st') (lo + k) < RK rk (arrOf st') (lo + i))) ?istep ?ifin ?iinit) ?ipost)
  case iinit => exact ⟨rfl,0,k,rfl,by omega,by omega,by omega,fun i hi => by omega,fun i h1 h2 => by omega⟩
  case ifin =>
   rintro c st'' ⟨rfl,l,r,rfl,hlr,hrk,hm,hlo,hhi⟩
   have:l = r:=by omega
   subst this
   exact ⟨rfl,l,l,rfl,hrk,hlo,hhi⟩
  case istep =>
   rintro x c st'' _ hxk ⟨rfl,l,r,rfl,hlr,hrk,hm,hlo,hhi⟩
   dsimp only
   by_cases hge:l ≥ r
   ·rw [if_pos hge]
    have:l = r:=by omega
    subst this
    exact wpS_pure ⟨rfl,l,l,rfl,hrk,hlo,hhi⟩
   ·rw [if_neg hge]
    refine wpS_bind (BM C (hB'.kd.trans hk) hU' hks (by omega) ?_)
    dsimp only
    by_cases hless:RK rk (arrOf st'') (lo + k) < RK rk (arrOf st'') (lo + (l + r) / 2)
    ·rw [if_pos (decide_eq_true hless)]
     refine wpS_pure ⟨rfl,l,(l + r) / 2,rfl,by omega,by omega,by omega,hlo,fun i q1 q2 => ?_⟩
     exact Int.lt_of_lt_of_le hless (hs' _ _ (by omega) (by omega) (by omega))
    ·rw [if_neg (fun q => hless (of_decide_eq_true q))]
     refine wpS_pure ⟨rfl,(l + r) / 2 + 1,r,rfl,by omega,by omega,by omega,fun i q1 => ?_,hhi⟩
     exact Int.le_trans (hs' (lo + i) (lo + (l + r) / 2) (by omega) (by omega) (by omega)) (Int.not_lt.mp hless)
  case ipost =>
   rintro c st'' ⟨rfl,l,r,rfl,hlk,hlo,hhi⟩
   show wpS _ _ _ _ (do moveDown' (lo + k) (lo + l); pure (ForInStep.yield (none,()))) _ _
   rw [moveDown'_eq]
   have ed:lo + k - (lo + l) = k - l:=by omega
   refine wpS_bind (wpS_modify (wpS_pure ⟨rfl,hB'.setA (Array.perm_iff_toList_perm.mp (bubble_perm _ _ _)) ?_,?_⟩))
   ·intro x hx
    rw [ed,getElem?_bubble hks _ (by omega),if_neg (by omega),if_neg (by omega)]
   have e2:lo + min (k + 1) n = lo + k + 1:=by omega
   rw [e2]
   intro i j hi hij hj
   show RK rk (bubble (arrOf st'') (lo + k) (lo + k - (lo + l))) i≤RK rk (bubble (arrOf st'') (lo + k) (lo + k - (lo + l))) j
   rw [ed,GX hks (by omega),GX hks (by omega)]
   have e3:lo + k - (k - l) = lo + l:=by omega
   rw [e3]
   have hlo':∀ i,lo≤i→i < lo + l→RK rk (arrOf st'') i≤RK rk (arrOf st'') (lo + k):=fun i q1 q2 => by
    have:=hlo (i - lo) (by omega)
    have e4:lo + (i - lo) = i:=by omega
    rwa [e4] at this
   have hhi':∀ i,lo + l≤i→i < lo + k→RK rk (arrOf st'') (lo + k)≤RK rk (arrOf st'') i:=fun i q1 q2 => by
    have:=hhi (i - lo) (by omega) (by omega)
    have e4:lo + (i - lo) = i:=by omega
    rw [e4] at this
    exact Int.le_of_lt this
   repeat' split
   all_goals first
    | (exfalso; omega)
    | exact Int.le_refl _
    | exact hlo' _ (by omega) (by omega)
    | exact hhi' _ (by omega) (by omega)
    | exact hs' _ _ (by omega) (by omega) (by omega)
end
local macro_rules | `(tactic| omega) => `(tactic| first | lia | omega)
open PySem PyProof.Rows
variable {rk:Keyed→Int}
def Dsc (rk:Keyed→Int) (arr:Array Keyed) (lo hi:Nat):Prop:=∀ x y,lo≤x→x≤y→y < hi→RK rk arr y≤RK rk arr x
theorem Lz {xs:Array Keyed} {i j:Nat} (hj:j≤xs.size) (k:Nat):RK rk (mirror xs i j ((j - i) / 2)) k = if i≤k∧k < j then RK rk xs (i + j - 1 - k) else RK rk xs k:=by
 have e:=getElem?_mirror_all (i:=i) hj k
 by_cases c1:i≤k∧k < j
 ·rw [if_pos c1] at e ⊢; exact Cl e
 ·rw [if_neg c1] at e ⊢; exact Cl e
section
variable {prog:Program} {w:World} {A:Around} {E:Value→Shared→Prop} {s:Shared} {kd:SortKind} {U:Keyed→Prop}
theorem Dl {st0 st:SortSt} {lo hi i j:Nat} {Q:Unit→SortSt→Prop} (k:Kp st0 st lo hi) (h1:lo≤i) (h2:j≤hi) (hj:j≤(arrOf st).size)
  (h:∀ st',Kp st0 st' lo hi→(∀ k,RK rk (arrOf st') k = if i≤k∧k < j then RK rk (arrOf st) (i + j - 1 - k) else RK rk (arrOf st) k)→Q () st'):wpS (model prog w) A E s (reverseSlice' i j) Q st:=by
 rw [reverseSlice'_eq]
 refine wpS_modify (h _ (k.setA (Array.perm_iff_toList_perm.mp (mirror_perm _ _ _ _)) fun x hx => ?_) fun k => Lz hj k)
 rw [getElem?_mirror_all hj,if_neg (by omega)]
theorem Cm {st0 st:SortSt} {lo hi i j:Nat} {Q:Unit→SortSt→Prop} (k:Kp st0 st lo hi) (h1:lo≤i) (h2:j≤hi) (hj:j≤(arrOf st).size) (heq:∀ k,i≤k→k < j→RK rk (arrOf st) k = RK rk (arrOf st) (j - 1))
  (h:∀ st',Kp st0 st' lo hi→(∀ k,RK rk (arrOf st') k = RK rk (arrOf st) k)→Q () st'):wpS (model prog w) A E s (reverseSlice' i j) Q st:=by
 refine Dl (rk:=rk) k h1 h2 hj fun st' k' e => h st' k' fun x => ?_
 rw [e x]
 split
 ·rw [heq _ (by omega) (by omega),heq x (by omega) (by omega)]
 ·rfl
theorem Seg.up {arr:Array Keyed} {lo n:Nat} (sg:Seg rk arr lo (lo + n)) (h1:1≤n) (hx:¬ RK rk arr (lo + n) < RK rk arr (lo + n - 1)):Seg rk arr lo (lo + (n + 1)):=fun i j hi hij hj => by
 by_cases c:j < lo + n
 ·exact sg i j hi hij c
 ·have e:j = lo + n:=by omega
  subst e
  by_cases c2:i = lo + n
  ·subst c2; exact Int.le_refl _
  ·exact Int.le_trans (sg i (lo + n - 1) hi (by omega) (by omega)) (Int.not_lt.mp hx)
theorem Dsc.up {arr arr':Array Keyed} {lo n:Nat} (sg:Dsc rk arr lo (lo + n)) (h1:1≤n) (hx:RK rk arr (lo + n)≤RK rk arr (lo + n - 1)) (he:∀ k,RK rk arr' k = RK rk arr k):Dsc rk arr' lo (lo + (n + 1)):=fun i j hi hij hj => by
 rw [he,he]
 by_cases c:j < lo + n
 ·exact sg i j hi hij c
 ·have e:j = lo + n:=by omega
  subst e
  by_cases c2:i = lo + n
  ·subst c2; exact Int.le_refl _
  ·exact Int.le_trans hx (sg i (lo + n - 1) hi (by omega) (by omega))
theorem Jt {st:SortSt} {lo nrem:Nat} {Q:Option Nat→SortSt→Prop} (C:NK prog w A E s kd U rk) (hk:kindOf st = kd) (hU:AllU U (arrOf st)) (hn:lo + nrem≤(arrOf st).size) (h1:1≤nrem)
  (h:∀ m st',Kp st st' lo (lo + nrem)→1≤m→m≤nrem→Seg rk (arrOf st') lo (lo + m)→Q (some m) st') :
  wpS (model prog w) A E s (countRun' lo nrem) Q st:=by
 rw [countRun'_eq]
 refine wpS_bind (wpS_mono (wpS_forRange (I:=fun x c st' => st' = st∧c = (none,x)∧Seg rk (arrOf st) lo (lo + x))
  (Q:=fun c st' => st' = st∧∃ n,c = (none,n)∧1≤n∧n≤nrem∧Seg rk (arrOf st) lo (lo + n)∧(n = nrem∨RK rk (arrOf st) (lo + n) < RK rk (arrOf st) (lo + n - 1))) ?step ?fin ⟨rfl,rfl,fun i j hi hij hj => by have:i = j:=(by omega); subst this; exact Int.le_refl _⟩) ?post)
 case fin =>
  rintro c st' ⟨rfl,rfl,hs'⟩
  have e:max 1 nrem = nrem:=by omega
  rw [e] at hs' ⊢
  exact ⟨rfl,nrem,rfl,h1,Nat.le_refl _,hs',.inl rfl⟩
 case step =>
  rintro x c st' hax hxn ⟨rfl,rfl,hs'⟩
  dsimp only
  refine wpS_bind (BM C hk hU (by omega) (by omega) ?_)
  dsimp only
  by_cases hless:RK rk (arrOf st') (lo + x) < RK rk (arrOf st') (lo + x - 1)
  ·rw [if_pos (decide_eq_true hless)]
   exact wpS_pure ⟨rfl,x,rfl,hax,by omega,hs',.inr hless⟩
  ·rw [if_neg (fun q => hless (of_decide_eq_true q))]
   exact wpS_pure ⟨rfl,rfl,hs'.up hax hless⟩
 case post =>
  rintro c st' ⟨rfl,n,rfl,hn1,hn2,hsn,hor⟩
  dsimp only
  by_cases hnn:n = nrem
  ·rw [if_pos (beq_iff_eq.mpr hnn)]
   exact wpS_pure (h n _ (Kp.refl _ _ _) hn1 hn2 hsn)
  rw [if_neg (fun q => hnn (beq_iff_eq.mp q))]
  have hlt:=hor.resolve_left hnn
  by_cases hgt:n > 1
  ·rw [if_pos hgt]
   refine wpS_bind (BM C hk hU (by omega) (by omega) ?_)
   dsimp only
   by_cases hrose:RK rk (arrOf st') lo < RK rk (arrOf st') (lo + n - 1)
   ·rw [if_pos (decide_eq_true hrose)]
    exact wpS_pure (h n _ (Kp.refl _ _ _) hn1 hn2 hsn)
   rw [if_neg (fun q => hrose (of_decide_eq_true q))]
   have hall:∀ k,lo≤k→k < lo + n→RK rk (arrOf st') k = RK rk (arrOf st') (lo + n - 1):=fun k q1 q2 => by
    have a1:=hsn lo k (by omega) q1 q2
    have a2:=hsn k (lo + n - 1) q1 (by omega) (by omega)
    omega
   refine wpS_bind (Cm (rk:=rk) (Kp.refl st' lo (lo + nrem)) (Nat.le_refl _) (by omega) (by omega) hall fun st2 kp hRK => ?_)
   have hd:Dsc rk (arrOf st2) lo (lo + (n + 1)):=Dsc.up (arr:=arrOf st') (fun i j q1 q2 q3 => by rw [hall i q1 (by omega),hall j (by omega) q3]; exact Int.le_refl _) hn1 (Int.le_of_lt hlt) hRK
   refine wpS_bind (wpS_lift (wpAny_rule ⟨rfl,?_⟩))
   refine wpS_bind (wpS_mono (wpS_forRange (I:=fun x c st3 => ∃ neq,c = (none,x,neq)∧Kp st' st3 lo (lo + nrem)∧Dsc rk (arrOf st3) lo (lo + x)∧neq + 1≤x∧(∀ i,lo + x - (neq + 1)≤i→i < lo + x→RK rk (arrOf st3) i = RK rk (arrOf st3) (lo + x - 1)))
    (Q:=fun c st3 => ∃ m neq,c = (none,m,neq)∧Kp st' st3 lo (lo + nrem)∧n + 1≤m∧m≤nrem∧Dsc rk (arrOf st3) lo (lo + m)∧neq + 1≤m∧(∀ i,lo + m - (neq + 1)≤i→i < lo + m→RK rk (arrOf st3) i = RK rk (arrOf st3) (lo + m - 1))) ?_ ?_ ⟨0,rfl,kp,hd,by omega,fun i q1 q2 => by congr 1; omega⟩) ?_)
   ·rintro x c st3 hax hxn ⟨neq,rfl,kp,hd,hq,he⟩
    have hz:=kp.size
    have hU3:=hU.of_perm kp.perm
    dsimp only
    refine wpS_bind (BM C (kp.kd.trans hk) hU3 (by omega) (by omega) ?_)
    dsimp only
    by_cases hless:RK rk (arrOf st3) (lo + x) < RK rk (arrOf st3) (lo + x - 1)
    ·rw [if_pos (decide_eq_true hless)]
     by_cases hneq:neq > 0
     ·rw [if_pos hneq]
      refine wpS_bind (Cm (rk:=rk) kp (by omega) (by omega) (by omega) he fun st4 kp4 hRK => ?_)
      exact wpS_pure ⟨0,rfl,kp4,hd.up (by omega) (Int.le_of_lt hless) hRK,by omega,fun i q1 q2 => by congr 1; omega⟩
     ·rw [if_neg hneq]
      exact wpS_pure ⟨0,rfl,kp,hd.up (by omega) (Int.le_of_lt hless) fun _ => rfl,by omega,fun i q1 q2 => by congr 1; omega⟩
    ·rw [if_neg (fun q => hless (of_decide_eq_true q))]
     refine wpS_bind (BM C (kp.kd.trans hk) hU3 (by omega) (by omega) ?_)
     dsimp only
     by_cases hlarger:RK rk (arrOf st3) (lo + x - 1) < RK rk (arrOf st3) (lo + x)
     ·rw [if_pos (decide_eq_true hlarger)]
      exact wpS_pure ⟨x,neq,rfl,kp,hax,by omega,hd,hq,he⟩
     ·rw [if_neg (fun q => hlarger (of_decide_eq_true q))]
      have heqx:RK rk (arrOf st3) (lo + x) = RK rk (arrOf st3) (lo + x - 1):=by omega
      refine wpS_pure ⟨neq + 1,rfl,kp,hd.up (by omega) (by omega) fun _ => rfl,by omega,fun i q1 q2 => ?_⟩
      have e1:lo + (x + 1) - 1 = lo + x:=by omega
      rw [e1]
      by_cases hix:i = lo + x
      ·rw [hix]
      ·rw [heqx]; exact he i (by omega) (by omega)
   ·rintro c st3 ⟨neq,rfl,kp,hd,hq,he⟩
    have e:max (n + 1) nrem = nrem:=by omega
    rw [e] at hd hq he ⊢
    exact ⟨nrem,neq,rfl,kp,by omega,Nat.le_refl _,hd,hq,he⟩
   rintro c st3 ⟨m,neq,rfl,kp,hm1,hm2,hd,hq,he⟩
   have hz:=kp.size
   dsimp only
   have rest:∀ (st4:SortSt),Kp st' st4 lo (lo + nrem)→Dsc rk (arrOf st4) lo (lo + m)→∀ st5,Kp st' st5 lo (lo + nrem)→(∀ k,RK rk (arrOf st5) k = if lo≤k∧k < lo + m then RK rk (arrOf st4) (lo + (lo + m) - 1 - k) else RK rk (arrOf st4) k)→Seg rk (arrOf st5) lo (lo + m):=fun st4 _ d4 st5 _ e5 i j q1 q2 q3 => by
    rw [e5,e5,if_pos (by omega),if_pos (by omega)]
    exact d4 _ _ (by omega) (by omega) (by omega)
   by_cases hneq:neq > 0
   ·rw [if_pos hneq]
    refine wpS_bind (Cm (rk:=rk) kp (by omega) (by omega) (by omega) he fun st4 kp4 hRK => ?_)
    have d4:Dsc rk (arrOf st4) lo (lo + m):=fun i j q1 q2 q3 => by rw [hRK,hRK]; exact hd i j q1 q2 q3
    have hz4:=kp4.size
    refine wpS_bind (Dl (rk:=rk) kp4 (Nat.le_refl _) (by omega) (by omega) fun st5 kp5 e5 => ?_)
    have s5:=rest _ kp4 d4 st5 kp5 e5
    have hz5:=kp5.size
    have hU5:=hU.of_perm kp5.perm
    refine wpS_bind (wpS_mono (wpS_forRange (I:=fun x c st6 => st6 = st5∧c = (none,x)∧Seg rk (arrOf st5) lo (lo + x))
     (Q:=fun c st6 => st6 = st5∧∃ n,c = (none,n)∧1≤n∧n≤nrem∧Seg rk (arrOf st5) lo (lo + n)) ?_ ?_ ⟨rfl,rfl,s5⟩) ?_)
    ·rintro x c st6 hax hxn ⟨rfl,rfl,hs'⟩
     dsimp only
     refine wpS_bind (BM C (kp5.kd.trans hk) hU5 (by omega) (by omega) ?_)
     dsimp only
     by_cases hless:RK rk (arrOf st6) (lo + x) < RK rk (arrOf st6) (lo + x - 1)
     ·rw [if_pos (decide_eq_true hless)]
      exact wpS_pure ⟨rfl,x,rfl,by omega,by omega,hs'⟩
     ·rw [if_neg (fun q => hless (of_decide_eq_true q))]
      exact wpS_pure ⟨rfl,rfl,hs'.up (by omega) hless⟩
    ·rintro c st6 ⟨rfl,rfl,hs'⟩
     have e:max m nrem = nrem:=by omega
     rw [e] at hs' ⊢
     exact ⟨rfl,nrem,rfl,h1,Nat.le_refl _,hs'⟩
    rintro c st6 ⟨rfl,n5,rfl,q1,q2,q3⟩
    exact wpS_pure (h n5 _ kp5 q1 q2 q3)
   ·rw [if_neg hneq]
    have kp4:=kp
    have d4:=hd
    have hz4:=hz
    refine wpS_bind (Dl (rk:=rk) kp4 (Nat.le_refl _) (by omega) (by omega) fun st5 kp5 e5 => ?_)
    have s5:=rest _ kp4 d4 st5 kp5 e5
    have hz5:=kp5.size
    have hU5:=hU.of_perm kp5.perm
    refine wpS_bind (wpS_mono (wpS_forRange (I:=fun x c st6 => st6 = st5∧c = (none,x)∧Seg rk (arrOf st5) lo (lo + x))
     (Q:=fun c st6 => st6 = st5∧∃ n,c = (none,n)∧1≤n∧n≤nrem∧Seg rk (arrOf st5) lo (lo + n)) ?_ ?_ ⟨rfl,rfl,s5⟩) ?_)
    ·rintro x c st6 hax hxn ⟨rfl,rfl,hs'⟩
     dsimp only
     refine wpS_bind (BM C (kp5.kd.trans hk) hU5 (by omega) (by omega) ?_)
     dsimp only
     by_cases hless:RK rk (arrOf st6) (lo + x) < RK rk (arrOf st6) (lo + x - 1)
     ·rw [if_pos (decide_eq_true hless)]
      exact wpS_pure ⟨rfl,x,rfl,by omega,by omega,hs'⟩
     ·rw [if_neg (fun q => hless (of_decide_eq_true q))]
      exact wpS_pure ⟨rfl,rfl,hs'.up (by omega) hless⟩
    ·rintro c st6 ⟨rfl,rfl,hs'⟩
     have e:max m nrem = nrem:=by omega
     rw [e] at hs' ⊢
     exact ⟨rfl,nrem,rfl,h1,Nat.le_refl _,hs'⟩
    rintro c st6 ⟨rfl,n5,rfl,q1,q2,q3⟩
    exact wpS_pure (h n5 _ kp5 q1 q2 q3)
  ·rw [if_neg hgt]
   have hd:Dsc rk (arrOf st') lo (lo + (n + 1)):=Dsc.up (arr:=arrOf st') (fun i j q1 q2 q3 => by have:i = j:=(by omega); subst this; exact Int.le_refl _) hn1 (Int.le_of_lt hlt) fun _ => rfl
   have kp:=Kp.refl st' lo (lo + nrem)
   refine wpS_bind (wpS_lift (wpAny_rule ⟨rfl,?_⟩))
   refine wpS_bind (wpS_mono (wpS_forRange (I:=fun x c st3 => ∃ neq,c = (none,x,neq)∧Kp st' st3 lo (lo + nrem)∧Dsc rk (arrOf st3) lo (lo + x)∧neq + 1≤x∧(∀ i,lo + x - (neq + 1)≤i→i < lo + x→RK rk (arrOf st3) i = RK rk (arrOf st3) (lo + x - 1)))
    (Q:=fun c st3 => ∃ m neq,c = (none,m,neq)∧Kp st' st3 lo (lo + nrem)∧n + 1≤m∧m≤nrem∧Dsc rk (arrOf st3) lo (lo + m)∧neq + 1≤m∧(∀ i,lo + m - (neq + 1)≤i→i < lo + m→RK rk (arrOf st3) i = RK rk (arrOf st3) (lo + m - 1))) ?_ ?_ ⟨0,rfl,kp,hd,by omega,fun i q1 q2 => by congr 1; omega⟩) ?_)
   ·rintro x c st3 hax hxn ⟨neq,rfl,kp,hd,hq,he⟩
    have hz:=kp.size
    have hU3:=hU.of_perm kp.perm
    dsimp only
    refine wpS_bind (BM C (kp.kd.trans hk) hU3 (by omega) (by omega) ?_)
    dsimp only
    by_cases hless:RK rk (arrOf st3) (lo + x) < RK rk (arrOf st3) (lo + x - 1)
    ·rw [if_pos (decide_eq_true hless)]
     by_cases hneq:neq > 0
     ·rw [if_pos hneq]
      refine wpS_bind (Cm (rk:=rk) kp (by omega) (by omega) (by omega) he fun st4 kp4 hRK => ?_)
      exact wpS_pure ⟨0,rfl,kp4,hd.up (by omega) (Int.le_of_lt hless) hRK,by omega,fun i q1 q2 => by congr 1; omega⟩
     ·rw [if_neg hneq]
      exact wpS_pure ⟨0,rfl,kp,hd.up (by omega) (Int.le_of_lt hless) fun _ => rfl,by omega,fun i q1 q2 => by congr 1; omega⟩
    ·rw [if_neg (fun q => hless (of_decide_eq_true q))]
     refine wpS_bind (BM C (kp.kd.trans hk) hU3 (by omega) (by omega) ?_)
     dsimp only
     by_cases hlarger:RK rk (arrOf st3) (lo + x - 1) < RK rk (arrOf st3) (lo + x)
     ·rw [if_pos (decide_eq_true hlarger)]
      exact wpS_pure ⟨x,neq,rfl,kp,hax,by omega,hd,hq,he⟩
     ·rw [if_neg (fun q => hlarger (of_decide_eq_true q))]
      have heqx:RK rk (arrOf st3) (lo + x) = RK rk (arrOf st3) (lo + x - 1):=by omega
      refine wpS_pure ⟨neq + 1,rfl,kp,hd.up (by omega) (by omega) fun _ => rfl,by omega,fun i q1 q2 => ?_⟩
      have e1:lo + (x + 1) - 1 = lo + x:=by omega
      rw [e1]
      by_cases hix:i = lo + x
      ·rw [hix]
      ·rw [heqx]; exact he i (by omega) (by omega)
   ·rintro c st3 ⟨neq,rfl,kp,hd,hq,he⟩
    have e:max (n + 1) nrem = nrem:=by omega
    rw [e] at hd hq he ⊢
    exact ⟨nrem,neq,rfl,kp,by omega,Nat.le_refl _,hd,hq,he⟩
   rintro c st3 ⟨m,neq,rfl,kp,hm1,hm2,hd,hq,he⟩
   have hz:=kp.size
   dsimp only
   have rest:∀ (st4:SortSt),Kp st' st4 lo (lo + nrem)→Dsc rk (arrOf st4) lo (lo + m)→∀ st5,Kp st' st5 lo (lo + nrem)→(∀ k,RK rk (arrOf st5) k = if lo≤k∧k < lo + m then RK rk (arrOf st4) (lo + (lo + m) - 1 - k) else RK rk (arrOf st4) k)→Seg rk (arrOf st5) lo (lo + m):=fun st4 _ d4 st5 _ e5 i j q1 q2 q3 => by
    rw [e5,e5,if_pos (by omega),if_pos (by omega)]
    exact d4 _ _ (by omega) (by omega) (by omega)
   by_cases hneq:neq > 0
   ·rw [if_pos hneq]
    refine wpS_bind (Cm (rk:=rk) kp (by omega) (by omega) (by omega) he fun st4 kp4 hRK => ?_)
    have d4:Dsc rk (arrOf st4) lo (lo + m):=fun i j q1 q2 q3 => by rw [hRK,hRK]; exact hd i j q1 q2 q3
    have hz4:=kp4.size
    refine wpS_bind (Dl (rk:=rk) kp4 (Nat.le_refl _) (by omega) (by omega) fun st5 kp5 e5 => ?_)
    have s5:=rest _ kp4 d4 st5 kp5 e5
    have hz5:=kp5.size
    have hU5:=hU.of_perm kp5.perm
    refine wpS_bind (wpS_mono (wpS_forRange (I:=fun x c st6 => st6 = st5∧c = (none,x)∧Seg rk (arrOf st5) lo (lo + x))
     (Q:=fun c st6 => st6 = st5∧∃ n,c = (none,n)∧1≤n∧n≤nrem∧Seg rk (arrOf st5) lo (lo + n)) ?_ ?_ ⟨rfl,rfl,s5⟩) ?_)
    ·rintro x c st6 hax hxn ⟨rfl,rfl,hs'⟩
     dsimp only
     refine wpS_bind (BM C (kp5.kd.trans hk) hU5 (by omega) (by omega) ?_)
     dsimp only
     by_cases hless:RK rk (arrOf st6) (lo + x) < RK rk (arrOf st6) (lo + x - 1)
     ·rw [if_pos (decide_eq_true hless)]
      exact wpS_pure ⟨rfl,x,rfl,by omega,by omega,hs'⟩
     ·rw [if_neg (fun q => hless (of_decide_eq_true q))]
      exact wpS_pure ⟨rfl,rfl,hs'.up (by omega) hless⟩
    ·rintro c st6 ⟨rfl,rfl,hs'⟩
     have e:max m nrem = nrem:=by omega
     rw [e] at hs' ⊢
     exact ⟨rfl,nrem,rfl,h1,Nat.le_refl _,hs'⟩
    rintro c st6 ⟨rfl,n5,rfl,q1,q2,q3⟩
    exact wpS_pure (h n5 _ kp5 q1 q2 q3)
   ·rw [if_neg hneq]
    have kp4:=kp
    have d4:=hd
    have hz4:=hz
    refine wpS_bind (Dl (rk:=rk) kp4 (Nat.le_refl _) (by omega) (by omega) fun st5 kp5 e5 => ?_)
    have s5:=rest _ kp4 d4 st5 kp5 e5
    have hz5:=kp5.size
    have hU5:=hU.of_perm kp5.perm
    refine wpS_bind (wpS_mono (wpS_forRange (I:=fun x c st6 => st6 = st5∧c = (none,x)∧Seg rk (arrOf st5) lo (lo + x))
     (Q:=fun c st6 => st6 = st5∧∃ n,c = (none,n)∧1≤n∧n≤nrem∧Seg rk (arrOf st5) lo (lo + n)) ?_ ?_ ⟨rfl,rfl,s5⟩) ?_)
    ·rintro x c st6 hax hxn ⟨rfl,rfl,hs'⟩
     dsimp only
     refine wpS_bind (BM C (kp5.kd.trans hk) hU5 (by omega) (by omega) ?_)
     dsimp only
     by_cases hless:RK rk (arrOf st6) (lo + x) < RK rk (arrOf st6) (lo + x - 1)
     ·rw [if_pos (decide_eq_true hless)]
      exact wpS_pure ⟨rfl,x,rfl,by omega,by omega,hs'⟩
     ·rw [if_neg (fun q => hless (of_decide_eq_true q))]
      exact wpS_pure ⟨rfl,rfl,hs'.up (by omega) hless⟩
    ·rintro c st6 ⟨rfl,rfl,hs'⟩
     have e:max m nrem = nrem:=by omega
     rw [e] at hs' ⊢
     exact ⟨rfl,nrem,rfl,h1,Nat.le_refl _,hs'⟩
    rintro c st6 ⟨rfl,n5,rfl,q1,q2,q3⟩
    exact wpS_pure (h n5 _ kp5 q1 q2 q3)
end
end SrtG
namespace SrtG
local macro_rules | `(tactic| omega) => `(tactic| first | lia | omega)
open PySem PyProof.Rows
variable {rk:Keyed→Int}
abbrev NO:=Nat × Nat × Nat
def Cov (rk:Keyed→Int) (arr:Array Keyed):Nat→List NO→Nat→Prop
 | a,[],hi => a = hi
 | a,e :: l,hi => e.1 = a∧0 < e.2.1∧Seg rk arr a (a + e.2.1)∧Cov rk arr (a + e.2.1) l hi
theorem Cov.le {arr:Array Keyed}:∀ {l:List NO} {a hi:Nat},Cov rk arr a l hi→a + l.length≤hi
 | [],a,hi,h => by have:a = hi:=h; simp only [List.length_nil]; omega
 | e :: l,a,hi,h => by have:=Cov.le h.2.2.2; have:=h.2.1; rw [List.length_cons]; omega
theorem Cov.app {arr:Array Keyed}:∀ {l1:List NO} {l2:List NO} {a hi:Nat},Cov rk arr a (l1 ++ l2) hi↔∃ m,Cov rk arr a l1 m∧Cov rk arr m l2 hi
 | [],l2,a,hi => ⟨fun h => ⟨a,rfl,h⟩,fun ⟨m,h1,h2⟩ => by have:a = m:=h1; subst this; exact h2⟩
 | e :: l1,l2,a,hi => ⟨fun ⟨h1,h2,h3,h4⟩ => by
   obtain ⟨m,q1,q2⟩:=Cov.app.mp h4
   exact ⟨m,⟨h1,h2,h3,q1⟩,q2⟩,fun ⟨m,⟨h1,h2,h3,h4⟩,q2⟩ => ⟨h1,h2,h3,Cov.app.mpr ⟨m,h4,q2⟩⟩⟩
theorem Cov.cong {arr arr':Array Keyed}:∀ {l:List NO} {a hi:Nat},(∀ x,a≤x→x < hi→RK rk arr' x = RK rk arr x)→Cov rk arr a l hi→Cov rk arr' a l hi
 | [],_,_,_,h => h
 | e :: l,a,hi,hx,⟨h1,h2,h3,h4⟩ => by
  have hl:=h4.le
  exact ⟨h1,h2,fun x y q1 q2 q3 => by rw [hx x q1 (by omega),hx y (by omega) (by omega)]; exact h3 x y q1 q2 q3,h4.cong fun x q1 q2 => hx x (by omega) q2⟩
theorem Sg {p:Array NO} {i:Nat} (h:i + 1 < p.size):∃ l1 e1 e2 l2,p.toList = l1 ++ e1 :: e2 :: l2∧l1.length = i∧p[i]? = some e1∧p[i + 1]? = some e2:=by
 have hl:p.toList.length = p.size:=Array.length_toList
 have h1:i < p.toList.length:=by omega
 have h2:i + 1 < p.toList.length:=by omega
 refine ⟨p.toList.take i,p.toList[i],p.toList[i + 1],p.toList.drop (i + 2),?_,?_,?_,?_⟩
 ·rw [← List.drop_eq_getElem_cons h2,← List.drop_eq_getElem_cons h1,List.take_append_drop]
 ·rw [List.length_take]; omega
 ·rw [← Array.getElem?_toList]; exact List.getElem?_eq_getElem h1
 ·rw [← Array.getElem?_toList]; exact List.getElem?_eq_getElem h2
theorem Sh {p:Array NO} {i:Nat} {e e1 e2:NO} {l1 l2:List NO} (hp:p.toList = l1 ++ e1 :: e2 :: l2) (hl:l1.length = i):((p.setIfInBounds i e).eraseIdxIfInBounds (i + 1)).toList = l1 ++ e :: l2:=by
 have hz:i + 1 < p.size:=by
  rw [← Array.length_toList,hp,List.length_append,List.length_cons,List.length_cons]; omega
 have hz':i + 1 < (p.setIfInBounds i e).size:=by rw [Array.size_setIfInBounds]; exact hz
 unfold Array.eraseIdxIfInBounds
 rw [dif_pos hz',Array.toList_eraseIdx,Array.toList_setIfInBounds,hp]
 subst hl
 rw [List.set_append_right _ _ (Nat.le_refl _),Nat.sub_self,List.set_cons_zero,List.eraseIdx_append_of_length_le (by omega)]
 have e:l1.length + 1 - l1.length = 1:=by omega
 rw [e]
 rfl
structure Bs (kd:SortKind) (a₀:Array Keyed) (st:SortSt):Prop where
 kd:kindOf st = kd
 fl:failedOf st = none
 perm:(arrOf st).toList.Perm a₀.toList
theorem Bs.size {kd:SortKind} {a₀:Array Keyed} {st:SortSt} (b:Bs kd a₀ st):(arrOf st).size = a₀.size:=by
 rw [← Array.length_toList,← Array.length_toList]; exact b.perm.length_eq
theorem Bs.kp {kd:SortKind} {a₀:Array Keyed} {st st':SortSt} {lo hi:Nat} (b:Bs kd a₀ st) (k:Kp st st' lo hi):Bs kd a₀ st':=⟨k.kd.trans b.kd,k.fl.trans b.fl,k.perm.trans b.perm⟩
section
variable {prog:Program} {w:World} {A:Around} {E:Value→Shared→Prop} {s:Shared} {kd:SortKind} {U:Keyed→Prop} {a₀:Array Keyed}
theorem DV {i hi:Nat} {st:SortSt} {Q:Bool→SortSt→Prop} (C:NK prog w A E s kd U rk) (hU:AllU U a₀) (b:Bs kd a₀ st) (hc:Cov rk (arrOf st) 0 (pendingOf st).toList hi) (hhi:hi≤a₀.size) (hi1:i + 1 < (pendingOf st).size)
  (h:∀ st',Bs kd a₀ st'→Cov rk (arrOf st') 0 (pendingOf st').toList hi→(pendingOf st').size + 1 = (pendingOf st).size→(∀ x,hi≤x→RK rk (arrOf st') x = RK rk (arrOf st) x)→Q true st'):wpS (model prog w) A E s (mergeAt' i) Q st:=by
 obtain ⟨l1,⟨s1,n1,p1⟩,⟨s2,n2,p2⟩,l2,hp,hl,e1,e2⟩:=Sg hi1
 have hc0:=hc
 rw [hp] at hc0
 obtain ⟨m,c1,q1,q2,q3,q4,q5,q6,q7⟩:=Cov.app.mp hc0
 dsimp only at q1 q2 q3 q4 q5 q6 q7
 subst q1
 have hle:=q7.le
 have hz:=b.size
 refine Ic C b.kd (hU.of_perm b.perm) b.fl e1 e2 q4 q2 q5 (by omega) (by rw [q4]; exact q3) (by rw [q4]; exact q6) fun st' k1 k2 k3 u => ?_
 have hj:=Sh (e:=(s1,n1 + n2,p1)) hp hl
 have c1le:=c1.le
 refine h st' ⟨k1,k2,u.perm.trans b.perm⟩ ?_ ?_ ?_
 ·rw [k3,hj]
  refine Cov.app.mpr ⟨s1,c1.cong fun x _ hx => Bx (u.out x (.inl hx)),rfl,by show 0 < n1 + n2; omega,?_,?_⟩
  ·show Seg rk (arrOf st') s1 (s1 + (n1 + n2))
   have:=u.seg
   rw [q4,Nat.add_assoc] at this
   exact this
  ·show Cov rk (arrOf st') (s1 + (n1 + n2)) l2 hi
   rw [← Nat.add_assoc]
   exact q7.cong fun x hx _ => Bx (u.out x (.inr (by omega)))
 ·rw [← Array.length_toList,← Array.length_toList,k3,hj,hp,List.length_append,List.length_append,List.length_cons,List.length_cons,List.length_cons]
  omega
 ·intro x hx
  exact Bx (u.out x (.inr (by omega)))
end
end SrtG
namespace SrtG
local macro_rules | `(tactic| omega) => `(tactic| first | lia | omega)
open PySem PyProof.Rows
variable {rk:Keyed→Int}
theorem Cov.shape {arr:Array Keyed}:∀ {l l':List NO} {a hi:Nat},l'.map (fun e => (e.1,e.2.1)) = l.map (fun e => (e.1,e.2.1))→Cov rk arr a l hi→Cov rk arr a l' hi
 | [],[],_,_,_,h => h
 | e :: l,e' :: l',a,hi,hm,⟨h1,h2,h3,h4⟩ => by
  rw [List.map_cons,List.map_cons] at hm
  injection hm with hm1 hm2
  injection hm1 with q1 q2
  exact ⟨q1.trans h1,by rw [q2]; exact h2,by rw [q2]; exact h3,by rw [q2]; exact h4.shape hm2⟩
 | [],_ :: _,_,_,hm,_ => by cases hm
 | _ :: _,[],_,_,hm,_ => by cases hm
theorem Cov.power {arr:Array Keyed} {p:Array NO} {i pw hi:Nat} (h:Cov rk arr 0 p.toList hi):Cov rk arr 0 (p.modify i fun e => (e.1,e.2.1,pw)).toList hi:=by
 refine h.shape ?_
 apply List.ext_getElem?
 intro j
 rw [List.getElem?_map,List.getElem?_map,Array.getElem?_toList,Array.getElem?_toList,Array.getElem?_modify]
 split
 ·cases p[j]? <;> rfl
 ·rfl
section
variable {prog:Program} {w:World} {A:Around} {E:Value→Shared→Prop} {s:Shared} {kd:SortKind} {U:Keyed→Prop} {a₀:Array Keyed}
theorem NP {st:SortSt} {Q:Unit→SortSt→Prop} (C:NK prog w A E s kd U rk) (hU:AllU U a₀) (b:Bs kd a₀ st) (hp:pendingOf st = #[])
  (h:∀ st',Bs kd a₀ st'→EC rk (arrOf st')→Q () st'):wpS (model prog w) A E s sortRuns' Q st:=by
 rw [sortRuns'_eq]
 refine wpS_bind (wpS_get ?_)
 dsimp only
 have hz:=b.size
 refine wpS_bind (wpS_mono (wpS_forRange
  (I:=fun x c st' => ∃ lo,c = (none,lo)∧x≤lo∧lo≤(arrOf st).size∧Bs kd a₀ st'∧Cov rk (arrOf st') 0 (pendingOf st').toList lo)
  (Q:=fun c st' => c.1 = none∧Bs kd a₀ st'∧Cov rk (arrOf st') 0 (pendingOf st').toList (arrOf st).size) ?step ?fin ⟨0,rfl,Nat.le_refl _,Nat.zero_le _,b,by rw [hp]; rfl⟩) ?post)
 case fin =>
  rintro c st' ⟨lo,rfl,h1,h2,bs,cv⟩
  have e:lo = (arrOf st).size:=by omega
  subst e
  exact ⟨rfl,bs,cv⟩
 case step =>
  rintro x c st1 _ hx ⟨lo,rfl,h1,h2,bs,cv⟩
  dsimp only
  have hz1:=bs.size
  by_cases cl:lo ≥ (arrOf st).size
  ·rw [if_pos cl]
   have e:lo = (arrOf st).size:=by omega
   subst e
   exact wpS_pure ⟨rfl,bs,cv⟩
  rw [if_neg cl]
  have nextOf:∀ (st3:SortSt) (n:Nat),Bs kd a₀ st3→Cov rk (arrOf st3) 0 (pendingOf st3).toList lo→0 < n→lo + n≤(arrOf st).size→Seg rk (arrOf st3) lo (lo + n)→∀ {c:Option PUnit × Nat},c = (none,lo + n)→∃ lo',c = (none,lo')∧x + 1≤lo'∧lo'≤(arrOf st).size∧Bs kd a₀ (setPending st3 ((pendingOf st3).push (lo,n,0)))∧Cov rk (arrOf (setPending st3 ((pendingOf st3).push (lo,n,0)))) 0 (pendingOf (setPending st3 ((pendingOf st3).push (lo,n,0)))).toList lo':=fun st3 n bs3 cv3 hpos hfit sg c hc => by
   refine ⟨lo + n,hc,by omega,hfit,⟨bs3.kd,bs3.fl,bs3.perm⟩,?_⟩
   show Cov rk (arrOf st3) 0 ((pendingOf st3).push (lo,n,0)).toList (lo + n)
   rw [Array.toList_push]
   exact Cov.app.mpr ⟨lo,cv3,rfl,hpos,sg,rfl⟩
  refine wpS_bind (Jt C bs.kd (hU.of_perm bs.perm) (by omega) (by omega) fun n st2 kp2 hn1 hn2 sg2 => ?_)
  have bs2:=bs.kp kp2
  have cv2:Cov rk (arrOf st2) 0 (pendingOf st2).toList lo:=by
   rw [kp2.pd]
   exact cv.cong fun x _ hx => Bx (kp2.out x (.inl hx))
  dsimp only
  by_cases cm:n < minRun' (arrOf st).size (arrOf st).size 0
  ·rw [if_pos cm]
   refine wpS_bind (wpS_lift (wpAny_rule ⟨rfl,?_⟩))
   have hz2:=bs2.size
   refine wpS_bind (Js (n:=min ((arrOf st).size - lo) (minRun' (arrOf st).size (arrOf st).size 0)) C bs2.kd (hU.of_perm bs2.perm) (by omega) (by omega) sg2 fun st3 kp3 sg3 => ?_)
   rw [if_neg (by decide)]
   have bs3:=bs2.kp kp3
   have cv3:Cov rk (arrOf st3) 0 (pendingOf st3).toList lo:=by
    rw [kp3.pd]
    exact cv2.cong fun x _ hx => Bx (kp3.out x (.inl hx))
   have hpos:0 < min ((arrOf st).size - lo) (minRun' (arrOf st).size (arrOf st).size 0):=by omega
   have hfit:lo + min ((arrOf st).size - lo) (minRun' (arrOf st).size (arrOf st).size 0)≤(arrOf st).size:=by omega
   refine wpS_bind (wpS_get ?_)
   cases hb:(pendingOf st3).back? with
   | none =>
    dsimp only
    exact wpS_bind (wpS_modify (wpS_pure (nextOf st3 _ bs3 cv3 hpos hfit sg3 rfl)))
   | some e =>
    obtain ⟨s1,n1,p1⟩:=e
    dsimp only
    refine wpS_bind (wpS_mono (wpS_forRange (I:=fun _ c st4 => c = (none,())∧Bs kd a₀ st4∧Cov rk (arrOf st4) 0 (pendingOf st4).toList lo∧∀ x,lo≤x→RK rk (arrOf st4) x = RK rk (arrOf st3) x)
     (Q:=fun c st4 => c = (none,())∧Bs kd a₀ st4∧Cov rk (arrOf st4) 0 (pendingOf st4).toList lo∧∀ x,lo≤x→RK rk (arrOf st4) x = RK rk (arrOf st3) x) ?_ (fun _ _ q => q) ⟨rfl,bs3,cv3,fun _ _ => rfl⟩) ?_)
    ·rintro y c st4 _ _ ⟨rfl,bs4,cv4,ou4⟩
     refine wpS_bind (wpS_get ?_)
     by_cases cp:(pendingOf st4).size > 1
     ·rw [if_pos cp]
      obtain ⟨o1,o2,o3⟩:=(pendingOf st4)[(pendingOf st4).size - 2]
      have hge:(pendingOf st4)[(pendingOf st4).size - 2]? = some (pendingOf st4)[(pendingOf st4).size - 2]:=getElem?_pos _ _ (by omega)
      rw [hge]
      dsimp only
      by_cases co:(pendingOf st4)[(pendingOf st4).size - 2].2.2≤power' (arrOf st).size (2 * s1 + n1) (2 * s1 + n1 + n1 + min ((arrOf st).size - lo) (minRun' (arrOf st).size (arrOf st).size 0)) (arrOf st).size
      ·rw [if_pos co]
       exact wpS_pure ⟨rfl,bs4,cv4,ou4⟩
      ·rw [if_neg co]
       refine wpS_bind (DV C hU bs4 cv4 (by omega) (by omega) fun st5 bs5 cv5 _ ou5 => ?_)
       rw [if_neg (by decide)]
       exact wpS_pure ⟨rfl,bs5,cv5,fun x hx => (ou5 x hx).trans (ou4 x hx)⟩
     ·rw [if_neg cp]
      exact wpS_pure ⟨rfl,bs4,cv4,ou4⟩
    ·rintro c st4 ⟨rfl,bs4,cv4,ou4⟩
     dsimp only
     refine wpS_bind (wpS_modify ?_)
     refine wpS_bind (wpS_modify (wpS_pure ?_))
     have sg4:Seg rk (arrOf st4) lo (lo + min ((arrOf st).size - lo) (minRun' (arrOf st).size (arrOf st).size 0)):=fun i j q1 q2 q3 => by rw [ou4 i q1,ou4 j (by omega)]; exact sg3 i j q1 q2 q3
     exact nextOf (setPending st4 ((pendingOf st4).modify ((pendingOf st4).size - 1) fun e => (e.1,e.2.1,power' (arrOf st).size (2 * s1 + n1) (2 * s1 + n1 + n1 + min ((arrOf st).size - lo) (minRun' (arrOf st).size (arrOf st).size 0)) (arrOf st).size))) _ ⟨bs4.kd,bs4.fl,bs4.perm⟩ (Cov.power cv4) hpos hfit sg4 rfl
  ·rw [if_neg cm]
   have bs3:=bs2
   have cv3:=cv2
   have sg3:=sg2
   have hpos:0 < n:=by omega
   have hfit:lo + n≤(arrOf st).size:=by omega
   refine wpS_bind (wpS_get ?_)
   cases hb:(pendingOf st2).back? with
   | none =>
    dsimp only
    exact wpS_bind (wpS_modify (wpS_pure (nextOf st2 _ bs3 cv3 hpos hfit sg3 rfl)))
   | some e =>
    obtain ⟨s1,n1,p1⟩:=e
    dsimp only
    refine wpS_bind (wpS_mono (wpS_forRange (I:=fun _ c st4 => c = (none,())∧Bs kd a₀ st4∧Cov rk (arrOf st4) 0 (pendingOf st4).toList lo∧∀ x,lo≤x→RK rk (arrOf st4) x = RK rk (arrOf st2) x)
     (Q:=fun c st4 => c = (none,())∧Bs kd a₀ st4∧Cov rk (arrOf st4) 0 (pendingOf st4).toList lo∧∀ x,lo≤x→RK rk (arrOf st4) x = RK rk (arrOf st2) x) ?_ (fun _ _ q => q) ⟨rfl,bs3,cv3,fun _ _ => rfl⟩) ?_)
    ·rintro y c st4 _ _ ⟨rfl,bs4,cv4,ou4⟩
     refine wpS_bind (wpS_get ?_)
     by_cases cp:(pendingOf st4).size > 1
     ·rw [if_pos cp]
      obtain ⟨o1,o2,o3⟩:=(pendingOf st4)[(pendingOf st4).size - 2]
      have hge:(pendingOf st4)[(pendingOf st4).size - 2]? = some (pendingOf st4)[(pendingOf st4).size - 2]:=getElem?_pos _ _ (by omega)
      rw [hge]
      dsimp only
      by_cases co:(pendingOf st4)[(pendingOf st4).size - 2].2.2≤power' (arrOf st).size (2 * s1 + n1) (2 * s1 + n1 + n1 + n) (arrOf st).size
      ·rw [if_pos co]
       exact wpS_pure ⟨rfl,bs4,cv4,ou4⟩
      ·rw [if_neg co]
       refine wpS_bind (DV C hU bs4 cv4 (by omega) (by omega) fun st5 bs5 cv5 _ ou5 => ?_)
       rw [if_neg (by decide)]
       exact wpS_pure ⟨rfl,bs5,cv5,fun x hx => (ou5 x hx).trans (ou4 x hx)⟩
     ·rw [if_neg cp]
      exact wpS_pure ⟨rfl,bs4,cv4,ou4⟩
    ·rintro c st4 ⟨rfl,bs4,cv4,ou4⟩
     dsimp only
     refine wpS_bind (wpS_modify ?_)
     refine wpS_bind (wpS_modify (wpS_pure ?_))
     have sg4:Seg rk (arrOf st4) lo (lo + n):=fun i j q1 q2 q3 => by rw [ou4 i q1,ou4 j (by omega)]; exact sg3 i j q1 q2 q3
     exact nextOf (setPending st4 ((pendingOf st4).modify ((pendingOf st4).size - 1) fun e => (e.1,e.2.1,power' (arrOf st).size (2 * s1 + n1) (2 * s1 + n1 + n1 + n) (arrOf st).size))) _ ⟨bs4.kd,bs4.fl,bs4.perm⟩ (Cov.power cv4) hpos hfit sg4 rfl
 case post =>
  rintro ⟨c1,c2⟩ st1 ⟨e,bs,cv⟩
  cases e
  dsimp only
  have done:∀ st',Bs kd a₀ st'→Cov rk (arrOf st') 0 (pendingOf st').toList (arrOf st).size→(pendingOf st').size≤1→EC rk (arrOf st'):=fun st' bs' cv' hl => by
   have hz':=bs'.size
   intro i j hij hj
   rw [← Array.length_toList] at hl
   revert cv' hl
   generalize (pendingOf st').toList = l
   intro cv' hl
   match l,cv',hl with
   | [],cv',_ =>
    have:0 = (arrOf st).size:=cv'
    omega
   | [e],cv',_ =>
    obtain ⟨q1,q2,q3,q4⟩:=cv'
    have:0 + e.2.1 = (arrOf st).size:=q4
    exact q3 i j (by omega) hij (by omega)
   | _ :: _ :: _,_,hl => simp only [List.length_cons] at hl; omega
  have hlen:=cv.le
  rw [Array.length_toList] at hlen
  refine wpS_bind (wpS_mono (wpS_forRange (I:=fun x c st' => c = (none,())∧Bs kd a₀ st'∧Cov rk (arrOf st') 0 (pendingOf st').toList (arrOf st).size∧(pendingOf st').size + x≤(arrOf st).size)
   (Q:=fun c st' => c = (none,())∧Bs kd a₀ st'∧Cov rk (arrOf st') 0 (pendingOf st').toList (arrOf st).size∧(pendingOf st').size≤1) ?_ ?_ ⟨rfl,bs,cv,by omega⟩) ?_)
  ·rintro x c st2 _ hx ⟨rfl,bs2,cv2,hm⟩
   refine wpS_bind (wpS_get ?_)
   by_cases cp:(pendingOf st2).size≤1
   ·rw [if_pos cp]
    exact wpS_pure ⟨rfl,bs2,cv2,cp⟩
   ·rw [if_neg cp]
    refine wpS_bind (DV C hU bs2 cv2 (by omega) ?_ fun st5 bs5 cv5 hs5 _ => ?_)
    ·split <;> split <;> omega
    ·rw [if_neg (by decide)]
     exact wpS_pure ⟨rfl,bs5,cv5,by omega⟩
  ·rintro c st2 ⟨rfl,bs2,cv2,hm⟩
   exact ⟨rfl,bs2,cv2,by omega⟩
  ·rintro c st2 ⟨rfl,bs2,cv2,hm⟩
   exact wpS_pure (h _ bs2 (done _ bs2 cv2 hm))
end
end SrtG
namespace SrtG
open PySem PyProof.Rows
def Ju (h:Heap) (v:Value) (a b:Int):Prop:=∃ x o t u n,v = .ref x∧h.get? x = some o∧o.data = .seq #[.int a t,.int b u] n
def Kv (h:Heap) (k:Keyed):Int:=match k.1 with
  | .ref x => match h.get? x with
    | some o => match o.data with
     | .seq xs _ => match (xs[0]?:Option Value),(xs[1]?:Option Value) with
      | some (.int a _),some (.int b _) => 65536 * a + b
      | _,_ => 0
     | _ => 0
    | _ => 0
  | _ => 0
theorem ED {h:Heap} {k:Keyed} {a b:Int} (p:Ju h k.1 a b):Kv h k = 65536 * a + b:=by
 obtain ⟨x,o,t,u,n,e1,e2,e3⟩:=p
 unfold Kv
 rw [e1]
 dsimp only
 rw [e2]
 dsimp only
 rw [e3]
 rfl
def RL (h:Heap) (k:Keyed):Prop:=∃ a b,Ju h k.1 a b∧0≤b∧b < 65536
variable {prog:Program} {w:World} {A:Around} {E:Value→Shared→Prop} {s:Shared}
theorem MA:NK prog w A E s (tuples' true) (RL s.heap) (Kv s.heap):=by
 intro st x y Q hk hx hy h
 obtain ⟨a,b,px,b0,b1⟩:=hx
 obtain ⟨c,d,py,d0,d1⟩:=hy
 rw [ED px,ED py] at h
 obtain ⟨p,o,t,u,n,e1,e2,e3⟩:=px
 obtain ⟨p',o',t',u',n',e1',e2',e3'⟩:=py
 rw [lt'_eq]
 refine wpS_bind (wpS_get ?_)
 rw [hk,e1,e1']
 refine wpS_bind (wpS_lift (wpAny_attempt ?_))
 refine PySem.W.kat_lt e2 e3 e2' e3' ?_
 have fin:∀ r:Bool,r = decide (65536 * a + b < 65536 * c + d)→(s = s∧wpS (model prog w) A E s (match (Except.ok r:Except Value Bool) with
   | .ok b => pure (some b)
   | .error e => do
    modify (fun s => SortSt.mk' (kindOf s) (arrOf s) (pendingOf s) (gallopOf s) (some e))
    pure none) Q st):=fun r hr => ⟨rfl,by rw [hr]; exact wpS_pure h⟩
 refine PySem.W.kat_cons (wpAny_eqBool_int ?_)
 refine PySem.W.kat_go (fun e => ?_) (fun e => ?_)
 ·have e':=eq_of_beq e
  refine PySem.W.kat_yes (PySem.W.kat_cons (wpAny_eqBool_int ?_))
  refine PySem.W.kat_go (fun q => ?_) (fun q => ?_)
  ·have q':=eq_of_beq q
   exact PySem.W.kat_yes (PySem.W.kat_nil (fin _ (by rw [e',q']; simp)))
  ·exact PySem.W.kat_no (PySem.W.kat_one _ _ (lt_int (fin _ (by congr 1; rw [e']; apply propext; constructor <;> intro <;> omega))))
 ·have e':a≠c:=fun q => by rw [q] at e; simp at e
  refine PySem.W.kat_no (oneLt_int (fin _ ?_))
  congr 1
  apply propext
  constructor <;> intro <;> omega
open PySem.Calls PySem.W
def TupAt (h:Heap) (v:Value) (a b:Int):Prop:=∃ x o t u n,v = .ref x∧h.get? x = some o∧o.cls = .type "tuple"∧o.data = .seq #[.int a t,.int b u] n
def TupsOk (h:Heap) (vs:List Value):Prop:=∀ v,v∈vs→∃ a b,TupAt h v a b∧0≤b∧b < 65536
theorem TupAt.pair {h:Heap} {v:Value} {a b:Int} (t:TupAt h v a b):Ju h v a b:=by
 obtain ⟨x,o,t,u,n,e1,e2,_,e4⟩:=t
 exact ⟨x,o,t,u,n,e1,e2,e4⟩
theorem TupsOk.kat {h:Heap}:∀ {vs:List Value},TupsOk h vs→∃ fs:List Value,KatTups h vs fs∧fs.length = vs.length∧∀ v∈fs,∃ a t,v = .int a t
 | [],_ => ⟨[],KatTups.nil,rfl,fun v hv => by cases hv⟩
 | v :: vs,ok => by
  obtain ⟨fs,k,hl,hf⟩:=TupsOk.kat (vs:=vs) fun v hv => ok v (.tail _ hv)
  obtain ⟨a,b,⟨x,o,t,u,n,rfl,e,hc,hd⟩,_,_⟩:=ok v (.head _)
  exact ⟨.int a t :: fs,KatTups.cons e hc hd rfl k,by rw [List.length_cons,List.length_cons,hl],fun v hv => by
   rcases List.mem_cons.mp hv with rfl | hv
   ·exact ⟨a,t,rfl⟩
   ·exact hf v hv⟩
theorem FQ:∀ (vs:List Value),vs.zip vs = vs.map fun v => (v,v)
 | [] => rfl
 | v :: vs => by rw [List.zip_cons_cons,List.map_cons,FQ vs]
variable {prog:Program} {w:World} {A:Around} {E:Value→Shared→Prop} {s:Shared}
theorem MB {vs:List Value} {Q:SortSt→Shared→Prop} (ok:TupsOk s.heap vs)
  (h:∀ st',failedOf st' = none→((arrOf st').map (·.2)).toList.Perm vs→((arrOf st').map (·.2)).toList.Pairwise (fun x y => Kv s.heap (x,x)≤Kv s.heap (y,y))→Q st' s) :
  wpAny (model prog w) A ((sortRuns').run (SortSt.mk' (tuples' true) (vs.toArray.zip vs.toArray) #[] 7 none)) (fun r s' => Q r.2 s') E s:=by
 have hz:(vs.toArray.zip vs.toArray) = (vs.map fun v => (v,v)).toArray:=by
  apply Array.ext'
  rw [Array.toList_zip]
  show vs.zip vs = vs.map fun v => (v,v)
  exact FQ vs
 have hU:AllU (RL s.heap) (vs.toArray.zip vs.toArray):=fun i p e => by
  rw [hz] at e
  have e':(vs.map fun v => ((v,v):Keyed))[i]? = some p:=by rw [← Array.getElem?_toList] at e; exact e
  obtain ⟨v,hv,rfl⟩:=List.mem_map.mp (List.mem_of_getElem? e')
  obtain ⟨a,b,q1,q2,q3⟩:=ok v hv
  exact ⟨a,b,q1.pair,q2,q3⟩
 have hwp:wpS (model prog w) A E s sortRuns' (fun _ st' => Q st' s) (SortSt.mk' (tuples' true) (vs.toArray.zip vs.toArray) #[] 7 none):=by
  refine NP (a₀:=vs.toArray.zip vs.toArray) (rk:=Kv s.heap) MA hU ⟨rfl,rfl,List.Perm.refl _⟩ rfl fun st' b srt => ?_
  have hpm:=b.perm
  rw [hz] at hpm
  have hsame:∀ k,k∈(arrOf st').toList→k = (k.2,k.2):=fun k hk => by
   obtain ⟨v,_,rfl⟩:=List.mem_map.mp (hpm.mem_iff.mp hk)
   rfl
  refine h st' b.fl ?_ ?_
  ·rw [Array.toList_map]
   have:=hpm.map (fun k:Keyed => k.2)
   rw [show ((vs.map fun v => ((v,v):Keyed)).toArray.toList.map fun k:Keyed => k.2) = vs from by
    show (vs.map fun v => ((v,v):Keyed)).map (fun k:Keyed => k.2) = vs
    rw [List.map_map]
    exact List.map_id vs] at this
   exact this
  ·rw [Array.toList_map,List.pairwise_map]
   refine List.pairwise_iff_getElem.mpr fun i j hi hj hij => ?_
   have hi':i < (arrOf st').size:=by rw [← Array.length_toList]; exact hi
   have hj':j < (arrOf st').size:=by rw [← Array.length_toList]; exact hj
   have q:=srt i j (Nat.le_of_lt hij) hj'
   rw [Ar hi',Ar hj'] at q
   have e1:=hsame (arrOf st').toList[i] (List.getElem_mem hi)
   have e2:=hsame (arrOf st').toList[j] (List.getElem_mem hj)
   rw [← e1,← e2]
   exact q
 exact wpAny_mono hwp (fun r s' q => by rw [q.1]; exact q.2) fun _ _ e => e
variable {prog:Program} {w:World} {A:Around} {E:Value→Shared→Prop} {s:Shared}
theorem TupsOk.kept {h h':Heap} {vs:List Value} (ok:TupsOk h vs) (k:∀ b o,o.cls = .type "tuple"→h.get? b = some o→h'.get? b = some o):TupsOk h' vs:=fun v hv => by
 obtain ⟨a,b,⟨x,o,t,u,n,e1,e2,e3,e4⟩,q⟩:=ok v hv
 exact ⟨a,b,⟨x,o,t,u,n,e1,k _ _ e3 e2,e3,e4⟩,q⟩
theorem TupsOk.rk {h h':Heap} {vs:List Value} (ok:TupsOk h vs) (k:∀ b o,o.cls = .type "tuple"→h.get? b = some o→h'.get? b = some o) {v:Value} (hv:v∈vs):Kv h' (v,v) = Kv h (v,v):=by
 obtain ⟨a,b,t,q⟩:=ok v hv
 obtain ⟨x,o,t',u,n,e1,e2,e3,e4⟩:=t
 rw [ED (k:=(v,v)) (TupAt.pair ⟨x,o,t',u,n,e1,e2,e3,e4⟩),ED (k:=(v,v)) (TupAt.pair ⟨x,o,t',u,n,e1,k _ _ e3 e2,e3,e4⟩)]
theorem Jv {a:Addr} {vs:List Value} {n:Nat} {P:PySem.Fin→Shared→Prop} (ho:s.heap.get? a = some (seqObj "list" vs.toArray n)) (ok:TupsOk s.heap vs) (h2:2≤vs.length) (hn:vs.length≤4096)
  (h:∀ out c h',out.Perm vs→out.Pairwise (fun x y => Kv s.heap (x,x)≤Kv s.heap (y,y))→h'.get? a = some (seqObj "list" (List.toArray out) c)→(∀ b o,b≠a→s.heap.get? b = some o→h'.get? b = some o)→P (.done (.ret .none)) { s with heap:=h' }) :
  wpAny (model prog w) A (Builtin.«list.sort» ⟨[.ref a],[]⟩) P E s:=by
 obtain ⟨e1,ho1⟩:∃ e1,(s.heap.update a (Obj.mapSeq fun _ => (#[]:Array Value))).get? a = some (seqObj "list" #[] e1):=⟨_,get?_update_seq ho fun _ => #[]⟩
 have keep:∀ b o,b≠a→s.heap.get? b = some o→(((s.heap.update a (Obj.mapSeq fun _ => (#[]:Array Value))).push (seqObj "tuple" vs.toArray 0)).push (seqObj "list" #[] 0)).get? b = some o:=fun b o hb e =>
  Heap.get?_push_of_some _ (Heap.get?_push_of_some _ (by rw [Heap.get?_update_ne _ _ _ _ hb]; exact e))
 have keepT:∀ b o,o.cls = .type "tuple"→s.heap.get? b = some o→(((s.heap.update a (Obj.mapSeq fun _ => (#[]:Array Value))).push (seqObj "tuple" vs.toArray 0)).push (seqObj "list" #[] 0)).get? b = some o:=fun b o ht e => by
  refine keep b o (fun q => ?_) e
  rw [q,ho] at e
  cases e
  exact absurd (show Value.type "list" = Value.type "tuple" from ht) (by decide)
 have ho3:(((s.heap.update a (Obj.mapSeq fun _ => (#[]:Array Value))).push (seqObj "tuple" vs.toArray 0)).push (seqObj "list" #[] 0)).get? a = some (seqObj "list" #[] e1):=Heap.get?_push_of_some _ (Heap.get?_push_of_some _ ho1)
 have ok3:=ok.kept keepT
 have rk3:=fun {v} (hv:v∈vs) => ok.rk keepT hv
 rw [list_sort_plain]
 refine wpAny_bind (listItems_at ho rfl ?_)
 refine wpAny_bind (listUpdate_at ho rfl ?_ (by rw [List.size_toArray,sizeLine_eq]; omega) (Nat.zero_le _))
 refine wpAny_bind (seqEpoch_at ho1 rfl ?_)
 refine wpAny_bind (wpAny_newTuple ?_ (by show vs.length≤_; rw [sizeLine_eq]; omega))
 refine wpAny_bind (wpAny_newList ?_ (Nat.zero_le _))
 refine wpAny_holding ?_
 show wpAny (model prog w) A _ P E { s with heap:=((s.heap.update a (Obj.mapSeq fun _ => (#[]:Array Value))).push (seqObj "tuple" vs.toArray 0)).push (seqObj "list" #[] 0) }
 generalize hG:((s.heap.update a (Obj.mapSeq fun _ => (#[]:Array Value))).push (seqObj "tuple" vs.toArray 0)).push (seqObj "list" #[] 0) = G at keep ho3 ok3 rk3 ⊢
 dsimp only
 have hn2:¬ vs.toArray.size < 2:=by rw [List.size_toArray]; omega
 rw [if_neg hn2,if_neg hn2]
 obtain ⟨fs,kt,hl,hf⟩:=ok3.kat
 refine wpAny_bind (kat_kind (s:={ s with heap:=G }) (T:=Value.type "int") kt (by omega) (fun v hv => by
  obtain ⟨x,t,rfl⟩:=hf v hv
  exact fun _ _ _ _ _ q => wpAny_pure q) rfl ?_)
 refine wpAny_bind (wpAny_mono (MB (s:={ s with heap:=G }) (Q:=fun st' s' => s' = { s with heap:=G }∧failedOf st' = none∧((arrOf st').map (·.2)).toList.Perm vs∧((arrOf st').map (·.2)).toList.Pairwise (fun x y => Kv G (x,x)≤Kv G (y,y))) ok3 (fun st' a1 a2 a3 => ⟨rfl,a1,a2,a3⟩)) ?_ fun _ _ e => e)
 rintro ⟨⟨⟩,st'⟩ s' ⟨rfl,hfl,hpm,hpw⟩
 dsimp only
 have hsz:((arrOf st').map (·.2)).size = vs.length:=by rw [← Array.length_toList]; exact hpm.length_eq
 obtain ⟨c2,hc2⟩:∃ c2,(G.update a (Obj.mapSeq fun _ => (arrOf st').map (·.2))).get? a = some (seqObj "list" ((arrOf st').map (·.2)) c2):=⟨_,get?_update_seq ho3 fun _ => (arrOf st').map (·.2)⟩
 refine wpAny_bind (seqEpoch_at ho3 rfl ?_)
 refine wpAny_bind (listUpdate_at ho3 rfl ?_ (Nat.zero_le _) (Nat.le_trans (Nat.le_of_eq hsz) (by rw [sizeLine_eq]; omega)))
 rw [hfl]
 simp only [bne_self_eq_false,Bool.false_eq_true,if_false]
 refine wpAny_pure (h ((arrOf st').map (·.2)).toList c2 _ hpm ?_ hc2 fun b o hb e => by rw [Heap.get?_update_ne _ _ _ _ hb]; exact keep b o hb e)
 refine List.Pairwise.imp_of_mem (fun {x y} hx hy q => ?_) hpw
 rw [rk3 (hpm.mem_iff.mp hx),rk3 (hpm.mem_iff.mp hy)] at q
 exact q
end SrtG
namespace StT
open PySem PySem.SetTable PyProof.Rows
section
variable {prog:Program} {w:World} {A:Around} {E:Value→Shared→Prop} {s:Shared}
abbrev As (w:World):Obj:={ cls:=.type "set",dict:=none,data:=.set #[] 0 (.fresh 0 0 (!w.params.followText "set-order")) }
theorem Id (a:Value) {Q₁:Value→Shared→Prop} (h:Q₁ (.ref s.heap.objs.size) { s with heap:=s.heap.push (As w) }) :
  codeAny (model prog w) A (.call (.builtin "set.__new__") ⟨[.type "set",a],[]⟩) (wants Q₁ E) s:=by
 refine codeAny_of_tree ?_
 show wpAny _ A.in1 (do checkBuiltinCall "set.__new__" ⟨[.type "set",a],[]⟩; again (.builtin "set.__new__" ⟨[.type "set",a],[]⟩)) _ _ s
 refine wpAny_bind (wpAny_of_eq (PySem.F.newCall_set_1 a) (wpAny_pure ⟨plainId_quiet PySem.F.plain_set_new _,codeAny_builtin PySem.F.entry_set_new ?_⟩))
 rw [Around.under_plainId PySem.F.plain_set_new _]
 unfold Builtin.«set.__new__» Builtin.Frozenset.newClass
 have hsub:=sub_set_self
 obtain ⟨hp,g,d,tk,os⟩:=s
 dsimp only
 wp_walk
 refine wpAny_askSetting (wpAny_pure ?_)
 dsimp only
 simp only [newObj]
 refine wpAny_bind (wpAny_alloc (wpAny_pure ?_))
 exact wpAny_pure h
theorem FR {T newId initId:String} {args:List Value} {Q Q₁:Value→Shared→Prop} (ft:TypeCalled T newId initId)
  (hct:checkTypeCall T ⟨args,[]⟩ = pure ())
  (hnew:codeAny (model prog w) A.in1 (.call (.builtin newId) ⟨.type T :: args,[]⟩) (wants Q₁ E) s)
  (hnext:∀ obj s₁,Q₁ obj s₁→s₁.TypeIs obj T∧codeAny (model prog w) A.in1 (.call (.builtin initId) ⟨obj :: args,[]⟩) (wants (fun r s₂ => r = .none∧Q obj s₂) E) s₁) :
  wpAny (model prog w) A (call (.type T) args) Q E s:=by
 obtain ⟨c,tl,hmro⟩:=ft.mro
 have hmade:=ft.made
 have hsub:=ft.sub
 refine wpAny_call (codeAny_of_tree ?_)
 show wpAny _ _ (callAny (.type T) _) _ _ _
 refine wpAny_pure ⟨Code.quiet_builtin _ (by decide +kernel),codeAny_builtin PySem.F.entry_type_call ?_⟩
 rw [Around.under_plain (weight_type_call_type T args []) rfl]
 have h1:=ft.notType
 have h2:=ft.canCreate
 repeat (any_goals (first | assumption | wp_step))
 refine codeAny_mono hnew fun r s₁ hr => ?_
 cases r with
 | error e => exact hr
 | ok fl =>
  cases fl with
  | ret obj =>
   obtain ⟨hT,hsi⟩:=hnext _ _ hr
   have hli:=ft.init.lookup
   have hbi:=ft.init.bind obj
   repeat (any_goals (first | assumption | wp_step))
   refine codeAny_mono hsi fun r₂ s₂ hr₂ => ?_
   cases r₂ with
   | error e => exact hr₂
   | ok fl₂ =>
    cases fl₂ with
    | ret r =>
     obtain ⟨rfl,hq⟩:=hr₂
     repeat (any_goals (first | assumption | wp_step))
    | _ => exact hr₂.elim
  | _ => exact hr.elim
theorem FS {l:Addr} {items:Array Value} {ps:List (List Int × Addr)} {Q:Value→Shared→Prop}
  (hh:A.handled = none) (hl:s.heap.IsList l items) (hps:items.toList = ps.map fun p => Value.ref p.2) (hp:∀ k x,(k,x)∈ps→IK prog w s.heap k x) (hz:ps.length≤300) (hu:A.units + 8 < cLine)
  (h:∀ (h':Heap) (tk:Nat) (xs:List (List Int × Addr)),SetX prog w h' s.heap.objs.size xs→HG ps xs →
   (∀ b o,b < s.heap.objs.size→s.heap.get? b = some o→h'.get? b = some o)→Q (.ref s.heap.objs.size) { s with heap:=h',toks:=tk }) :
  wpAny (model prog w) A (call (.type "set") [.ref l]) Q E s:=by
 refine FR (Q₁:=fun obj s₁ => obj = .ref s.heap.objs.size∧s₁ = { s with heap:=s.heap.push (As w) }) PySem.F.called_set (PySem.F.typeCall_set_1 _) (Id _ ⟨rfl,rfl⟩) ?_
 rintro obj s₁ ⟨rfl,rfl⟩
 have hS:(s.heap.push (As w)).get? s.heap.objs.size = some (As w):=Heap.get?_push_size _ rfl
 have hT:Shared.TypeIs { s with heap:=s.heap.push (As w) } (.ref s.heap.objs.size) "set":=⟨_,hS,rfl⟩
 refine ⟨hT,codeAny_call_builtin PySem.F.called_set.init.plain PySem.F.entry_set_init (check_set_init_1 hT ?_)⟩
 obtain ⟨ol,hol,hcl,nl,hdl⟩:=hl
 obtain ⟨ocls,odict,odata,oslots⟩:=ol
 simp only at hcl hdl
 subst hcl; subst hdl
 have hol':(s.heap.push (As w)).get? l = some { cls:=.type "list",dict:=odict,data:=.seq items nl,slots:=oslots }:=Heap.get?_push_of_some _ hol
 have hsls:=PySem.F.sub_list_set
 have hslf:=PySem.F.sub_list_frozenset
 have hne:(Value.type "list" == Value.type "dict") = false:=by decide
 have hl1:(s.heap.push (As w)).IsList l items:=⟨_,hol',rfl,nl,rfl⟩
 unfold Builtin.«set.__init__» noKeywords Builtin.Frozenset.updateFrom
 generalize hPI:pyIter = PI
 wp_walk
 subst hPI
 refine wpAny_pyIter_list hl1 ?_
 refine wpAny_bind (wpAny_runValue ?_)
 have hlS:l < s.heap.objs.size:=Heap.lt_size hol
 have hneI:l≠(s.heap.push (As w)).objs.size:=by
  rw [Heap.size_push]; exact Nat.ne_of_lt (Nat.lt_succ_of_lt hlS)
 have kp:∀ b o,s.heap.get? b = some o→((s.heap.push (As w)).push { cls:=.type "list_iterator",data:=.fields #[.ref l,.int 0 0] }).get? b = some o:=fun b o e => Heap.get?_push_of_some _ (Heap.get?_push_of_some _ e)
 refine QA (a:=s.heap.objs.size) (l:=l) (ps:=ps) (by simpa using hh) hneI (by rw [Heap.size_push]; exact Nat.ne_of_lt (Nat.lt_succ_self _)) (Nat.ne_of_gt hlS) hps hz (by
   show A.in1.in1.units + 1 < cLine
   exact Nat.lt_of_le_of_lt (show A.units + 1 + 1 + 1≤A.units + 8 by omega) hu) (ps.length - 0) 0 _ [] rfl (Nat.zero_le _)
  ⟨_,Heap.get?_push_size _ rfl,rfl,rfl⟩ (hl1.push _) (fun k x hx => ⟨CO (hp k x hx) fun u e => kp x u e,?_⟩) ⟨As w,#[],0,_,Heap.get?_push_of_some _ hS,⟨rfl,rfl,rfl⟩,rfl,rfl,fun i k x e => by simp at e,List.nodup_nil,Tb.fresh _ _ _,rfl,(by show 0 * 5 < 7 * 3; decide),rfl⟩ ⟨fun p hp => by simp at hp,fun k y hy => by simp at hy,by simp⟩ ?_
 ·obtain ⟨o',_,_,ho',_⟩:=hp k x hx
  have:=Heap.lt_size ho'
  rw [Heap.size_push]
  exact Nat.ne_of_lt (Nat.lt_succ_of_lt this)
 ·intro h' tk' xs' kk sx so
  refine wpAny_pure ?_
  show wpAny _ _ (ret Value.none) _ _ _
  refine wpAny_pure ⟨rfl,h h' tk' xs' sx so fun b o hb e => kk b o (Nat.ne_of_lt hb) ?_ (kp b o e)⟩
  rw [Heap.size_push]; exact Nat.ne_of_lt (Nat.lt_succ_of_lt hb)
end
open PySem.Calls PySem.W
section
variable {prog:Program} {w:World} {A:Around} {E:Value→Shared→Prop} {s:Shared}
theorem NQ {a:Addr} {vs:List Value} {n:Nat} {P:PySem.Fin→Shared→Prop} (ho:s.heap.get? a = some (seqObj "list" vs.toArray n)) (h2:vs.length < 2)
  (h:∀ c h',h'.get? a = some (seqObj "list" vs.toArray c)→(∀ b o,b≠a→s.heap.get? b = some o→h'.get? b = some o)→P (.done (.ret .none)) { s with heap:=h' }) :
  wpAny (model prog w) A (Builtin.«list.sort» ⟨[.ref a],[]⟩) P E s:=by
 obtain ⟨e1,ho1⟩:∃ e1,(s.heap.update a (Obj.mapSeq fun _ => (#[]:Array Value))).get? a = some (seqObj "list" #[] e1):=⟨_,get?_update_seq ho fun _ => #[]⟩
 have keep:∀ b o,b≠a→s.heap.get? b = some o→(((s.heap.update a (Obj.mapSeq fun _ => (#[]:Array Value))).push (seqObj "tuple" vs.toArray 0)).push (seqObj "list" #[] 0)).get? b = some o:=fun b o hb e =>
  Heap.get?_push_of_some _ (Heap.get?_push_of_some _ (by rw [Heap.get?_update_ne _ _ _ _ hb]; exact e))
 have ho3:(((s.heap.update a (Obj.mapSeq fun _ => (#[]:Array Value))).push (seqObj "tuple" vs.toArray 0)).push (seqObj "list" #[] 0)).get? a = some (seqObj "list" #[] e1):=Heap.get?_push_of_some _ (Heap.get?_push_of_some _ ho1)
 rw [list_sort_plain]
 refine wpAny_bind (listItems_at ho rfl ?_)
 refine wpAny_bind (listUpdate_at ho rfl ?_ (by rw [List.size_toArray,sizeLine_eq]; omega) (Nat.zero_le _))
 refine wpAny_bind (seqEpoch_at ho1 rfl ?_)
 refine wpAny_bind (wpAny_newTuple ?_ (by show vs.length≤_; rw [sizeLine_eq]; omega))
 refine wpAny_bind (wpAny_newList ?_ (Nat.zero_le _))
 refine wpAny_holding ?_
 show wpAny (model prog w) A _ P E { s with heap:=((s.heap.update a (Obj.mapSeq fun _ => (#[]:Array Value))).push (seqObj "tuple" vs.toArray 0)).push (seqObj "list" #[] 0) }
 generalize hG:((s.heap.update a (Obj.mapSeq fun _ => (#[]:Array Value))).push (seqObj "tuple" vs.toArray 0)).push (seqObj "list" #[] 0) = G at keep ho3 ⊢
 dsimp only
 have hn2:vs.toArray.size < 2:=by rw [List.size_toArray]; omega
 rw [if_pos hn2,if_pos hn2]
 refine wpAny_bind (wpAny_pure ?_)
 refine wpAny_bind (wpAny_pure ?_)
 dsimp only
 have har:((vs.toArray.zip vs.toArray).map (·.2)) = vs.toArray:=by
  apply Array.ext'
  rw [Array.toList_map,Array.toList_zip]
  show (vs.zip vs).map (·.2) = vs
  rw [SrtG.FQ,List.map_map]
  exact List.map_id vs
 have har':(arrOf (SortSt.mk' general' (vs.toArray.zip vs.toArray) #[] 7 none)).map (·.2) = vs.toArray:=har
 rw [har']
 obtain ⟨c2,hc2⟩:∃ c2,(G.update a (Obj.mapSeq fun _ => vs.toArray)).get? a = some (seqObj "list" vs.toArray c2):=⟨_,get?_update_seq ho3 fun _ => vs.toArray⟩
 refine wpAny_bind (seqEpoch_at ho3 rfl ?_)
 refine wpAny_bind (listUpdate_at ho3 rfl ?_ (Nat.zero_le _) (by rw [List.size_toArray,sizeLine_eq]; omega))
 show wpAny _ _ (if (e1 != e1) = true then _ else _) _ _ _
 rw [if_neg (by simp)]
 exact wpAny_pure (h c2 _ hc2 fun b o hb e => by rw [Heap.get?_update_ne _ _ _ _ hb]; exact keep b o hb e)
theorem CS {α β : Type} {f : α → β} {l1 l2 : List β} (h : l1.Perm l2) : ∀ {xs : List α}, l2 = xs.map f → ∃ ys : List α, ys.Perm xs ∧ ys.map f = l1 := by
  induction h with
  | nil => intro xs e; cases xs with
    | nil => exact ⟨[], .refl _, rfl⟩
    | cons x xs => cases e
  | cons x _ ih => intro xs e; cases xs with
    | nil => cases e
    | cons y xs =>
      rw [List.map_cons] at e
      injection e with e1 e2
      obtain ⟨ys, h1, h2⟩ := ih e2
      exact ⟨y :: ys, h1.cons y, by rw [List.map_cons, h2, e1]⟩
  | swap x y l => intro xs e; match xs, e with
    | a :: b :: xs, e =>
      simp only [List.map_cons] at e
      injection e with e1 e2
      injection e2 with e2 e3
      exact ⟨b :: a :: xs, .swap _ _ _, by simp only [List.map_cons]; rw [← e1, ← e2, ← e3]⟩
  | trans _ _ ih1 ih2 => intro xs e
                         obtain ⟨ys, h1, h2⟩ := ih2 e
                         obtain ⟨zs, h3, h4⟩ := ih1 h2.symm
                         exact ⟨zs, h3.trans h1, h4⟩
theorem Jw {a:Addr} {xs:List (List Int × Addr)} {Q:Value→Shared→Prop} (hh:A.handled = none) (S:SetX prog w s.heap a xs) (hz:xs.length≤300)
  (hp:∀ k x,(k,x)∈xs→∃ p q,k = [p,q]∧0≤q∧q < 65536)
  (h:∀ (h':Heap) (tk:Nat) (ys:List (List Int × Addr)) (D:Addr) (c:Nat),s.heap.get? D = none→h'.get? D = some (seqObj "list" (ys.map fun p => Value.ref p.2).toArray c)→(∀ b o,s.heap.get? b = some o→h'.get? b = some o) →
   ys.Perm xs→ys.Pairwise (fun x y => 65536 * x.1.getD 0 0 + x.1.getD 1 0≤65536 * y.1.getD 0 0 + y.1.getD 1 0)→Q (.ref D) { s with heap:=h',toks:=tk }) :
  wpAny (model prog w) A (call (.builtin "sorted") [.ref a]) Q E s:=by
 obtain ⟨o,es,ep,t,S⟩:=S
 refine call_function_entry kind_sorted plain_sorted entry_sorted (args_sorted1 _) ?_
 unfold Builtin.«sorted»
 refine wpAny_bind (m:=checkCount "sorted" 1 1 _) (wpAny_pure ?_)
 refine wpAny_bind (kdu_collect (A:=A.in1) (Ks S.wk) hh S.get (by rw [S.size,sizeLine_eq]; omega) fun h1 tk1 acc hk1 hacc => ?_)
 have hsz:acc.toList.length = xs.length:=by rw [Array.length_toList,hacc.1,S.size]
 have hacc2:acc.toList = (Cg w a ep es).toList.map (·.2):=by
  apply List.ext_getElem?
  intro i
  rw [List.getElem?_map]
  by_cases hi:i < acc.size
  ·have e1:acc[i]? = some acc[i]:=by simp [hi]
   obtain ⟨hh',e2⟩:=hacc.2 i _ e1
   have e2':(Cg w a ep es).toList[i]? = some (hh',acc[i]):=by simpa using e2
   rw [e2']
   simpa using e1
  ·have h1':acc.toList[i]? = none:=by simp; omega
   have h2':(Cg w a ep es).toList[i]? = none:=by
    apply List.getElem?_eq_none
    rw [Array.length_toList,DF,← hacc.1]; omega
   rw [h1',h2']; rfl
 have hperm:acc.toList.Perm (xs.map fun p => Value.ref p.2):=by
  rw [hacc2]
  refine ((Dz w a ep es).map (·.2)).trans ?_
  rw [S.es,Ls,List.map_map]
  exact List.Perm.refl _
 have hIK:∀ k x,(k,x)∈xs→IK prog w h1 k x:=fun k x hx => by
  obtain ⟨i,hi⟩:=List.getElem?_of_mem hx
  exact CO (S.key i k x hi) fun u e => hk1 x u e
 have tupAt:∀ k x,(k,x)∈xs→∃ p q,k = [p,q]∧SrtG.TupAt h1 (.ref x) p q∧0≤q∧q < 65536:=fun k x hx => by
  obtain ⟨p,q,rfl,h0,h1'⟩:=hp k x hx
  obtain ⟨o',items,n,ho',hc',hd',hi'⟩:=hIK _ x hx
  refine ⟨p,q,rfl,?_,h0,h1'⟩
  generalize hL:items.toList = L at hi'
  cases hi' with
  | cons i1 i2 =>
   cases i2 with
   | cons i3 i4 =>
    cases i4
    obtain ⟨t1,rfl⟩:=DD i1
    obtain ⟨t2,rfl⟩:=DD i3
    have:items = #[.int p t1,.int q t2]:=by
     apply Array.ext'
     rw [hL]
    exact ⟨x,o',t1,t2,n,rfl,ho',hc',by rw [hd',this]⟩
 refine wpAny_bind (wpAny_newList ?_ (by rw [hsz,sizeLine_eq]; omega))
 have hoL:(h1.push (seqObj "list" acc.toList.toArray 0)).get? h1.objs.size = some (seqObj "list" acc.toList.toArray 0):=Heap.get?_push_size _ rfl
 have hDn:s.heap.get? h1.objs.size = none:=by
  cases e:s.heap.get? h1.objs.size with
  | none => rfl
  | some o' => exact absurd (Heap.lt_size (hk1 _ _ e)) (Nat.lt_irrefl _)
 have hkp:∀ b o,h1.get? b = some o→(h1.push (seqObj "list" acc.toList.toArray 0)).get? b = some o:=fun b o e => Heap.get?_push_of_some _ e
 obtain ⟨ws,hw1,hw2⟩:=CS hperm rfl
 have fin:∀ (out:List Value) (c:Nat) (h2:Heap),out.Perm acc.toList→out.Pairwise (fun x y => SrtG.Kv (h1.push (seqObj "list" acc.toList.toArray 0)) (x,x)≤SrtG.Kv (h1.push (seqObj "list" acc.toList.toArray 0)) (y,y)) →
   h2.get? h1.objs.size = some (seqObj "list" (List.toArray out) c)→(∀ b o,b≠h1.objs.size→(h1.push (seqObj "list" acc.toList.toArray 0)).get? b = some o→h2.get? b = some o)→Q (.ref h1.objs.size) { s with heap:=h2,toks:=tk1 }:=fun out c h2 pm pw hg hk => by
  obtain ⟨ys,y1,y2⟩:=CS (pm.trans hperm) rfl
  subst y2
  refine h h2 tk1 ys _ c hDn hg (fun b o e => ?_) y1 ?_
  ·have hlt:=Heap.lt_size (hk1 b o e)
   exact hk b o (Nat.ne_of_lt hlt) (hkp b o (hk1 b o e))
  ·rw [List.pairwise_map] at pw
   refine List.Pairwise.imp_of_mem (fun {x y} hx hy q => ?_) pw
   obtain ⟨k1,x1⟩:=x
   obtain ⟨k2,x2⟩:=y
   obtain ⟨p,q',rfl,t1,_⟩:=tupAt k1 x1 (y1.mem_iff.mp hx)
   obtain ⟨p2,q2,rfl,t2,_⟩:=tupAt k2 x2 (y1.mem_iff.mp hy)
   have keepT:∀ {v:Value} {i j:Int},SrtG.TupAt h1 v i j→SrtG.TupAt (h1.push (seqObj "list" acc.toList.toArray 0)) v i j:=fun t => by
    obtain ⟨x,o,t,u,n,e1,e2,e3,e4⟩:=t
    exact ⟨x,o,t,u,n,e1,hkp _ _ e2,e3,e4⟩
   rw [SrtG.ED (k:=(Value.ref x1,Value.ref x1)) (keepT t1).pair,SrtG.ED (k:=(Value.ref x2,Value.ref x2)) (keepT t2).pair] at q
   exact q
 refine wpAny_bind (wpAny_holding (wpAny_call_entry slot_list_sort ⟨_,hoL,rfl⟩ entry_list_sort ?body (args_list_sort _)))
 case body =>
  by_cases hlen:acc.toList.length < 2
  ·refine NQ (s:={ s with heap:=h1.push (seqObj "list" acc.toList.toArray 0),toks:=tk1 }) hoL hlen fun c h2 hg hk => ⟨_,rfl,wpAny_pure ⟨_,rfl,fin acc.toList c h2 (.refl _) ?_ hg hk⟩⟩
   generalize acc.toList = l at hlen
   match l,hlen with
   | [],_ => exact .nil
   | [x],_ => exact List.pairwise_singleton _ _
  ·refine SrtG.Jv (s:={ s with heap:=h1.push (seqObj "list" acc.toList.toArray 0),toks:=tk1 }) hoL (fun v hv => ?_) (by omega) (by omega) fun out c h2 pm pw hg hk => ⟨_,rfl,wpAny_pure ⟨_,rfl,fin out c h2 pm pw hg hk⟩⟩
   obtain ⟨⟨k,x⟩,hx,rfl⟩:=List.mem_map.mp (hperm.mem_iff.mp hv)
   obtain ⟨p,q,rfl,⟨x',o',t1,t2,n,e1,e2,e3,e4⟩,h0,h1'⟩:=tupAt k x hx
   exact ⟨p,q,⟨x',o',t1,t2,n,e1,hkp _ _ e2,e3,e4⟩,h0,h1'⟩
end
end StT
namespace L2
open PySem PySem.Spec PyProof.Rows
section
variable {X:Cx} {pins:List (Addr × Obj)} {σ:St} {H:Hp} {s:Shared} {h':Heap}
theorem Inv.laidF {a:Addr} {o:HO} {t':Nat} (I:Inv X pins σ H s) (k:∀ b u,s.heap.get? b = some u→h'.get? b = some u) (hp:s.heap.get? a = none) (new:ObjOk X.prog X.w (Aw H a o) h' a o) :
  Inv X pins σ (Aw H a o) { s with heap:=h',toks:=t' }:=by
 have hn:H a = none:=by
  cases q:H a with
  | none => rfl
  | some u =>
   obtain ⟨ob,e⟩:=(I.hok a u q).obj
   rw [hp] at e; cases e
 have ne:∀ b u,s.heap.get? b = some u→b≠a:=fun b u e z => by rw [z,hp] at e; cases e
 refine I.un ⟨fun b u q _ _ _ => k b u q,fun b u q _ _ _ => ⟨u.slots,k b u q⟩,fun b u q n _ => by rw [AI (ne b u q)]; exact n,fun b u q _ => ⟨u,k b u q⟩,fun b xs q => by rw [AI (AM q hn)]; exact q,fun b u xs q => by rw [AI (AM q hn)]; exact q,fun b ps q => ⟨#[],by rw [AI (AM q hn),q]; simp⟩⟩ ?_
 intro b u e
 by_cases hb:b = a
 ·subst hb; rw [AK] at e; cases e; exact new
 ·rw [AI hb] at e
  exact (I.hok b u e).stay (fun c v _ q => k c v q) (fun c q => by rw [AI (AM q hn)]; exact q) fun c xs q => by rw [AI (AM q hn)]; exact q
def Up (P:Program) (w:World) (a:Addr) (xs:List (List Int × Addr)) (h:Heap):Prop:=∃ o es ep t,h.get? a = some o∧o.ExactSet∧o.data = .set es ep t∧es.toList = StT.Ls xs P w∧(xs.map (·.1)).Nodup∧StT.Tb t (xs.map fun p => (StT.tk P w).hash p.1)∧t.plain = true∧xs.length * 5 < t.mask * 3∧t.led = !w.params.followText "set-order"
def SetO (P:Program) (w:World) (a:Addr) (xs:List (List Int × Addr)):HO:=.ext (Up P w a xs)
theorem QD {P:Program} {w:World} {H:Hp} {h:Heap} {a:Addr} {xs:List (List Int × Addr)} (S:StT.SetX P w h a xs):ObjOk P w H h a (SetO P w a xs):=by
 obtain ⟨o,es,ep,t,S⟩:=S
 refine ⟨⟨o,es,ep,t,S.get,S.ex,S.dat,S.es,S.nd,S.tb,S.pl,S.room,S.led⟩,⟨o,S.get⟩,fun h1 h2 ⟨o,es,ep,t,g,r⟩ hk => ⟨o,es,ep,t,hk _ g,r⟩⟩
def NR (K:PySem.W.Frag) (H:Hp) (xs:List (List Int × Addr)):Prop:=∀ k x,(k,x)∈xs→JS K H x (k.map V.int)
theorem GY {prog:Program} {w:World}:∀ {k:List Int} {us:List Value},Vals (k.map V.int) us→ItemsAre (intKind prog w) k us
 | [],us,r => by rw [List.map_nil] at r; cases r; exact .nil
 | n :: k,us,r => by
  rw [List.map_cons] at r
  cases r with
  | cons r1 r2 =>
   obtain ⟨t,rfl⟩:=r1
   exact .cons (intKind_is _ _ _ _) (GY r2)
theorem Inv.ik {x:Addr} {k:List Int} (I:Inv X pins σ H s) (h:JS X.K H x (k.map V.int)):StT.IK X.prog X.w s.heap k x:=by
 obtain ⟨its,r,⟨o,ho,hc,n,hd⟩,hz⟩:=I.tuple h
 exact ⟨o,its.toArray,n,ho,hc,hd,by simpa using GY r⟩
def XB (X:Cx):List V→Hp→VK→Prop:=fun vs H Q => ∃ a ps,vs = [.ref a]∧SqL X.K H a (ps.map fun p => V.ref p.2)∧NR X.K H ps∧ps.length≤300 ∧
 ∀ p xs,H p = none→StT.HG ps xs→(xs.map (·.1)).Nodup→Q (.ref p) (Aw H p (SetO X.prog X.w p xs))
theorem GZ:∀ {ps:List (List Int × Addr)} {us:List Value},Vals (ps.map fun p => V.ref p.2) us→us = ps.map fun p => Value.ref p.2
 | [],us,r => by rw [List.map_nil] at r; cases r; rfl
 | p :: ps,us,r => by
  rw [List.map_cons] at r
  cases r with
  | cons r1 r2 =>
   rw [GZ r2]
   have r1:_ = Value.ref p.2:=r1
   rw [r1]
   rfl
theorem MC (hc:X.calm = true) (hu:X.A.units + 8 < cLine):BL X (.type "set") (XB X):=by
 intro pins s σ H vs us Q I r h
 obtain ⟨a,ps,rfl,hl,hk,hz,q⟩:=h
 obtain ⟨u,rfl,ru⟩:=Vals.one r
 cases ru
 obtain ⟨its,rv,p,_⟩:=I.list hl
 refine StT.FS (ps:=ps) (I.ok.hd hc) p.isList (by simpa using GZ rv) (fun k x hx => I.ik (hk k x hx)) hz hu fun h' tk xs sx so kp => ?_
 have hf:H s.heap.objs.size = none:=I.hok.fresh (Nat.le_refl _)
 have nd:(xs.map (·.1)).Nodup:=by obtain ⟨_,_,_,_,S⟩:=sx; exact S.nd
 exact ⟨.ref s.heap.objs.size,Aw H s.heap.objs.size (SetO X.prog X.w s.heap.objs.size xs),I.laid (t':=tk) (fun b u e => kp b u (Heap.lt_size e) e) (Nat.le_refl _) (QD sx),rfl,q _ _ hf so nd⟩
def Si (X:Cx):List V→Hp→VK→Prop:=fun vs H Q => ∃ p xs,vs = [.ref p]∧H p = some (SetO X.prog X.w p xs)∧NR X.K H xs∧xs.length≤300∧(∀ k x,(k,x)∈xs→∃ i j,k = [i,j]∧0≤j∧j < 65536) ∧
 ∀ (q:Addr) (ys:List (List Int × Addr)),H q = none→ys.Perm xs→ys.Pairwise (fun x y => 65536 * x.1.getD 0 0 + x.1.getD 1 0≤65536 * y.1.getD 0 0 + y.1.getD 1 0)→Q (.ref q) (Aw H q (.lst (ys.map fun p => V.ref p.2)))
theorem Ga:∀ (ps:List (List Int × Addr)),Vals (ps.map fun p => V.ref p.2) (ps.map fun p => Value.ref p.2)
 | [] => .nil
 | p :: ps => .cons rfl (Ga ps)
theorem HJ (hc:X.calm = true):BL X (.builtin "sorted") (Si X):=by
 intro pins s σ H vs us Q I r h
 obtain ⟨p,xs,rfl,hp,hk,hz,h2,q⟩:=h
 obtain ⟨u,rfl,ru⟩:=Vals.one r
 cases ru
 obtain ⟨⟨o,es,ep,t,g1,g2,g3,g4,g5,g6,g7,g8,g9⟩,_,_⟩:=I.hok p _ hp
 refine StT.Jw (xs:=xs) (I.ok.hd hc) ⟨o,es,ep,t,g1,g2,g3,g4,fun i k x e => I.ik (hk k x (List.mem_of_getElem? e)),g5,g6,g7,g8,g9⟩ hz h2 fun h' tk ys D c hD hg kp pm pw => ?_
 have hf:H D = none:=I.hok.none_of hD
 refine ⟨.ref D,Aw H D (.lst (ys.map fun p => V.ref p.2)),I.laidF (t':=tk) kp hD ⟨?_,_,c,Ga ys,hg⟩,rfl,q D ys hf pm pw⟩
 rw [List.length_map,pm.length_eq,sizeLine_eq]
 omega
end
end L2
namespace ZpT
open PySem PySem.Spec PyProof.Rows
structure Nx (prog:Program) (w:World) (I ax:Addr) (items:Array Value) (St:Nat→Heap→Prop):Prop where
 item:∀ (A:Around) (i:Nat) (s:Shared) (x:Value) (Q:Value→Shared→Prop) (E:Value→Shared→Prop),St i s.heap→items[i]? = some x→(∀ h',St (i + 1) h'→Heap.SameBut I s.heap h'→Q x { s with heap:=h' })→wpAny (model prog w) A (Builtin.SmallTypes.nextOf (.ref I)) Q E s
 fin:∀ (A:Around) (i:Nat) (s:Shared) (Q:Value→Shared→Prop) (E:Value→Shared→Prop),A.handled = none→St i s.heap→items[i]? = none→(∀ h' e,Heap.ExtBut I s.heap h'→(∃ o,h'.get? e = some o∧o.cls = .type "StopIteration")→E (.ref e) { s with heap:=h' })→wpAny (model prog w) A (Builtin.SmallTypes.nextOf (.ref I)) Q E s
 keep:∀ (i:Nat) (h h':Heap),St i h→(∀ o,h.get? I = some o→h'.get? I = some o)→(∀ o,h.get? ax = some o→h'.get? ax = some o)→St i h'
 there:∀ (i:Nat) (h:Heap),St i h→I < h.objs.size
section
variable {prog:Program} {w:World}
end
section
variable {prog:Program} {w:World} {A:Around} {E:Value→Shared→Prop} {s:Shared}
variable {z TI TO i1 i2 l1 l2:Addr} {xs ys:Array Value} {S1 S2:Nat→Heap→Prop}
end
end ZpT
namespace L2
open PySem PySem.Spec PyProof.Rows
section
variable {X:Cx}
theorem Inv.turns {pins:List (Addr × Obj)} {σ:St} {H:Hp} {s:Shared} {h':Heap} {t':Nat} {ch:List Addr} (I:Inv X pins σ H s) (hf:∀ b∈ch,Ev X pins H b) (k:∀ b o,b ∉ ch→s.heap.get? b = some o→h'.get? b = some o):Inv X pins σ H { s with heap:=h',toks:=t' }:=by
 refine I.call' (s':={ s with heap:=h',toks:=t' }) (ch:=ch) rfl ⟨fun b o e _ _ hb => k b o hb e,fun b o e _ _ hb => ⟨o.slots,k b o hb e⟩,fun _ _ _ n _ => n,fun b o e hb => ⟨o,k b o hb e⟩,fun _ _ e => e,fun _ _ _ e => e,fun b ps e => ⟨#[],by rw [e]; simp⟩⟩ (I.hok.by_keep fun b o hb e => k b o (fun z => hb (hf b z).1) e) I.bare fun b hb => ?_
 obtain ⟨_,q2,q3,q4,q5,q6⟩:=hf b hb
 exact ⟨q4,q2,q5,q6⟩
end
open PySem.Calls
section
variable {X:Cx}
def WP (K:PySem.W.Frag) (H:Hp) (a:Addr) (xs:List V):Prop:=SqL K H a xs∨JS K H a xs
theorem Inv.walk {pins:List (Addr × Obj)} {σ:St} {H:Hp} {s:Shared} {a:Addr} {xs:List V} (I:Inv X pins σ H s) (hq:WP X.K H a xs):∃ its:List Value,Vals xs its∧a < s.heap.objs.size∧∀ (A:Around) (E:Value→Shared→Prop) (Q:Value→Shared→Prop),A.handled = none →
  (∀ (o:Obj) (St:Nat→Heap→Prop),Walks X.prog X.w A s.heap.objs.size [s.heap.objs.size,a] [s.heap.objs.size] its.length (fun i v => its[i]? = some v) St→St 0 (s.heap.push o)→Q (.ref s.heap.objs.size) { s with heap:=s.heap.push o })→wpAny (model X.prog X.w) A (pyIter (.ref a)) Q E s:=by
 rcases hq with hq | hq
 ·obtain ⟨its,rv,p,_⟩:=I.list hq
  have lt:a < s.heap.objs.size:=by obtain ⟨_,_,e,_⟩:=p; exact Heap.lt_size e
  refine ⟨its,rv,lt,fun A E Q hh h => wpAny_pyIter_list p.isList ?_⟩
  have W:=Walks.list (prog:=X.prog) (w:=X.w) (A:=A) hh s.heap.objs.size a (Nat.ne_of_lt lt) its.toArray
  have W':Walks X.prog X.w A s.heap.objs.size [s.heap.objs.size,a] [s.heap.objs.size] its.length (fun i v => its[i]? = some v) (fun i h => h.IsListIter s.heap.objs.size a i∧h.IsList a its.toArray):=by simpa using W
  exact h _ _ W' ⟨⟨_,Heap.get?_push_size _ rfl,rfl,rfl⟩,p.isList.push _⟩
 ·obtain ⟨its,rv,p,_⟩:=I.tuple hq
  have lt:a < s.heap.objs.size:=by obtain ⟨_,e,_⟩:=p; exact Heap.lt_size e
  refine ⟨its,rv,lt,fun A E Q hh h => wpAny_pyIter_tuple (items:=its.toArray) p ?_⟩
  have W:=Walks.tuple (prog:=X.prog) (w:=X.w) (A:=A) hh s.heap.objs.size a (Nat.ne_of_lt lt) its.toArray
  have W':Walks X.prog X.w A s.heap.objs.size [s.heap.objs.size,a] [s.heap.objs.size] its.length (fun i v => its[i]? = some v) (fun i h => h.IsTupleIter s.heap.objs.size a i∧h.IsTuple a its.toArray):=by simpa using W
  have p':s.heap.IsTuple a its.toArray:=p
  exact h _ _ W' ⟨⟨_,Heap.get?_push_size _ rfl,rfl,rfl⟩,p'.at fun o e => Heap.get?_push_of_some _ e⟩
theorem NS {s:Shared} {o:Obj} {h':Heap} (hk:∀ b x,b ∉ [s.heap.objs.size]→(s.heap.push o).get? b = some x→h'.get? b = some x):∀ b x,s.heap.get? b = some x→h'.get? b = some x:=fun b x e =>
 hk b x (by simpa using Nat.ne_of_lt (Heap.lt_size e)) (Heap.get?_push_of_some _ e)
theorem FT {ns:List Int} {us:List Value} (r:Vals (ns.map V.int) us) (i:Nat) (v:Value) (h:us[i]? = some v):∃ t,v = .int (ns.getD i 0) t:=by
 have hl:=r.length
 have hi:i < ns.length:=by
  have:=(List.getElem?_eq_some_iff.mp h).1
  rw [List.length_map] at hl; omega
 obtain ⟨u,e,t,rfl⟩:=r.get (i:=i) (x:=.int ns[i]) (by simp [hi])
 rw [h] at e; cases e
 exact ⟨t,by simp [List.getD,hi]⟩
def Jx (ns:List Int) (m:Int):Prop:=m∈ns∧∀ n∈ns,m≤n
theorem NT {ns:List Int} {i:Nat} (h:i < ns.length):ns.getD i 0∈ns:=by simp [List.getD,h]
theorem MD (hc:X.calm = true):BL X (.builtin "min") (fun vs H Q => ∃ (a:Addr) (ns:List Int),vs = [.ref a]∧WP X.K H a (ns.map V.int)∧0 < ns.length∧∀ m,Jx ns m→Q (.int m) H):=by
 intro pins s σ H vs us Q I r h
 obtain ⟨a,ns,rfl,hq,h0,q⟩:=h
 obtain ⟨u,rfl,ru⟩:=EO r
 cases ru
 obtain ⟨its,rv,lt,wk⟩:=I.walk hq
 have hl:its.length = ns.length:=by have:=rv.length; rw [List.length_map] at this; exact this.symm
 refine call_min_walk (wk X.A.in1 _ _ (I.ok.hd hc) fun o St W st => ⟨_,_,_,_,_,_,_,rfl,W,st,fun b hb => ?_,by omega,CmpOf.ints_lt (fun i => ns.getD i 0) (fun i v hv => FT rv i v hv),fun v h' tk hP hk => ?_⟩)
 ·show b < (s.heap.push o).objs.size
  rw [Heap.size_push]
  simp only [List.mem_cons,List.not_mem_nil,or_false] at hb
  rcases hb with rfl | rfl
  ·exact Nat.lt_succ_self _
  ·exact Nat.lt_succ_of_lt lt
 ·obtain ⟨t,rfl⟩:=FT rv _ v hP
  obtain ⟨b1,b2⟩:=argBest_lt (fun i => ns.getD i 0) (its.length - 1)
  exact ⟨.int _,H,I.kept (t':=tk) (NS hk),⟨t,rfl⟩,q _ ⟨NT (by omega),fun n hn => by
   obtain ⟨j,hj,rfl⟩:=List.getElem_of_mem hn
   have:=b2 j (by omega)
   simpa [List.getD,hj] using this⟩⟩
theorem ES:BL X (.type "tuple") (fun vs H Q => ∃ a xs,vs = [.ref a]∧SqL X.K H a xs∧∀ p,H p = none→Q (.ref p) (Aw H p (.tup xs))):=by
 intro pins s σ H vs us Q I r h
 obtain ⟨a,xs,rfl,hq,q⟩:=h
 obtain ⟨u,rfl,ru⟩:=EO r
 cases ru
 obtain ⟨its,rv,p,hz⟩:=I.list hq
 have hl:=rv.length
 refine call_tuple_list p.isList (fun h' hk => ?_) (by simpa [← hl] using hz)
 have hn:s.heap.get? h'.objs.size = none:=by
  cases e:s.heap.get? h'.objs.size with
  | none => rfl
  | some o => exact absurd (Heap.lt_size (hk _ _ e)) (Nat.lt_irrefl _)
 exact ⟨.ref h'.objs.size,Aw H h'.objs.size (.tup xs),I.laidF (t':=s.toks) (fun b u e => Heap.get?_push_of_some _ (hk b u e)) hn ⟨hz,its,rv,⟨_,Heap.get?_push_size _ rfl,rfl,_,rfl⟩⟩,rfl,q _ (I.hok.none_of hn)⟩
theorem FU:BL X (.type "list") (fun vs H Q => ∃ a xs,vs = [.ref a]∧WP X.K H a xs∧∀ p,H p = none→Q (.ref p) (Aw H p (.lst xs))):=by
 intro pins s σ H vs us Q I r h
 obtain ⟨a,xs,rfl,hq,q⟩:=h
 obtain ⟨u,rfl,ru⟩:=EO r
 cases ru
 have hf:H s.heap.objs.size = none:=I.hok.fresh (Nat.le_refl _)
 have fin:∀ (its:List Value) (h':Heap) (c:Nat),Vals xs its→xs.length≤sizeLine→(∀ b o',s.heap.get? b = some o'→h'.get? b = some o')→h'.get? s.heap.objs.size = some { cls:=.type "list",dict:=none,data:=.seq its.toArray c,slots:=#[] }→EP X pins σ Q (.ref s.heap.objs.size) { s with heap:=h' }:=fun its h' c rv hz hk hD =>
  ⟨.ref s.heap.objs.size,Aw H s.heap.objs.size (.lst xs),I.laid (t':=s.toks) hk (Nat.le_refl _) ⟨hz,its,c,rv,hD⟩,rfl,q _ hf⟩
 rcases hq with hq | hq
 ·obtain ⟨its,rv,⟨o,n,ho,hc,hd,hdt⟩,hz⟩:=I.list hq
  have hl:=rv.length
  exact call_list_seq (hsz:=by simpa [← hl] using hz) a (.inl rfl) ho hc hdt fun h' c' hk hD => fin its h' c' rv hz hk hD
 ·obtain ⟨its,rv,⟨o,ho,hc,n,hdt⟩,hz⟩:=I.tuple hq
  have hl:=rv.length
  exact call_list_seq (hsz:=by simpa [← hl] using hz) a (.inr rfl) ho hc hdt fun h' c' hk hD => fin its h' c' rv hz hk hD
end
end L2
namespace HT
open PySem PySem.Spec PyProof.Rows
section
open PySem.SeqAt
open PySem.AutoSeq1 (wpAny_loadPart')
open PySem.MeetsSeq PySem.MeetsSeq2 PySem.MeetsSeq3
end
section
variable {prog:Program} {w:World} {A:Around} {E:Value→Shared→Prop} {s:Shared}
end
end HT
namespace L2
open PySem PySem.Spec PyProof.Rows
section
variable {X:Cx} {e:Expr} {te:TE} {pos p2 p3 p4:Pos}
end
end L2
namespace L2.TL
open PySem PySem.Spec PyProof.Rows
inductive T where
 | non | bl (b:Bool) | int (i:Int) | str (x:Str) | tup (ts:List T) | lst (ts:List T) | frz (ts:List T) | dct | raw (v:V)
abbrev AJ:=Addr→Option (List T)
def AZ (O:AJ) (a:Addr) (ts:List T):AJ:=fun b => if b = a then some ts else O b
def Co (O:AJ) (a:Addr):AJ:=fun b => if b = a then none else O b
theorem AF {O:AJ} {a:Addr} {ts:List T}:AZ O a ts a = some ts:=by unfold AZ; rw [if_pos rfl]
theorem AV {O:AJ} {a b:Addr} {ts:List T} (h:b≠a):AZ O a ts b = O b:=by unfold AZ; rw [if_neg h]
theorem BA {O:AJ} {a:Addr} {ts us:List T}:AZ (AZ O a ts) a us = AZ O a us:=by
 funext b; unfold AZ; split <;> rfl
theorem CU {O:AJ} {a:Addr}:Co O a a = none:=by unfold Co; rw [if_pos rfl]
theorem Dm {O:AJ} {a b:Addr} (h:b≠a):Co O a b = O b:=by unfold Co; rw [if_neg h]
mutual
inductive Rep (K:PySem.W.Frag) (O:AJ) (H:Hp):V→T→Prop
 | non:Rep K O H .non .non
 | bl (b:Bool):Rep K O H (.bl b) (.bl b)
 | int (i:Int):Rep K O H (.int i) (.int i)
 | str (x:Str):Rep K O H (.str x) (.str x)
 | tup {a:Addr} {xs:List V} {ts:List T}:H a = some (.tup xs)→Reps K O H xs ts→Rep K O H (.ref a) (.tup ts)
 | lst {a:Addr} {xs:List V} {ts:List T}:H a = some (.lst xs)→O a = none→Reps K O H xs ts→Rep K O H (.ref a) (.lst ts)
 | frz {a:Addr} {o:Obj} {xs:List V} {ts:List T}:H a = some (.frz o (.lst xs))→Reps K O H xs ts→Rep K O H (.ref a) (.frz ts)
 | dct {a:Addr}:H a = some (.dK [])→Rep K O H (.ref a) .dct
 | raw (v:V):Rep K O H v (.raw v)
inductive Reps (K:PySem.W.Frag) (O:AJ) (H:Hp):List V→List T→Prop
 | nil:Reps K O H [] []
 | cons {v:V} {t:T} {vs:List V} {ts:List T}:Rep K O H v t→Reps K O H vs ts→Reps K O H (v :: vs) (t :: ts)
end
section
variable {K:PySem.W.Frag} {O O' O1:AJ} {H H' H1:Hp}
mutual
theorem Rep.mono (hT:∀ a o,H a = some o→(∀ xs,o≠.lst xs)→H' a = some o) (hL:∀ a xs,H a = some (.lst xs)→O a = none→H' a = some (.lst xs)∧O' a = none):∀ {v:V} {t:T},Rep K O H v t→Rep K O' H' v t
 | _,_,.non => .non
 | _,_,.bl b => .bl b
 | _,_,.int i => .int i
 | _,_,.str x => .str x
 | _,_,.tup h r => .tup (hT _ _ h fun _ z => by cases z) (Reps.mono hT hL r)
 | _,_,.lst h o r => .lst (hL _ _ h o).1 (hL _ _ h o).2 (Reps.mono hT hL r)
 | _,_,.frz h r => .frz (hT _ _ h fun _ z => by cases z) (Reps.mono hT hL r)
 | _,_,.dct h => .dct (hT _ _ h fun _ z => by cases z)
 | _,_,.raw v => .raw v
theorem Reps.mono (hT:∀ a o,H a = some o→(∀ xs,o≠.lst xs)→H' a = some o) (hL:∀ a xs,H a = some (.lst xs)→O a = none→H' a = some (.lst xs)∧O' a = none):∀ {v:List V} {t:List T},Reps K O H v t→Reps K O' H' v t
 | _,_,.nil => .nil
 | _,_,.cons h r => .cons (Rep.mono hT hL h) (Reps.mono hT hL r)
end
theorem Reps.length:∀ {vs:List V} {ts:List T},Reps K O H vs ts→vs.length = ts.length
 | _,_,.nil => rfl
 | _,_,.cons _ r => congrArg (· + 1) r.length
theorem Reps.get:∀ {vs:List V} {ts:List T} {i:Nat} {t:T},Reps K O H vs ts→ts[i]? = some t→∃ v,vs[i]? = some v∧Rep K O H v t
 | _,_,_,_,.nil,e => by simp at e
 | _,_,0,_,.cons h _,e => by simp at e; subst e; exact ⟨_,rfl,h⟩
 | _,_,i + 1,t,.cons _ r,e => by
  obtain ⟨u,h1,h2⟩:=Reps.get (i:=i) (t:=t) r (by simpa using e)
  exact ⟨u,by simpa using h1,h2⟩
theorem Reps.append:∀ {vs ws:List V} {ts us:List T},Reps K O H vs ts→Reps K O H ws us→Reps K O H (vs ++ ws) (ts ++ us)
 | _,_,_,_,.nil,s => s
 | _,_,_,_,.cons h r,s => .cons h (r.append s)
theorem Reps.set {x:V} {t:T} (h:Rep K O H x t):∀ {vs:List V} {ts:List T} (i:Nat),Reps K O H vs ts→Reps K O H (vs.set i x) (ts.set i t)
 | _,_,_,.nil => .nil
 | _,_,0,.cons _ r => .cons h r
 | _,_,i + 1,.cons q r => .cons q (Reps.set h i r)
theorem Reps.one {v:V} {t:T} (h:Rep K O H v t):Reps K O H [v] [t]:=.cons h .nil
theorem Reps.eraseIdx:∀ {vs:List V} {ts:List T} (i:Nat),Reps K O H vs ts→Reps K O H (vs.eraseIdx i) (ts.eraseIdx i)
 | _,_,_,.nil => .nil
 | _,_,0,.cons _ r => r
 | _,_,i + 1,.cons q r => .cons q (Reps.eraseIdx i r)
def Kp (O:AJ) (H:Hp) (O':AJ) (H':Hp):Prop:=∀ b o,H b = some o→O b = none→H' b = some o∧O' b = none
def OwnOk (K:PySem.W.Frag) (O:AJ) (H:Hp):Prop:=∀ a ts,O a = some ts→∃ xs,H a = some (.lst xs)∧Reps K O H xs ts
theorem OwnOk.free (w:OwnOk K O H) {a:Addr} {o:HO} (h:H a = some o) (hn:∀ xs,o≠.lst xs):O a = none:=by
 cases e:O a with
 | none => rfl
 | some ts =>
  obtain ⟨xs,e',_⟩:=w a ts e
  rw [h] at e'
  exact absurd (Option.some.inj e') (hn xs)
theorem OwnOk.none_of (w:OwnOk K O H) {a:Addr} (h:H a = none):O a = none:=by
 cases e:O a with
 | none => rfl
 | some ts =>
  obtain ⟨xs,e',_⟩:=w a ts e
  rw [h] at e'; cases e'
theorem Kp.refl:Kp O H O H:=fun _ _ h n => ⟨h,n⟩
theorem Kp.trans (a:Kp O H O1 H1) (b:Kp O1 H1 O' H'):Kp O H O' H':=fun c o h n => b c o (a c o h n).1 (a c o h n).2
theorem Kp.oth (k:Kp O H O' H') (w:OwnOk K O H) {a:Addr} {o:HO} (h:H a = some o) (hn:∀ xs,o≠.lst xs):H' a = some o:=(k a _ h (w.free h hn)).1
theorem Kp.lst (k:Kp O H O' H') {a:Addr} {xs:List V} (h:H a = some (.lst xs)) (n:O a = none):H' a = some (.lst xs)∧O' a = none:=k a _ h n
theorem Rep.kp (k:Kp O H O' H') (w:OwnOk K O H) {v:V} {t:T} (r:Rep K O H v t):Rep K O' H' v t:=r.mono (fun _ _ h hn => k.oth w h hn) fun _ _ => k.lst
theorem Reps.kp (k:Kp O H O' H') (w:OwnOk K O H) {v:List V} {t:List T} (r:Reps K O H v t):Reps K O' H' v t:=r.mono (fun _ _ h hn => k.oth w h hn) fun _ _ => k.lst
structure Frm (K:PySem.W.Frag) (O:AJ) (H:Hp) (O':AJ) (H':Hp):Prop where
 kp:Kp O H O' H'
 own:∀ b ts,O b = some ts→∃ ts',O' b = some ts'
 ok:OwnOk K O' H'
theorem Frm.refl (w:OwnOk K O H):Frm K O H O H:=⟨.refl,fun _ ts e => ⟨ts,e⟩,w⟩
theorem Frm.trans (a:Frm K O H O1 H1) (b:Frm K O1 H1 O' H'):Frm K O H O' H':=⟨a.kp.trans b.kp,fun c ts e => by
 obtain ⟨t1,e1⟩:=a.own c ts e
 exact b.own c t1 e1,b.ok⟩
theorem Bm {p:Addr} {o:HO} (w:OwnOk K O H) (hp:H p = none):Kp O H O (Aw H p o):=fun b u h n => ⟨by rw [AI (AM h hp)]; exact h,n⟩
theorem Frm.new {p:Addr} {o:HO} (w:OwnOk K O H) (hp:H p = none):Frm K O H O (Aw H p o) where
 kp:=Bm w hp
 own:=fun _ ts e => ⟨ts,e⟩
 ok:=fun a ts e => by
  obtain ⟨xs,h,r⟩:=w a ts e
  exact ⟨xs,by rw [AI (AM h hp)]; exact h,r.kp (Bm w hp) w⟩
theorem HK {p:Addr} {o:HO} {ts:List T} (w:OwnOk K O H) (hp:H p = none):Kp O H (AZ O p ts) (Aw H p o):=fun b u h n => by
 have:=AM h hp
 rw [AI this,AV this]
 exact ⟨h,n⟩
theorem Frm.newO {p:Addr} {xs:List V} {ts:List T} (w:OwnOk K O H) (hp:H p = none) (r:Reps K O H xs ts):Frm K O H (AZ O p ts) (Aw H p (.lst xs)) where
 kp:=HK w hp
 own:=fun b us e => by
  by_cases hb:b = p
  ·exact ⟨ts,by rw [hb,AF]⟩
  ·exact ⟨us,by rw [AV hb]; exact e⟩
 ok:=fun a us e => by
  by_cases hb:a = p
  ·subst hb
   rw [AF] at e; cases e
   exact ⟨xs,AK,r.kp (HK w hp) w⟩
  ·rw [AV hb] at e
   obtain ⟨ys,h,q⟩:=w a us e
   exact ⟨ys,by rw [AI hb]; exact h,q.kp (HK w hp) w⟩
theorem HL {a:Addr} {o:HO} {ts us:List T} (ha:O a = some ts):Kp O H (AZ O a us) (Aw H a o):=fun b u h n => by
 have:b≠a:=fun z => by rw [z,ha] at n; cases n
 rw [AI this,AV this]
 exact ⟨h,n⟩
theorem Frm.put {a:Addr} {xs:List V} {ts us:List T} (w:OwnOk K O H) (ha:O a = some ts) (r:Reps K O H xs us):Frm K O H (AZ O a us) (Aw H a (.lst xs)) where
 kp:=HL ha
 own:=fun b vs e => by
  by_cases hb:b = a
  ·exact ⟨us,by rw [hb,AF]⟩
  ·exact ⟨vs,by rw [AV hb]; exact e⟩
 ok:=fun b vs e => by
  by_cases hb:b = a
  ·subst hb
   rw [AF] at e; cases e
   exact ⟨xs,AK,r.kp (HL ha) w⟩
  ·rw [AV hb] at e
   obtain ⟨ys,h,q⟩:=w b vs e
   exact ⟨ys,by rw [AI hb]; exact h,q.kp (HL ha) w⟩
theorem DG {a:Addr}:Kp O H (Co O a) H:=fun b u h n => ⟨h,by
 by_cases hb:b = a
 ·rw [hb,CU]
 ·rw [Dm hb]; exact n⟩
theorem OwnOk.drop {a:Addr} (w:OwnOk K O H):OwnOk K (Co O a) H:=fun b ts e => by
 by_cases hb:b = a
 ·rw [hb,CU] at e; cases e
 ·rw [Dm hb] at e
  obtain ⟨xs,h,r⟩:=w b ts e
  exact ⟨xs,h,r.kp DG w⟩
theorem OwnOk.rep {a:Addr} {ts:List T} (w:OwnOk K O H) (e:O a = some ts):Rep K (Co O a) H (.ref a) (.lst ts):=by
 obtain ⟨xs,h,r⟩:=w a ts e
 exact .lst h CU (r.kp DG w)
end
def Rl (K:PySem.W.Frag) (O:AJ) (H:Hp) (σ:St) (ρ:List (Option T)):Prop:=σ.length = ρ.length∧∀ (i:Nat) (t:T),ρ[i]? = some (some t)→∃ v,σ[i]? = some (some v)∧Rep K O H v t
section
variable {K:PySem.W.Frag} {O O':AJ} {H H':Hp} {σ:St} {ρ:List (Option T)}
theorem Rl.kp (k:Kp O H O' H') (w:OwnOk K O H) (r:Rl K O H σ ρ):Rl K O' H' σ ρ:=⟨r.1,fun i t e => by
 obtain ⟨v,h1,h2⟩:=r.2 i t e
 exact ⟨v,h1,h2.kp k w⟩⟩
theorem Rl.set {i:Nat} {v:V} {t:T} (r:Rl K O H σ ρ) (h:Rep K O H v t):Rl K O H (σ.set i (some v)) (ρ.set i (some t)):=⟨by simpa using r.1,fun j u e => by
 by_cases hj:j = i
 ·subst hj
  have hl:j < ρ.length:=by
   have:=(List.getElem?_eq_some_iff.mp e).1
   simpa using this
  rw [List.getElem?_set_self hl] at e
  cases e
  exact ⟨v,by rw [List.getElem?_set_self (by rw [r.1]; exact hl)],h⟩
 ·rw [List.getElem?_set_ne (Ne.symm hj)] at e ⊢
  exact r.2 j u e⟩
end
structure Zx where
 X:Cx
 Oe:AJ
 He:Hp
 Xi:Value→AJ→Prop
abbrev Zx.K (Z:Zx):PySem.W.Frag:=Z.X.K
def Zx.W (Z:Zx):St→XK:=fun _ cls d H' => d = none∧∃ O',Z.Xi cls O'∧Frm Z.K Z.Oe Z.He O' H'
structure Asr (Z:Zx) (ρ:List (Option T)) (O:AJ) (σ:St) (H:Hp):Prop where
 rl:Rl Z.K O H σ ρ
 fr:Frm Z.K Z.Oe Z.He O H
section
variable {Z:Zx} {ρ:List (Option T)} {O O':AJ} {σ:St} {H H':Hp}
theorem Asr.ok (a:Asr Z ρ O σ H):OwnOk Z.K O H:=a.fr.ok
theorem Asr.step (a:Asr Z ρ O σ H) (f:Frm Z.K O H O' H'):Asr Z ρ O' σ H':=⟨a.rl.kp f.kp a.ok,a.fr.trans f⟩
theorem Asr.refl (a:Asr Z ρ O σ H):Frm Z.K O H O H:=.refl a.ok
end
abbrev Bb:=T→AJ→Prop
abbrev Kw:=List T→AJ→Prop
abbrev HM:=Bool→AJ→Prop
def Acc (K:PySem.W.Frag) (O:AJ) (H:Hp) (Φ:Bb) (Q:VK):Prop:=∀ v H' t O',Φ t O'→Frm K O H O' H'→Rep K O' H' v t→Q v H'
def XC (K:PySem.W.Frag) (O:AJ) (H:Hp) (Φ:Kw) (Q:List V→Hp→Prop):Prop:=∀ vs H' ts O',Φ ts O'→Frm K O H O' H'→Reps K O' H' vs ts→Q vs H'
def AccT (K:PySem.W.Frag) (O:AJ) (H:Hp) (Φ:HM) (Q:Bool→Hp→Prop):Prop:=∀ b H' O',Φ b O'→Frm K O H O' H'→Q b H'
def tW (Z:Zx) (ρ:List (Option T)) (O:AJ) (Φ:Bb):TE:=fun σ H Q => Asr Z ρ O σ H∧Acc Z.K O H Φ Q
def Xb (Z:Zx) (ρ:List (Option T)) (O:AJ) (Φ:Kw):TA:=fun σ H Q => Asr Z ρ O σ H∧XC Z.K O H Φ Q
def UE (Z:Zx) (ρ:List (Option T)) (O:AJ) (Φ:HM):TT:=fun σ H Q => Asr Z ρ O σ H∧AccT Z.K O H Φ Q
def WE (Z:Zx) (ρ:List (Option T)) (O:AJ) (e:Expr) (Φ:Bb):Prop:=PE Z.X e (tW Z ρ O Φ)
def WA (Z:Zx) (ρ:List (Option T)) (O:AJ) (es:List Expr) (Φ:Kw):Prop:=PA Z.X es (Xb Z ρ O Φ)
def WT (Z:Zx) (ρ:List (Option T)) (O:AJ) (e:Expr) (Φ:HM):Prop:=PT Z.X e (UE Z ρ O Φ)
def WW (Z:Zx) (ρ:List (Option T)) (O:AJ) (e:Expr) (Φ:HM):Prop:=PW Z.X e (UE Z ρ O Φ)
def ET (Z:Zx) (ρ:List (Option T)) (O:AJ) (e:Expr) (t:T):Prop:=∀ Φ:Bb,Φ t O→WE Z ρ O e Φ
def EA (Z:Zx) (ρ:List (Option T)) (O:AJ) (es:List Expr) (ts:List T):Prop:=∀ Φ:Kw,Φ ts O→WA Z ρ O es Φ
def EB (Z:Zx) (ρ:List (Option T)) (O:AJ) (e:Expr) (b:Bool):Prop:=∀ Φ:HM,Φ b O→WT Z ρ O e Φ
theorem PE.weak {X:Cx} {e:Expr} {t t':TE} (h:PE X e t) (w:∀ σ H Q,t' σ H Q→t σ H Q):PE X e t':=fun pins s σ H Q I q => h pins s σ H Q I (w σ H Q q)
theorem PA.weak {X:Cx} {e:List Expr} {t t':TA} (h:PA X e t) (w:∀ σ H Q,t' σ H Q→t σ H Q):PA X e t':=fun pos pins s σ H Q I q => h pos pins s σ H Q I (w σ H Q q)
theorem PT.weak {X:Cx} {e:Expr} {t t':TT} (h:PT X e t) (w:∀ σ H Q,t' σ H Q→t σ H Q):PT X e t':=fun pins s σ H Q I q => h pins s σ H Q I (w σ H Q q)
theorem PW.weak {X:Cx} {e:Expr} {t t':TT} (h:PW X e t) (w:∀ σ H Q,t' σ H Q→t σ H Q):PW X e t':=fun whole pins s σ H Q I q => h whole pins s σ H Q I (w σ H Q q)
theorem PS.weak {X:Cx} {e:Stmt} {t t':TS} (h:PS X e t) (w:∀ D σ H,t' D σ H→t D σ H):PS X e t':=fun pins s σ H D I q => h pins s σ H D I (w D σ H q)
theorem PSs.weak {X:Cx} {e:List Stmt} {t t':TS} (h:PSs X e t) (w:∀ D σ H,t' D σ H→t D σ H):PSs X e t':=fun pins s σ H D I q => h pins s σ H D I (w D σ H q)
def tX (Z:Zx) (ρ:List (Option T)) (e:Expr):TE:=fun σ H Q => ∃ O Φ,WE Z ρ O e Φ∧tW Z ρ O Φ σ H Q
theorem BT {Z:Zx} {ρ:List (Option T)} {e:Expr}:PE Z.X e (tX Z ρ e):=fun pins s σ H Q I ⟨_,_,w,q⟩ => w pins s σ H Q I q
def Xz (Z:Zx) (ρ:List (Option T)) (e:List Expr):TA:=fun σ H Q => ∃ O Φ,WA Z ρ O e Φ∧Xb Z ρ O Φ σ H Q
theorem Ie {Z:Zx} {ρ:List (Option T)} {e:List Expr}:PA Z.X e (Xz Z ρ e):=fun pos pins s σ H Q I ⟨_,_,w,q⟩ => w pos pins s σ H Q I q
def YA (Z:Zx) (ρ:List (Option T)) (e:Expr):TT:=fun σ H Q => ∃ O Φ,WW Z ρ O e Φ∧UE Z ρ O Φ σ H Q
theorem Uq {Z:Zx} {ρ:List (Option T)} {e:Expr}:PW Z.X e (YA Z ρ e):=fun whole pins s σ H Q I ⟨_,_,w,q⟩ => w whole pins s σ H Q I q
section
variable {Z:Zx} {ρ:List (Option T)} {O:AJ} {e a b:Expr} {es:List Expr} {Φ Φ':Bb} {pos:Pos} {t ta tb:T} {ts:List T}
theorem Acc.mono {K:PySem.W.Frag} {H:Hp} {Q:VK} (h:Acc K O H Φ' Q) (w:∀ t O',Φ t O'→Φ' t O'):Acc K O H Φ Q:=fun v H' t O' p => h v H' t O' (w t O' p)
theorem Acc.step {K:PySem.W.Frag} {H H1:Hp} {O1:AJ} {Q:VK} (h:Acc K O H Φ Q) (f:Frm K O H O1 H1):Acc K O1 H1 Φ Q:=fun v H' t O' p f' r => h v H' t O' p (f.trans f') r
theorem AccT.step {K:PySem.W.Frag} {H H1:Hp} {O1:AJ} {Φ:HM} {Q:Bool→Hp→Prop} (h:AccT K O H Φ Q) (f:Frm K O H O1 H1):AccT K O1 H1 Φ Q:=fun v H' O' p f' => h v H' O' p (f.trans f')
theorem Bq (h:WE Z ρ O e Φ) (w:∀ t O',Φ t O'→Φ' t O'):WE Z ρ O e Φ':=PE.weak h fun _ _ _ q => ⟨q.1,q.2.mono w⟩
theorem ET.we (h:ET Z ρ O e t) (p:Φ t O):WE Z ρ O e Φ:=h Φ p
theorem Sj {i:Nat} {x:Str} (hN:Z.X.N[i]? = some x) (hv:Rr Z.X.env.scope x) (e:ρ[i]? = some (some t)) (p:Φ t O) (hd:(x == ("__debug__" : Str)) = false:=by decide) (hcd:(x == ("__classdict__" : Str)) = false:=by decide):WE Z ρ O (.Name x pos) Φ :=
 PE.weak (JU hN hv hd hcd) fun σ H Q q => by
  obtain ⟨v,h1,h2⟩:=q.1.rl.2 i t e
  exact ⟨v,h1,q.2 v H t O p q.1.refl h2⟩
theorem ev (i:Nat) {x:Str} (e:ρ[i]? = some (some t):=by rfl) (hN:Z.X.N[i]? = some x:=by rfl) (hv:Rr Z.X.env.scope x:=by first | exact Or.inl rfl | exact Or.inr (Or.inl rfl) | exact Or.inr (Or.inr rfl)) (hd:(x == ("__debug__" : Str)) = false:=by decide)
  (hcd:(x == ("__classdict__" : Str)) = false:=by decide):ET Z ρ O (.Name x pos) t:=fun _ p => Sj hN hv e p hd hcd
theorem ME {v:V} (h:PE Z.X e (tC v)) (r:∀ O H,Rep Z.K O H v t):ET Z ρ O e t:=fun _ p => PE.weak h fun _ H _ q => q.2 v H _ O p q.1.refl (r O H)
theorem AB {i:Int} {j:Nat}:ET Z ρ O (.Constant (.int i) j pos) (.int i):=ME JV fun _ _ => .int i
theorem FV {i:Bool} {j:Nat}:ET Z ρ O (.Constant (.bool i) j pos) (.bl i):=ME MW fun _ _ => .bl i
theorem BN {j:Nat}:ET Z ρ O (.Constant .none j pos) .non:=ME Rt fun _ _ => .non
theorem FW {x:Str} {j:Nat}:ET Z ρ O (.Constant (.str x) j pos) (.str x):=ME Ba fun _ _ => .str x
theorem HN {x:Str} {i:Int} (hm:∃ t:Tok,Z.X.mg x = some (.int i t)) (hg:Gl Z.X x:=by rfl) (hd:(x == ("__debug__" : Str)) = false:=by decide):ET Z ρ O (.Name x pos) (.int i):=by
 cases hm with
 | intro t hm => exact ME (Bc (v:=.int i) hg hm ⟨t,rfl⟩ hd) fun _ _ => .int i
theorem Ur {x:Str} {n:String} (hm:Z.X.mg x = none) (hv:bootBuiltins x = some (.type n)) (hg:Gl Z.X x:=by rfl) (hn:x≠"__name__":=by decide) (hd:(x == ("__debug__" : Str)) = false:=by decide):ET Z ρ O (.Name x pos) (.raw (.ty n)) :=
 ME (KY (v:=.ty n) hg hm hv rfl hn hd) fun _ _ => .raw _
def RT (K:PySem.W.Frag) (r:R2) (ta tb:T) (O:AJ) (Φ:Bb):Prop:=∀ H v w Q,OwnOk K O H→Rep K O H v ta→Rep K O H w tb→Acc K O H Φ Q→r v w H Q
def RP (K:PySem.W.Frag) (r:R2) (ta tb:T) (O:AJ) (t:T):Prop:=∀ Φ:Bb,Φ t O→RT K r ta tb O Φ
theorem HP {r:R2} {σ:St} {H:Hp} {Q:VK} (q:tW Z ρ O Φ σ H Q) (h:WE Z ρ O a fun ta O1 => WE Z ρ O1 b fun tb O2 => RT Z.K r ta tb O2 Φ):US r (tX Z ρ a) (tX Z ρ b) σ H Q :=
 ⟨O,_,h,q.1,fun v H1 ta O1 p f1 r1 => ⟨O1,_,p,q.1.step f1,fun w H2 tb O2 p2 f2 r2 => p2 H2 v w Q f2.ok (r1.kp f2.kp f1.ok) r2 (q.2.step (f1.trans f2))⟩⟩
theorem Cp {op:Operator} {r:R2} (ho:DA Z.X (binaryOp op) r) (h:WE Z ρ O a fun ta O1 => WE Z ρ O1 b fun tb O2 => RT Z.K r ta tb O2 Φ):WE Z ρ O (.BinOp a op b pos) Φ :=
 PE.weak (RB ho BT BT) fun _ _ _ q => HP q h
theorem NU {op:CmpOp} {r:R2} (ho:DA Z.X (compareOp op) r) (hm:behindInMarks op b = false) (h:WE Z ρ O a fun ta O1 => WE Z ρ O1 b fun tb O2 => RT Z.K r ta tb O2 Φ):WE Z ρ O (.Compare a [op] [b] pos) Φ :=
 PE.weak (Ph ho BT BT hm) fun _ _ _ q => HP q h
theorem FX {op:Operator} {r:R2} (ho:DA Z.X (binaryOp op) r) (hp:RP Z.K r ta tb O t) (ha:ET Z ρ O a ta) (hb:ET Z ρ O b tb):ET Z ρ O (.BinOp a op b pos) t:=fun Φ p => Cp ho (ha _ (hb _ (hp Φ p)))
theorem Jy {op:CmpOp} {r:R2} (ho:DA Z.X (compareOp op) r) (hm:behindInMarks op b = false) (hp:RP Z.K r ta tb O t) (ha:ET Z ρ O a ta) (hb:ET Z ρ O b tb):ET Z ρ O (.Compare a [op] [b] pos) t:=fun Φ p => NU ho hm (ha _ (hb _ (hp Φ p)))
theorem Ig {r:R2} (ho:Ud Z.X r) (hs:DC b) (h:WE Z ρ O a fun ta O1 => WE Z ρ O1 b fun tb O2 => RT Z.K r ta tb O2 Φ):WE Z ρ O (.Subscript a b pos) Φ :=
 PE.weak (Mr ho BT BT hs) fun _ _ _ q => HP q h
theorem NV {r:R2} (ho:Ud Z.X r) (hs:DC b) (hp:RP Z.K r ta tb O t) (ha:ET Z ρ O a ta) (hb:ET Z ρ O b tb):ET Z ρ O (.Subscript a b pos) t:=fun Φ p => Ig ho hs (ha _ (hb _ (hp Φ p)))
theorem Ay {Φ:Kw} (p:Φ [] O):WA Z ρ O [] Φ:=PA.weak Ae fun _ H _ q => q.2 [] H [] O p q.1.refl .nil
theorem CV {Φ:Kw} (h:WE Z ρ O e fun t O1 => WA Z ρ O1 es fun ts O2 => Φ (t :: ts) O2) (hs:starEach (e :: es) Z.X.env = (false,eval e Z.X.env) :: starEach es Z.X.env:=by rfl):WA Z ρ O (e :: es) Φ :=
 PA.weak (AH BT Ie hs) fun σ H Q q => ⟨O,_,h,q.1,fun v H1 t O1 p f1 r1 => ⟨O1,_,p,q.1.step f1,fun vs H2 ts O2 p2 f2 r2 => q.2 _ H2 _ O2 p2 (f1.trans f2) (.cons (r1.kp f2.kp f1.ok) r2)⟩⟩
theorem AC:EA Z ρ O [] []:=fun _ p => Ay p
theorem AS (h:ET Z ρ O e t) (hr:EA Z ρ O es ts) (hs:starEach (e :: es) Z.X.env = (false,eval e Z.X.env) :: starEach es Z.X.env:=by rfl):EA Z ρ O (e :: es) (t :: ts):=fun Φ p => CV (h _ (hr _ p)) hs
theorem HQ {x1} (h:WA Z ρ O es fun ts O1 => ts.length≤sizeLine∧Φ (.tup ts) O1):WE Z ρ O (.Tuple es x1 pos) Φ :=
 PE.weak (Gv h) fun σ H Q q => ⟨q.1,fun vs H1 ts O1 p f r => ⟨by rw [r.length]; exact p.1,fun a ha => q.2 _ _ _ O1 p.2 (f.trans (.new f.ok ha)) (.tup AK (r.kp (Bm f.ok ha) f.ok))⟩⟩
theorem At {x1} (h:EA Z ρ O es ts) (hl:ts.length≤sizeLine:=by first | (show 1≤sizeLine; decide) | (show 2≤sizeLine; decide) | (show 3≤sizeLine; decide) | (show 0≤sizeLine; decide)):ET Z ρ O (.Tuple es x1 pos) (.tup ts):=fun _ p => HQ (h _ ⟨hl,p⟩)
theorem Jz (h:WA Z ρ O es fun ts O1 => ts.length≤sizeLine∧Φ (.lst ts) O1):WE Z ρ O (.List es pos) Φ :=
 PE.weak (Ey h) fun σ H Q q => ⟨q.1,fun vs H1 ts O1 p f r => ⟨by rw [r.length]; exact p.1,fun a ha => q.2 _ _ _ O1 p.2 (f.trans (.new f.ok ha)) (.lst AK (f.ok.none_of ha) (r.kp (Bm f.ok ha) f.ok))⟩⟩
theorem BD (h:EA Z ρ O es ts) (hl:ts.length≤sizeLine):ET Z ρ O (.List es pos) (.lst ts):=fun _ p => Jz (h _ ⟨hl,p⟩)
theorem CW (h:WA Z ρ O es fun ts O1 => ts.length≤sizeLine∧∀ a,O1 a = none→Φ (.raw (.ref a)) (AZ O1 a ts)):WE Z ρ O (.List es pos) Φ :=
 PE.weak (Ey h) fun σ H Q q => ⟨q.1,fun vs H1 ts O1 p f r => ⟨by rw [r.length]; exact p.1,fun a ha => q.2 _ _ _ _ (p.2 a (f.ok.none_of ha)) (f.trans (.newO f.ok ha r)) (.raw _)⟩⟩
end
section
variable {K:PySem.W.Frag} {O:AJ} {H:Hp} {v:V}
theorem Rep.int_inv {i:Int} (r:Rep K O H v (.int i)):v = .int i:=by cases r; rfl
theorem Rep.bl_inv {i:Bool} (r:Rep K O H v (.bl i)):v = .bl i:=by cases r; rfl
theorem Rep.non_inv (r:Rep K O H v .non):v = .non:=by cases r; rfl
theorem Rep.raw_inv {i:V} (r:Rep K O H v (.raw i)):v = i:=by cases r; rfl
theorem Rep.tup_inv {ts:List T} (r:Rep K O H v (.tup ts)):∃ a xs,v = .ref a∧H a = some (.tup xs)∧Reps K O H xs ts:=by
 cases r with
 | tup h r => exact ⟨_,_,rfl,h,r⟩
theorem Rep.lst_inv {ts:List T} (r:Rep K O H v (.lst ts)):∃ a xs,v = .ref a∧H a = some (.lst xs)∧O a = none∧Reps K O H xs ts:=by
 cases r with
 | lst h o r => exact ⟨_,_,rfl,h,o,r⟩
theorem Reps.cons_inv {vs:List V} {t:T} {ts:List T} (r:Reps K O H vs (t :: ts)):∃ v vs',vs = v :: vs'∧Rep K O H v t∧Reps K O H vs' ts:=by
 cases r with
 | cons h r => exact ⟨_,_,rfl,h,r⟩
theorem Reps.nil_inv {vs:List V} (r:Reps K O H vs []):vs = []:=by cases r; rfl
theorem Reps.one_inv {vs:List V} {t:T} (r:Reps K O H vs [t]):∃ v,vs = [v]∧Rep K O H v t:=by
 obtain ⟨v,vs',rfl,h,r⟩:=r.cons_inv
 cases r.nil_inv
 exact ⟨v,rfl,h⟩
theorem Reps.two_inv {vs:List V} {t u:T} (r:Reps K O H vs [t,u]):∃ v w,vs = [v,w]∧Rep K O H v t∧Rep K O H w u:=by
 obtain ⟨v,vs',rfl,h,r⟩:=r.cons_inv
 obtain ⟨w,rfl,h2⟩:=r.one_inv
 exact ⟨v,w,rfl,h,h2⟩
theorem Reps.ints:∀ {vs:List V} {ns:List Int},Reps K O H vs (ns.map T.int)→vs = ns.map V.int
 | _,[],r => r.nil_inv
 | _,n :: ns,r => by
  obtain ⟨v,vs',rfl,h,r⟩:=Reps.cons_inv r
  rw [h.int_inv,Reps.ints r]
  rfl
end
section
variable {Z:Zx} {ρ:List (Option T)} {O:AJ} {e a b c:Expr} {es:List Expr} {Φ Φ':Bb} {pos:Pos} {t ta tb:T} {ts:List T} {K:PySem.W.Frag} {i j:Int}
theorem Dn {g:Int→Int→Int}:RP K (Me fun i j => .int (g i j)) (.int i) (.int j) O (.int (g i j)):=fun Φ p H v w Q ok r1 r2 q => ⟨i,j,r1.int_inv,r2.int_inv,q _ H _ O p (.refl ok) (.int _)⟩
theorem EU {g:Int→Int→Bool}:RP K (Me fun i j => .bl (g i j)) (.int i) (.int j) O (.bl (g i j)):=fun Φ p H v w Q ok r1 r2 q => ⟨i,j,r1.int_inv,r2.int_inv,q _ H _ O p (.refl ok) (.bl _)⟩
theorem QE {C:Int→Int→Prop} {g:Int→Int→Int} (hc:C i j):RP K (rI C fun i j => .int (g i j)) (.int i) (.int j) O (.int (g i j)):=fun Φ p H v w Q ok r1 r2 q => ⟨i,j,r1.int_inv,r2.int_inv,hc,q _ H _ O p (.refl ok) (.int _)⟩
theorem BH (ha:ET Z ρ O a (.int i)) (hb:ET Z ρ O b (.int j)):ET Z ρ O (.BinOp a .Add b pos) (.int (i + j)):=FX Ci Dn ha hb
theorem BO (ha:ET Z ρ O a (.int i)) (hb:ET Z ρ O b (.int j)):ET Z ρ O (.BinOp a .Sub b pos) (.int (i - j)):=FX SI Dn ha hb
theorem EE (ha:ET Z ρ O a (.int i)) (hb:ET Z ρ O b (.int j)) (h:CMul i j):ET Z ρ O (.BinOp a .Mult b pos) (.int (i * j)):=FX SJ (QE h) ha hb
theorem Ej (ha:ET Z ρ O a (.int i)) (hb:ET Z ρ O b (.int j)) (h:UV i j):ET Z ρ O (.BinOp a .FloorDiv b pos) (.int (i / j)):=FX Pf (QE h) ha hb
theorem EF (ha:ET Z ρ O a (.int i)) (hb:ET Z ρ O b (.int j)) (h:0 < j):ET Z ρ O (.BinOp a .Mod b pos) (.int (i % j)):=FX SK (QE h) ha hb
theorem KA (ha:ET Z ρ O a (.int i)) (hb:ET Z ρ O b (.int j)) (h:UW i j):ET Z ρ O (.BinOp a .Pow b pos) (.int (i ^ j.toNat)):=FX SL (QE h) ha hb
theorem Us (ha:ET Z ρ O a (.int i)) (hb:ET Z ρ O b (.int j)):ET Z ρ O (.Compare a [.Lt] [b] pos) (.bl (decide (i < j))):=Jy Mh (Ak _) EU ha hb
theorem Ut (ha:ET Z ρ O a (.int i)) (hb:ET Z ρ O b (.int j)):ET Z ρ O (.Compare a [.GtE] [b] pos) (.bl (decide (j≤i))):=Jy RC (Ak _) EU ha hb
theorem NW:RP K XX (.int i) (.int j) O (.bl (decide (i = j))):=fun Φ p H v w Q ok r1 r2 q => by
 cases r1.int_inv; cases r2.int_inv
 refine ⟨rfl,?_⟩
 have:decide (V.int i = V.int j) = decide (i = j):=by simp
 rw [this]
 exact q _ H _ O p (.refl ok) (.bl _)
theorem Sk:RP K Wq (.int i) (.int j) O (.bl (!decide (i = j))):=fun Φ p H v w Q ok r1 r2 q => by
 cases r1.int_inv; cases r2.int_inv
 refine ⟨rfl,?_⟩
 have:decide (V.int i = V.int j) = decide (i = j):=by simp
 rw [this]
 exact q _ H _ O p (.refl ok) (.bl _)
theorem Sl {x y:Bool}:RP K Wq (.bl x) (.bl y) O (.bl (!(x == y))):=fun Φ p H v w Q ok r1 r2 q => by
 cases r1.bl_inv; cases r2.bl_inv
 refine ⟨rfl,?_⟩
 have:decide (V.bl x = V.bl y) = (x == y):=JZ
 rw [this]
 exact q _ H _ O p (.refl ok) (.bl _)
theorem Uu {op:UnaryOp} {g:Int→Int} (ho:WM Z.X (unaryOp op) (rU fun i => .int (g i))) (h:ET Z ρ O a (.int i)):ET Z ρ O (.UnaryOp op a pos) (.int (g i)):=fun Φ p =>
 PE.weak (UT ho BT) fun σ H Q q => ⟨O,_,h (fun t O' => t = .int i∧O' = O) ⟨rfl,rfl⟩,q.1,fun v H1 t O1 ⟨e1,e2⟩ f r => by
  subst e1; subst e2
  exact ⟨i,r.int_inv,q.2 _ H1 _ _ p f (.int _)⟩⟩
theorem NX (h:ET Z ρ O a (.int i)):ET Z ρ O (.UnaryOp .USub a pos) (.int (-i)):=Uu SM h
theorem NY {op op':CmpOp} {r r':R2} {tc:T} {x y:Bool} (ho:DA Z.X (compareOp op) r) (ho':DA Z.X (compareOp op') r') (hp:RP Z.K r ta tb O (.bl x)) (hp':x = true→RP Z.K r' tb tc O (.bl y))
  (ha:ET Z ρ O a ta) (hb:ET Z ρ O b tb) (hc:x = true→ET Z ρ O c tc) (hm:lastMarks [op,op'] [b,c] = false:=by with_unfolding_all rfl):ET Z ρ O (.Compare a [op,op'] [b,c] pos) (.bl (x && y)):=fun Φ p =>
 by
 refine PE.weak (Mj ho ho' (BT (ρ:=ρ)) (BT (ρ:=ρ)) (BT (ρ:=ρ)) hm) fun σ H Q q => ?_
 refine ⟨O,_,ha (fun t O' => t = ta∧O' = O) ⟨rfl,rfl⟩,q.1,?_⟩
 rintro v H1 _ _ ⟨rfl,rfl⟩ f1 r1
 refine ⟨_,_,hb (fun t O' => t = tb∧O' = _) ⟨rfl,rfl⟩,q.1.step f1,?_⟩
 rintro w H2 _ _ ⟨rfl,rfl⟩ f2 r2
 refine hp (fun t O' => t = .bl x∧O' = _) ⟨rfl,rfl⟩ H2 v w _ f2.ok (r1.kp f2.kp f1.ok) r2 ?_
 rintro z H3 _ _ ⟨rfl,rfl⟩ f3 r3
 refine ⟨x,r3.bl_inv,?_⟩
 cases x with
 | false => exact DO (q.2 _ H3 _ _ p (f1.trans (f2.trans f3)) (.bl _))
 | true =>
  refine Eb ⟨_,_,hc rfl (fun t O' => t = tc∧O' = _) ⟨rfl,rfl⟩,q.1.step (f1.trans (f2.trans f3)),?_⟩
  rintro w' H4 _ _ ⟨rfl,rfl⟩ f4 r4
  exact hp' rfl _ p H4 w w' _ f4.ok (r2.kp (f3.trans f4).kp f2.ok) r4 (q.2.step (f1.trans (f2.trans (f3.trans f4))))
def TruT (O:AJ):T→Bool→Prop
 | .non,k => k = false
 | .bl b,k => k = b
 | .int i,k => k = (i != 0)
 | .str y,k => y.length≤sizeLine∧k = ((y.length:Int) != 0)
 | .tup ts,k => k = !ts.isEmpty
 | .lst ts,k => k = !ts.isEmpty
 | .frz ts,k => k = !ts.isEmpty
 | .dct,_ => False
 | .raw (.ref a),k => ∃ ts,O a = some ts∧k = !ts.isEmpty
 | .raw _,_ => False
theorem Reps.isEmpty {vs:List V} {ts:List T} {H:Hp} (r:Reps K O H vs ts):vs.isEmpty = ts.isEmpty:=by cases r <;> rfl
theorem TruT.v {H:Hp} {v:V} {k:Bool} (h:TruT O t k) (r:Rep K O H v t) (ok:OwnOk K O H):Pi K v H k:=by
 cases r with
 | non => exact h
 | bl => exact h
 | int => exact h
 | str => exact h
 | tup h1 r =>
  have h:k = !_:=h
  exact .inr (.inl ⟨_,.inl (.inl h1),by rw [h,r.isEmpty]⟩)
 | lst h1 o r =>
  have h:k = !_:=h
  exact .inl ⟨_,.inl (.inl h1),by rw [h,r.isEmpty]⟩
 | frz h1 r =>
  have h:k = !_:=h
  exact .inl ⟨_,.inl (.inr ⟨_,h1⟩),by rw [h,r.isEmpty]⟩
 | dct => exact h.elim
 | raw v =>
  cases v with
  | ref a =>
   obtain ⟨ts,e,h⟩:=h
   obtain ⟨xs,h1,r⟩:=ok a ts e
   exact .inl ⟨xs,.inl (.inl h1),by rw [h,r.isEmpty]⟩
  | _ => exact h.elim
theorem Ih {Φ:HM} (h:WE Z ρ O e fun t O' => ∃ k,TruT O' t k∧Φ k O') (he:∀ whole,isTrue e Z.X.env whole = (do let v ← whole; standAt e.pos; holding [v] (truthy v)):=by intro _; rfl):WT Z ρ O e Φ :=
 PT.weak (IH BT he) fun σ H Q q => ⟨O,_,h,q.1,fun v H1 t O1 ⟨k,tr,p⟩ f r => ⟨k,tr.v r f.ok,q.2 k H1 O1 p f⟩⟩
theorem Ii {k:Bool} (h:ET Z ρ O e t) (tr:TruT O t k) (he:∀ whole,isTrue e Z.X.env whole = (do let v ← whole; standAt e.pos; holding [v] (truthy v)):=by intro _; rfl):EB Z ρ O e k:=fun Φ p => Ih (h _ ⟨k,tr,p⟩) he
theorem FY {k:Bool} (h:ET Z ρ O e (.bl k)) (he:∀ whole,isTrue e Z.X.env whole = (do let v ← whole; standAt e.pos; holding [v] (truthy v)):=by intro _; rfl):EB Z ρ O e k:=Ii h rfl he
theorem NZ {Φ:HM} {op:CmpOp} {r:R2} (ho:DA Z.X (compareOp op) r) (hm:behindInMarks op b = false) (h:WE Z ρ O a fun ta O1 => WE Z ρ O1 b fun tb O2 => RT Z.K r ta tb O2 fun t O3 => ∃ k,t = .bl k∧Φ k O3):WT Z ρ O (.Compare a [op] [b] pos) Φ :=
 PT.weak (Dh ho BT BT hm) fun σ H Q q => HP (Φ:=fun t O3 => ∃ k,t = .bl k∧Φ k O3) ⟨q.1,fun v H' t O' ⟨k,e,p⟩ f r => by
  subst e
  exact ⟨k,r.bl_inv,q.2 k H' O' p f⟩⟩ h
theorem BE {op:CmpOp} {r:R2} {k:Bool} (ho:DA Z.X (compareOp op) r) (hm:behindInMarks op b = false) (hp:RP Z.K r ta tb O (.bl k)) (ha:ET Z ρ O a ta) (hb:ET Z ρ O b tb):EB Z ρ O (.Compare a [op] [b] pos) k:=fun Φ p =>
 NZ ho hm (ha _ (hb _ (hp _ ⟨k,rfl,p⟩)))
theorem Ij (ha:ET Z ρ O a (.int i)) (hb:ET Z ρ O b (.int j)):EB Z ρ O (.Compare a [.Lt] [b] pos) (decide (i < j)):=BE Mh (Ak _) EU ha hb
theorem RM (ha:ET Z ρ O a (.int i)) (hb:ET Z ρ O b (.int j)):EB Z ρ O (.Compare a [.LtE] [b] pos) (decide (i≤j)):=BE Mi (Ak _) EU ha hb
theorem Uv (ha:ET Z ρ O a (.int i)) (hb:ET Z ρ O b (.int j)):EB Z ρ O (.Compare a [.Gt] [b] pos) (decide (j < i)):=BE UY (Ak _) EU ha hb
theorem RN (ha:ET Z ρ O a (.int i)) (hb:ET Z ρ O b (.int j)):EB Z ρ O (.Compare a [.GtE] [b] pos) (decide (j≤i)):=BE RC (Ak _) EU ha hb
theorem EG (ha:ET Z ρ O a (.int i)) (hb:ET Z ρ O b (.int j)):EB Z ρ O (.Compare a [.Eq] [b] pos) (decide (i = j)):=BE Kc (Ak _) NW ha hb
theorem Na (ha:ET Z ρ O a (.int i)) (hb:ET Z ρ O b (.int j)):EB Z ρ O (.Compare a [.NotEq] [b] pos) (!decide (i = j)):=BE Mf (Ak _) Sk ha hb
theorem Sm {x y:Bool} (ha:ET Z ρ O a (.bl x)) (hb:ET Z ρ O b (.bl y)):EB Z ρ O (.Compare a [.NotEq] [b] pos) (!(x == y)):=BE Mf (Ak _) Sl ha hb
theorem QF {k:Int} (ha:ET Z ρ O a (.int i)) (hb:ET Z ρ O b (.int j)) (hc:ET Z ρ O c (.int k)) (hm:lastMarks [CmpOp.LtE,.LtE] [b,c] = false:=by with_unfolding_all rfl):ET Z ρ O (.Compare a [.LtE,.LtE] [b,c] pos) (.bl (decide (i≤j) && decide (j≤k))):=NY Mi Mi EU (fun _ => EU) ha hb (fun _ => hc) hm
theorem Nb {Φ:HM} (h:WT Z ρ O a fun k O' => Φ (!k) O'):WT Z ρ O (.UnaryOp .Not a pos) Φ:=PT.weak (MY h) fun σ H Q q => ⟨q.1,fun k H1 O1 p f => q.2 _ H1 O1 p f⟩
theorem DW {k:Bool} (h:EB Z ρ O a k):EB Z ρ O (.UnaryOp .Not a pos) (!k):=fun Φ p => Nb (h _ p)
def EW (Z:Zx) (ρ:List (Option T)) (O:AJ) (e:Expr) (b:Bool):Prop:=∀ Φ:HM,Φ b O→WW Z ρ O e Φ
theorem EW.eb {k:Bool} (h:EW Z ρ O e k):EB Z ρ O e k:=fun Φ p => (h Φ p).pt
theorem Kx {Φ:HM} (h:WT Z ρ O a Φ):WW Z ρ O (.BoolOp .And [a] pos) Φ:=Pb h
theorem Nc {Φ:HM} (h:WT Z ρ O a Φ):WW Z ρ O (.BoolOp .Or [a] pos) Φ:=MX h
theorem Nd {Φ:HM} (h:WT Z ρ O a fun k O1 => if k = true then WW Z ρ O1 (.BoolOp .And (b :: es) pos) Φ else Φ false O1):WW Z ρ O (.BoolOp .And (a :: b :: es) pos) Φ :=
 PW.weak (Ru h Uq) fun σ H Q q => ⟨q.1,fun k H1 O1 p f => by
  cases k with
  | true => rw [if_pos rfl] at p ⊢; exact ⟨O1,_,p,q.1.step f,q.2.step f⟩
  | false => rw [if_neg Bool.false_ne_true] at p ⊢; exact q.2 _ H1 O1 p f⟩
theorem RO {Φ:HM} (h:WT Z ρ O a fun k O1 => if k = true then Φ true O1 else WW Z ρ O1 (.BoolOp .Or (b :: es) pos) Φ):WW Z ρ O (.BoolOp .Or (a :: b :: es) pos) Φ :=
 PW.weak (Qz h Uq) fun σ H Q q => ⟨q.1,fun k H1 O1 p f => by
  cases k with
  | true => rw [if_pos rfl] at p ⊢; exact q.2 _ H1 O1 p f
  | false => rw [if_neg Bool.false_ne_true] at p ⊢; exact ⟨O1,_,p,q.1.step f,q.2.step f⟩⟩
theorem Do {k:Bool} (h:EB Z ρ O a k):EW Z ρ O (.BoolOp .And [a] pos) k:=fun Φ p => Kx (h _ p)
theorem FZ {k:Bool} (h:EB Z ρ O a k):EW Z ρ O (.BoolOp .Or [a] pos) k:=fun Φ p => Nc (h _ p)
theorem DX {x y:Bool} (ha:EB Z ρ O a x) (hb:x = true→EW Z ρ O (.BoolOp .And (b :: es) pos) y):EW Z ρ O (.BoolOp .And (a :: b :: es) pos) (x && y):=fun Φ p => Nd (ha _ (by
 cases x with
 | true => rw [if_pos rfl]; exact hb rfl _ p
 | false => rw [if_neg Bool.false_ne_true]; exact p))
theorem Fa {x y:Bool} (ha:EB Z ρ O a x) (hb:x = false→EW Z ρ O (.BoolOp .Or (b :: es) pos) y):EW Z ρ O (.BoolOp .Or (a :: b :: es) pos) (x || y):=fun Φ p => RO (ha _ (by
 cases x with
 | true => rw [if_pos rfl]; exact p
 | false => rw [if_neg Bool.false_ne_true]; exact hb rfl _ p))
theorem KB {op} (h:ET Z ρ O a t):ET Z ρ O (.BoolOp op [a] pos) t:=fun Φ p => Rv (h Φ p)
theorem Sn {x y:Bool} (ha:ET Z ρ O a (.bl x)) (hb:x = true→ET Z ρ O (.BoolOp .And (b :: es) pos) (.bl y)):ET Z ρ O (.BoolOp .And (a :: b :: es) pos) (.bl (x && y)):=fun Φ p =>
 by
 refine PE.weak (Rw (BT (ρ:=ρ)) (BT (ρ:=ρ))) fun σ H Q q => ?_
 refine ⟨O,_,ha (fun t O' => t = .bl x∧O' = O) ⟨rfl,rfl⟩,q.1,?_⟩
 rintro v H1 _ _ ⟨rfl,rfl⟩ f r
 refine ⟨x,r.bl_inv,?_⟩
 cases x with
 | true => exact Eb ⟨_,_,hb rfl _ p,q.1.step f,q.2.step f⟩
 | false => exact DO (q.2 _ H1 _ _ p f (.bl _))
theorem So {x:Bool} (ha:ET Z ρ O a (.bl x)):ET Z ρ O (.UnaryOp .Not a pos) (.bl (!x)):=fun Φ p =>
 PE.weak (Rx BT) fun σ H Q q => ⟨O,_,ha (fun t O' => t = .bl x∧O' = O) ⟨rfl,rfl⟩,q.1,fun v H1 t O1 ⟨e1,e2⟩ f r => by
  subst e1; subst e2
  exact ⟨x,r.bl_inv,q.2 _ H1 _ _ p f (.bl _)⟩⟩
theorem Uw (h:WT Z ρ O c fun k O1 => if k = true then WE Z ρ O1 a Φ else WE Z ρ O1 b Φ):WE Z ρ O (.IfExp c a b pos) Φ :=
 PE.weak (MZ h BT BT) fun σ H Q q => ⟨q.1,fun k H1 O1 p f => by
  cases k with
  | true => rw [if_pos rfl] at p ⊢; exact ⟨O1,_,p,q.1.step f,q.2.step f⟩
  | false => rw [if_neg Bool.false_ne_true] at p ⊢; exact ⟨O1,_,p,q.1.step f,q.2.step f⟩⟩
theorem Ky {x:Bool} (hc:EB Z ρ O c x) (ha:x = true→ET Z ρ O a ta) (hb:x = false→ET Z ρ O b tb):ET Z ρ O (.IfExp c a b pos) (if x = true then ta else tb):=fun Φ p => Uw (hc _ (by
 cases x with
 | true => rw [if_pos rfl] at p ⊢; exact ha rfl _ p
 | false => rw [if_neg Bool.false_ne_true] at p ⊢; exact hb rfl _ p))
theorem Reps.atI {vs:List V} {H:Hp} (r:Reps K O H vs ts) (e:L2.atI ts i = some t):∃ v,L2.atI vs i = some v∧Rep K O H v t:=by
 unfold L2.atI at e ⊢
 rw [r.length]
 cases hx:Mq ts.length i with
 | none => rw [hx] at e; cases e
 | some j => rw [hx] at e; exact r.get e
theorem Sq (e:atI ts i = some t):RP K (Ue K) (.tup ts) (.int i) O t:=fun Φ p H v w Q ok r1 r2 q => by
 obtain ⟨a,xs,rfl,h1,r1⟩:=r1.tup_inv
 obtain ⟨x,ex,rx⟩:=r1.atI e
 exact ⟨a,xs,i,x,rfl,r2.int_inv,.inl (.inl h1),ex,q _ H _ O p (.refl ok) rx⟩
theorem Fb (e:atI ts i = some t):RP K (SQ K) (.lst ts) (.int i) O t:=fun Φ p H v w Q ok r1 r2 q => by
 obtain ⟨a,xs,rfl,h1,o1,r1⟩:=r1.lst_inv
 obtain ⟨x,ex,rx⟩:=r1.atI e
 exact ⟨a,xs,i,x,rfl,r2.int_inv,.inl (.inl h1),ex,q _ H _ O p (.refl ok) rx⟩
theorem Sr {a:Addr} (ha:O a = some ts) (e:atI ts i = some t):RP K (SQ K) (.raw (.ref a)) (.int i) O t:=fun Φ p H v w Q ok r1 r2 q => by
 cases r1.raw_inv
 obtain ⟨xs,h1,r1⟩:=ok a ts ha
 obtain ⟨x,ex,rx⟩:=r1.atI e
 exact ⟨a,xs,i,x,rfl,r2.int_inv,.inl (.inl h1),ex,q _ H _ O p (.refl ok) rx⟩
theorem BF (ha:ET Z ρ O a (.tup ts)) (hb:ET Z ρ O b (.int i)) (e:atI ts i = some t:=by rfl) (hs:DC b:=by exact fun _ _ => rfl):ET Z ρ O (.Subscript a b pos) t:=NV SR hs (Sq e) ha hb
theorem EH (ha:ET Z ρ O a (.lst ts)) (hb:ET Z ρ O b (.int i)) (e:atI ts i = some t:=by rfl) (hs:DC b:=by exact fun _ _ => rfl):ET Z ρ O (.Subscript a b pos) t:=NV Bo hs (Fb e) ha hb
theorem CY {p:Addr} (hp:O p = some ts) (ha:ET Z ρ O a (.raw (.ref p))) (hb:ET Z ρ O b (.int i)) (e:atI ts i = some t:=by rfl) (hs:DC b:=by exact fun _ _ => rfl):ET Z ρ O (.Subscript a b pos) t:=NV Bo hs (Sr hp e) ha hb
end
abbrev Ch:=List T→AJ→Bb→(Value→AJ→Prop)→Prop
def DH (K:PySem.W.Frag) (s:Ch):Sp:=fun vs H Q E => ∃ ts O Φ Ξ,Reps K O H vs ts∧OwnOk K O H∧s ts O Φ Ξ∧Acc K O H Φ Q∧∀ cls O' H',Ξ cls O'→Frm K O H O' H'→E cls none H'
structure FnT (P:Program) (w:World) (K:PySem.W.Frag) (mg:Str→Option Value) (base:Heap) (x:Str) (k:Nat) (ps:List Str) (s:Ch):Prop where
 ex:∃ f fd,FnOk P w K mg base (CXe P w) k f fd ps (DH K s)∧mg x = some (.ref f)∧PySem.W.keepIn K (.ref f) = true∧Binds K fd ps []
def PV (φ:List T→T→Prop):Ch:=fun ts O Φ _ => ∃ t,φ ts t∧Φ t O
section
variable {Z:Zx} {ρ:List (Option T)} {O:AJ} {e a b c:Expr} {es:List Expr} {Φ Φ':Bb} {pos p:Pos} {t ta tb:T} {ts:List T} {K:PySem.W.Frag} {i j:Int} {x:Str}
theorem AR {k:Nat} {ps:List Str} {s:Ch} (G:FnT Z.X.prog Z.X.w Z.X.K Z.X.mg Z.X.base x k ps s) (hr:Room k Z.X.A) (xf:XFly Z.X Z.W) (h:WA Z ρ O (e :: es) fun ts O1 => s ts O1 Φ Z.Xi) (hg:Gl Z.X x:=by rfl)
  (hdb:(x == ("__debug__" : Str)) = false:=by decide) (he:starEach (e :: es) Z.X.env = (false,eval e Z.X.env) :: starEach es Z.X.env:=by rfl) (hpl:(backTo pos (starEach es Z.X.env)).any (·.1) = false:=by rfl):WE Z ρ O (.Call (.Name x p) (e :: es) [] pos) Φ:=by
 obtain ⟨f,fd,F,hm,hk,hb⟩:=G.ex
 refine PE.weak (IP xf F hr hg hm hk hb (Ie (ρ:=ρ)) hdb he hpl) fun σ H Q q => ?_
 exact ⟨O,_,h,q.1,fun vs H1 ts O1 p f r => ⟨ts,O1,Φ,Z.Xi,r,f.ok,p,q.2.step f,fun cls O' H' x f' => ⟨rfl,O',x,(q.1.fr.trans f).trans f'⟩⟩⟩
theorem DI {k:Nat} {ps:List Str} {s:Ch} (G:FnT Z.X.prog Z.X.w Z.X.K Z.X.mg Z.X.base x k ps s) (hr:Room k Z.X.A) (xf:XFly Z.X Z.W) (h:EA Z ρ O (e :: es) ts) (hs:∀ Φ:Bb,Φ t O→s ts O Φ Z.Xi) (hg:Gl Z.X x:=by rfl)
  (hdb:(x == ("__debug__" : Str)) = false:=by decide) (he:starEach (e :: es) Z.X.env = (false,eval e Z.X.env) :: starEach es Z.X.env:=by rfl) (hpl:(backTo pos (starEach es Z.X.env)).any (·.1) = false:=by rfl):ET Z ρ O (.Call (.Name x p) (e :: es) [] pos) t :=
 fun Φ p => AR G hr xf (h _ (hs Φ p)) hg hdb he hpl
theorem BP {k:Nat} {ps:List Str} {φ:List T→T→Prop} (G:FnT Z.X.prog Z.X.w Z.X.K Z.X.mg Z.X.base x k ps (PV φ)) (hr:Room k Z.X.A) (xf:XFly Z.X Z.W) (h:EA Z ρ O (e :: es) ts) (hs:φ ts t) (hg:Gl Z.X x:=by rfl)
  (hdb:(x == ("__debug__" : Str)) = false:=by decide) (he:starEach (e :: es) Z.X.env = (false,eval e Z.X.env) :: starEach es Z.X.env:=by rfl) (hpl:(backTo pos (starEach es Z.X.env)).any (·.1) = false:=by rfl):ET Z ρ O (.Call (.Name x p) (e :: es) [] pos) t :=
 DI G hr xf h (fun Φ p => ⟨t,hs,p⟩) hg hdb he hpl
def CT (K:PySem.W.Frag) (r:List V→Hp→VK→Prop) (ts:List T) (O:AJ) (Φ:Bb):Prop:=∀ H vs Q,OwnOk K O H→Reps K O H vs ts→Acc K O H Φ Q→r vs H Q
def CP (K:PySem.W.Frag) (r:List V→Hp→VK→Prop) (ts:List T) (O:AJ) (t:T):Prop:=∀ Φ:Bb,Φ t O→CT K r ts O Φ
theorem Ik {id:String} {r:List V→Hp→VK→Prop} (hc:BL Z.X (.builtin id) r) (hm:Z.X.mg x = none) (hv:bootBuiltins x = some (.builtin id)) (h:WA Z ρ O (e :: es) fun ts O1 => CT Z.K r ts O1 Φ) (hg:Gl Z.X x:=by rfl) (hn:x≠"__name__":=by decide) (hdb:(x == ("__debug__" : Str)) = false:=by decide)
  (he:starEach (e :: es) Z.X.env = (false,eval e Z.X.env) :: starEach es Z.X.env:=by rfl) (hpl:(backTo pos (starEach es Z.X.env)).any (·.1) = false:=by rfl):WE Z ρ O (.Call (.Name x p) (e :: es) [] pos) Φ :=
 PE.weak (An hc hg hm hv (Ie (ρ:=ρ)) hn hdb he hpl) fun σ H Q q => ⟨O,_,h,q.1,fun vs H1 ts O1 p f r => p H1 vs Q f.ok r (q.2.step f)⟩
theorem EJ {id:String} {r:List V→Hp→VK→Prop} (hc:BL Z.X (.type id) r) (hm:Z.X.mg x = none) (hv:bootBuiltins x = some (.type id)) (h:WA Z ρ O (e :: es) fun ts O1 => CT Z.K r ts O1 Φ) (hg:Gl Z.X x:=by rfl) (hn:x≠"__name__":=by decide) (hdb:(x == ("__debug__" : Str)) = false:=by decide)
  (he:starEach (e :: es) Z.X.env = (false,eval e Z.X.env) :: starEach es Z.X.env:=by rfl) (hpl:(backTo pos (starEach es Z.X.env)).any (·.1) = false:=by rfl):WE Z ρ O (.Call (.Name x p) (e :: es) [] pos) Φ :=
 PE.weak (Dv hc hg hm hv (Ie (ρ:=ρ)) hn hdb he hpl) fun σ H Q q => ⟨O,_,h,q.1,fun vs H1 ts O1 p f r => p H1 vs Q f.ok r (q.2.step f)⟩
theorem Bn {id:String} {r:List V→Hp→VK→Prop} (hc:BL Z.X (.builtin id) r) (hm:Z.X.mg x = none) (hv:bootBuiltins x = some (.builtin id)) (h:EA Z ρ O (e :: es) ts) (hp:CP Z.K r ts O t) (hg:Gl Z.X x:=by rfl) (hn:x≠"__name__":=by decide) (hdb:(x == ("__debug__" : Str)) = false:=by decide)
  (he:starEach (e :: es) Z.X.env = (false,eval e Z.X.env) :: starEach es Z.X.env:=by rfl) (hpl:(backTo pos (starEach es Z.X.env)).any (·.1) = false:=by rfl):ET Z ρ O (.Call (.Name x p) (e :: es) [] pos) t:=fun Φ q => Ik hc hm hv (h _ (hp Φ q)) hg hn hdb he hpl
theorem EK {id:String} {r:List V→Hp→VK→Prop} (hc:BL Z.X (.type id) r) (hm:Z.X.mg x = none) (hv:bootBuiltins x = some (.type id)) (h:EA Z ρ O (e :: es) ts) (hp:CP Z.K r ts O t) (hg:Gl Z.X x:=by rfl) (hn:x≠"__name__":=by decide) (hdb:(x == ("__debug__" : Str)) = false:=by decide)
  (he:starEach (e :: es) Z.X.env = (false,eval e Z.X.env) :: starEach es Z.X.env:=by rfl) (hpl:(backTo pos (starEach es Z.X.env)).any (·.1) = false:=by rfl):ET Z ρ O (.Call (.Name x p) (e :: es) [] pos) t:=fun Φ q => EJ hc hm hv (h _ (hp Φ q)) hg hn hdb he hpl
def MT (K:PySem.W.Frag) (ty:String) (r:V→List V→Hp→VK→Prop) (t:T) (ts:List T) (O:AJ) (Φ:Bb):Prop:=∀ H v vs Q,OwnOk K O H→Rep K O H v t→Reps K O H vs ts→Acc K O H Φ Q→r v vs H Q
def Xc (K:PySem.W.Frag) (ty:String) (O:AJ) (t:T):Prop:=∀ H v,OwnOk K O H→Rep K O H v t→Wv K ty v H
theorem Nf {o:Expr} {name:Str} {apos cpos:Pos} {ty id:String} {r:V→List V→Hp→VK→Prop} (pa:PlainAttrs ty) (slot:Slot ty name id) (hty:typeOf (.builtin id) = pure (.type "method_descriptor")) (hm:Xa Z.X id r)
  (h:WE Z ρ O o fun t O1 => Xc Z.K ty O1 t∧WA Z ρ O1 (e :: es) fun ts O2 => MT Z.K ty r t ts O2 Φ)
  (hbase:attributeBase o name Z.X.env (eval o Z.X.env) = eval o Z.X.env:=by rfl)
  (hfew:((backTo cpos (starEach (e :: es) Z.X.env)).all (fun x => !x.1) && (backToKw cpos (keywordEach [] Z.X.env)).all (fun x => x.1.isSome)
   && decide ((e :: es).length + ([]:List Keyword).length + (if ([]:List Keyword).isEmpty then 0 else 1) < 30)) = true:=by rfl)
  (hline:(apos.endLine == cpos.line) = true:=by rfl) (hs:starEach (e :: es) Z.X.env = (false,eval e Z.X.env) :: starEach es Z.X.env:=by rfl) (hplain:(backTo cpos (starEach es Z.X.env)).any (·.1) = false:=by rfl):WE Z ρ O (.Call (.Attribute o name apos) (e :: es) [] cpos) Φ :=
 PE.weak (Mt pa slot hty hm (BT (ρ:=ρ)) (Ie (ρ:=ρ)) hbase hfew hline hs hplain) fun σ H Q q => ⟨O,_,h,q.1,fun v H1 t O1 ⟨ty,p⟩ f1 r1 => ⟨ty H1 v f1.ok r1,O1,_,p,q.1.step f1,fun vs H2 ts O2 p2 f2 r2 =>
  p2 H2 v vs Q f2.ok (r1.kp f2.kp f1.ok) r2 (q.2.step (f1.trans f2))⟩⟩
theorem HR {a:Addr} (ha:O a = some ts):Xc K "list" O (.raw (.ref a)):=fun H v ok r => by
 cases r.raw_inv
 obtain ⟨xs,h,_⟩:=ok a ts ha
 exact .inl ⟨rfl,xs,.inl (.inl h)⟩
theorem KC {a:Addr} {u:T} (ha:O a = some ts) (hl:ts.length < sizeLine) (p:Φ .non (AZ O a (ts ++ [u]))):MT K "list" Kg (.raw (.ref a)) [u] O Φ:=fun H v vs Q ok r1 r2 q => by
 cases r1.raw_inv
 obtain ⟨w,rfl,r3⟩:=r2.one_inv
 obtain ⟨xs,h,r⟩:=ok a ts ha
 exact ⟨a,xs,w,rfl,rfl,h,by rw [r.length]; exact hl,q _ _ _ _ p (.put ok ha (r.append (.one r3))) .non⟩
theorem CD {o:Expr} {apos cpos:Pos} (h:WE Z ρ O o fun t O1 => ∃ a,t = .raw (.ref a)∧(∃ ts,O1 a = some ts)∧WE Z ρ O1 e fun u O2 => ∃ ts,O2 a = some ts∧ts.length < sizeLine∧Φ .non (AZ O2 a (ts ++ [u])))
  (hbase:attributeBase o "append" Z.X.env (eval o Z.X.env) = eval o Z.X.env:=by rfl)
  (hfew:((backTo cpos (starEach [e] Z.X.env)).all (fun x => !x.1) && (backToKw cpos (keywordEach [] Z.X.env)).all (fun x => x.1.isSome)
   && decide ([e].length + ([]:List Keyword).length + (if ([]:List Keyword).isEmpty then 0 else 1) < 30)) = true:=by rfl)
  (hline:(apos.endLine == cpos.line) = true:=by rfl) (hs:starEach [e] Z.X.env = (false,eval e Z.X.env) :: starEach [] Z.X.env:=by rfl) (hplain:(backTo cpos (starEach [] Z.X.env)).any (·.1) = false:=by rfl):WE Z ρ O (.Call (.Attribute o "append" apos) [e] [] cpos) Φ:=by
 refine Nf PySem.F.plainAttrs_list PySem.F.slot_list_append PySem.F.type_list_append GQ (Bq h ?_) hbase hfew hline hs hplain
 rintro t O1 ⟨a,rfl,⟨ts,hts⟩,w⟩
 refine ⟨HR hts,CV (Bq w ?_) hs⟩
 rintro u O2 ⟨us,h1,h2,p⟩
 exact Ay (KC h1 h2 p)
end
abbrev Il:=List (Option T)→AJ→Prop
structure Es where
 nx:Il
 rt:Bb
 bk:Il:=fun _ _ => False
 ct:Il:=fun _ _ => False
def AccN (Z:Zx) (O:AJ) (H:Hp) (N:Il) (D:St→Hp→Prop):Prop:=∀ ρ' O' σ' H',N ρ' O'→Asr Z ρ' O' σ' H'→Kp O H O' H'→D σ' H'
structure AccS (Z:Zx) (O:AJ) (H:Hp) (Ψ:Es) (D:Ends):Prop where
 nx:AccN Z O H Ψ.nx D.nx
 rt:∀ v H' t O',Ψ.rt t O'→Frm Z.K Z.Oe Z.He O' H'→Rep Z.K O' H' v t→D.rt v H'
 bk:AccN Z O H Ψ.bk D.bk
 ct:AccN Z O H Ψ.ct D.ct
def tS (Z:Zx) (ρ:List (Option T)) (O:AJ) (Ψ:Es):TS:=fun D σ H => Asr Z ρ O σ H∧AccS Z O H Ψ D
def WS (Z:Zx) (ρ:List (Option T)) (O:AJ) (s:Stmt) (Ψ:Es):Prop:=PS Z.X s (tS Z ρ O Ψ)
def DP (Z:Zx) (ρ:List (Option T)) (O:AJ) (s:List Stmt) (Ψ:Es):Prop:=PSs Z.X s (tS Z ρ O Ψ)
def YB (Z:Zx) (ss:List Stmt):TS:=fun D σ H => ∃ ρ O Ψ,DP Z ρ O ss Ψ∧tS Z ρ O Ψ D σ H
theorem Im {Z:Zx} {ss:List Stmt}:PSs Z.X ss (YB Z ss):=fun pins s σ H D I ⟨_,_,_,w,q⟩ => w pins s σ H D I q
section
variable {Z:Zx} {ρ:List (Option T)} {O O1:AJ} {e a b c:Expr} {es:List Expr} {Ψ:Es} {pos p:Pos} {t ta tb:T} {ts:List T} {i j:Nat} {x:Str} {s:Stmt} {ss:List Stmt} {H H1:Hp} {D:Ends}
theorem AccN.step {N:Il} {D:St→Hp→Prop} (h:AccN Z O H N D) (k:Kp O H O1 H1):AccN Z O1 H1 N D:=fun ρ' O' σ' H' n a k' => h ρ' O' σ' H' n a (k.trans k')
theorem AccS.step (h:AccS Z O H Ψ D) (k:Kp O H O1 H1):AccS Z O1 H1 Ψ D:=⟨h.nx.step k,h.rt,h.bk.step k,h.ct.step k⟩
theorem Al (h:Ψ.nx ρ O):DP Z ρ O [] Ψ:=PSs.weak Dg fun D σ H q => q.2.nx ρ O σ H h q.1 .refl
theorem AE (h:WS Z ρ O s { Ψ with nx:=fun ρ' O' => DP Z ρ' O' ss Ψ }):DP Z ρ O (s :: ss) Ψ :=
 PSs.weak (BX h Im) fun D σ H q => ⟨q.1,fun ρ' O' σ' H' w a k => ⟨ρ',O',Ψ,w,a,q.2.step k⟩,q.2.rt,q.2.bk,q.2.ct⟩
theorem AG (h:WS Z ρ O s Ψ):DP Z ρ O [s] Ψ:=PSs.weak (Bd h) fun _ _ _ q => q
theorem QG {Ψ':Es} (h:WS Z ρ O s Ψ) (n:∀ ρ' O',Ψ.nx ρ' O'→Ψ'.nx ρ' O') (r:∀ t O',Ψ.rt t O'→Ψ'.rt t O') (bk:∀ ρ' O',Ψ.bk ρ' O'→Ψ'.bk ρ' O') (ct:∀ ρ' O',Ψ.ct ρ' O'→Ψ'.ct ρ' O'):WS Z ρ O s Ψ' :=
 PS.weak h fun D σ H q => ⟨q.1,fun ρ' O' σ' H' w => q.2.nx ρ' O' σ' H' (n ρ' O' w),fun v H' t O' w => q.2.rt v H' t O' (r t O' w),fun ρ' O' σ' H' w => q.2.bk ρ' O' σ' H' (bk ρ' O' w),fun ρ' O' σ' H' w => q.2.ct ρ' O' σ' H' (ct ρ' O' w)⟩
theorem BQ {p:Addr} {n:Nat} (hp:O p = some ts) (he:Z.Oe p = none) (hn:ρ[n]? = some (some (.raw (.ref p)))) (h:DP Z (ρ.set n (some (.lst ts))) (Co O p) ss Ψ):DP Z ρ O ss Ψ:=PSs.weak h fun D σ H q => by
 refine ⟨⟨?_,⟨q.1.fr.kp.trans DG,fun b us e => ?_,q.1.ok.drop⟩⟩,q.2.step DG⟩
 ·have r1:=q.1.rl.kp (DG (a:=p)) q.1.ok
  obtain ⟨v,e1,e2⟩:=q.1.rl.2 n _ hn
  cases e2.raw_inv
  have r2:=r1.set (i:=n) (q.1.ok.rep hp)
  have:σ.set n (some (.ref p)) = σ:=by
   apply List.ext_getElem?
   intro m
   by_cases hm:m = n
   ·subst hm
    have hl:m < σ.length:=(List.getElem?_eq_some_iff.mp e1).1
    rw [List.getElem?_set_self hl,e1]
   ·rw [List.getElem?_set_ne (Ne.symm hm)]
  rw [this] at r2
  exact r2
 ·obtain ⟨us',e'⟩:=q.1.fr.own b us e
  have:b≠p:=fun z => by rw [z,he] at e; cases e
  exact ⟨us',by rw [Dm this]; exact e'⟩
theorem AW (h:WE Z ρ O e Ψ.rt):WS Z ρ O (.Return (some e) pos) Ψ:=PS.weak (CI h) fun D σ H q => ⟨q.1,fun v H' t O' p f r => q.2.rt v H' t O' p (q.1.fr.trans f) r⟩
theorem Aj (h:WE Z ρ O e fun _ O' => Ψ.nx ρ O') (hs:swapsWith e none pos.line Z.X.env = pure false:=by rfl):WS Z ρ O (.Expr e pos) Ψ :=
 PS.weak (Pc h hs) fun D σ H q => ⟨q.1,fun v H' t O' p f r => q.2.nx ρ O' σ H' p (q.1.step f) f.kp⟩
theorem AO (i:Nat) (h:WE Z ρ O e fun t O' => Ψ.nx (ρ.set i (some t)) O') (hN:Z.X.N.Nodup) {pos':Pos} (hi:Z.X.N[i]? = some x:=by rfl) (hx:IF Z.X.env.scope x:=by first | exact Or.inl rfl | exact Or.inr rfl) (hs:swapsWith e (some (.Name x pos')) pos.line Z.X.env = pure false:=by rfl)
  (hf:Z.X.fn x = true∨Z.X.env.scope.names.lookup x = some .local:=by first | exact .inl rfl | exact .inr rfl):WS Z ρ O (.Assign [.Name x pos'] e pos) Ψ :=
 PS.weak (Gu hN hi hx h hs hf) fun D σ H q => ⟨q.1,fun v H' t O' p f r => q.2.nx _ O' _ H' p ⟨(q.1.step f).rl.set r,(q.1.step f).fr⟩ f.kp⟩
theorem Ss {op:Operator} {ti:UN} (i:Nat) {pos':Pos} (ho:We Z.X op ti) (hρ:ρ[i]? = some (some ta)) (h:WE Z ρ O e fun tb O1 => RT Z.K ti ta tb O1 fun t O2 => Ψ.nx (ρ.set i (some t)) O2) (hN:Z.X.N.Nodup) (hi:Z.X.N[i]? = some x:=by rfl) (hx:IF Z.X.env.scope x:=by first | exact Or.inl rfl | exact Or.inr rfl)
  (hf:Z.X.fn x = true∨Z.X.env.scope.names.lookup x = some .local:=by first | exact .inl rfl | exact .inr rfl):WS Z ρ O (.AugAssign (.Name x pos') op e pos) Ψ :=
 PS.weak (SC hN hi hx h ho hf) fun D σ H q => by
  obtain ⟨v,e1,r1⟩:=q.1.rl.2 i _ hρ
  exact ⟨v,e1,q.1,fun w H1 tb O1 p f r => p H1 v w _ f.ok (r1.kp f.kp q.1.ok) r fun z H2 t O2 p2 f2 r2 => q.2.nx _ O2 _ H2 p2 ⟨(q.1.step (f.trans f2)).rl.set r2,(q.1.step (f.trans f2)).fr⟩ (f.trans f2).kp⟩
theorem Ng {ea eb:List Stmt} (h:WT Z ρ O c fun k O1 => if k = true then DP Z ρ O1 ea Ψ else DP Z ρ O1 eb Ψ):WS Z ρ O (.If c ea eb pos) Ψ :=
 PS.weak (IG h Im Im) fun D σ H q => ⟨q.1,fun k H1 O1 p f => by
  cases k with
  | true => rw [if_pos rfl] at p ⊢; exact ⟨ρ,O1,Ψ,p,q.1.step f,q.2.step f.kp⟩
  | false => rw [if_neg Bool.false_ne_true] at p ⊢; exact ⟨ρ,O1,Ψ,p,q.1.step f,q.2.step f.kp⟩⟩
theorem Au {ea eb:List Stmt} {k:Bool} (hc:EB Z ρ O c k) (h1:k = true→DP Z ρ O ea Ψ) (h2:k = false→DP Z ρ O eb Ψ):WS Z ρ O (.If c ea eb pos) Ψ:=Ng (hc _ (by
 cases k with
 | true => rw [if_pos rfl]; exact h1 rfl
 | false => rw [if_neg Bool.false_ne_true]; exact h2 rfl))
def tG (Z:Zx) (n:Nat) (ρ:List (Option T)) (O:AJ) (t:T) (ρ':List (Option T)):TG:=fun v σ H Q => Asr Z ρ O σ H∧Rep Z.K O H v t∧∀ σ',Asr Z ρ' O σ' H→(σ'.length = σ.length∧∀ j,n≤j→σ'[j]? = σ[j]?)→Q σ' H
def WG (Z:Zx) (n:Nat) (ρ:List (Option T)) (O:AJ) (tg:Expr) (t:T) (ρ':List (Option T)):Prop:=PG Z.X tg (tG Z n ρ O t ρ')
theorem PG.weak {X:Cx} {e:Expr} {t t':TG} (h:PG X e t) (w:∀ v σ H Q,t' v σ H Q→t v σ H Q):PG X e t':=fun pins s σ H v u Q I r q => h pins s σ H v u Q I r (w v σ H Q q)
def YC (Z:Zx) (n:Nat) (tg:Expr):TG:=fun v σ H Q => ∃ ρ O t ρ',WG Z n ρ O tg t ρ'∧tG Z n ρ O t ρ' v σ H Q
theorem Ux {n:Nat} {tg:Expr}:PG Z.X tg (YC Z n tg):=fun pins s σ H v u Q I r ⟨_,_,_,_,w,q⟩ => w pins s σ H v u Q I r q
theorem AT (i:Nat) {n:Nat} (hN:Z.X.N.Nodup) (hn:i < n) (hi:Z.X.N[i]? = some x:=by rfl) (hx:IF Z.X.env.scope x:=by first | exact Or.inl rfl | exact Or.inr rfl)
  (hf:Z.X.fn x = true∨Z.X.env.scope.names.lookup x = some .local:=by first | exact .inl rfl | exact .inr rfl):WG Z n ρ O (.Name x pos) t (ρ.set i (some t)) :=
 PG.weak (BU hN hi hx hf) fun v σ H Q q => q.2.2 _ ⟨q.1.rl.set q.2.1,q.1.fr⟩ ⟨by simp,fun j hj => by rw [List.getElem?_set_ne (by omega)]⟩
theorem DJ (i j:Nat) {n:Nat} {y:Str} {p1 p2:Pos} {k:Nat} (hc:Z.X.calm = true) (hN:Z.X.N.Nodup) (hni:i < n) (hnj:j < n) (hi:Z.X.N[i]? = some x:=by rfl) (hj:Z.X.N[j]? = some y:=by rfl) (hx:IF Z.X.env.scope x:=by first | exact Or.inl rfl | exact Or.inr rfl) (hy:IF Z.X.env.scope y:=by first | exact Or.inl rfl | exact Or.inr rfl)
  (hf:Z.X.fn x = true∨Z.X.env.scope.names.lookup x = some .local:=by first | exact .inl rfl | exact .inr rfl) (hf2:Z.X.fn y = true∨Z.X.env.scope.names.lookup y = some .local:=by first | exact .inl rfl | exact .inr rfl)
  (hs:(assignEach [.Name x p1,.Name y p2] Z.X.env).map (·.2) = assign (.Name x p1) Z.X.env :: (assignEach [.Name y p2] Z.X.env).map (·.2):=by rfl) (hs2:(assignEach [.Name y p2] Z.X.env).map (·.2) = assign (.Name y p2) Z.X.env :: (assignEach [] Z.X.env).map (·.2):=by rfl)
  (hl:(assignEach [.Name x p1,.Name y p2] Z.X.env).length = 2:=by rfl) (hst:(assignEach [.Name x p1,.Name y p2] Z.X.env).findIdx? (·.1) = none:=by rfl) :
  WG Z n ρ O (.Tuple [.Name x p1,.Name y p2] k pos) (.tup [ta,tb]) ((ρ.set i (some ta)).set j (some tb)) :=
 PG.weak (JW hc (BK (BU hN hi hx hf) (BK (BU hN hj hy hf2) Gs hs2) hs) hl hst) fun v σ H Q q => by
  obtain ⟨q1,q2,q3⟩:=q
  obtain ⟨a,xs,rfl,h1,r⟩:=q2.tup_inv
  obtain ⟨v,w,rfl,r1,r2⟩:=r.two_inv
  exact ⟨a,_,rfl,.inl (.inl h1),rfl,v,_,rfl,w,_,rfl,rfl,q3 _ ⟨(q1.rl.set r1).set r2,q1.fr⟩ ⟨by simp,fun m hm => by rw [List.getElem?_set_ne (by omega),List.getElem?_set_ne (by omega)]⟩⟩
theorem Su {n:Nat} {tg:Expr} (h:WE Z ρ O e fun t O' => ∃ ρ',WG Z n ρ O' tg t ρ'∧Ψ.nx ρ' O') (hs:swapsWithSole [tg] e pos.line Z.X.env = pure false:=by rfl) (hw:swappedStores [tg] e Z.X.env = pure none:=by rfl)
  (h1:(assignEach [tg] Z.X.env).map (·.2) = [assign tg Z.X.env]:=by rfl):WS Z ρ O (.Assign [tg] e pos) Ψ :=
 PS.weak (Ma h (Ux (n:=n)) hs hw h1) fun D σ H q => ⟨q.1,fun v H' t O' ⟨ρ',wg,p⟩ f r => ⟨ρ,O',t,ρ',wg,q.1.step f,r,fun σ' a _ => q.2.nx _ O' _ H' p a f.kp⟩⟩
theorem Fc {o ix:Expr} {px:Pos} (h:WE Z ρ O e fun t O1 => WE Z ρ O1 o fun u O2 => ∃ a,u = .raw (.ref a)∧WE Z ρ O2 ix fun w O3 => ∃ ts k m,w = .int k∧O3 a = some ts∧Mq ts.length k = some m∧Ψ.nx ρ (AZ O3 a (ts.set m t)))
  (ha:∀ v,assign (.Subscript o ix px) Z.X.env v = (do
   let ov ← holding [v] (eval o Z.X.env)
   let iv ← holding [v,ov] (eval ix Z.X.env)
   standAt px
   holding [v,ov,iv] (setItem ov iv v)
   release [v,ov,iv] []):=by intro _; rfl)
  (hs:swapsWithSole [.Subscript o ix px] e pos.line Z.X.env = pure false:=by rfl) (hw:swappedStores [.Subscript o ix px] e Z.X.env = pure none:=by rfl)
  (h1:(assignEach [.Subscript o ix px] Z.X.env).map (·.2) = [assign (.Subscript o ix px) Z.X.env]:=by rfl):WS Z ρ O (.Assign [.Subscript o ix px] e pos) Ψ:=by
 refine PS.weak (Ma h (SA (BT (ρ:=ρ)) (BT (ρ:=ρ)) Ms ha) hs hw h1) fun D σ H q => ⟨q.1,fun v H1 t O1 p1 f1 r1 => ?_⟩
 refine ⟨O1,_,p1,q.1.step f1,?_⟩
 rintro vo H2 _ O2 ⟨a,rfl,p2⟩ f2 r2
 refine ⟨O2,_,p2,q.1.step (f1.trans f2),?_⟩
 rintro vi H3 _ O3 ⟨ts,k,m,rfl,ho,hm,p3⟩ f3 r3
 cases r2.raw_inv
 obtain ⟨xs,hx,rx⟩:=f3.ok a ts ho
 have r1':=(r1.kp f2.kp f1.ok).kp f3.kp f2.ok
 have f:=f1.trans (f2.trans (f3.trans (Frm.put f3.ok ho (rx.set r1' m))))
 exact ⟨a,xs,k,m,rfl,r3.int_inv,hx,by rw [rx.length]; exact hm,q.2.nx ρ _ σ _ p3 (q.1.step f) f.kp⟩
def KD (K:PySem.W.Frag) (J:It) (O:AJ) (H:Hp) (ts:List T):Prop:=∀ O' H',Kp O H O' H'→OwnOk K O' H' →
 (∀ i,i < ts.length→J.go i H')∧(∀ i x H'',J.yld i H' x H''→∀ t,ts[i]? = some t→Frm K O' H' O' H''∧Rep K O' H'' x t)∧∀ i,ts.length≤i→J.stop i H'
def WI (Z:Zx) (ρ:List (Option T)) (O:AJ) (tg iter:Expr) (Φ:Kw):Prop:=PI Z.X tg iter fun σ H R => Asr Z ρ O σ H∧∀ J H' ts O',Φ ts O'→Frm Z.K O H O' H'→KD Z.K J O' H' ts→R J H'
theorem PI.weak {X:Cx} {tg e:Expr} {t t':TI} (h:PI X tg e t) (w:∀ σ H R,t' σ H R→t σ H R):PI X tg e t':=fun pins s σ H R I q => h pins s σ H R I (w σ H R q)
theorem MF {K:PySem.W.Frag} {a:Addr} {xs:List V} (ok:OwnOk K O H) (h:H a = some (.lst xs)) (n:O a = none) (r:Reps K O H xs ts):KD K (Wl K a) O H ts:=fun O' H' k ok' => by
 have h':=(k.lst h n).1
 have r':=r.kp k ok
 refine ⟨fun i hi => ?_,fun i x H'' y t e => ?_,fun i hi => ⟨xs,.inl (.inl h'),by rw [r.length]; exact hi⟩⟩
 ·obtain ⟨v,e,_⟩:=r'.get (i:=i) (t:=ts[i]) (by simp [hi])
  exact ⟨xs,v,.inl (.inl h'),e⟩
 ·obtain ⟨rfl,y⟩:=y
  obtain ⟨v,e',q⟩:=r'.get e
  have:=y xs (.inl (.inl h'))
  rw [e'] at this; cases this
  exact ⟨.refl ok',q⟩
theorem Nh {K:PySem.W.Frag} {a:Addr} {xs:List V} (ok:OwnOk K O H) (h:H a = some (.tup xs)) (r:Reps K O H xs ts):KD K (Wm K a) O H ts:=fun O' H' k ok' => by
 have h':JS K H' a xs:=.inl (.inl (k.oth ok h fun _ z => by cases z))
 have r':=r.kp k ok
 refine ⟨fun i hi => ?_,fun i x H'' y t e => ?_,fun i hi => ⟨xs,h',by rw [r.length]; exact hi⟩⟩
 ·obtain ⟨v,e,_⟩:=r'.get (i:=i) (t:=ts[i]) (by simp [hi])
  exact ⟨xs,v,h',e⟩
 ·obtain ⟨rfl,y⟩:=y
  obtain ⟨v,e',q⟩:=r'.get e
  have:=y xs h'
  rw [e'] at this; cases this
  exact ⟨.refl ok',q⟩
def Ed (lo:Int) (n:Nat):List T:=(List.range n).map fun (i:Nat) => T.int (lo + i)
theorem BI {lo:Int} {n:Nat}:(Ed lo n).length = n:=by simp [Ed]
theorem BY {lo:Int} {n i:Nat} (h:(Ed lo n)[i]? = some t):i < n∧t = .int (lo + i):=by
 unfold Ed at h
 rw [List.getElem?_map] at h
 by_cases hi:i < n
 ·rw [List.getElem?_range hi] at h
  cases h
  exact ⟨hi,rfl⟩
 ·rw [List.getElem?_eq_none (by simpa using hi)] at h
  cases h
theorem Ni {K:PySem.W.Frag} {lo:Int} {n:Nat}:KD K (WL lo n) O H (Ed lo n):=fun O' H' k ok' => by
 refine ⟨fun i hi => by rwa [BI] at hi,fun i x H'' y t e => ?_,fun i hi => by rwa [BI] at hi⟩
 obtain ⟨rfl,rfl⟩:=y
 obtain ⟨_,rfl⟩:=BY e
 exact ⟨.refl ok',.int _⟩
theorem HU {tg:Expr} {Φ:Kw} (h:WE Z ρ O e fun t O' => ∃ ts,t = .lst ts∧Φ ts O'):WI Z ρ O tg e Φ:=PI.weak (Pd h) fun σ H R q => ⟨q.1,by
 rintro v H' _ O' ⟨ts,rfl,p⟩ f r
 obtain ⟨a,xs,rfl,h1,n,r⟩:=r.lst_inv
 exact ⟨a,rfl,⟨xs,.inl (.inl h1)⟩,q.2 _ H' ts O' p f (MF f.ok h1 n r)⟩⟩
theorem Sv {tg:Expr} {Φ:Kw} (h:WE Z ρ O e fun t O' => ∃ ts,t = .tup ts∧Φ ts O'):WI Z ρ O tg e Φ:=PI.weak (SF h) fun σ H R q => ⟨q.1,by
 rintro v H' _ O' ⟨ts,rfl,p⟩ f r
 obtain ⟨a,xs,rfl,h1,r⟩:=r.tup_inv
 exact ⟨a,rfl,⟨xs,.inl (.inl h1)⟩,q.2 _ H' ts O' p f (Nh f.ok h1 r)⟩⟩
theorem Gb {tg:Expr} {Φ:Kw} (hm:Z.X.mg "range" = none) (h:WA Z ρ O [a] fun ts O' => ∃ j:Int,ts = [.int j]∧-(2 ^ 62)≤j∧j < 2 ^ 62∧Φ (Ed 0 j.toNat) O') (hg:Gl Z.X "range":=by rfl) (hs:starEach [a] Z.X.env = [(false,eval a Z.X.env)]:=by rfl):WI Z ρ O tg (.Call (.Name "range" p) [a] [] pos) Φ :=
 PI.weak (Ld hg hm h hs) fun σ H R q => ⟨q.1,by
  rintro vs H' _ O' ⟨j,rfl,h1,h2,p⟩ f r
  obtain ⟨v,rfl,r'⟩:=r.one_inv
  exact ⟨j,by rw [r'.int_inv],h1,h2,q.2 _ H' _ O' p f Ni⟩⟩
def EI (Z:Zx) (ρ:List (Option T)) (O:AJ) (tg iter:Expr) (ts:List T):Prop:=∀ Φ:Kw,Φ ts O→WI Z ρ O tg iter Φ
theorem BB {tg:Expr} (h:ET Z ρ O e (.lst ts)):EI Z ρ O tg e ts:=fun Φ p => HU (h _ ⟨ts,rfl,p⟩)
theorem HV {tg:Expr} (h:ET Z ρ O e (.tup ts)):EI Z ρ O tg e ts:=fun Φ p => Sv (h _ ⟨ts,rfl,p⟩)
theorem Ah {tg:Expr} {k:Int} (hm:Z.X.mg "range" = none) (h:ET Z ρ O a (.int k)) (h1 : -(2 ^ 62)≤k∧k < 2 ^ 62) (hg:Gl Z.X "range":=by rfl) (hs:starEach [a] Z.X.env = [(false,eval a Z.X.env)]:=by rfl):EI Z ρ O tg (.Call (.Name "range" p) [a] [] pos) (Ed 0 k.toNat):=fun Φ q => Gb hm (AS h AC hs _ ⟨k,rfl,h1.1,h1.2,q⟩) hg hs
theorem BR {tg iter:Expr} {body:List Stmt} (hp:PassesOwn (model Z.X.prog Z.X.w) Z.X.A Z.X.env Z.X.xe) (hc:Z.X.calm = true)
  (h:WI Z ρ O tg iter fun ts O1 => ∃ I:Nat→Il,I 0 ρ O1∧(∀ i t ρ' O',ts[i]? = some t→I i ρ' O'→∃ ρ2,WG Z Z.X.N.length ρ' O' tg t ρ2∧DP Z ρ2 O' body { nx:=I (i + 1),rt:=Ψ.rt,bk:=Ψ.nx,ct:=I (i + 1) })∧∀ ρ' O',I ts.length ρ' O'→Ψ.nx ρ' O')
  (hs:∀ x,foldedSetIterable iter Z.X.env x = pure x:=by intro _; rfl):WS Z ρ O (.For tg iter body [] pos) Ψ:=by
 refine PS.weak (SG hp hc h (Ux (n:=Z.X.N.length)) Im hs) fun D σ H q => ⟨q.1,?_⟩
 rintro J H1 ts O1 ⟨I,i0,step,fin⟩ f1 it
 refine ⟨fun i m σ' H' => m = ts.length - i∧i≤ts.length∧∃ ρ' O',I i ρ' O'∧Asr Z ρ' O' σ' H'∧Kp O1 H1 O' H',⟨ts.length,by simp,Nat.zero_le _,ρ,O1,i0,q.1.step f1,.refl⟩,?_⟩
 rintro i m σ2 H2 ⟨rfl,hi,ρ2,O2,i2,a2,k2⟩
 obtain ⟨g1,g2,g3⟩:=it O2 H2 k2 a2.ok
 by_cases hlt:i < ts.length
 ·refine .inr ⟨g1 i hlt,fun σ' H' => ∃ ρ' O',I (i + 1) ρ' O'∧Asr Z ρ' O' σ' H'∧Kp O1 H1 O' H',fun σ' H' w => ⟨_,by omega,rfl,by omega,w⟩,fun x H3 y => ?_⟩
  obtain ⟨f3,r3⟩:=g2 i x H3 y ts[i] (by simp [hlt])
  obtain ⟨ρ3,wg,wb⟩:=step i ts[i] ρ2 O2 (by simp [hlt]) i2
  refine ⟨ρ2,O2,_,ρ3,wg,a2.step f3,r3,fun σ3 a3 _ => ⟨ρ3,O2,_,wb,a3,?_⟩⟩
  have kk:=(k2.trans f3.kp)
  exact ⟨fun ρ' O' σ' H' w a k => ⟨ρ',O',w,a,kk.trans k⟩,q.2.rt,fun ρ' O' σ' H' w a k => q.2.nx ρ' O' σ' H' w a (f1.kp.trans (kk.trans k)),fun ρ' O' σ' H' w a k => ⟨ρ',O',w,a,kk.trans k⟩⟩
 ·have:i = ts.length:=by omega
  subst this
  exact .inl ⟨g3 _ (Nat.le_refl _),q.2.nx ρ2 O2 σ2 H2 (fin ρ2 O2 i2) a2 (f1.kp.trans k2)⟩
end
def zc (X:Cx) (Oe:AJ) (He:Hp):Zx:=⟨X,Oe,He,fun _ _ => False⟩
def Ee (nc:List Str) (ρ:List (Option T)) (cap:List (Str × Nat)):List (Option T):=List.replicate nc.length none ++ cap.map fun q => (ρ[q.2]?).join
def WQ (Z:Zx) (ρ:List (Option T)) (O:AJ) (ifs:List Expr) (Φ:HM):Prop:=SY Z.X ifs (UE Z ρ O Φ)
theorem Ap {O:AJ} {p:Addr} {ts:List T} (h:O p = none):Co (AZ O p ts) p = O:=by
 funext b
 by_cases hb:b = p
 ·rw [hb,CU,h]
 ·rw [Dm hb,AV hb]
theorem Cq {O:AJ} {p a:Addr} {ts us:List T} (h:a≠p):AZ (AZ O p ts) a us = AZ (AZ O a us) p ts:=by
 funext b
 unfold AZ
 by_cases h1:b = a
 ·subst h1; rw [if_pos rfl,if_neg h,if_pos rfl]
 ·rw [if_neg h1,if_neg h1]
section
variable {Z:Zx} {ρ:List (Option T)} {O:AJ} {elt tg iter:Expr} {ifs:List Expr} {csc:Scope} {nc:List Str} {cap:List (Str × Nat)} {Φ:Bb} {pos:Pos}
theorem Ek {Φ:HM} (h:Φ true O):WQ Z ρ O [] Φ:=fun pins s σ H Q I q => Pt pins s σ H Q I (q.2 true H O h q.1.refl)
theorem Kz {Φ:HM} {c:Expr} (h:WT Z ρ O c Φ):WQ Z ρ O [c] Φ:=Pu h
theorem Uy {K:PySem.W.Frag} {H:Hp} {σ:St} (r:Rl K O H σ ρ):Rl K O H (GA nc σ cap) (Ee nc ρ cap):=by
 refine ⟨by simp [Bp,Ee],fun i t e => ?_⟩
 unfold Ee at e
 have hi:nc.length≤i:=by
  by_cases hi:i < nc.length
  ·rw [List.getElem?_append_left (by simpa using hi),List.getElem?_replicate] at e
   split at e <;> cases e
  ·omega
 rw [List.getElem?_append_right (by simpa using hi),List.getElem?_map] at e
 simp only [List.length_replicate] at e
 cases hc:cap[i - nc.length]? with
 | none => rw [hc] at e; cases e
 | some q =>
  rw [hc] at e
  have e:(ρ[q.2]?).join = some t:=Option.some.inj e
  have e':ρ[q.2]? = some (some t):=by
   cases h:ρ[q.2]? with
   | none => rw [h] at e; cases e
   | some w => rw [h] at e; exact congrArg some e
  obtain ⟨v,h1,h2⟩:=r.2 q.2 t e'
  refine ⟨v,?_,h2⟩
  show (List.replicate nc.length (none:Option V) ++ Bp σ cap)[i]? = some (some v)
  rw [List.getElem?_append_right (by simpa using hi)]
  simp only [List.length_replicate]
  unfold Bp
  rw [List.getElem?_map,hc]
  show some (σ[q.2]?).join = _
  rw [h1]
  rfl
theorem HW {X X':Cx} {Oe:AJ} {He:Hp} {Xi Xi':Value→AJ→Prop} {σ:St} {H:Hp} (hK:X'.K = X.K) (a:Asr ⟨X,Oe,He,Xi⟩ ρ O σ H):Asr ⟨X',Oe,He,Xi'⟩ ρ O σ H:=by
 obtain ⟨r,f⟩:=a
 refine ⟨?_,?_⟩
 ·show Rl X'.K O H σ ρ
  rw [hK]; exact r
 ·show Frm X'.K Oe He O H
  rw [hK]; exact f
def gA (Z:Zx) (csc:Scope) (nc:List Str) (cap:List (Str × Nat)) (tg:Expr):TG:=fun v σ H Q => ∃ Oe He ρ O t ρ',(∀ X',LcCx Z.X csc (Af nc cap) X'→WG (zc X' Oe He) nc.length ρ O tg t ρ')∧tG (zc Z.X Oe He) nc.length ρ O t ρ' v σ H Q
def XD (Z:Zx) (csc:Scope) (nc:List Str) (cap:List (Str × Nat)) (ifs:List Expr):TT:=fun σ H Q => ∃ Oe He ρ O Φ,(∀ X',LcCx Z.X csc (Af nc cap) X'→WQ (zc X' Oe He) ρ O ifs Φ)∧UE (zc Z.X Oe He) ρ O Φ σ H Q
def eA (Z:Zx) (csc:Scope) (nc:List Str) (cap:List (Str × Nat)) (e:Expr):TE:=fun σ H Q => ∃ Oe He ρ O Φ,(∀ X',LcCx Z.X csc (Af nc cap) X'→WE (zc X' Oe He) ρ O e Φ)∧tW (zc Z.X Oe He) ρ O Φ σ H Q
theorem Sw {X X':Cx} {N':List Str} (h:LcCx X csc N' X'):X'.K = X.K:=by
 obtain ⟨_,_,_,_,rfl⟩:=h
 rfl
theorem Sx:∀ X',LcCx Z.X csc (Af nc cap) X'→PG X' tg (gA Z csc nc cap tg):=by
 rintro X' is pins s σ H v u Q I r ⟨Oe,He,ρ,O,t,ρ',w,a,rp,k⟩
 refine w X' is pins s σ H v u Q I r ⟨HW (Sw is) a,?_,fun σ' a' h => k σ' (HW (Sw is).symm a') h⟩
 show Rep X'.K O H v t
 rw [Sw is]; exact rp
theorem Nj:∀ X',LcCx Z.X csc (Af nc cap) X'→SY X' ifs (XD Z csc nc cap ifs):=by
 rintro X' is pins s σ H Q I ⟨Oe,He,ρ,O,Φ,w,a,k⟩
 refine w X' is pins s σ H Q I ⟨HW (Sw is) a,?_⟩
 intro b H' O' p f
 refine k b H' O' p ?_
 have f:Frm X'.K O H O' H':=f
 rw [Sw is] at f; exact f
theorem Sy:∀ X',LcCx Z.X csc (Af nc cap) X'→PE X' elt (eA Z csc nc cap elt):=by
 rintro X' is pins s σ H Q I ⟨Oe,He,ρ,O,Φ,w,a,k⟩
 refine w X' is pins s σ H Q I ⟨HW (Sw is) a,?_⟩
 intro v H' t O' p f r
 have f:Frm X'.K O H O' H':=f
 have r:Rep X'.K O' H' v t:=r
 rw [Sw is] at f r
 exact k v H' t O' p f r
def PX (Z:Zx) (ρ:List (Option T)) (elt tg:Expr) (ifs:List Expr) (csc:Scope) (nc:List Str) (cap:List (Str × Nat)) (F:List T→AJ→Prop) (ts:List T) (O1:AJ):Prop :=
 ∃ I:Nat→List T→AJ→Prop,I 0 [] O1∧(∀ i t acc O' p,ts[i]? = some t→I i acc O'→O' p = none→∃ ρ4,∀ X' Oe He,LcCx Z.X csc (Af nc cap) X'→WG (zc X' Oe He) nc.length (Ee nc ρ cap) (AZ O' p acc) tg t ρ4 ∧
   WQ (zc X' Oe He) ρ4 (AZ O' p acc) ifs fun b O2 => if b = true then ∀ X' Oe He,LcCx Z.X csc (Af nc cap) X'→WE (zc X' Oe He) ρ4 O2 elt fun y O3 => ∃ O4,O3 = AZ O4 p acc∧O4 p = none∧acc.length < sizeLine∧I (i + 1) (acc ++ [y]) O4
    else ∃ O4,O2 = AZ O4 p acc∧O4 p = none∧I (i + 1) acc O4)∧∀ acc O',I ts.length acc O'→F acc O'
theorem Nk {F:List T→AJ→Prop} {σ:St} {H:Hp} {Q:VK} (a:Asr Z ρ O σ H) (h:WI Z ρ O tg iter (PX Z ρ elt tg ifs csc nc cap F))
  (fin:∀ acc O' p H',F acc O'→O' p = none→Frm Z.K O H (AZ O' p acc) H'→(∀ b us,O b = some us→b≠p)→Q (.ref p) H') :
  WO (fun σ H R => Asr Z ρ O σ H∧∀ J H' ts O',PX Z ρ elt tg ifs csc nc cap F ts O'→Frm Z.K O H O' H'→KD Z.K J O' H' ts→R J H') nc cap (gA Z csc nc cap tg) (XD Z csc nc cap ifs) (eA Z csc nc cap elt) σ H Q:=by
 refine ⟨a,?_⟩
 rintro J H1 ts O1 ⟨I,i0,step,done⟩ f1 it p hp
 have np:O1 p = none:=f1.ok.none_of hp
 have nb:∀ b us,O1 b = some us→b≠p:=fun b us e z => by rw [z,np] at e; cases e
 have fn:=Frm.newO (ts:=[]) (xs:=[]) f1.ok hp .nil
 refine ⟨fun i m H2 => m = ts.length - i∧i≤ts.length∧∃ acc O',I i acc O'∧O' p = none∧Frm Z.K O1 H1 (AZ O' p acc) H2,⟨ts.length,by simp,Nat.zero_le _,[],O1,i0,np,fn⟩,?_⟩
 rintro i m H2 ⟨rfl,hi,acc,O2,i2,n2,f2⟩
 obtain ⟨g1,g2,g3⟩:=it _ H2 f2.kp f2.ok
 by_cases hlt:i < ts.length
 ·refine .inr ⟨g1 i hlt,fun H' => ∃ acc O',I (i + 1) acc O'∧O' p = none∧Frm Z.K O1 H1 (AZ O' p acc) H',fun H' w => ⟨_,by omega,rfl,by omega,w⟩,fun x H3 y => ?_⟩
  obtain ⟨f3,r3⟩:=g2 i x H3 y ts[i] (by simp [hlt])
  obtain ⟨ρ4,st⟩:=step i ts[i] acc O2 p (by simp [hlt]) i2 n2
  have a3:Asr (zc Z.X (AZ O2 p acc) H3) (Ee nc ρ cap) (AZ O2 p acc) (GA nc σ cap) H3:=⟨Uy ((a.rl.kp f1.kp a.ok).kp (f2.kp.trans f3.kp) f1.ok),.refl f3.ok⟩
  refine ⟨AZ O2 p acc,H3,Ee nc ρ cap,AZ O2 p acc,ts[i],ρ4,fun X' is => (st X' _ _ is).1,a3,r3,fun σ4 a4 hag => ⟨?_,?_⟩⟩
  ·refine ⟨σ4.take nc.length,?_,?_⟩
   ·rw [List.length_take,hag.1]
    simp
   ·have e1:σ4.drop nc.length = Bp σ cap:=by
     apply List.ext_getElem?
     intro m
     rw [List.getElem?_drop,hag.2 _ (by omega)]
     show (List.replicate nc.length (none:Option V) ++ Bp σ cap)[nc.length + m]? = _
     rw [List.getElem?_append_right (by simp)]
     simp
    rw [← e1,List.take_append_drop]
  ·refine ⟨AZ O2 p acc,H3,ρ4,AZ O2 p acc,_,fun X' is => (st X' _ _ is).2,a4,?_⟩
   intro b H5 O5 q5 f5
   cases b with
   | false =>
    rw [if_neg Bool.false_ne_true] at q5 ⊢
    obtain ⟨O4,rfl,n4,i4⟩:=q5
    exact ⟨acc,O4,i4,n4,f2.trans (f3.trans f5)⟩
   | true =>
    rw [if_pos rfl] at q5 ⊢
    refine ⟨AZ O2 p acc,H3,ρ4,O5,_,fun X' is => q5 X' _ _ is,a4.step f5,?_⟩
    rintro y H6 t6 O6 ⟨O4,rfl,n4,hlen,i4⟩ f6 r6
    obtain ⟨ys,hys,rys⟩:=f6.ok p acc AF
    refine ⟨ys,hys,by rw [rys.length]; exact hlen,acc ++ [t6],O4,i4,n4,?_⟩
    have fp:=Frm.put (a:=p) f6.ok AF (rys.append (.one r6))
    rw [BA] at fp
    exact f2.trans (f3.trans (f5.trans (f6.trans fp)))
 ·have:i = ts.length:=by omega
  subst this
  refine .inl ⟨g3 _ (Nat.le_refl _),fin acc O2 p H2 (done acc O2 i2) n2 (f1.trans f2) fun b us e => ?_⟩
  obtain ⟨us',e'⟩:=f1.own b us e
  exact nb b us' e'
theorem RQ {σ:St} {H:Hp} {Q:VK} (h:WI Z ρ O tg iter (PX Z ρ elt tg ifs csc nc cap fun acc O' => Φ (.lst acc) O')) (q:tW Z ρ O Φ σ H Q) :
  WO (fun σ H R => Asr Z ρ O σ H∧∀ J H' ts O',PX Z ρ elt tg ifs csc nc cap (fun acc O' => Φ (.lst acc) O') ts O'→Frm Z.K O H O' H'→KD Z.K J O' H' ts→R J H') nc cap (gA Z csc nc cap tg) (XD Z csc nc cap ifs) (eA Z csc nc cap elt) σ H Q:=by
 refine Nk q.1 h fun acc O' p H' p1 n f nb => q.2 _ H' _ O' p1 ?_ ?_
 ·have e:=Ap (ts:=acc) n
  refine ⟨fun b o e1 e2 => ?_,fun b us e1 => ?_,?_⟩
  ·have:=f.kp.trans (DG (a:=p)) b o e1 e2
   rw [e] at this; exact this
  ·obtain ⟨us',e2⟩:=f.own b us e1
   rw [AV (nb b us e1)] at e2
   exact ⟨us',e2⟩
  ·have:=f.ok.drop (a:=p)
   rw [e] at this; exact this
 ·have:=f.ok.rep (a:=p) AF
  rw [Ap n] at this
  exact this
theorem LA (hc:Z.X.calm = true) (ok:LcOk Z.X csc nc cap) (h:WI Z ρ O tg iter (PX Z ρ elt tg ifs csc nc cap fun acc O' => Φ (.lst acc) O'))
  (hs:∀ x,foldedSetIterable iter Z.X.env x = pure x:=by intro _; rfl):WE Z ρ O (.ListComp elt [⟨tg,iter,ifs,0⟩] csc pos) Φ :=
 PE.weak (Uj hc ok h Sx Nj Sy hs) fun σ H Q q => RQ h q
theorem Nl {i:Nat} {x:Str} {px spos:Pos} {Ψ:Es} (hsw:swapsWith (.ListComp elt [⟨tg,iter,ifs,0⟩] csc pos) (some (.Name x px)) spos.line Z.X.env = pure true) (hN:Z.X.N.Nodup) (hc:Z.X.calm = true) (ok:LcOk Z.X csc nc cap)
  (h:WI Z ρ O tg iter (PX Z ρ elt tg ifs csc nc cap fun acc O' => Ψ.nx (ρ.set i (some (.lst acc))) O')) (hx:Z.X.N[i]? = some x:=by rfl) (hk:Z.X.env.scope.names.lookup x = some .local:=by rfl)
  (hs:∀ x,foldedSetIterable iter Z.X.env x = pure x:=by intro _; rfl):WS Z ρ O (.Assign [.Name x px] (.ListComp elt [⟨tg,iter,ifs,0⟩] csc pos) spos) Ψ :=
 PS.weak (IO hN hx hk hsw hc ok h Sx Nj Sy hs) fun D σ H q => RQ (Φ:=fun t O' => Ψ.nx (ρ.set i (some t)) O') h ⟨q.1,fun v H' t O' p f r => q.2.nx _ O' _ H' p ⟨(q.1.step f).rl.set r,(q.1.step f).fr⟩ f.kp⟩
end
def XF:T→String
 | .non => "NoneType" | .bl _ => "bool" | .int _ => "int" | .str _ => "str" | .tup _ => "tuple" | .lst _ => "list" | .frz _ => "list" | .dct => "dict" | .raw _ => "object"
def Ac:T→Bool
 | .raw _ => true
 | _ => false
def RS:T→Bool
 | .int _ => true
 | .bl _ => true
 | _ => false
def Nm:T→Bool
 | .bl _ => true
 | _ => false
def Nn (K:PySem.W.Frag) (c:String) (g:T→Bool):Prop:=∀ t,Ac t = false→PySem.W.kitOne K (.type (XF t)) (.type c) = some (g t)
section
variable {K:PySem.W.Frag} {O:AJ} {H:Hp} {v:V} {t:T}
theorem Rep.ty (r:Rep K O H v t) (hp:Ac t = false):TyOf K H v (.type (XF t)):=by
 cases r with
 | non => exact .non
 | bl b => exact .bl b
 | int i => exact .int i
 | str i => exact .str i
 | tup h => exact .tup h
 | lst h => exact .lst h
 | frz h => exact .frz h
 | dct h => exact .dK h
 | raw v => cases hp
theorem YD (K:PySem.W.Frag):PySem.W.kitOne K (.type "NoneType") (.type "int") = some false:=by kernel_rfl
theorem YE (K:PySem.W.Frag):PySem.W.kitOne K (.type "bool") (.type "int") = some true:=by kernel_rfl
theorem YF (K:PySem.W.Frag):PySem.W.kitOne K (.type "int") (.type "int") = some true:=by rfl
theorem YG (K:PySem.W.Frag):PySem.W.kitOne K (.type "str") (.type "int") = some false:=by kernel_rfl
theorem YH (K:PySem.W.Frag):PySem.W.kitOne K (.type "tuple") (.type "int") = some false:=by kernel_rfl
theorem Xd (K:PySem.W.Frag):PySem.W.kitOne K (.type "list") (.type "int") = some false:=by kernel_rfl
theorem YI (K:PySem.W.Frag):PySem.W.kitOne K (.type "dict") (.type "int") = some false:=by kernel_rfl
theorem LB:Nn K "int" RS:=fun t h => by
 cases t with
 | non => exact YD K
 | bl b => exact YE K
 | int i => exact YF K
 | str i => exact YG K
 | tup i => exact YH K
 | lst i => exact Xd K
 | frz i => exact Xd K
 | dct => exact YI K
 | raw v => cases h
theorem YJ (K:PySem.W.Frag):PySem.W.kitOne K (.type "NoneType") (.type "bool") = some false:=by kernel_rfl
theorem YK (K:PySem.W.Frag):PySem.W.kitOne K (.type "bool") (.type "bool") = some true:=by rfl
theorem YL (K:PySem.W.Frag):PySem.W.kitOne K (.type "int") (.type "bool") = some false:=by kernel_rfl
theorem YM (K:PySem.W.Frag):PySem.W.kitOne K (.type "str") (.type "bool") = some false:=by kernel_rfl
theorem YN (K:PySem.W.Frag):PySem.W.kitOne K (.type "tuple") (.type "bool") = some false:=by kernel_rfl
theorem Xe (K:PySem.W.Frag):PySem.W.kitOne K (.type "list") (.type "bool") = some false:=by kernel_rfl
theorem YO (K:PySem.W.Frag):PySem.W.kitOne K (.type "dict") (.type "bool") = some false:=by kernel_rfl
theorem Fd:Nn K "bool" Nm:=fun t h => by
 cases t with
 | non => exact YJ K
 | bl b => exact YK K
 | int i => exact YL K
 | str i => exact YM K
 | tup i => exact YN K
 | lst i => exact Xe K
 | frz i => exact Xe K
 | dct => exact YO K
 | raw v => cases h
theorem Sz {c:String} {g:T→Bool} (hk:Nn K c g) (hp:Ac t = false):CP K (Uk K) [t,.raw (.ty c)] O (.bl (g t)):=fun Φ p H vs Q ok r q => by
 obtain ⟨v,w,rfl,r1,r2⟩:=r.two_inv
 cases r2.raw_inv
 exact ⟨v,.ty c,.type (XF t),.type c,g t,rfl,rfl,.inl (r1.ty hp),hk t hp,q _ H _ O p (.refl ok) (.bl _)⟩
theorem TB:bootBuiltins "int" = some (.type "int"):=by decide +kernel
theorem No:bootBuiltins "bool" = some (.type "bool"):=by decide +kernel
theorem Np:bootBuiltins "tuple" = some (.type "tuple"):=by decide +kernel
theorem RU:bootBuiltins "list" = some (.type "list"):=by decide +kernel
theorem Uz:bootBuiltins "set" = some (.type "set"):=by decide +kernel
theorem GB:bootBuiltins "isinstance" = some (.builtin "isinstance"):=by decide +kernel
theorem VA:bootBuiltins "max" = some (.builtin "max"):=by decide +kernel
theorem VB:bootBuiltins "min" = some (.builtin "min"):=by decide +kernel
theorem TC:bootBuiltins "len" = some (.builtin "len"):=by decide +kernel
theorem LD:bootBuiltins "sorted" = some (.builtin "sorted"):=by decide +kernel
end
section
variable {Z:Zx} {ρ:List (Option T)} {O:AJ} {e a b c:Expr} {es:List Expr} {Φ:Bb} {pos p:Pos} {t ta tb:T} {ts us:List T} {i j:Int} {x:Str} {lo hi:Expr}
theorem KE {cn:String} {g:T→Bool} (mI:Z.X.mg "isinstance" = none) (mC:Z.X.mg x = none) (bC:bootBuiltins x = some (.type cn)) (hk:Nn Z.K cn g) (h:ET Z ρ O e t) (hp:Ac t = false) {p1:Pos} (hgi:Gl Z.X "isinstance":=by rfl) (hgc:Gl Z.X x:=by rfl)
  (hn:x≠"__name__":=by decide) (hd:(x == ("__debug__" : Str)) = false:=by decide)
  (he:starEach [e,.Name x p1] Z.X.env = (false,eval e Z.X.env) :: starEach [.Name x p1] Z.X.env:=by rfl):ET Z ρ O (.Call (.Name "isinstance" p) [e,.Name x p1] [] pos) (.bl (g t)) :=
 Bn BG mI GB (AS h (AS (Ur mC bC hgc hn hd) AC) he) (Sz hk hp) hgi (by decide) (by decide) he
theorem KG {cn:String} {g:T→Bool} (mI:Z.X.mg "isinstance" = none) (mC:Z.X.mg x = none) (bC:bootBuiltins x = some (.type cn)) (hk:Nn Z.K cn g) (h:ET Z ρ O e t) (hp:Ac t = false) {p1:Pos} (hgi:Gl Z.X "isinstance":=by rfl) (hgc:Gl Z.X x:=by rfl)
  (hn:x≠"__name__":=by decide) (hd:(x == ("__debug__" : Str)) = false:=by decide)
  (he:starEach [e,.Name x p1] Z.X.env = (false,eval e Z.X.env) :: starEach [.Name x p1] Z.X.env:=by rfl):EB Z ρ O (.Call (.Name "isinstance" p) [e,.Name x p1] [] pos) (g t) :=
 FY (KE mI mC bC hk h hp hgi hgc hn hd he)
theorem DK (m:Z.X.mg "len" = none) (h:ET Z ρ O e (.lst ts)) (hg:Gl Z.X "len":=by rfl) (he:starEach [e] Z.X.env = (false,eval e Z.X.env) :: starEach [] Z.X.env:=by rfl):ET Z ρ O (.Call (.Name "len" p) [e] [] pos) (.int ts.length) :=
 Bn CK m TC (AS h AC he) (fun Φ q H vs Q ok r k => by
  obtain ⟨v,rfl,r1⟩:=r.one_inv
  obtain ⟨a,xs,rfl,h1,_,r1⟩:=r1.lst_inv
  refine ⟨a,xs,rfl,.inl (.inl (.inl h1)),?_⟩
  rw [r1.length]
  exact k _ H _ O q (.refl ok) (.int _)) hg (by decide) (by decide) he
theorem QH {l:Addr} (m:Z.X.mg "len" = none) (h:ET Z ρ O e (.raw (.ref l))) (ho:O l = some ts) (hg:Gl Z.X "len":=by rfl) (he:starEach [e] Z.X.env = (false,eval e Z.X.env) :: starEach [] Z.X.env:=by rfl):ET Z ρ O (.Call (.Name "len" p) [e] [] pos) (.int ts.length) :=
 Bn CK m TC (AS h AC he) (fun Φ q H vs Q ok r k => by
  obtain ⟨v,rfl,r1⟩:=r.one_inv
  cases r1.raw_inv
  obtain ⟨xs,h1,r1⟩:=ok l ts ho
  refine ⟨l,xs,rfl,.inl (.inl (.inl h1)),?_⟩
  rw [r1.length]
  exact k _ H _ O q (.refl ok) (.int _)) hg (by decide) (by decide) he
theorem LE (m:Z.X.mg "min" = none) (hc:Z.X.calm = true) (h:ET Z ρ O a (.int i)) (h2:ET Z ρ O b (.int j)) (hg:Gl Z.X "min":=by rfl) (he:starEach [a,b] Z.X.env = (false,eval a Z.X.env) :: starEach [b] Z.X.env:=by rfl) (he2:starEach [b] Z.X.env = (false,eval b Z.X.env) :: starEach [] Z.X.env:=by rfl) (hpl:(backTo pos (starEach [b] Z.X.env)).any (·.1) = false:=by rfl):ET Z ρ O (.Call (.Name "min" p) [a,b] [] pos) (.int (min i j)) :=
 Bn (Lf hc) m VB (AS h (AS h2 AC he2) he) (fun Φ q H vs Q ok r k => by
  obtain ⟨v,w,rfl,r1,r2⟩:=r.two_inv
  cases r1.int_inv; cases r2.int_inv
  refine ⟨i,j,rfl,?_⟩
  have:(if j < i then j else i) = min i j:=by split <;> omega
  rw [this]
  exact k _ H _ O q (.refl ok) (.int _)) hg (by decide) (by decide) he hpl
theorem DL (m:Z.X.mg "max" = none) (hc:Z.X.calm = true) (h:ET Z ρ O a (.int i)) (h2:ET Z ρ O b (.int j)) (hg:Gl Z.X "max":=by rfl) (he:starEach [a,b] Z.X.env = (false,eval a Z.X.env) :: starEach [b] Z.X.env:=by rfl) (he2:starEach [b] Z.X.env = (false,eval b Z.X.env) :: starEach [] Z.X.env:=by rfl) (hpl:(backTo pos (starEach [b] Z.X.env)).any (·.1) = false:=by rfl):ET Z ρ O (.Call (.Name "max" p) [a,b] [] pos) (.int (max i j)) :=
 Bn (GJ hc) m VA (AS h (AS h2 AC he2) he) (fun Φ q H vs Q ok r k => by
  obtain ⟨v,w,rfl,r1,r2⟩:=r.two_inv
  cases r1.int_inv; cases r2.int_inv
  refine ⟨i,j,rfl,?_⟩
  have:(if j > i then j else i) = max i j:=by split <;> omega
  rw [this]
  exact k _ H _ O q (.refl ok) (.int _)) hg (by decide) (by decide) he hpl
theorem QI {k:Bool} (m:Z.X.mg "int" = none) (h:ET Z ρ O e (.bl k)) (hg:Gl Z.X "int":=by rfl) (he:starEach [e] Z.X.env = (false,eval e Z.X.env) :: starEach [] Z.X.env:=by rfl):ET Z ρ O (.Call (.Name "int" p) [e] [] pos) (.int (if k then 1 else 0)) :=
 EK Lg m TB (AS h AC he) (fun Φ q H vs Q ok r k => by
  obtain ⟨v,rfl,r1⟩:=r.one_inv
  cases r1.bl_inv
  exact .inr ⟨_,rfl,k _ H _ O q (.refl ok) (.int _)⟩) hg (by decide) (by decide) he
theorem Io (m:Z.X.mg "tuple" = none) (h:WE Z ρ O e fun t O' => ∃ ts,t = .lst ts∧Φ (.tup ts) O') (hg:Gl Z.X "tuple":=by rfl) (he:starEach [e] Z.X.env = (false,eval e Z.X.env) :: starEach [] Z.X.env:=by rfl):WE Z ρ O (.Call (.Name "tuple" p) [e] [] pos) Φ :=
 EJ ES m Np (CV (Bq h (by
  rintro t O' ⟨ts,rfl,q⟩
  refine Ay fun H vs Q ok r k => ?_
  obtain ⟨v,rfl,r1⟩:=r.one_inv
  obtain ⟨a,xs,rfl,h1,_,r1⟩:=r1.lst_inv
  exact ⟨a,xs,rfl,.inl (.inl h1),fun p hp => k _ _ _ O' q (.new ok hp) (.tup AK (r1.kp (Bm ok hp) ok))⟩)) he) hg (by decide) (by decide) he
theorem Nq (m:Z.X.mg "tuple" = none) (h:ET Z ρ O e (.lst ts)) (hg:Gl Z.X "tuple":=by rfl) (he:starEach [e] Z.X.env = (false,eval e Z.X.env) :: starEach [] Z.X.env:=by rfl):ET Z ρ O (.Call (.Name "tuple" p) [e] [] pos) (.tup ts):=fun Φ q => Io m (h _ ⟨ts,rfl,q⟩) hg he
theorem MG (m:Z.X.mg "list" = none) (h:ET Z ρ O e (.tup ts)) (q:∀ a,O a = none→Φ (.raw (.ref a)) (AZ O a ts)) (hg:Gl Z.X "list":=by rfl) (he:starEach [e] Z.X.env = (false,eval e Z.X.env) :: starEach [] Z.X.env:=by rfl):WE Z ρ O (.Call (.Name "list" p) [e] [] pos) Φ :=
 EJ FU m RU (AS h AC he _ (fun H vs Q ok r k => by
  obtain ⟨v,rfl,r1⟩:=r.one_inv
  obtain ⟨a,xs,rfl,h1,r1⟩:=r1.tup_inv
  exact ⟨a,xs,rfl,.inr (.inl (.inl h1)),fun p hp => k _ _ _ _ (q p (ok.none_of hp)) (.newO ok hp r1) (.raw _)⟩)) hg (by decide) (by decide) he
end
section
variable {K:PySem.W.Frag} {O:AJ} {H:Hp}
end
section
variable {Z:Zx} {ρ:List (Option T)} {O:AJ} {e a b c:Expr} {es:List Expr} {Φ:Bb} {pos p p2:Pos} {t ta tb:T} {ts us:List T} {i j:Int} {x:Str} {lo hi:Expr}
theorem LF (hl:ts.length + us.length≤sizeLine) {K:PySem.W.Frag}:RP K Uh (.lst ts) (.lst us) O (.lst (ts ++ us)):=fun Φ p H v w Q ok r1 r2 q => by
 obtain ⟨a,xs,rfl,h1,_,r1⟩:=r1.lst_inv
 obtain ⟨b,ys,rfl,h2,_,r2⟩:=r2.lst_inv
 exact ⟨a,b,xs,ys,rfl,rfl,h1,h2,by rw [r1.length,r2.length]; exact hl,fun l hq => q _ _ _ O p (.new ok hq) (.lst AK (ok.none_of hq) ((r1.append r2).kp (Bm ok hq) ok))⟩
theorem HX (ha:ET Z ρ O a (.lst ts)) (hb:ET Z ρ O b (.lst us)) (hl:ts.length + us.length≤sizeLine):ET Z ρ O (.BinOp a .Add b pos) (.lst (ts ++ us)):=FX Jf (LF hl) ha hb
theorem Nr:ET Z ρ O (.Dict [] [] pos) .dct:=fun Φ q pins s σ H Q I k =>
 have big:sysModules < s.heap.objs.size:=Nat.lt_trans (by decide) (show mainGlobals < s.heap.objs.size from (I.mod.glob.keeps I.bk).lt)
 have hf:H s.heap.objs.size = none:=I.hok.fresh (Nat.le_refl _)
 wpAny_Dict_empty ⟨.ref s.heap.objs.size,_,I.laid (a:=s.heap.objs.size) (o:=.dK []) (t':=s.toks) (fun _ _ e => Heap.get?_push_of_some _ e) (Nat.le_refl _) ⟨Nat.zero_le _,beq_eq_false_iff_ne.mpr (Ne.symm (Nat.ne_of_lt big)),[],.nil,Heap.DictOf.new s.heap⟩,rfl,k.2 _ _ _ O q (.new k.1.ok hf) (.dct AK)⟩
theorem VC {n:Nat} (h0:0≤i) (h1:i < n):seqIndex? i n = some i.toNat:=by
 unfold seqIndex?
 have:¬ i < 0:=by omega
 simp only [if_neg this]
 rw [if_pos]
 simp
 omega
theorem Nt {o:Expr} {apos cpos:Pos} (h:WE Z ρ O o fun t O1 => ∃ l,t = .raw (.ref l)∧(∃ ts,O1 l = some ts)∧WE Z ρ O1 e fun u O2 => ∃ ts i y,u = .int i∧O2 l = some ts∧0≤i∧i < 2 ^ 63∧i < ts.length∧ts[i.toNat]? = some y∧Φ y (AZ O2 l (ts.eraseIdx i.toNat)))
  (hbase:attributeBase o "pop" Z.X.env (eval o Z.X.env) = eval o Z.X.env:=by rfl)
  (hfew:((backTo cpos (starEach [e] Z.X.env)).all (fun x => !x.1) && (backToKw cpos (keywordEach [] Z.X.env)).all (fun x => x.1.isSome)
   && decide ([e].length + ([]:List Keyword).length + (if ([]:List Keyword).isEmpty then 0 else 1) < 30)) = true:=by rfl)
  (hline:(apos.endLine == cpos.line) = true:=by rfl) (hs:starEach [e] Z.X.env = (false,eval e Z.X.env) :: starEach [] Z.X.env:=by rfl) (hplain:(backTo cpos (starEach [] Z.X.env)).any (·.1) = false:=by rfl):WE Z ρ O (.Call (.Attribute o "pop" apos) [e] [] cpos) Φ:=by
 refine Nf PySem.F.plainAttrs_list PySem.F.slot_list_pop PySem.F.type_list_pop Mv (Bq h ?_) hbase hfew hline hs hplain
 rintro t O1 ⟨l,rfl,⟨ts,hts⟩,w⟩
 refine ⟨HR hts,CV (Bq w ?_) hs⟩
 rintro u O2 ⟨us,i,y,rfl,h1,i0,i1,i2,hy,p⟩
 refine Ay fun H v vs Q ok r1 r2 q => ?_
 cases r1.raw_inv
 obtain ⟨w,rfl,r3⟩:=r2.one_inv
 cases r3.int_inv
 obtain ⟨xs,hx,r⟩:=ok l us h1
 obtain ⟨v,hv,rv⟩:=r.get hy
 exact ⟨l,xs,i,i.toNat,v,rfl,rfl,hx,by omega,i1,by rw [r.length]; exact VC i0 i2,hv,q _ _ _ _ p (.put ok h1 (r.eraseIdx _)) (rv.kp (HL h1) ok)⟩
end
def AN (p:Int × Int):T:=.tup [.int p.1,.int p.2]
def WR (p q:Int × Int):Prop:=p.1 < q.1∨(p.1 = q.1∧p.2 < q.2)
section
variable {K:PySem.W.Frag} {O:AJ} {H:Hp}
theorem Fe:∀ {ps:List (Int × Int)} {xs:List V},Reps K O H xs (ps.map AN)→∃ qs:List (List Int × Addr),xs = qs.map (fun p => V.ref p.2)∧qs.map (·.1) = ps.map (fun p => [p.1,p.2])∧∀ k x,(k,x)∈qs→H x = some (.tup (k.map V.int))
 | [],xs,r => ⟨[],r.nil_inv,rfl,fun _ _ h => by cases h⟩
 | p :: ps,xs,r => by
  obtain ⟨v,vs',rfl,h,r'⟩:=Reps.cons_inv r
  obtain ⟨a,ys,rfl,ha,r2⟩:=h.tup_inv
  cases Reps.ints (ns:=[p.1,p.2]) r2
  obtain ⟨qs,rfl,e,hk⟩:=Fe r'
  refine ⟨([p.1,p.2],a) :: qs,rfl,by rw [List.map_cons,List.map_cons,e],fun k x h => ?_⟩
  rcases List.mem_cons.mp h with h | h
  ·cases h; exact ha
  ·exact hk k x h
theorem Ff:∀ {qs:List (List Int × Addr)} {ps:List (Int × Int)},qs.map (·.1) = ps.map (fun p => [p.1,p.2])→(∀ k x,(k,x)∈qs→H x = some (.tup (k.map V.int)))→Reps K O H (qs.map fun p => V.ref p.2) (ps.map AN)
 | [],[],_,_ => .nil
 | [],p :: ps,e,_ => by cases e
 | q :: qs,[],e,_ => by cases e
 | (k,x) :: qs,p :: ps,e,h => by
  rw [List.map_cons,List.map_cons] at e
  injection e with e1 e2
  have e1:k = [p.1,p.2]:=e1
  have hx:=h k x (List.mem_cons_self ..)
  rw [e1] at hx
  exact .cons (.tup hx (.cons (.int _) (.cons (.int _) .nil))) (Ff e2 fun k x hk => h k x (List.mem_cons_of_mem _ hk))
end
theorem LG:∀ {ys:List (List Int × Addr)},(∀ k x,(k,x)∈ys→∃ i j:Int,k = [i,j])→∃ ps:List (Int × Int),ys.map (·.1) = ps.map (fun p => [p.1,p.2])
 | [],_ => ⟨[],rfl⟩
 | (k,x) :: ys,h => by
  obtain ⟨i,j,e⟩:=h k x (List.mem_cons_self ..)
  obtain ⟨ps,e2⟩:=LG fun k x hk => h k x (List.mem_cons_of_mem _ hk)
  exact ⟨(i,j) :: ps,by rw [List.map_cons,List.map_cons,e,e2]⟩
section
variable {Z:Zx} {ρ:List (Option T)} {O:AJ} {e:Expr} {Φ:Bb} {pos p p1 pos1:Pos}
theorem HY {ps:List (Int × Int)} (m:Z.X.mg "sorted" = none) (m2:Z.X.mg "set" = none) (hc:Z.X.calm = true) (hu:Z.X.A.units + 8 < cLine) (h:ET Z ρ O e (.lst (ps.map AN))) (hl:ps.length≤300) (hb:∀ q∈ps,0≤q.2∧q.2 < 65536)
  (k:∀ qs:List (Int × Int),qs.Pairwise WR→(∀ q,q∈qs↔q∈ps)→qs.length≤ps.length→Φ (.lst (qs.map AN)) O) (hg:Gl Z.X "sorted":=by rfl) (hg2:Gl Z.X "set":=by rfl) (he:starEach [e] Z.X.env = (false,eval e Z.X.env) :: starEach [] Z.X.env:=by rfl)
  (he2:starEach [Expr.Call (.Name "set" p1) [e] [] pos1] Z.X.env = (false,eval (.Call (.Name "set" p1) [e] [] pos1) Z.X.env) :: starEach [] Z.X.env:=by rfl):WE Z ρ O (.Call (.Name "sorted" p) [.Call (.Name "set" p1) [e] [] pos1] [] pos) Φ:=by
 refine PE.weak (An (HJ hc) hg m LD (AH (Dv (MC hc hu) hg2 m2 Uz (Ie (ρ:=ρ)) (by decide) (by decide) he) Ae he2) (by decide) (by decide) he2) fun σ H Q q => ?_
 refine ⟨O,_,AS h AC he (fun ts O' => ts = [.lst (ps.map AN)]∧O' = O) ⟨rfl,rfl⟩,q.1,?_⟩
 rintro vs H1 _ _ ⟨rfl,rfl⟩ f r
 obtain ⟨v,rfl,r1⟩:=r.one_inv
 obtain ⟨a,xs,rfl,h1,_,r1⟩:=r1.lst_inv
 obtain ⟨qs,rfl,eq,hk⟩:=Fe r1
 have lq:qs.length = ps.length:=by
  have:=congrArg List.length eq
  simpa using this
 refine ⟨a,qs,rfl,.inl (.inl h1),fun k x hx => .inl (.inl (hk k x hx)),by omega,fun l xs hl1 so nd => ?_⟩
 obtain ⟨s1,s2,s3⟩:=so
 have f1:=Frm.new (o:=SetO Z.X.prog Z.X.w l xs) f.ok hl1
 have hk2:∀ k x,(k,x)∈xs→Aw H1 l (SetO Z.X.prog Z.X.w l xs) x = some (.tup (k.map V.int)):=fun k x hx => by
  have:=hk k x (s1 _ hx)
  rw [AI (AM this hl1)]; exact this
 have mem1:∀ k x,(k,x)∈qs→∃ q∈ps,k = [q.1,q.2]:=fun k x hx => by
  have:k∈qs.map (·.1):=List.mem_map.mpr ⟨(k,x),hx,rfl⟩
  rw [eq] at this
  obtain ⟨q,h1,h2⟩:=List.mem_map.mp this
  exact ⟨q,h1,h2.symm⟩
 have two:∀ k x,(k,x)∈xs→∃ i j,k = [i,j]∧0≤j∧j < 65536:=fun k x hx => by
  obtain ⟨q,h1,h2⟩:=mem1 k x (s1 _ hx)
  exact ⟨q.1,q.2,h2,hb q h1⟩
 refine ⟨l,xs,rfl,AK,fun k x hx => .inl (.inl (hk2 k x hx)),by omega,two,fun d ys hd pm pw => ?_⟩
 obtain ⟨rs,er⟩:=LG (ys:=ys) fun k x hx => by
  obtain ⟨i,j,e,_⟩:=two k x (pm.mem_iff.mp hx)
  exact ⟨i,j,e⟩
 have f2:=Frm.new (o:=.lst (ys.map fun p => V.ref p.2)) f1.ok hd
 have hk3:∀ k x,(k,x)∈ys→Aw (Aw H1 l (SetO Z.X.prog Z.X.w l xs)) d (.lst (ys.map fun p => V.ref p.2)) x = some (.tup (k.map V.int)):=fun k x hx => by
  have:=hk2 k x (pm.mem_iff.mp hx)
  rw [AI (AM this hd)]; exact this
 have memr:∀ z,z∈rs↔∃ x,([z.1,z.2],x)∈ys:=fun z => by
  constructor
  ·intro hz
   have:[z.1,z.2]∈ys.map (·.1):=by rw [er]; exact List.mem_map.mpr ⟨z,hz,rfl⟩
   obtain ⟨⟨k,x⟩,h1,h2⟩:=List.mem_map.mp this
   have h2:k = _:=h2
   subst h2
   exact ⟨x,h1⟩
  ·rintro ⟨x,hx⟩
   have:[z.1,z.2]∈ys.map (·.1):=List.mem_map.mpr ⟨_,hx,rfl⟩
   rw [er] at this
   obtain ⟨w,h1,h2⟩:=List.mem_map.mp this
   injection h2 with e1 e2
   injection e2 with e2 _
   have:w = z:=Prod.ext e1 e2
   rw [← this]; exact h1
 have ndy:(ys.map (·.1)).Nodup:=(pm.map _).nodup_iff.mpr nd
 refine q.2 _ _ _ _ (k rs ?_ (fun z => ?_) ?_) (f.trans (f1.trans f2)) (.lst AK (f1.ok.none_of hd) (Ff er hk3))
 ·-- strictly rising
  have pw':rs.Pairwise fun x y => 65536 * x.1 + x.2≤65536 * y.1 + y.2:=by
   have h3:(ys.map (·.1)).Pairwise fun x y => 65536 * x.getD 0 0 + x.getD 1 0≤65536 * y.getD 0 0 + y.getD 1 0:=List.pairwise_map.mpr pw
   rw [er] at h3
   exact (List.pairwise_map (f:=fun (p:Int × Int) => [p.1,p.2]) (R:=fun x y => 65536 * x.getD 0 0 + x.getD 1 0≤65536 * y.getD 0 0 + y.getD 1 0)).mp h3
  have nd':rs.Pairwise fun x y => x≠y:=by
   have h3:(ys.map (·.1)).Pairwise (·≠·):=ndy
   rw [er] at h3
   exact (List.pairwise_map.mp h3).imp fun hxy z => hxy (by rw [z])
  refine (pw'.and nd').imp_of_mem fun {x y} hx hy ⟨h1,h2⟩ => ?_
  have bnd:∀ z,z∈rs→0≤z.2∧z.2 < 65536:=fun z hz => by
   obtain ⟨v,hv⟩:=(memr z).mp hz
   obtain ⟨i,j,e,hj⟩:=two _ v (pm.mem_iff.mp hv)
   injection e with e1 e2
   injection e2 with e2 _
   omega
  have b1:=bnd x hx
  have b2:=bnd y hy
  unfold WR
  have:¬ (x.1 = y.1∧x.2 = y.2):=fun z => h2 (Prod.ext z.1 z.2)
  omega
 ·rw [memr]
  constructor
  ·rintro ⟨x,hx⟩
   obtain ⟨w,h1,h2⟩:=mem1 _ x (s1 _ (pm.mem_iff.mp hx))
   injection h2 with e1 e2
   injection e2 with e2 _
   have:z = w:=Prod.ext e1 e2
   rw [this]; exact h1
  ·intro hz
   have:[z.1,z.2]∈qs.map (·.1):=by rw [eq]; exact List.mem_map.mpr ⟨z,hz,rfl⟩
   obtain ⟨⟨k,x⟩,h1,h2⟩:=List.mem_map.mp this
   have h2:k = _:=h2
   subst h2
   obtain ⟨x',hx'⟩:=s2 _ _ h1
   exact ⟨x',pm.mem_iff.mpr hx'⟩
 ·have e1:rs.length = ys.length:=by
   have:=congrArg List.length er
   simpa using this.symm
  have e2:=pm.length_eq
  omega
end
theorem XFly.mono {X:Cx} {W W':St→XK} (x:XFly X W) (h:∀ σ cls H',W' σ cls none H'→W σ cls none H'):XFly X W':=⟨fun pins σ H s e s' I c => x.fly pins σ H s e s' I (by
 obtain ⟨y,cls,H',e1,f,q⟩:=c
 exact ⟨y,cls,H',e1,f,h σ cls H' q⟩)⟩
theorem El {X:Cx} {Oe:AJ} {He:Hp}:XFly X (zc X Oe He).W:=⟨fun pins σ H s e s' I c => by
 obtain ⟨y,cls,H',e1,f,_,O',z,_⟩:=c
 exact z.elim⟩
abbrev zB (P:Program) (w:World) (K:PySem.W.Frag) (mg:Str→Option Value) (base:Heap) (N:List Str) (qual:Str) (sc:Scope) (f:Addr) (cdv:Value) (A:Around) (outer:List Env) (s:Shared) (H:Hp) (E:XK) (O:AJ) (Ξ:Value→AJ→Prop):Zx :=
 ⟨Cj (CXe P w) P w K mg base N qual sc f cdv A outer s H E,O,H,Ξ⟩
def CZ (N:List Str) (ts:List T):List (Option T):=ts.map some ++ List.replicate (N.length - ts.length) none
theorem Fg {K:PySem.W.Frag} {O:AJ} {H:Hp} {N:List Str} {vs:List V} {ts:List T} (r:Reps K O H vs ts):Rl K O H (start N vs) (CZ N ts):=by
 refine ⟨by simp [start,CZ,r.length],fun i t e => ?_⟩
 unfold CZ at e
 by_cases hi:i < ts.length
 ·rw [List.getElem?_append_left (by simpa using hi),List.getElem?_map] at e
  cases ht:ts[i]? with
  | none => rw [ht] at e; cases e
  | some u =>
   rw [ht] at e
   cases e
   obtain ⟨v,h1,h2⟩:=r.get ht
   refine ⟨v,?_,h2⟩
   unfold start
   rw [List.getElem?_append_left (by simpa [r.length] using hi),List.getElem?_map,h1]
   rfl
 ·rw [List.getElem?_append_right (by simpa using hi),List.getElem?_replicate] at e
  split at e <;> cases e
theorem AY {P:Program} {w:World} {K:PySem.W.Frag} {mg:Str→Option Value} {base:Heap} {x qual:Str} {st:Stmt} {f:Addr} {fd:FuncData} {N ps:List Str} {k:Nat} {sp:Ch} (F:Fun K x qual st f fd) (S:FnScope N ps (AA st)) (len:∀ ts O Φ Ξ,sp ts O Φ Ξ→ts.length = ps.length)
  (h:∀ (cdv:Value) (A:Around) (outer:List Env) (s:Shared) (H:Hp) (E:XK) (O:AJ) (Ξ:Value→AJ→Prop),Room k (A.deeper (envOfC qual (AA st) s.heap.objs.size f cdv))→XFly (zB P w K mg base N qual (AA st) f cdv A outer s H E O Ξ).X (zB P w K mg base N qual (AA st) f cdv A outer s H E O Ξ).W →
   ∀ ts Φ,sp ts O Φ Ξ→DP (zB P w K mg base N qual (AA st) f cdv A outer s H E O Ξ) (CZ N ts) O (Am st) { nx:=fun _ O' => Φ .non O',rt:=Φ }):FnOk P w K mg base (CXe P w) (k + 1) f fd ps (DH K sp):=by
 refine F.okX S (fun vs H Q E h => ?_) (fun cdv A outer s H vs Q E hr h1 => ?_)
 ·obtain ⟨ts,O,Φ,Ξ,r,_,q,_⟩:=h
  rw [r.length]; exact len ts O Φ Ξ q
 ·obtain ⟨ts,O,Φ,Ξ,r,ok,q,acc,ex⟩:=h1
  refine ⟨_,h cdv A outer s H E O Ξ hr (XFly.mono Aa.f ?_) ts Φ q,⟨Fg r,.refl ok⟩,?_⟩
  ·rintro σ cls H' ⟨_,O',x,f⟩
   exact ex cls O' H' x f
  ·exact ⟨fun ρ' O' σ' H' p a _ => acc _ _ _ O' p a.fr .non,fun v H' t O' p f r => acc v H' t O' p f r,fun _ _ _ _ z => z.elim,fun _ _ _ _ z => z.elim⟩
def RV (S:Scope) (N:List Str) (csc:Scope) (cap:List (Str × Nat)):Bool :=
 decide (csc.kind = .function) && csc.names.all (fun y => decide (y.2 = .cell→csc.names.lookup y.1 = some .cell)) && csc.names.all (fun y => decide (y.2 = .local→csc.names.lookup y.1 = some .local)) && csc.names.all (fun y => decide (y.2 = .free→S.names.lookup y.1 = some .cell∨S.names.lookup y.1 = some .free)) && cap.all (fun p => decide (N[p.2]? = some p.1∧csc.names.lookup p.1 = some .free))
theorem Ca {X:Cx} {csc:Scope} {nc:List Str} {cap:List (Str × Nat)} (S:Scope) (N:List Str) (chk:RV S N csc cap = true) (h1:X.env.scope = S:=by rfl) (h2:X.N = N:=by rfl):LcOk X csc nc cap:=by
 unfold RV at chk
 simp only [Bool.and_eq_true,List.all_eq_true,decide_eq_true_eq] at chk
 obtain ⟨⟨⟨⟨c1,c2⟩,c3⟩,c4⟩,c5⟩:=chk
 exact ⟨c1,c2,c3,by rw [h1]; exact c4,by rw [h2]; exact c5⟩
section
variable {Z:Zx} {ρ:List (Option T)} {O:AJ} {elt tg iter:Expr} {ifs:List Expr} {csc:Scope} {nc:List Str} {cap:List (Str × Nat)} {Φ:Bb} {pos:Pos} {α:Type}
theorem Nu {F:List T→AJ→Prop} (xs:List α) (f g:α→T) (hl:xs.length≤sizeLine) (h:∀ x,x∈xs→∃ ρ4,∀ X' Oe He,LcCx Z.X csc (Af nc cap) X'→∀ O',(WG (zc X' Oe He) nc.length (Ee nc ρ cap) O' tg (f x) ρ4∧ET (zc X' Oe He) ρ4 O' elt (g x))) (fin:F (xs.map g) O):PX Z ρ elt tg [] csc nc cap F (xs.map f) O:=by
 refine ⟨fun i acc O' => O' = O∧acc = (xs.take i).map g,⟨rfl,by simp⟩,?_,?_⟩
 ·rintro i t acc O' p e ⟨rfl,rfl⟩ np
  rw [List.getElem?_map] at e
  cases ex:xs[i]? with
  | none => rw [ex] at e; cases e
  | some x =>
   rw [ex] at e
   cases e
   obtain ⟨ρ4,w⟩:=h x (List.mem_of_getElem? ex)
   have hi:=(List.getElem?_eq_some_iff.mp ex).1
   refine ⟨ρ4,fun X' Oe He is => ⟨(w X' Oe He is _).1,Ek (Eb fun X' Oe He is => (w X' Oe He is _).2 _ ⟨_,rfl,np,?_,rfl,?_⟩)⟩⟩
   ·simp; omega
   ·rw [List.take_add_one,ex]; simp
 ·rintro acc O' ⟨rfl,rfl⟩
  rw [List.length_map,List.take_length]
  exact fin
theorem EV {F:List T→AJ→Prop} {c:Expr} (xs:List α) (f g:α→T) (q:α→Bool) (hl:xs.length≤sizeLine) (h:∀ x,x∈xs→∃ ρ4,∀ X' Oe He,LcCx Z.X csc (Af nc cap) X'→∀ O',(WG (zc X' Oe He) nc.length (Ee nc ρ cap) O' tg (f x) ρ4∧EB (zc X' Oe He) ρ4 O' c (q x)∧(q x = true→ET (zc X' Oe He) ρ4 O' elt (g x)))) (fin:F ((xs.filter q).map g) O):PX Z ρ elt tg [c] csc nc cap F (xs.map f) O:=by
 refine ⟨fun i acc O' => O' = O∧acc = ((xs.take i).filter q).map g,⟨rfl,by simp⟩,?_,?_⟩
 ·rintro i t acc O' p e ⟨rfl,rfl⟩ np
  rw [List.getElem?_map] at e
  cases ex:xs[i]? with
  | none => rw [ex] at e; cases e
  | some x =>
   rw [ex] at e
   cases e
   obtain ⟨ρ4,w⟩:=h x (List.mem_of_getElem? ex)
   have hi:=(List.getElem?_eq_some_iff.mp ex).1
   refine ⟨ρ4,fun X' Oe He is => ⟨(w X' Oe He is _).1,Kz ((w X' Oe He is _).2.1 _ ?_)⟩⟩
   cases hq:q x with
   | true =>
    refine Eb fun X' Oe He is => (w X' Oe He is _).2.2 hq _ ⟨_,rfl,np,?_,rfl,?_⟩
    ·have:=List.length_filter_le q (xs.take i)
     simp at this ⊢; omega
    ·rw [List.take_add_one,ex]; simp [hq]
   | false =>
    refine DO ⟨_,rfl,np,rfl,?_⟩
    rw [List.take_add_one,ex]; simp [hq]
 ·rintro acc O' ⟨rfl,rfl⟩
  rw [List.length_map,List.take_length]
  exact fin
theorem By (nc:List Str) (cap:List (Str × Nat)) (xs:List α) (f g:α→T) (hc:Z.X.calm = true) (ok:LcOk Z.X csc nc cap) (hi:EI Z ρ O tg iter (xs.map f)) (hl:xs.length≤sizeLine) (h:∀ x,x∈xs→∃ ρ4,∀ X' Oe He,LcCx Z.X csc (Af nc cap) X'→∀ O',(WG (zc X' Oe He) nc.length (Ee nc ρ cap) O' tg (f x) ρ4∧ET (zc X' Oe He) ρ4 O' elt (g x)))
  (hs:∀ x,foldedSetIterable iter Z.X.env x = pure x:=by intro _; rfl):ET Z ρ O (.ListComp elt [⟨tg,iter,[],0⟩] csc pos) (.lst (xs.map g)):=fun Φ p => LA hc ok (hi _ (Nu xs f g hl h p)) hs
theorem HZ (nc:List Str) (cap:List (Str × Nat)) {c:Expr} (xs:List α) (f g:α→T) (q:α→Bool) (hc:Z.X.calm = true) (ok:LcOk Z.X csc nc cap) (hi:EI Z ρ O tg iter (xs.map f)) (hl:xs.length≤sizeLine) (h:∀ x,x∈xs→∃ ρ4,∀ X' Oe He,LcCx Z.X csc (Af nc cap) X'→∀ O',(WG (zc X' Oe He) nc.length (Ee nc ρ cap) O' tg (f x) ρ4∧EB (zc X' Oe He) ρ4 O' c (q x)∧(q x = true→ET (zc X' Oe He) ρ4 O' elt (g x))))
  (hs:∀ x,foldedSetIterable iter Z.X.env x = pure x:=by intro _; rfl):ET Z ρ O (.ListComp elt [⟨tg,iter,[c],0⟩] csc pos) (.lst ((xs.filter q).map g)):=fun Φ p => LA hc ok (hi _ (EV xs f g q hl h p)) hs
end
section
variable {Z:Zx} {ρ:List (Option T)} {O:AJ} {e:Expr} {es:List Expr} {Φ:Bb} {Ψ:Es} {pos p:Pos} {ts:List T} {x:Str}
theorem EA.wa {Φ:Kw} (h:EA Z ρ O es ts) (p:Φ ts O):WA Z ρ O es Φ:=h Φ p
theorem EI.wi {tg iter:Expr} {Φ:Kw} (h:EI Z ρ O tg iter ts) (p:Φ ts O):WI Z ρ O tg iter Φ:=h Φ p
theorem MH {l:Addr} (m:Z.X.mg "tuple" = none) (ho:O l = some ts) (h:ET Z ρ O e (.raw (.ref l))) (hg:Gl Z.X "tuple":=by rfl) (he:starEach [e] Z.X.env = (false,eval e Z.X.env) :: starEach [] Z.X.env:=by rfl):ET Z ρ O (.Call (.Name "tuple" p) [e] [] pos) (.tup ts) :=
 EK ES m Np (AS h AC he) (fun Φ q H vs Q ok r k => by
  obtain ⟨v,rfl,r1⟩:=r.one_inv
  cases r1.raw_inv
  obtain ⟨xs,h1,r1⟩:=ok l ts ho
  exact ⟨l,xs,rfl,.inl (.inl h1),fun p hp => k _ _ _ O q (.new ok hp) (.tup AK (r1.kp (Bm ok hp) ok))⟩) hg (by decide) (by decide) he
theorem Nv {k:Nat} {f:Addr} {fd:FuncData} {ps:List Str} {sp:Sp} (F:FnOk Z.X.prog Z.X.w Z.X.K Z.X.mg Z.X.base (CXe Z.X.prog Z.X.w) k f fd ps sp) (hm:Z.X.mg x = some (.ref f)) (hk:PySem.W.keepIn Z.X.K (.ref f) = true) (hb:Binds Z.X.K fd ps []) (hr:Room k Z.X.A) (xf:XFly Z.X Z.W) (h:EA Z ρ O (e :: es) ts)
  (w:∀ σ H vs Q,Asr Z ρ O σ H→Reps Z.K O H vs ts→Acc Z.K O H Φ Q→sp vs H Q (Z.W σ)) (hg:Gl Z.X x:=by rfl)
  (hdb:(x == ("__debug__" : Str)) = false:=by decide) (he:starEach (e :: es) Z.X.env = (false,eval e Z.X.env) :: starEach es Z.X.env:=by rfl) (hpl:(backTo pos (starEach es Z.X.env)).any (·.1) = false:=by rfl):WE Z ρ O (.Call (.Name x p) (e :: es) [] pos) Φ:=by
 refine PE.weak (IP xf F hr hg hm hk hb (Ie (ρ:=ρ)) hdb he hpl) fun σ H Q q => ?_
 refine ⟨O,_,h (fun us O' => us = ts∧O' = O) ⟨rfl,rfl⟩,q.1,?_⟩
 rintro vs H1 _ _ ⟨rfl,rfl⟩ f r
 exact w σ H1 vs Q (q.1.step f) r (q.2.step f)
end
def Br:Expr→Bool
 | .Starred .. => false
 | _ => true
theorem Gc {e:Expr} {es:List Expr} {env:Env} (h:Br e = true):starEach (e :: es) env = (false,eval e env) :: starEach es env:=by
 cases e <;> first | rfl | cases h
section
variable {Z:Zx} {ρ:List (Option T)} {O:AJ} {e:Expr} {es:List Expr} {t:T} {ts:List T}
theorem AD (h:ET Z ρ O e t) (hr:EA Z ρ O es ts) (hn:Br e = true:=by rfl):EA Z ρ O (e :: es) (t :: ts):=AS h hr (Gc hn)
theorem Cb {Φ:Kw} (h:WE Z ρ O e fun t O1 => WA Z ρ O1 es fun ts O2 => Φ (t :: ts) O2) (hn:Br e = true:=by rfl):WA Z ρ O (e :: es) Φ:=CV h (Gc hn)
theorem DM {a b:Expr} {i j:Int} {k:Nat} {pos:Pos} (ha:ET Z ρ O a (.int i)) (hb:ET Z ρ O b (.int j)) (h1:Br a = true:=by rfl) (h2:Br b = true:=by rfl):ET Z ρ O (.Tuple [a,b] k pos) (AN (i,j)):=At (AD ha (AD hb AC h2) h1) (by show 2≤sizeLine; decide)
theorem XG {p:Int × Int} {ps:List (Int × Int)} (h:ET Z ρ O e (AN p)) (hr:EA Z ρ O es (ps.map AN)) (hn:Br e = true:=by rfl):EA Z ρ O (e :: es) ((p :: ps).map AN):=AD h hr hn
theorem VD:EA Z ρ O [] (([]:List (Int × Int)).map AN):=AC
end
theorem Nw {O:AJ} {p:Addr} {xs:List T} (h:O p = some xs):AZ O p xs = O:=by
 funext b
 by_cases hb:b = p
 ·rw [hb,AF,h]
 ·rw [AV hb]
theorem TD {O:AJ} {p l:Addr} {xs:List T} (h:O p = some xs) (hl:O l = none):p≠l:=fun z => by rw [z,hl] at h; cases h
section
variable {Z:Zx} {ρ:List (Option T)} {O:AJ} {e:Expr} {es:List Expr} {t:T} {ts:List T} {Φ:Bb} {Ψ:Es} {pos p2:Pos} {x:Str}
inductive CPs:List Expr→List (Int × Int)→Prop
 | nil:CPs [] []
 | cons {a b:Int} {k1 k2 k3:Nat} {q1 q2 q3:Pos} {es:List Expr} {ps:List (Int × Int)}:CPs es ps→CPs (.Tuple [.Constant (.int a) k1 q1,.Constant (.int b) k2 q2] k3 q3 :: es) ((a,b) :: ps)
structure HEA (Z:Zx) (ρ:List (Option T)) (O:AJ) (es:List Expr) (ts:List T):Prop where
 out:EA Z ρ O es ts
structure HET (Z:Zx) (ρ:List (Option T)) (O:AJ) (e:Expr) (t:T):Prop where
 out:ET Z ρ O e t
theorem HEA.nil:HEA Z ρ O [] []:=⟨AC⟩
theorem HEA.cons (h:HET Z ρ O e t) (hr:HEA Z ρ O es ts) (hn:Br e = true:=by rfl):HEA Z ρ O (e :: es) (t :: ts):=⟨AD h.out hr.out hn⟩
structure HS (Z:Zx) (ρ:List (Option T)) (O:AJ) (ss:List Stmt) (Ψ:Es):Prop where
 out:DP Z ρ O ss Ψ
theorem Be {s:Stmt} {ss:List Stmt} (h:WS Z ρ O s { Ψ with nx:=fun ρ' O' => HS Z ρ' O' ss Ψ }):HS Z ρ O (s :: ss) Ψ :=
 ⟨AE (QG h (fun _ _ z => z.out) (fun _ _ z => z) (fun _ _ z => z) (fun _ _ z => z))⟩
theorem Ha {s:Stmt} (h:WS Z ρ O s Ψ):HS Z ρ O [s] Ψ:=⟨AG h⟩
end
section
variable {X:Cx} {a b c d:Expr} {ta tb tc td:TE} {pos:Pos}
end
section
variable {Z:Zx} {ρ:List (Option T)} {O:AJ} {a b c d:Expr} {pos:Pos} {i j k l:Int}
end
end L2.TL
namespace L2
open PySem PySem.Spec PySem.Calls PyProof.Rows
section
variable {prog:Program} {w:World} {A:Around} {E:Value→Shared→Prop} {s:Shared}
end
section
variable {X:Cx}
end
end L2
namespace L2.TL
open PySem PySem.Spec PySem.Calls PyProof.Rows
mutual
def dT:T→PyData
 | .non => .none
 | .bl b => .bool b
 | .int i => .int i
 | .str x => .str x
 | .tup ts => .tuple (dTs ts)
 | .lst ts => .list (dTs ts)
 | .frz _ => .none
 | .dct => .none
 | .raw _ => .none
def dTs:List T→List PyData
 | [] => []
 | t :: ts => dT t :: dTs ts
end
section
variable {K:PySem.W.Frag} {O:AJ} {H:Hp} {P:Program} {w:World} {h:Heap}
end
section
variable {X:Cx}
end
theorem XOk.mono {X:Cx} {W W':St→XK} (x:XOk X W) (h:∀ σ cls H',W' σ cls none H'→W σ cls none H'):XOk X W' :=
 ⟨fun pins σ H s h' y cls I m q => x.made pins σ H s h' y cls I m (h σ cls H q),(XFly.mono x.f h).fly,x.own⟩
theorem LH {P:Program} {w:World} {K:PySem.W.Frag} {mg:Str→Option Value} {base:Heap} {x qual:Str} {st:Stmt} {f:Addr} {fd:FuncData} {N ps:List Str} {k:Nat} {sp:Ch} (F:Fun K x qual st f fd) (S:FnScope N ps (AA st)) (len:∀ ts O Φ Ξ,sp ts O Φ Ξ→ts.length = ps.length)
  (h:∀ (cdv:Value) (A:Around) (outer:List Env) (s:Shared) (H:Hp) (E:XK) (O:AJ) (Ξ:Value→AJ→Prop),Room k (A.deeper (envOfC qual (AA st) s.heap.objs.size f cdv))→XOk (zB P w K mg base N qual (AA st) f cdv A outer s H E O Ξ).X (zB P w K mg base N qual (AA st) f cdv A outer s H E O Ξ).W →
   ∀ ts Φ,sp ts O Φ Ξ→DP (zB P w K mg base N qual (AA st) f cdv A outer s H E O Ξ) (CZ N ts) O (Am st) { nx:=fun _ O' => Φ .non O',rt:=Φ }):FnOk P w K mg base (CXe P w) (k + 1) f fd ps (DH K sp):=by
 refine F.okX S (fun vs H Q E h => ?_) (fun cdv A outer s H vs Q E hr h1 => ?_)
 ·obtain ⟨ts,O,Φ,Ξ,r,_,q,_⟩:=h
  rw [r.length]; exact len ts O Φ Ξ q
 ·obtain ⟨ts,O,Φ,Ξ,r,ok,q,acc,ex⟩:=h1
  refine ⟨_,h cdv A outer s H E O Ξ hr (XOk.mono Aa ?_) ts Φ q,⟨Fg r,.refl ok⟩,?_⟩
  ·rintro σ cls H' ⟨_,O',x,f⟩
   exact ex cls O' H' x f
  ·exact ⟨fun ρ' O' σ' H' p a _ => acc _ _ _ O' p a.fr .non,fun v H' t O' p f r => acc v H' t O' p f r,fun _ _ _ _ z => z.elim,fun _ _ _ _ z => z.elim⟩
theorem Frm.same {K:PySem.W.Frag} {O O':AJ} {H H' H'':Hp} (f:Frm K O H O' H') (s:Same H' H''):Frm K O H O' H'' where
 kp:=fun b o h n => ⟨s b o (f.kp b o h n).1,(f.kp b o h n).2⟩
 own:=f.own
 ok:=fun a ts e => by
  obtain ⟨xs,h,r⟩:=f.ok a ts e
  exact ⟨xs,s _ _ h,r.mono (fun b o h _ => s b o h) fun b xs h n => ⟨s b _ h,n⟩⟩
theorem EL {K:PySem.W.Frag} {O:AJ} {H:Hp}:∀ (ns:List Int),Reps K O H (ns.map V.int) (ns.map T.int)
 | [] => .nil
 | n :: ns => .cons (.int n) (EL ns)
section
variable {Z:Zx} {ρ:List (Option T)} {O:AJ} {e a b:Expr} {es:List Expr} {Ψ:Es} {Φ:Bb} {pos p:Pos} {t:T} {ts:List T}
theorem Gd {x:Str} {C:Addr} {np cpos:Pos} (xo:XOk Z.X Z.W) (hc:Z.X.calm = true) (hm:Z.X.mg x = some (.ref C)) (q:PySem.W.excIn Z.X.K C Lp "ValueError.__new__" = true) (h:Z.Xi (.ref C) O) (hg:Gl Z.X x:=by rfl)
  (hd:(x == ("__debug__" : Str)) = false:=by decide):WS Z ρ O (.Raise (some (.Call (.Name x np) [] [] cpos)) none pos) Ψ :=
 PS.weak (Lq xo hc hg hm q hd) fun D σ H k => ⟨rfl,O,h,k.1.fr⟩
def Em (C:Addr) (y:Str):Sp:=fun vs H Q _ => ∃ x,vs = [.ref x]∧H x = some (HA C x)∧∀ H',Same H H'→Q (.str y) H'
theorem QJ {H H':Hp} {p:Addr} {o:HO} (s:Same (Aw H p o) H') (hp:H p = none):Same H H':=fun b u e => s b u (by
 have:b≠p:=fun z => by rw [z,hp] at e; cases e
 rw [AI this]; exact e)
end
section
variable {Z:Zx} {ρ:List (Option T)} {O:AJ} {e:Expr} {es:List Expr} {t:T} {ts us:List T} {Φ:Bb} {Ψ:Es} {pos p2 p3 p4:Pos} {x:Str}
end
section
variable {Z:Zx} {ρ:List (Option T)} {O:AJ} {es:List Expr} {ts:List T} {Ψ:Es} {pos p:Pos} {tg iter:Expr} {body:List Stmt}
theorem LI (hp:PassesOwn (model Z.X.prog Z.X.w) Z.X.A Z.X.env Z.X.xe) (hc:Z.X.calm = true) (h:HEA Z ρ O es ts) (hl:ts.length≤sizeLine) (I:Nat→Il) (i0:I 0 ρ O)
  (st:∀ i t ρ' O',ts[i]? = some t→I i ρ' O'→∃ ρ2,WG Z Z.X.N.length ρ' O' tg t ρ2∧HS Z ρ2 O' body { nx:=I (i + 1),rt:=Ψ.rt,bk:=Ψ.nx,ct:=I (i + 1) }) (fin:∀ ρ' O',I ts.length ρ' O'→Ψ.nx ρ' O'):WS Z ρ O (.For tg (.List es p) body [] pos) Ψ :=
 BR hp hc (EI.wi (BB (BD h.out hl)) ⟨I,i0,fun i t ρ' O' e x => by
  obtain ⟨ρ2,a,b⟩:=st i t ρ' O' e x
  exact ⟨ρ2,a,b.out⟩,fin⟩) (by intro _; rfl)
structure HWE (Z:Zx) (ρ:List (Option T)) (O:AJ) (e:Expr) (Φ:Bb):Prop where
 out:WE Z ρ O e Φ
theorem QK (hp:PassesOwn (model Z.X.prog Z.X.w) Z.X.A Z.X.env Z.X.xe) (hc:Z.X.calm = true) (h:HWE Z ρ O iter fun t O' => ∃ ts,t = .lst ts∧∃ I:Nat→Il,I 0 ρ O' ∧
  (∀ i t ρ' O',ts[i]? = some t→I i ρ' O'→∃ ρ2,WG Z Z.X.N.length ρ' O' tg t ρ2∧HS Z ρ2 O' body { nx:=I (i + 1),rt:=Ψ.rt,bk:=Ψ.nx,ct:=I (i + 1) })∧∀ ρ' O',I ts.length ρ' O'→Ψ.nx ρ' O')
  (hs:∀ x,foldedSetIterable iter Z.X.env x = pure x):WS Z ρ O (.For tg iter body [] pos) Ψ :=
 BR hp hc (HU (Bq h.out (by
  rintro t O' ⟨ts,e,I,i0,st,fin⟩
  refine ⟨ts,e,I,i0,fun i t ρ' O' e x => ?_,fin⟩
  obtain ⟨ρ2,a,b⟩:=st i t ρ' O' e x
  exact ⟨ρ2,a,b.out⟩))) hs
theorem VE {P:Program} {w:World} {K:PySem.W.Frag} {mg:Str→Option Value} {base:Heap} {x qual:Str} {st:Stmt} {f:Addr} {fd:FuncData} {N ps:List Str} {k:Nat} {sp:Sp} (F:Fun K x qual st f fd) (S:FnScope N ps (AA st)) (len:∀ vs H Q E,sp vs H Q E→vs.length = ps.length)
  (h:∀ (cdv:Value) (A:Around) (outer:List Env) (s:Shared) (H:Hp) (vs:List V) (Q:VK) (E:XK),Room k (A.deeper (envOfC qual (AA st) s.heap.objs.size f cdv))→sp vs H Q E →
   ∃ ts O Φ Ξ,Reps K O H vs ts∧OwnOk K O H∧(XFly (zB P w K mg base N qual (AA st) f cdv A outer s H E O Ξ).X (zB P w K mg base N qual (AA st) f cdv A outer s H E O Ξ).W→HS (zB P w K mg base N qual (AA st) f cdv A outer s H E O Ξ) (CZ N ts) O (Am st) { nx:=fun _ O' => Φ .non O',rt:=Φ })∧Acc K O H Φ Q∧∀ cls O' H',Ξ cls O'→Frm K O H O' H'→E cls none H'):FnOk P w K mg base (CXe P w) (k + 1) f fd ps sp:=by
 refine F.okX S len (fun cdv A outer s H vs Q E hr h1 => ?_)
 obtain ⟨ts,O,Φ,Ξ,r,ok,q,acc,ex⟩:=h cdv A outer s H vs Q E hr h1
 refine ⟨_,(q (XFly.mono Aa.f ?_)).out,⟨Fg r,.refl ok⟩,?_⟩
 ·rintro σ cls H' ⟨_,O',x,f⟩
  exact ex cls O' H' x f
 ·exact ⟨fun ρ' O' σ' H' p a _ => acc _ _ _ O' p a.fr .non,fun v H' t O' p f r => acc v H' t O' p f r,fun _ _ _ _ z => z.elim,fun _ _ _ _ z => z.elim⟩
end
theorem DB {L:List T} {r:Int} (h0:0≤r) (h1:r < L.length):∃ t,atI L r = some t∧t∈L:=by
 obtain ⟨j,rfl⟩:=Int.eq_ofNat_of_zero_le h0
 have hj:j < L.length:=by omega
 exact ⟨L[j],BV (by rw [List.getElem?_eq_getElem hj]),List.getElem_mem hj⟩
def LJ:AJ:=fun _ => none
theorem Ny {K:PySem.W.Frag} {H:Hp}:OwnOk K LJ H:=fun a ts e => by cases e
theorem RW {K:PySem.W.Frag} {H H':Hp} {O':AJ} {a:Addr} {xs:List V} (k:Kp LJ H O' H') (h:SqL K H a xs):SqL K H' a xs:=by
 rcases h with h | h
 ·refine .inl ?_
  rcases h with h | ⟨o,h⟩
  ·exact .inl (k a _ h rfl).1
  ·exact .inr ⟨o,(k a _ h rfl).1⟩
 ·exact .inr h
section
variable {Z:Zx} {ρ:List (Option T)} {O:AJ} {e lo hi:Expr} {p p2 pos:Pos} {Φ:Bb}
theorem TF {a:Addr} {ns:List Int} {i j:Int} (ho:Z.Oe = LJ) (hS:SqL Z.K Z.He a (ns.map V.int)) (h:ET Z ρ O e (.raw (.ref a))) (h1:ET Z ρ O lo (.int i)) (h2:ET Z ρ O hi (.int j))
  (k:∀ ms:List Int,ms.length≤ns.length→Φ (.lst (ms.map T.int)) O):WE Z ρ O (.Subscript e (.Slice (some lo) (some hi) none p2) pos) Φ:=by
 refine PE.weak (Mp Pl (BT (ρ:=ρ)) (Ke (BT (ρ:=ρ))) (Ke (BT (ρ:=ρ)))) fun σ H0 Q q => ?_
 refine ⟨O,_,h (fun t O' => t = .raw (.ref a)∧O' = O) ⟨rfl,rfl⟩,q.1,?_⟩
 rintro v H1 _ _ ⟨rfl,rfl⟩ f1 r1
 refine ⟨_,_,h1 (fun t O' => t = .int i∧O' = _) ⟨rfl,rfl⟩,q.1.step f1,?_⟩
 rintro v2 H2 _ _ ⟨rfl,rfl⟩ f2 r2
 refine ⟨i,r2.int_inv,_,_,h2 (fun t O' => t = .int j∧O' = _) ⟨rfl,rfl⟩,q.1.step (f1.trans f2),?_⟩
 rintro v3 H3 _ _ ⟨rfl,rfl⟩ f3 r3
 refine ⟨j,r3.int_inv,a,ns.map V.int,r1.raw_inv,RW (ho ▸ (q.1.step (f1.trans (f2.trans f3))).fr.kp) hS,fun l hl => ?_⟩
 have ff:=f1.trans (f2.trans f3)
 have e:Lk (ns.map V.int) (some i) (some j) = ((ns.drop (HT.ID (ns.map V.int).length 0 (some i))).take (HT.ID (ns.map V.int).length (ns.map V.int).length (some j) - HT.ID (ns.map V.int).length 0 (some i))).map V.int:=by
  unfold Lk
  rw [← List.map_drop,← List.map_take]
 rw [e]
 refine q.2 _ _ _ _ (k _ ?_) (ff.trans (.new ff.ok hl)) (.lst AK (ff.ok.none_of hl) ((EL _).kp (Bm ff.ok hl) ff.ok))
 rw [List.length_take,List.length_drop]
 omega
end
mutual
def CF:T→Bool
 | .non => true
 | .bl _ => true
 | .int _ => true
 | .str x => PyData.strOk x
 | .tup ts => rdBs ts
 | .lst ts => rdBs ts
 | .frz _ => false
 | .dct => false
 | .raw _ => false
def rdBs:List T→Bool
 | [] => true
 | t :: ts => CF t && rdBs ts
end
theorem Ip:∀ {ts:List T},rdBs ts = true↔∀ t∈ts,CF t = true
 | [] => by unfold rdBs; simp
 | t :: ts => by unfold rdBs; simp [Ip (ts:=ts)]
mutual
theorem Fh:∀ (t:T),CF t = true→(dT t).canLay0 = true
 | .non,_ => rfl
 | .bl _,_ => rfl
 | .int _,_ => rfl
 | .str x,h => by unfold CF at h; exact h
 | .tup ts,h => rds_lay ts (by unfold CF at h; exact h)
 | .lst ts,h => rds_lay ts (by unfold CF at h; exact h)
 | .frz _,h => by unfold CF at h; cases h
 | .dct,h => by unfold CF at h; cases h
 | .raw _,h => by unfold CF at h; cases h
theorem rds_lay:∀ (ts:List T),rdBs ts = true→PyData.canLayAll0 (dTs ts) = true
 | [],_ => rfl
 | t :: ts,h => by
  unfold rdBs at h
  rw [Bool.and_eq_true] at h
  show (PyData.canLay0 (dT t) && PyData.canLayAll0 (dTs ts)) = true
  rw [Fh t h.1,rds_lay ts h.2]; rfl
end
section
variable {K:PySem.W.Frag} {O:AJ} {H:Hp} {P:Program} {w:World} {h:Heap}
mutual
theorem Rep.rd (hok:HOk P w H h):∀ {v:V} {t:T} {u:Value},Rep K O H v t→CF t = true→RelV v u→∃ as,Reads h u (dT t) as
 | _,_,_,.non,_,r => by cases r; exact ⟨_,.none⟩
 | _,_,_,.bl b,_,r => by cases r; exact ⟨_,.bool b⟩
 | _,_,_,.int i,_,r => by obtain ⟨t,rfl⟩:=r; exact ⟨_,.int i t⟩
 | _,_,_,.str x,_,r => by obtain ⟨t,rfl⟩:=r; exact ⟨_,.str x t⟩
 | _,_,_,.tup (ts:=ts) e q,g,r => by
  cases r
  obtain ⟨_,its,rv,⟨o,e1,e2,n,e3⟩⟩:=(show ObjOk P w H h _ (.tup _) from hok _ _ e)
  obtain ⟨as,ra⟩:=Reps.rd hok q (by unfold CF at g; exact g) rv
  exact ⟨_,.tuple (vs:=its.toArray) e1 e2 e3 (by simpa using ra)⟩
 | _,_,_,.lst (ts:=ts) e _ q,g,r => by
  cases r
  obtain ⟨_,its,n,rv,e1⟩:=(show ObjOk P w H h _ (.lst _) from hok _ _ e)
  obtain ⟨as,ra⟩:=Reps.rd hok q (by unfold CF at g; exact g) rv
  exact ⟨_,.list (vs:=its.toArray) e1 rfl rfl (by simpa using ra)⟩
 | _,_,_,.frz _ _,g,_ => by unfold CF at g; cases g
 | _,_,_,.dct _,g,_ => by unfold CF at g; cases g
 | _,_,_,.raw v,g,_ => by unfold CF at g; cases g
theorem Reps.rd (hok:HOk P w H h):∀ {vs:List V} {ts:List T} {us:List Value},Reps K O H vs ts→rdBs ts = true→Vals vs us→∃ as,ReadsAll h us (dTs ts) as
 | _,_,_,.nil,_,r => by cases r; exact ⟨_,.nil⟩
 | _,_,_,.cons a b,g,.cons r1 r2 => by
  unfold rdBs at g
  rw [Bool.and_eq_true] at g
  obtain ⟨as,x⟩:=Rep.rd hok a g.1 r1
  obtain ⟨bs,y⟩:=Reps.rd hok b g.2 r2
  exact ⟨_,.cons x y⟩
end
end
section
variable {X:Cx}
def rD (K:PySem.W.Frag) (g:PyData→PyData→Bool):R2:=fun x y H Q => ∃ O t u,Rep K O H x t∧Rep K O H y u∧CF t = true∧CF u = true∧(dT t).depth≤100∧Q (.bl (g (dT t) (dT u))) H
theorem Fj (hu:X.A.units + 101 < cLine):DA X (compareOp .NotEq) (rD X.K fun a b => !PyData.eqv a b):=by
 intro pins s σ H x y v u Q I rx ry h
 obtain ⟨O,t,t',r1,r2,g1,g2,hd,q⟩:=h
 obtain ⟨as,ra⟩:=Rep.rd I.hok r1 g1 rx
 obtain ⟨bs,rb⟩:=Rep.rd I.hok r2 g2 ry
 exact SeqAt.compareNe_reads ra rb (Fh t g1) (Fh t' g2) (by omega) ⟨.bl _,H,I,rfl,q⟩
def XH (K:PySem.W.Frag) (g:Bool→Bool):R2:=fun x y H Q => ∃ O t us,Rep K O H x t∧(Rep K O H y (.tup us)∨Rep K O H y (.lst us))∧CF t = true∧rdBs us = true∧(dT t).depth≤100∧Q (.bl (g ((dTs us).any fun y => PyData.eqv y (dT t)))) H
theorem LK (hu:X.A.units + 102 < cLine):DA X (compareOp .In) (XH X.K id):=by
 intro pins s σ H x y v u Q I rx ry h
 obtain ⟨O,t,us,r1,r2,g1,g2,hd,q⟩:=h
 obtain ⟨as,ra⟩:=Rep.rd I.hok r1 g1 rx
 rcases r2 with r2 | r2
 ·obtain ⟨bs,rb⟩:=Rep.rd I.hok r2 (by unfold CF; exact g2) ry
  exact SeqAt.in_tuple_reads rb ra (rds_lay us g2) (Fh t g1) (by omega) ⟨.bl _,H,I,rfl,q⟩
 ·obtain ⟨bs,rb⟩:=Rep.rd I.hok r2 (by unfold CF; exact g2) ry
  exact SeqAt.in_list_reads rb ra (rds_lay us g2) (Fh t g1) (by omega) ⟨.bl _,H,I,rfl,q⟩
end
section
variable {K:PySem.W.Frag} {O:AJ} {t u:T} {us:List T}
theorem Nz {g:PyData→PyData→Bool} (h1:CF t = true) (h2:CF u = true) (hd:(dT t).depth≤100):RP K (rD K g) t u O (.bl (g (dT t) (dT u))):=fun Φ p H v w Q ok r1 r2 q =>
 ⟨O,t,u,r1,r2,h1,h2,hd,q _ H _ O p (.refl ok) (.bl _)⟩
theorem OA {g:Bool→Bool} (h1:CF t = true) (h2:rdBs us = true) (hd:(dT t).depth≤100):RP K (XH K g) t (.tup us) O (.bl (g ((dTs us).any fun y => PyData.eqv y (dT t)))):=fun Φ p H v w Q ok r1 r2 q =>
 ⟨O,t,us,r1,.inl r2,h1,h2,hd,q _ H _ O p (.refl ok) (.bl _)⟩
theorem OB {g:Bool→Bool} (h1:CF t = true) (h2:rdBs us = true) (hd:(dT t).depth≤100):RP K (XH K g) t (.lst us) O (.bl (g ((dTs us).any fun y => PyData.eqv y (dT t)))):=fun Φ p H v w Q ok r1 r2 q =>
 ⟨O,t,us,r1,.inr r2,h1,h2,hd,q _ H _ O p (.refl ok) (.bl _)⟩
end
theorem LL (p:Int × Int):CF (AN p) = true:=by simp [AN,CF,rdBs]
theorem KH (p:Int × Int):(dT (AN p)).depth≤100:=by simp [AN,dT,dTs,PyData.depth,PyData.depthAll]
theorem OC (p q:Int × Int):PyData.eqv (dT (AN p)) (dT (AN q)) = decide (p = q):=by
 show ((p.1 == q.1) && ((p.2 == q.2) && true)) = decide (p = q)
 rw [Bool.eq_iff_iff]
 simp only [Bool.and_true,Bool.and_eq_true,beq_iff_eq,decide_eq_true_eq]
 exact ⟨fun h => Prod.ext h.1 h.2,fun h => by rw [h]; exact ⟨rfl,rfl⟩⟩
abbrev Ab (n:Int) (ps:List (Int × Int)):T:=.tup [.int n,.tup (ps.map AN)]
end L2.TL
namespace L2
open PySem PySem.Spec PySem.Calls PyProof.Rows
section
variable {X:Cx}
variable {e:Expr} {te:TE} {p2 p3 p4 pos:Pos}
end
end L2
namespace L2.TL
open PySem PySem.Spec PySem.Calls PyProof.Rows
section
variable {Z:Zx} {ρ:List (Option T)} {O:AJ} {e a b:Expr} {es:List Expr} {Ψ:Es} {Φ:Bb} {pos p p1 pos1 p2 p3 p4:Pos} {t ta tb:T} {ts us:List T} {x:Str}
theorem EB.wt {k:Bool} {Φ:HM} (h:EB Z ρ O e k) (p:Φ k O):WT Z ρ O e Φ:=h Φ p
theorem WW.wt {Φ:HM} (h:WW Z ρ O e Φ):WT Z ρ O e Φ:=h.pt
theorem EM {o:Expr} {apos cpos:Pos} (h:WE Z ρ O o fun t O1 => ∃ a,t = .raw (.ref a)∧(∃ ts,O1 a = some ts)∧WE Z ρ O1 e fun u O2 => ∃ ts us,u = .lst us∧O2 a = some ts∧ts.length + us.length≤sizeLine∧Φ .non (AZ O2 a (ts ++ us)))
  (hbase:attributeBase o "extend" Z.X.env (eval o Z.X.env) = eval o Z.X.env:=by rfl)
  (hfew:((backTo cpos (starEach [e] Z.X.env)).all (fun x => !x.1) && (backToKw cpos (keywordEach [] Z.X.env)).all (fun x => x.1.isSome)
   && decide ([e].length + ([]:List Keyword).length + (if ([]:List Keyword).isEmpty then 0 else 1) < 30)) = true:=by rfl)
  (hline:(apos.endLine == cpos.line) = true:=by rfl) (hs:starEach [e] Z.X.env = (false,eval e Z.X.env) :: starEach [] Z.X.env:=by rfl) (hplain:(backTo cpos (starEach [] Z.X.env)).any (·.1) = false:=by rfl):WE Z ρ O (.Call (.Attribute o "extend" apos) [e] [] cpos) Φ:=by
 refine Nf PySem.F.plainAttrs_list PySem.F.slot_list_extend PySem.F.type_list_extend Ll (Bq h ?_) hbase hfew hline hs hplain
 rintro t O1 ⟨a,rfl,⟨ts,hts⟩,w⟩
 refine ⟨HR hts,CV (Bq w ?_) hs⟩
 rintro u O2 ⟨us,vs,rfl,h1,h2,p⟩
 refine Ay fun H v ws Q ok r1 r2 q => ?_
 cases r1.raw_inv
 obtain ⟨w,rfl,r3⟩:=r2.one_inv
 obtain ⟨c,ys,rfl,hc,_,r3⟩:=r3.lst_inv
 obtain ⟨xs,hx,r⟩:=ok a us h1
 exact ⟨a,c,xs,ys,rfl,rfl,hx,hc,by rw [r.length,r3.length]; exact h2,q _ _ _ _ p (.put ok h1 (r.append r3)) .non⟩
def DS:T→Bool
 | .non => true
 | _ => false
theorem Cr {j:Nat} (hr:Ac t = false) (ha:ET Z ρ O a t):EB Z ρ O (.Compare a [.Is] [.Constant .none j p1] pos) (DS t):=BE SN (Ak _) (fun Φ p H v w Q ok r1 r2 q => by
 refine ⟨r2.non_inv,?_⟩
 have e:decide (v = V.non) = DS t:=by
  cases r1 <;> first | rfl | cases hr
 rw [e]
 exact q _ H _ O p (.refl ok) (.bl _)) ha BN
def VF (C:Addr) (t:T):Sp:=fun vs H Q _ => ∃ x,vs = [.ref x]∧H x = some (HA C x)∧∀ v H',Same H H'→(∀ (K:PySem.W.Frag) (O:AJ),Rep K O H' v t)→Q v H'
end
section
variable {Z:Zx} {ρ:List (Option T)} {O O1 O2:AJ} {c:Expr} {body ss:List Stmt} {Ψ:Es} {pos:Pos}
def XI (Z:Zx) (e:Expr):TT:=fun σ H Q => ∃ ρ O Φ,WT Z ρ O e Φ∧UE Z ρ O Φ σ H Q
theorem VG {e:Expr}:PT Z.X e (XI Z e):=fun pins s σ H Q I ⟨_,_,_,w,q⟩ => w pins s σ H Q I q
theorem Iq (hp:PassesOwn (model Z.X.prog Z.X.w) Z.X.A Z.X.env Z.X.xe) (I:Nat→Il) (i0:∃ m,I m ρ O)
  (step:∀ m ρ' O',I m ρ' O'→WT Z ρ' O' c fun b O1 => if b = true then DP Z ρ' O1 body { nx:=fun ρ2 O2 => ∃ m',m' < m∧I m' ρ2 O2,rt:=Ψ.rt,bk:=Ψ.nx,ct:=fun ρ2 O2 => ∃ m',m' < m∧I m' ρ2 O2 } else Ψ.nx ρ' O1):WS Z ρ O (.While c body [] pos) Ψ:=by
 refine PS.weak (Mb hp VG Im) fun D σ H q => ?_
 obtain ⟨m0,i0⟩:=i0
 refine ⟨fun m σ' H' => ∃ ρ' O',I m ρ' O'∧Asr Z ρ' O' σ' H'∧Kp O H O' H',⟨m0,ρ,O,i0,q.1,.refl⟩,?_⟩
 rintro m σ1 H1 ⟨ρ1,O1,i1,a1,k1⟩
 refine ⟨ρ1,O1,_,step m ρ1 O1 i1,a1,fun b H2 O2 p f => ?_⟩
 have kk:=k1.trans f.kp
 cases b with
 | true =>
  rw [if_pos rfl] at p
  show if true = true then _ else _
  rw [if_pos rfl]
  refine ⟨fun σ2 H3 => ∃ ρ2 O3,(∃ m',m' < m∧I m' ρ2 O3)∧Asr Z ρ2 O3 σ2 H3∧Kp O H O3 H3,?_,ρ1,O2,_,p,a1.step f,?_⟩
  ·rintro σ2 H3 ⟨ρ2,O3,⟨m',hm,i2⟩,a2,k2⟩
   exact ⟨m',hm,ρ2,O3,i2,a2,k2⟩
  ·exact ⟨fun ρ' O' σ' H' w a k => ⟨ρ',O',w,a,kk.trans k⟩,q.2.rt,fun ρ' O' σ' H' w a k => q.2.nx ρ' O' σ' H' w a (kk.trans k),fun ρ' O' σ' H' w a k => ⟨ρ',O',w,a,kk.trans k⟩⟩
 | false =>
  rw [if_neg Bool.false_ne_true] at p
  show if false = true then _ else _
  rw [if_neg Bool.false_ne_true]
  exact q.2.nx ρ1 O2 σ1 H2 p (a1.step f) kk
theorem QL (hk:∀ H,OwnOk Z.K O1 H→Kp O1 H O2 H∧OwnOk Z.K O2 H) (hf:∀ b us vs,Z.Oe b = some us→O1 b = some vs→∃ us',O2 b = some us') (h:DP Z ρ O2 ss Ψ):DP Z ρ O1 ss Ψ:=PSs.weak h fun D σ H q => by
 obtain ⟨k,ok⟩:=hk H q.1.ok
 exact ⟨⟨q.1.rl.kp k q.1.ok,⟨q.1.fr.kp.trans k,fun b us e => by
  obtain ⟨vs,e'⟩:=q.1.fr.own b us e
  exact hf b us vs e e',ok⟩⟩,q.2.step k⟩
end
section
variable {O:AJ} {rs:List (Addr × List T)} {r:Addr × List T} {p q l:Addr} {us vs:List T}
def IE (O:AJ) (rs:List (Addr × List T)):AJ:=rs.foldl (fun O r => AZ O r.1 r.2) O
theorem BZ:IE O (r :: rs) = IE (AZ O r.1 r.2) rs:=rfl
theorem OD:IE O (rs ++ [r]) = AZ (IE O rs) r.1 r.2:=by unfold IE; rw [List.foldl_append]; rfl
theorem DN (h:∀ r∈rs,r.1≠p):IE O rs p = O p:=by
 induction rs generalizing O with
 | nil => rfl
 | cons r rs ih =>
  rw [BZ,ih fun s hs => h s (List.mem_cons_of_mem _ hs),AV (fun z => h r (List.mem_cons_self ..) z.symm)]
theorem OE (h:∀ r∈rs,r.1≠p):AZ (IE O rs) p vs = IE (AZ O p vs) rs:=by
 induction rs generalizing O with
 | nil => rfl
 | cons r rs ih =>
  rw [BZ,ih fun s hs => h s (List.mem_cons_of_mem _ hs),BZ,Cq (h r (List.mem_cons_self ..))]
theorem DY (hn:(rs.map Prod.fst).Nodup) (h:r∈rs):IE O rs r.1 = some r.2:=by
 induction rs generalizing O with
 | nil => cases h
 | cons s rs ih =>
  rw [List.map_cons,List.nodup_cons] at hn
  rw [BZ]
  rcases List.mem_cons.mp h with rfl | h
  ·rw [DN fun s hs z => hn.1 (List.mem_map.mpr ⟨s,hs,z⟩),AF]
  ·exact ih hn.2 h
theorem QM {i:Nat} (hn:(rs.map Prod.fst).Nodup) (h:rs[i]? = some (p,us)):AZ (IE O rs) p vs = IE O (rs.set i (p,vs)):=by
 induction rs generalizing O i with
 | nil => simp at h
 | cons s rs ih =>
  rw [List.map_cons,List.nodup_cons] at hn
  cases i with
  | zero =>
   simp at h
   subst h
   rw [List.set_cons_zero,BZ,BZ,OE fun s hs z => hn.1 (List.mem_map.mpr ⟨s,hs,z⟩),BA]
  | succ i =>
   rw [List.set_cons_succ,BZ,BZ]
   exact ih hn.2 (by simpa using h)
theorem QN {i:Nat} (h:rs[i]? = some (p,us)):(rs.set i (p,vs)).map Prod.fst = rs.map Prod.fst:=by
 rw [List.map_set]
 apply List.ext_getElem?
 intro m
 by_cases hm:i = m
 ·subst hm
  have hl:=(List.getElem?_eq_some_iff.mp h).1
  rw [List.getElem?_set_self (by simpa using hl),List.getElem?_map,h]; rfl
 ·rw [List.getElem?_set_ne hm]
def GC (r:Addr × List T):T:=.raw (.ref r.1)
theorem Ir {K:PySem.W.Frag} {H:Hp} {O:AJ}:∀ {rs:List (Addr × List T)} {xs:List V},Reps K O H xs (rs.map GC)→xs = rs.map fun r => V.ref r.1
 | [],_,h => h.nil_inv
 | r :: rs,_,h => by
  obtain ⟨v,vs',rfl,h1,h2⟩:=h.cons_inv
  cases h1.raw_inv
  rw [Ir h2]; rfl
theorem Iu {K:PySem.W.Frag} {H:Hp} {O:AJ}:∀ {rs:List (Addr × List T)},(∀ r∈rs,Rep K O H (.ref r.1) (.lst r.2))→Reps K O H (rs.map fun r => V.ref r.1) (rs.map fun r => T.lst r.2)
 | [],_ => .nil
 | r :: rs,h => .cons (h r (List.mem_cons_self ..)) (Iu fun s hs => h s (List.mem_cons_of_mem _ hs))
theorem OF {Z:Zx} {ρ:List (Option T)} {ss:List Stmt} {Ψ:Es} (hn:(rs.map Prod.fst).Nodup) (hl:∀ r∈rs,r.1≠l) (ho:∀ r∈rs,O r.1 = none) (he:∀ r∈rs,Z.Oe r.1 = none)
  (h:DP Z ρ (AZ O l (rs.map fun r => T.lst r.2)) ss Ψ):DP Z ρ (AZ (IE O rs) l (rs.map GC)) ss Ψ:=by
 refine QL (fun H ok => ?_) (fun b us vs e1 e2 => ?_) h
 ·have k:Kp (AZ (IE O rs) l (rs.map GC)) H (AZ O l (rs.map fun r => T.lst r.2)) H:=fun b o hb n => ⟨hb,by
   by_cases h1:b = l
   ·rw [h1,AF] at n; cases n
   ·rw [AV h1] at n ⊢
    by_cases h2:∃ r∈rs,r.1 = b
    ·obtain ⟨r,hr,rfl⟩:=h2
     exact ho r hr
    ·rw [DN fun r hr z => h2 ⟨r,hr,z⟩] at n
     exact n⟩
  refine ⟨k,fun a ts e => ?_⟩
  by_cases h1:a = l
  ·subst h1
   rw [AF] at e
   cases e
   obtain ⟨xs,hx,rx⟩:=ok a _ AF
   have:=Ir rx
   subst this
   refine ⟨_,hx,Iu fun r hr => ?_⟩
   obtain ⟨ys,hy,ry⟩:=ok r.1 r.2 (by rw [AV (hl r hr)]; exact DY hn hr)
   exact .lst hy (by rw [AV (hl r hr)]; exact ho r hr) (ry.kp k ok)
  ·rw [AV h1] at e
   have hz:∀ r∈rs,r.1≠a:=fun r hr z => by rw [← z,ho r hr] at e; cases e
   obtain ⟨xs,hx,rx⟩:=ok a ts (by rw [AV h1,DN hz]; exact e)
   exact ⟨xs,hx,rx.kp k ok⟩
 ·by_cases h1:b = l
  ·rw [h1]; exact ⟨_,AF⟩
  ·rw [AV h1] at e2 ⊢
   by_cases h2:∃ r∈rs,r.1 = b
   ·obtain ⟨r,hr,rfl⟩:=h2
    rw [he r hr] at e1; cases e1
   ·rw [DN fun r hr z => h2 ⟨r,hr,z⟩] at e2
    exact ⟨_,e2⟩
end
theorem Ge {Z:Zx} {ρ:List (Option T)} {O:AJ} {elt tg iter:Expr} {ifs:List Expr} {csc:Scope} {nc:List Str} {cap:List (Str × Nat)} {pos:Pos} {i:Nat} {x:Str} {px spos:Pos} {Ψ:Es} (hsw:swapsWith (.ListComp elt [⟨tg,iter,ifs,0⟩] csc pos) (some (.Name x px)) spos.line Z.X.env = pure true) (hN:Z.X.N.Nodup) (hc:Z.X.calm = true) (ok:LcOk Z.X csc nc cap)
  (h:WI Z ρ O tg iter (PX Z ρ elt tg ifs csc nc cap fun acc O' => ∀ a,O' a = none→Ψ.nx (ρ.set i (some (.raw (.ref a)))) (AZ O' a acc))) (hx:Z.X.N[i]? = some x:=by rfl) (hk:Z.X.env.scope.names.lookup x = some .local:=by rfl)
  (hs:∀ x,foldedSetIterable iter Z.X.env x = pure x:=by intro _; rfl):WS Z ρ O (.Assign [.Name x px] (.ListComp elt [⟨tg,iter,ifs,0⟩] csc pos) spos) Ψ :=
 PS.weak (IO hN hx hk hsw hc ok h Sx Nj Sy hs) fun D σ H q => Nk q.1 h fun acc O' p H' p1 n f nb => q.2.nx _ _ _ H' (p1 p n) ⟨(q.1.step f).rl.set (.raw _),(q.1.step f).fr⟩ f.kp
end L2.TL
namespace Gr
open L2.TL
variable {ps:List (Int × Int)} {n:Int} {S:List Int} {v u:Int} {d e s k:Nat} {fs gs:List (Option Nat)} {BC ds:List Int}
def Adj (ps:List (Int × Int)) (u v:Int):Prop:=(u,v)∈ps∨(v,u)∈ps
inductive W (ps:List (Int × Int)) (S:List Int):Nat→Int→Prop
 | at {v:Int}:v∈S→W ps S 0 v
 | go {k:Nat} {u v:Int}:W ps S k u→Adj ps u v→W ps S (k + 1) v
def IsD (ps:List (Int × Int)) (S:List Int) (v:Int) (d:Nat):Prop:=W ps S d v∧∀ j,j < d→¬ W ps S j v
theorem IsD.uniq (a:IsD ps S v d) (b:IsD ps S v e):d = e:=by
 rcases Nat.lt_trichotomy d e with h | h | h
 ·exact absurd a.1 (b.2 d h)
 ·exact h
 ·exact absurd b.1 (a.2 e h)
theorem W.least (h:W ps S k v):∃ d,d≤k∧IsD ps S v d:=by
 induction k using Nat.strongRecOn with
 | _ k ih =>
  by_cases hx:∃ j,j < k∧W ps S j v
  ·obtain ⟨j,hj,w⟩:=hx
   obtain ⟨d,hd,i⟩:=ih j hj w
   exact ⟨d,by omega,i⟩
  ·exact ⟨k,Nat.le_refl _,h,fun j hj w => hx ⟨j,hj,w⟩⟩
theorem IsD.prev (h:IsD ps S v (s + 1)):∃ u,IsD ps S u s∧Adj ps u v:=by
 obtain ⟨w,m⟩:=h
 cases w with
 | go w a => exact ⟨_,⟨w,fun j hj w' => m (j + 1) (by omega) (.go w' a)⟩,a⟩
theorem IsD.down (h:IsD ps S v (s + k)):∃ u,IsD ps S u s:=by
 induction k generalizing v with
 | zero => exact ⟨v,h⟩
 | succ k ih =>
  obtain ⟨u,hu,_⟩:=IsD.prev (s:=s + k) h
  exact ih hu
def PY (n:Int) (ps:List (Int × Int)):Prop:=∀ p∈ps,0≤p.1∧p.1 < p.2∧p.2 < n
theorem Adj.inb (hw:PY n ps) (h:Adj ps u v):0≤v∧v < n∧u≠v:=by
 rcases h with h | h
 ·have:=hw _ h
  simp only at this
  omega
 ·have:=hw _ h
  simp only at this
  omega
theorem W.inb (hw:PY n ps) (hS:∀ z∈S,0≤z∧z < n) (h:W ps S k v):0≤v∧v < n:=by
 cases h with
 | «at» h => exact hS _ h
 | go _ a => exact ⟨(a.inb hw).1,(a.inb hw).2.1⟩
theorem IsD.lt (hw:PY n ps) (hS:∀ z∈S,0≤z∧z < n) (h:IsD ps S v s):(s:Int) < n:=by
 have key:∃ L:List Nat,L.length = s + 1∧L.Nodup∧∀ u∈L,∃ i,i≤s∧IsD ps S (u:Int) i:=by
  induction s generalizing v with
  | zero =>
   have:=h.1.inb hw hS
   refine ⟨[v.toNat],rfl,by simp,fun u hu => ⟨0,Nat.le_refl _,?_⟩⟩
   rw [List.mem_singleton.mp hu,Int.toNat_of_nonneg this.1]
   exact h
  | succ s ih =>
   obtain ⟨u,hu,_⟩:=h.prev
   obtain ⟨L,l1,l2,l3⟩:=ih hu
   have hb:=h.1.inb hw hS
   refine ⟨v.toNat :: L,by simp [l1],List.nodup_cons.mpr ⟨fun hm => ?_,l2⟩,fun z hz => ?_⟩
   ·obtain ⟨i,hi,q⟩:=l3 _ hm
    rw [Int.toNat_of_nonneg hb.1] at q
    have:=q.uniq h
    omega
   ·rcases List.mem_cons.mp hz with rfl | hz
    ·exact ⟨s + 1,Nat.le_refl _,by rw [Int.toNat_of_nonneg hb.1]; exact h⟩
    ·obtain ⟨i,hi,q⟩:=l3 z hz
     exact ⟨i,by omega,q⟩
 obtain ⟨L,l1,l2,l3⟩:=key
 have:=StT.BS n.toNat L l2 (fun x hx => by
  obtain ⟨i,_,q⟩:=l3 x hx
  have:=q.1.inb hw hS
  omega)
 omega
structure Fr (n:Int) (ps:List (Int × Int)) (S:List Int) (s:Nat) (fs:List (Option Nat)):Prop where
 len:(fs.length:Int) = n
 eq:∀ v:Int,0≤v→v < n→∀ d,fs[v.toNat]? = some (some d)↔(d≤s∧IsD ps S v d)
structure All (n:Int) (ps:List (Int × Int)) (S:List Int) (fs:List (Option Nat)):Prop where
 len:(fs.length:Int) = n
 eq:∀ v:Int,0≤v→v < n→∀ d,fs[v.toNat]? = some (some d)↔IsD ps S v d
theorem All.uniq (a:All n ps S fs) (b:All n ps S gs):fs = gs:=by
 have l1:=a.len
 have l2:=b.len
 apply List.ext_getElem?
 intro i
 by_cases hi:i < fs.length
 ·have hg:i < gs.length:=by omega
  have e:=a.eq i (by omega) (by omega)
  have f:=b.eq i (by omega) (by omega)
  rw [Int.toNat_natCast,List.getElem?_eq_getElem hi] at e
  rw [Int.toNat_natCast,List.getElem?_eq_getElem hg] at f
  rw [List.getElem?_eq_getElem hi,List.getElem?_eq_getElem hg]
  cases x:fs[i] with
  | some d =>
   rw [x] at e
   exact ((f d).mpr ((e d).mp rfl)).symm
  | none =>
   cases y:gs[i] with
   | none => rfl
   | some d =>
    rw [y] at f
    rw [x] at e
    have:=(e d).mpr ((f d).mp rfl)
    cases this
 ·rw [List.getElem?_eq_none (by omega),List.getElem?_eq_none (by omega)]
theorem Fr.all_end (h:Fr n ps S s fs) (e:∀ v,¬ IsD ps S v s):All n ps S fs:=⟨h.len,fun v v0 v1 d => by
 rw [h.eq v v0 v1 d]
 refine ⟨fun z => z.2,fun z => ⟨?_,z⟩⟩
 by_cases hd:d≤s
 ·exact hd
 ·obtain ⟨k,rfl⟩:∃ k,d = s + k:=⟨d - s,by omega⟩
  obtain ⟨u,hu⟩:=z.down
  exact absurd hu (e u)⟩
theorem QO (hl:(fs.length:Int) = n) (h:∀ v:Int,0≤v→v < n→∀ d,fs[v.toNat]? = some (some d)↔(d = 0∧v∈S)):Fr n ps S 0 fs:=⟨hl,fun v v0 v1 d => by
 rw [h v v0 v1 d]
 constructor
 ·rintro ⟨rfl,hv⟩
  exact ⟨Nat.le_refl _,.at hv,fun j hj => by omega⟩
 ·rintro ⟨hd,w,_⟩
  have:d = 0:=by omega
  subst this
  cases w with
  | «at» h => exact ⟨rfl,h⟩⟩
structure Mid (n:Int) (ps:List (Int × Int)) (S:List Int) (s:Nat) (fs:List (Option Nat)) (BC ds:List Int):Prop where
 len:(fs.length:Int) = n
 eq:∀ v:Int,0≤v→v < n→∀ d,fs[v.toNat]? = some (some d)↔((d≤s∧IsD ps S v d)∨(d = s + 1∧v∈BC))
 sub:∀ v∈BC,IsD ps S v (s + 1)
 dn:∀ v∈ds,0≤v∧v < n∧∃ d,fs[v.toNat]? = some (some d)
theorem Fr.mid (h:Fr n ps S s fs):Mid n ps S s fs [] []:=⟨h.len,fun v v0 v1 d => by
 rw [h.eq v v0 v1 d]
 simp,(fun _ h => by cases h),(fun _ h => by cases h)⟩
theorem Mid.miss (m:Mid n ps S s fs BC ds) (v0:0≤v) (v1:v < n) (h:fs[v.toNat]? = some (some d)):Mid n ps S s fs BC (ds ++ [v]):=⟨m.len,m.eq,m.sub,fun z hz => by
 rcases List.mem_append.mp hz with hz | hz
 ·exact m.dn z hz
 ·rw [List.mem_singleton.mp hz]; exact ⟨v0,v1,d,h⟩⟩
theorem Mid.hit (m:Mid n ps S s fs BC ds) (v0:0≤v) (v1:v < n) (hn:fs[v.toNat]? = some none) (hu:IsD ps S u s) (a:Adj ps u v):Mid n ps S s (fs.set v.toNat (some (s + 1))) (BC ++ [v]) (ds ++ [v]):=by
 have hl:=m.len
 have hlt:v.toNat < fs.length:=by omega
 have iv:IsD ps S v (s + 1):=by
  refine ⟨.go hu.1 a,fun j hj w => ?_⟩
  obtain ⟨d,hd,i⟩:=w.least
  have:=(m.eq v v0 v1 d).mpr (.inl ⟨by omega,i⟩)
  rw [hn] at this
  cases this
 have key:∀ w:Int,0≤w→w < n→w≠v→(fs.set v.toNat (some (s + 1)))[w.toNat]? = fs[w.toNat]?:=fun w w0 w1 h => List.getElem?_set_ne (by omega)
 refine ⟨by rw [List.length_set]; exact hl,fun w w0 w1 d => ?_,fun w hw => ?_,fun w hw => ?_⟩
 ·by_cases h:w = v
  ·subst h
   rw [List.getElem?_set_self hlt]
   constructor
   ·intro z
    have:d = s + 1:=by cases z; rfl
    exact .inr ⟨this,by simp⟩
   ·rintro (z | z)
    ·have:=z.2.uniq iv
     omega
    ·rw [z.1]
  ·rw [key w w0 w1 h,m.eq w w0 w1 d]
   have:w∈BC ++ [v]↔w∈BC:=by simp [h]
   rw [this]
 ·rcases List.mem_append.mp hw with hw | hw
  ·exact m.sub w hw
  ·rw [List.mem_singleton.mp hw]; exact iv
 ·rcases List.mem_append.mp hw with hw | hw
  ·obtain ⟨w0,w1,d,hd⟩:=m.dn w hw
   refine ⟨w0,w1,?_⟩
   by_cases h:w = v
   ·subst h; exact ⟨_,List.getElem?_set_self hlt⟩
   ·exact ⟨d,by rw [key w w0 w1 h]; exact hd⟩
  ·rw [List.mem_singleton.mp hw]; exact ⟨v0,v1,_,List.getElem?_set_self hlt⟩
theorem Mid.done (m:Mid n ps S s fs BC ds) (h:∀ u v,IsD ps S u s→Adj ps u v→v∈ds):Fr n ps S (s + 1) fs∧∀ v,v∈BC↔IsD ps S v (s + 1):=by
 have key:∀ v,IsD ps S v (s + 1)→v∈BC:=fun v i => by
  obtain ⟨u,hu,a⟩:=i.prev
  obtain ⟨v0,v1,d,hd⟩:=m.dn v (h u v hu a)
  rcases (m.eq v v0 v1 d).mp hd with z | z
  ·have:=z.2.uniq i
   omega
  ·exact z.2
 refine ⟨⟨m.len,fun v v0 v1 d => ?_⟩,fun v => ⟨m.sub v,key v⟩⟩
 rw [m.eq v v0 v1 d]
 constructor
 ·rintro (z | z)
  ·exact ⟨by omega,z.2⟩
  ·rw [z.1]; exact ⟨Nat.le_refl _,m.sub v z.2⟩
 ·rintro ⟨h1,h2⟩
  by_cases hd:d≤s
  ·exact .inl ⟨hd,h2⟩
  ·have:d = s + 1:=by omega
   subst this
   exact .inr ⟨rfl,key v h2⟩
theorem OG {L:List Int} (h:L.Nodup) (hb:∀ z∈L,0≤z∧z < n):L.length≤n.toNat:=by
 have key:∀ L:List Int,L.Nodup→(∀ z∈L,0≤z∧z < n)→(L.map Int.toNat).Nodup:=by
  intro L
  induction L with
  | nil => intro _ _; simp
  | cons a L ih =>
   intro h hb
   rw [List.nodup_cons] at h
   rw [List.map_cons,List.nodup_cons]
   refine ⟨fun hm => ?_,ih h.2 fun z hz => hb z (List.mem_cons_of_mem _ hz)⟩
   obtain ⟨z,hz,e⟩:=List.mem_map.mp hm
   have h1:=hb z (List.mem_cons_of_mem _ hz)
   have h2:=hb a (List.mem_cons_self ..)
   have:z = a:=by omega
   subst this
   exact h.1 hz
 have:=StT.BS n.toNat (L.map Int.toNat) (key L h hb) (fun x hx => by
  obtain ⟨z,hz,rfl⟩:=List.mem_map.mp hx
  have:=hb z hz
  omega)
 rw [List.length_map] at this
 exact this
theorem Mid.fresh (m:Mid n ps S s fs BC ds) (v0:0≤v) (v1:v < n) (hn:fs[v.toNat]? = some none):v ∉ BC:=fun h => by
 have:=(m.eq v v0 v1 (s + 1)).mpr (.inr ⟨rfl,h⟩)
 rw [hn] at this
 cases this
end Gr
namespace L2.TL
open PySem PySem.Spec PyProof.Rows
section
variable {X:Cx}
theorem Iv {v:V} {u:Value} (h:RelV v u):∀ n,Vals (List.replicate n v) (List.replicate n u)
 | 0 => .nil
 | n + 1 => .cons h (Iv h n)
theorem Iw {u:Value}:∀ (n:Nat) (acc:Array Value),List.foldl (fun x1 x2 => x1 ++ x2) acc (List.replicate n [u].toArray) = acc ++ (List.replicate n u).toArray
 | 0,acc => by simp
 | n + 1,acc => by
  rw [List.replicate_succ,List.foldl_cons,Iw n]
  rw [List.replicate_succ]
  apply Array.ext'
  simp
def VH (K:PySem.W.Frag):R2:=fun x y H Q => ∃ (a:Addr) (i:Int) (v:V),x = .ref a∧y = .int i∧SqL K H a [v]∧(0≤i∧i≤1000)∧∀ p,H p = none→Q (.ref p) (Aw H p (.lst (List.replicate i.toNat v)))
theorem LM:DA X (binaryOp .Mult) (VH X.K):=by
 intro pins s σ H x y v u Q I rx ry h
 obtain ⟨a,i,e,rfl,rfl,ha,hi,q⟩:=h
 cases rx
 obtain ⟨tk,rfl⟩:=ry
 obtain ⟨its,rv,p,_⟩:=I.list ha
 obtain ⟨⟨cls,d,data,sl⟩,k,ho,hc,hdd,hd⟩:=id p
 simp only at hc hd
 subst hc hd
 obtain ⟨u1,rfl,ru⟩:=Vals.one rv
 have hf:=I.hok.fresh (Nat.le_refl s.heap.objs.size)
 refine wpAny_binaryOp_repeat_ref (T:="list") (U:="int") (by decide) ⟨_,ho,rfl⟩ (fun s' => typeIs_int s' i tk) noFill_list_mul F.fills_int_mul F.slot_int_rmul repeat_list F.slot_int_index.lookup
  (call_meets F.slot_int_rmul (typeIs_int s i tk) F.entry_int_rmul (F.args_int_rmul_2 _ _) (lm_int_rmul_list_any i tk a [u1].toArray k d sl)
   ⟨ho,rfl,⟨_,ho,rfl⟩,call_meets F.slot_list_mul ⟨_,ho,rfl⟩ F.entry_list_mul (F.args_list_mul_2 _ _)
    (lm_list_mul_any a [u1].toArray k d sl i tk (by simp [Builtin.List.listFitsIndex]; omega) (by simp; omega) (by simp [Builtin.List.listTooLong,sizeLine]; omega)) ⟨ho,?_⟩⟩)
 have ef:List.foldl (fun x1 x2 => x1 ++ x2) #[] (List.replicate (if [u1].toArray.isEmpty = true then 0 else i.toNat) [u1].toArray) = (List.replicate i.toNat u1).toArray:=by
  show List.foldl (fun x1 x2 => x1 ++ x2) #[] (List.replicate i.toNat [u1].toArray) = _
  rw [Iw]
  simp
 rw [ef]
 exact ⟨.ref _,_,I.laid (t':=s.toks) (o:=.lst (List.replicate i.toNat e)) (fun b ob q => Heap.get?_push_of_some _ q) (Nat.le_refl _) ⟨by rw [List.length_replicate,sizeLine_eq]; omega,List.replicate i.toNat u1,0,Iv ru _,Heap.get?_push_size _ rfl⟩,rfl,q _ hf⟩
end
section
variable {Z:Zx} {ρ:List (Option T)} {O:AJ} {a b:Expr} {t:T} {Φ:Bb} {pos:Pos} {i:Int}
theorem Rep.repl {K:PySem.W.Frag} {O:AJ} {H:Hp} {v:V} {t:T} (h:Rep K O H v t):∀ n,Reps K O H (List.replicate n v) (List.replicate n t)
 | 0 => .nil
 | n + 1 => .cons h (Rep.repl h n)
theorem QP (ha:ET Z ρ O a (.lst [t])) (hb:ET Z ρ O b (.int i)) (hi:0≤i∧i≤1000) (k:∀ p,O p = none→Φ (.raw (.ref p)) (AZ O p (List.replicate i.toNat t))):WE Z ρ O (.BinOp a .Mult b pos) Φ :=
 Cp LM (ET.we ha (ET.we hb fun H v w Q ok r1 r2 q => by
  obtain ⟨a,xs,rfl,h1,_,r1⟩:=r1.lst_inv
  obtain ⟨v,rfl,g⟩:=r1.one_inv
  exact ⟨a,i,v,rfl,r2.int_inv,.inl (.inl h1),hi,fun l hl => q _ _ _ _ (k l (ok.none_of hl)) (.newO ok hl (Rep.repl g _)) (.raw _)⟩))
end
section
variable {Z:Zx} {ρ:List (Option T)} {O:AJ} {body:List Stmt} {Ψ:Es} {pos:Pos}
abbrev zT (Z:Zx) (pins:List (Addr × Obj)) (E':Value→Shared→Prop) (Xi:Value→AJ→Prop):Zx:=⟨DR Z.X pins E',Z.Oe,Z.He,Xi⟩
theorem QQ {kh i:Nat} {psh:List Str} {n g bx:Str} {B fh:Addr} {fdh:FuncData} {np hpos gp ep cp2 rp2:Pos} (Cs:Addr→T→Prop)
  (hbody:∀ pins E',XFly (zT Z pins E' fun cls O' => ∃ C y,cls = .ref C∧Cs C y∧Ψ.rt y O').X (zT Z pins E' fun cls O' => ∃ C y,cls = .ref C∧Cs C y∧Ψ.rt y O').W→DP (zT Z pins E' fun cls O' => ∃ C y,cls = .ref C∧Cs C y∧Ψ.rt y O') ρ O body Ψ)
  (FH:∀ C y,Cs C y→FnH Z.X.prog Z.X.w Z.X.K Z.X.mg Z.X.base kh fh fdh psh (VF C y)) (hrh:Room kh Z.X.A) (mh:Z.X.mg g = some (.ref fh)) (keh:PySem.W.keepIn Z.X.K (.ref fh) = true) (bh:Binds Z.X.K fdh psh [])
  (hst:Z.X.stack = Z.X.env :: Z.X.outer) (hex:Z.X.ex = []) (hfr:Z.X.env.frame = some Z.X.env.locals) (hN:Z.X.N.Nodup) (hi:Z.X.N[i]? = some n) (hk:Z.X.env.scope.names.lookup n = some .local) (hmB:Z.X.mg bx = some (.ref B)) (hbe:PySem.W.mroIn Z.X.K B (.type "BaseException") = some true)
  (kc:∀ C y,Cs C y→PySem.W.kitCls Z.X.K (.ref C) (.ref B) = some true)
  (hgB:Gl Z.X bx) (hgh:∀ z,Gl (PU Z.X z) g) (hvn:∀ z,Rr (PU Z.X z).env.scope n)
  (he2:starEach [Expr.Name n ep] Z.X.env = (false,eval (Expr.Name n ep) Z.X.env) :: starEach [] Z.X.env) (hpl2:(backTo cp2 (starEach [] Z.X.env)).any (·.1) = false)
  (hd2:(bx == ("__debug__" : Str)) = false) (hd3:(g == ("__debug__" : Str)) = false) (hd4:(n == ("__debug__" : Str)) = false) (hd5:(n == ("__classdict__" : Str)) = false) :
  WS Z ρ O (.Try body [.ExceptHandler (some (.Name bx np)) (some n) [.Return (some (.Call (.Name g gp) [.Name n ep] [] cp2)) rp2] hpos] [] [] pos) Ψ:=by
 have hb1:∀ (W:St→XK) (X':Cx),TryIs Z.X X'→XFly X' W→PSs X' body (fun D σ H => tS Z ρ O Ψ D σ H∧∀ (σ':St) C y O' H',σ'.length = Z.X.N.length→Cs C y→Ψ.rt y O'→Frm Z.K Z.Oe Z.He O' H'→W σ' (.ref C) none H'):=by
  rintro W X' ⟨pins0,E',rfl⟩ xf
  intro pins s σ H D I ⟨⟨a,acc⟩,hw⟩
  refine hbody pins0 E' ⟨fun pins1 σ1 H1 s1 e s2 I1 c => xf.fly pins1 σ1 H1 s1 e s2 I1 ?_⟩ pins s σ H D I ⟨⟨a.rl,a.fr⟩,⟨fun ρ' O' σ' H' p a' k => acc.nx ρ' O' σ' H' p ⟨a'.rl,a'.fr⟩ k,acc.rt,fun ρ' O' σ' H' p a' k => acc.bk ρ' O' σ' H' p ⟨a'.rl,a'.fr⟩ k,fun ρ' O' σ' H' p a' k => acc.ct ρ' O' σ' H' p ⟨a'.rl,a'.fr⟩ k⟩⟩
  obtain ⟨x,cls,H',e1,fl,_,O',⟨C,y,rfl,hc,hy⟩,f⟩:=c
  exact ⟨x,_,H',e1,fl,hw σ1 C y O' H' I1.len hc hy f⟩
 have hh1:∀ z,PSs (PU Z.X z) [.Return (some (.Call (.Name g gp) [.Name n ep] [] cp2)) rp2] (fun D σ H => ∃ C y,Cs C y∧UL (Ji (VF C y) (fun _ => E0) (RD (Rs i) Ua)) D σ H):=by
  rintro z pins s σ H D I ⟨C,y,c,q⟩
  exact Bd (CI (IR (X:=PU Z.X z) (FH C y c) (Room.toH hrh) (hgh z) mh keh bh (AH (JU hi (hvn z) hd4 hd5) Ae he2) hd3 he2 hpl2)) pins s σ H D I q
 refine PS.weak (Mz (i:=i) hst hex hfr hN hi hk hgB hmB hbe hb1 hh1 hd2) fun D σ H q => ?_
 refine ⟨q,?_⟩
 intro σ' C y O' H' hlen c p f2
 refine ⟨C,rfl,kc C y c,fun z hz => ⟨C,y,c,.ref z,?_,z,rfl,AK,fun v H'' s'' rp => q.2.rt _ H'' _ O' p ?_ (rp _ _)⟩⟩
 ·have:i < σ'.length:=by rw [hlen]; exact (List.getElem?_eq_some_iff.mp hi).1
  rw [List.getElem?_set_self this]
 ·exact Frm.same f2 (QJ s'' hz)
end
end L2.TL
namespace L2
open PySem PySem.Spec PyProof.Rows
def XJ (K:PySem.W.Frag) (a:Addr):It:=⟨fun i H => ∃ xs x,SqL K H a xs∧xs[i]? = some x,
 fun i H v H' => ∃ p x,H p = none∧v = .ref p∧H' = Aw H p (.tup [.int i,x])∧∀ xs,SqL K H a xs→xs[i]? = some x,fun i H => ∃ xs,SqL K H a xs∧xs.length≤i⟩
section
variable {X:Cx}
theorem MI {P:Program} {w:World} {K:PySem.W.Frag} {es:List Expr} {k:Nat} {pos:Pos} {e it a:Addr} (hne:e≠it) :
  Turn P w K (.Tuple es k pos) (XJ K a) [e,it] e (fun i h => (∃ old,IsEnum h e it (i:Int) old)∧h.IsListIter it a i) where
 mem:=by simp
 obj:=fun i h st b hb => by
  obtain ⟨⟨old,s1⟩,⟨o2,e2,c2,d2⟩⟩:=st
  simp only [List.mem_cons,List.not_mem_nil,or_false] at hb
  rcases hb with rfl | rfl
  ·exact ⟨_,s1,fun v q => by have q:Data.fields _ = Data.cell v:=q; cases q⟩
  ·exact ⟨o2,e2,fun v q => by rw [d2] at q; cases q⟩
 keep:=fun i h h' st kk => by
  obtain ⟨⟨old,s1⟩,s2⟩:=st
  exact ⟨⟨old,kk e (by simp) _ s1⟩,s2.at fun o q => kk it (by simp) o q⟩
 item:=by
  intro X hP hw hK hc i pins s σ H E I hf st hg
  subst hP hw hK
  obtain ⟨xs,x,hq,hx⟩:=hg
  obtain ⟨its,rv,p,hz⟩:=I.list hq
  obtain ⟨u,hu,ru⟩:=rv.get hx
  obtain ⟨⟨old,s1⟩,s2⟩:=st
  refine wpAny_pyNext_enum_item s1 s2 p.isList (x:=u) (by simpa using hu) hne fun h1 z1 a1 n1 sz1 k1 => ?_
  refine ⟨_,rfl,wpAny_letOwnedTupleGo_enum (s:={ s with heap:=h1,toks:=s.toks + 1 }) z1 fun h2 z2 sb2 => ?_⟩
  have hlt:∀ v o,s.heap.get? v = some o→v≠s.heap.objs.size:=fun v o q => Nat.ne_of_lt (Heap.lt_size q)
  have zs:e≠s.heap.objs.size:=hlt e _ s1
  have up2:∀ v o,v≠e→h1.get? v = some o→h2.get? v = some o:=fun v o hv q => (sb2.2 v hv).trans q
  have hT:H s.heap.objs.size = none:=I.hok.fresh (Nat.le_refl _)
  have kk:∀ v o,v ∉ [e,it]→s.heap.get? v = some o→h2.get? v = some o:=fun v o hv q => by
   simp only [List.mem_cons,List.not_mem_nil,or_false,not_or] at hv
   exact up2 v o hv.1 (k1 v o hv.1 hv.2 q)
  have I1:Inv X pins σ (Aw H s.heap.objs.size (.tup [.int i,x])) { s with heap:=h2,toks:=s.toks + 1 }:=by
   have ne:∀ v o,s.heap.get? v = some o→Aw H s.heap.objs.size (.tup [.int i,x]) v = H v:=fun v o q => AI (hlt v o q)
   refine I.call' (s':={ s with heap:=h2,toks:=s.toks + 1 }) (ch:=[e,it]) rfl ⟨fun v o q _ _ hv => kk v o hv q,fun v o q _ _ hv => ⟨o.slots,kk v o hv q⟩,fun v o q n _ => by rw [ne v o q]; exact n,fun v o q hv => ⟨o,kk v o hv q⟩,fun v xs q => ?_,fun v o xs q => ?_,fun v ps q => ?_⟩ ?_ I.bare fun v hv => ?_
   ·rw [AI (AM q hT)]; exact q
   ·rw [AI (AM q hT)]; exact q
   ·exact ⟨#[],by rw [AI (AM q hT),q]; simp⟩
   ·intro v o q
    by_cases hv:v = s.heap.objs.size
    ·subst hv
     rw [AK] at q; cases q
     exact ⟨by show 2≤sizeLine; decide,[.int i s.toks,u],.cons ⟨_,rfl⟩ (.cons ru .nil),⟨_,up2 _ _ (Ne.symm zs) n1,rfl,_,rfl⟩⟩
    ·rw [AI hv] at q
     refine (I.hok v o q).stay (fun c w' hc' r => kk c w' (fun hm => ?_) r) (fun c r => by rw [AI (AM r hT)]; exact r) fun c xs r => by rw [AI (AM r hT)]; exact r
     have hn:=(hf c hm).1
     rcases hc' with rfl | hc'
     ·rw [q] at hn; cases hn
     ·rw [hc'] at hn; cases hn
   ·obtain ⟨_,q2,q3,q4,q5,q6⟩:=hf v hv
    exact ⟨q4,q2,q5,q6⟩
  refine ⟨.ref s.heap.objs.size,_,I1,rfl,⟨_,x,hT,rfl,rfl,fun xs' q => by rw [I.list_inj q hq]; exact hx⟩,⟨⟨_,z2⟩,a1.at fun o q => up2 it o (Ne.symm hne) q⟩,fun v hv => ?_⟩
  have hvo:∃ o,s.heap.get? v = some o:=by
   simp only [List.mem_cons,List.not_mem_nil,or_false] at hv
   rcases hv with rfl | rfl
   ·exact ⟨_,s1⟩
   ·obtain ⟨o,q,_⟩:=s2; exact ⟨o,q⟩
  obtain ⟨o,q⟩:=hvo
  rw [AI (hlt v o q)]
  exact (hf v hv).1
 done:=by
  intro X hP hw hK hc i pins s σ H E I hf st hg
  subst hP hw hK
  obtain ⟨xs,hq,hl⟩:=hg
  obtain ⟨its,rv,p,hz⟩:=I.list hq
  have l1:=rv.length
  obtain ⟨⟨old,s1⟩,s2⟩:=st
  refine wpAny_pyNext_enum_end (I.ok.hd hc) s1 s2 p.isList (by simp; omega) fun h' k1 => ⟨rfl,I.turns (t':=s.toks) hf fun v o hv q => ?_⟩
  simp only [List.mem_cons,List.not_mem_nil,or_false,not_or] at hv
  exact k1 v o hv.2 q
 self:=fun _ _ _ _ _ st h => by obtain ⟨⟨old,s1⟩,_⟩:=st; exact wpAny_pyIter_enum s1 h
theorem MJ:bootBuiltins "enumerate" = some (.type "enumerate"):=by decide +kernel
def VI (K:PySem.W.Frag) (ta:TA):TI:=fun σ H R => ta σ H fun vs H1 => ∃ t,vs = [.ref t]∧(∃ xs,SqL K H1 t xs)∧R (XJ K t) H1
theorem QR {a:Expr} {ta:TA} {p pos tpos:Pos} {es:List Expr} {k:Nat} (hg:Gl X "enumerate") (hm:X.mg "enumerate" = none) (ha:PA X [a] ta) (hs:starEach [a] X.env = [(false,eval a X.env)]:=by rfl) :
  PI X (.Tuple es k tpos) (.Call (.Name "enumerate" p) [a] [] pos) (VI X.K ta):=by
 intro pins s σ H R I h
 refine Call_ (Eu I hg hm MJ (PyProof.Rows.callWith_type1 (Aq (ha pos pins s σ H _ I h) fun us s1 ⟨vs,H1,I1,r1,q1⟩ => ?_) (by rw [hs]; rfl) rfl))
 obtain ⟨t,rfl,⟨xs,h1⟩,q⟩:=q1
 obtain ⟨v1,rfl,e1⟩:=EO r1
 cases e1
 obtain ⟨its,rv,p1,_⟩:=I1.list h1
 refine call_enumerate_list p1.isList fun h' z1 z2 hsz kp => ?_
 refine wpAny_pyIter_enum z1 ?_
 refine ⟨_,_,_,_,H1,rfl,I1.kept (t':=s1.toks) kp,MI (Nat.succ_ne_self _),⟨⟨_,z1⟩,z2⟩,fun b hb => ?_,q⟩
 have hge:s1.heap.objs.size≤b:=by
  simp only [List.mem_cons,List.not_mem_nil,or_false] at hb
  rcases hb with rfl | rfl <;> omega
 exact I1.fpOk hge (I1.hok.fresh hge)
end
end L2
namespace L2.TL
open PySem PySem.Spec PyProof.Rows
section
variable {Z:Zx} {ρ:List (Option T)} {O:AJ} {a:Expr} {ts:List T} {p pos:Pos}
def Fk (ts:List T):List T:=ts.zipIdx.map fun x => .tup [.int (x.2:Nat),x.1]
theorem MK {K:PySem.W.Frag} {H:Hp} {l:Addr} {xs:List V} (ok:OwnOk K O H) (h1:H l = some (.lst xs)) (n:O l = none) (r1:Reps K O H xs ts):KD K (XJ K l) O H (Fk ts):=fun O' H' k ok' => by
 have g1:SqL K H' l xs:=.inl (.inl (k.lst h1 n).1)
 have q1:=r1.kp k ok
 have hl:(Fk ts).length = ts.length:=by simp [Fk]
 refine ⟨fun i hi => ?_,fun i x H'' y t e => ?_,fun i hi => ⟨xs,g1,?_⟩⟩
 ·rw [hl] at hi
  obtain ⟨v,e1,_⟩:=q1.get (i:=i) (t:=ts[i]'hi) (by simp)
  exact ⟨xs,v,g1,e1⟩
 ·obtain ⟨p,v,hp,rfl,rfl,a1⟩:=y
  unfold Fk at e
  rw [List.getElem?_map,List.getElem?_zipIdx] at e
  cases et:ts[i]? with
  | none => rw [et] at e; cases e
  | some t1 =>
   rw [et] at e
   have e:T.tup [.int ((0 + i:Nat):Int),t1] = t:=Option.some.inj e
   rw [Nat.zero_add] at e
   subst e
   obtain ⟨v',e1,rv⟩:=q1.get et
   have z1:=a1 xs g1
   rw [e1] at z1; cases z1
   exact ⟨.new ok' hp,.tup AK ((Reps.cons (.int _) (.one rv)).kp (Bm ok' hp) ok')⟩
 ·rw [hl] at hi
  rw [r1.length]
  omega
theorem QS {tes:List Expr} {tk:Nat} {tpos:Pos} (hm:Z.X.mg "enumerate" = none) (h1:ET Z ρ O a (.lst ts)) (hg:Gl Z.X "enumerate":=by rfl) (hs:starEach [a] Z.X.env = [(false,eval a Z.X.env)]:=by rfl):EI Z ρ O (.Tuple tes tk tpos) (.Call (.Name "enumerate" p) [a] [] pos) (Fk ts):=fun Φ q =>
 PI.weak (QR hg hm (AS h1 AC hs (fun vs O' => vs = [.lst ts]∧O' = O) ⟨rfl,rfl⟩) hs) fun σ H R k => ⟨k.1,by
  rintro vs H' _ _ ⟨rfl,rfl⟩ f r
  obtain ⟨v,rfl,r1⟩:=r.one_inv
  obtain ⟨l,xs,rfl,g1,n,r1⟩:=r1.lst_inv
  exact ⟨l,rfl,⟨xs,.inl (.inl g1)⟩,k.2 _ H' _ _ q f (MK f.ok g1 n r1)⟩⟩
end
section
variable {Z:Zx} {ρ:List (Option T)} {O:AJ} {elt tg iter:Expr} {csc:Scope} {nc:List Str} {cap:List (Str × Nat)} {pos:Pos}
end
end L2.TL
namespace K24
open PySem L2 L2.TL PySem.Spec PyProof.Rows
def top (i:Nat):Stmt:=PySem.Challenge.pw_noshortring_k24_lacking_ties.main.body.getD i (.Pass ⟨0,0,0,0⟩)
abbrev KI:Stmt:=top 11
abbrev KJ:Stmt:=top 15
abbrev OH:Stmt:=top 16
abbrev Ix:Stmt:=top 36
abbrev TH:Stmt:=top 37
abbrev Fl:Stmt:=top 38
abbrev Hb:Stmt:=top 40
abbrev OI:Stmt:=top 48
abbrev OJ:Stmt:=top 22
abbrev OK:Stmt:=top 23
abbrev KK:Stmt:=top 24
abbrev En:Stmt:=top 26
abbrev Hc:Stmt:=top 27
abbrev QT:Stmt:=top 28
abbrev Hf:Stmt:=top 29
abbrev Fm:Stmt:=top 39
abbrev DZ:Stmt:=top 41
abbrev OL:Stmt:=top 42
abbrev Cu:Stmt:=top 43
abbrev Eo:Stmt:=top 44
abbrev Dp:Stmt:=top 45
abbrev KL:Stmt:=top 46
abbrev TJ:Stmt:=top 47
abbrev OM:Stmt:=top 49
abbrev Hg:Stmt:=top 50
abbrev Iy:Stmt:=top 51
structure Txt (mg:Str→Option Value):Prop where
 nInt:mg "int" = none
 nBool:mg "bool" = none
 nTuple:mg "tuple" = none
 nList:mg "list" = none
 nSet:mg "set" = none
 nRange:mg "range" = none
 nIsi:mg "isinstance" = none
 nMax:mg "max" = none
 nMin:mg "min" = none
 nLen:mg "len" = none
 nAll:mg "all" = none
 nSorted:mg "sorted" = none
 nRepr:mg "repr" = none
 nVE:mg "ValueError" = none
 nEnum:mg "enumerate" = none
 nSum:mg "sum" = none
 iLR:∃ t:Tok,mg "LEAST_RING" = some (.int 3 t)
 iMT:∃ t:Tok,mg "MOST_TIES" = some (.int 15 t)
 iMR:∃ t:Tok,mg "MOST_RING" = some (.int 16 t)
def CA (t:T) (a b:Int):Bool:=match t with
 | .int i => decide (a≤i) && decide (i≤b)
 | _ => false
def EX (n:Int) (p:Int × Int):Prop:=0≤p.1∧p.1 < p.2∧p.2 < n
theorem EW.cast {Z:Zx} {ρ:List (Option T)} {O:AJ} {e:Expr} {k l:Bool} (h:EW Z ρ O e k) (z:k = l):EW Z ρ O e l:=z ▸ h
theorem EB.cast {Z:Zx} {ρ:List (Option T)} {O:AJ} {e:Expr} {k l:Bool} (h:EB Z ρ O e k) (z:k = l):EB Z ρ O e l:=z ▸ h
theorem ET.cast {Z:Zx} {ρ:List (Option T)} {O:AJ} {e:Expr} {k l:T} (h:ET Z ρ O e k) (z:k = l):ET Z ρ O e l:=z ▸ h
section
variable {P:Program} {w:World} {K:PySem.W.Frag} {mg:Str→Option Value} {base:Heap}
def Hi:Ch:=PV fun ts r => ∃ t a b,ts = [t,.int a,.int b]∧Ac t = false∧r = .bl (CA t a b)
theorem QU:FnScope ["thing","least","most"] ["thing","least","most"] (AA KI):=⟨rfl,rfl,rfl,by decide +kernel,rfl,by decide +kernel,by decide +kernel⟩
theorem ON {f:Addr} {fd:FuncData} (F:Fun K "is_whole" "is_whole" KI f fd) (T:Txt mg):FnOk P w K mg base (CXe P w) 1 f fd ["thing","least","most"] (DH K Hi):=by
 refine AY F QU ?_ ?_
 ·rintro ts O Φ Ξ ⟨r,⟨t,a,b,rfl,_⟩,_⟩
  rfl
 ·rintro cdv A outer s H E O Ξ hr xf _ Φ ⟨_,⟨t,a,b,rfl,ht,rfl⟩,q⟩
  refine AE (Au (EW.eb (Fa (DW (KG T.nIsi T.nInt TB LB (ev 0) ht)) fun _ => FZ (KG T.nIsi T.nBool No Fd (ev 0) ht))) (fun h => AG (AW (FV _ ?_))) (fun h => Al ?_))
  ·have:CA t a b = false:=by
    cases t <;> first | rfl | cases h
   rw [this] at q; exact q
  ·cases t with
   | int i => exact AG (AW (QF (ev 1) (ev 0) (ev 2) (by with_unfolding_all rfl) _ q))
   | bl i => cases h
   | raw i => cases ht
   | _ => cases h
theorem LN {t:T} {a b:Int} (h:CA t a b = true):∃ i,t = .int i:=by
 cases t <;> first | exact ⟨_,rfl⟩ | cases h
end
abbrev OO:Stmt:=top 31
abbrev OP:Stmt:=top 32
abbrev TK:Stmt:=top 33
abbrev OQ:Stmt:=top 34
abbrev Hj:Stmt:=top 35
def GD (xs:List T):Prop:=∃ a b c:Int,xs = [.int a,.int b,.int c]∧0≤a∧0≤c∧c < 2147483648
section
variable {P:Program} {w:World} {K:PySem.W.Frag} {mg:Str→Option Value} {base:Heap}
def Fn (K:PySem.W.Frag):Sp:=fun vs H Q _ => ∃ (a:Addr) (ns:List Int),vs = [.ref a,.int 0]∧SqL K H a (ns.map V.int)∧∀ i,Q (.int i) H
theorem TM:FnScope ["_law_script","_law_k"] ["_law_script","_law_k"] (AA OO):=⟨rfl,rfl,rfl,by decide +kernel,rfl,by decide +kernel,by decide +kernel⟩
theorem QV {f:Addr} {fd:FuncData} (F:Fun K "_law_cell_at" "_law_cell_at" OO f fd) (T:Txt mg):FnOk P w K mg base (CXe P w) 1 f fd ["_law_script","_law_k"] (Fn K):=by
 refine F.okX TM (fun vs H Q E h => ?_) (fun cdv A outer s H vs Q E hr h => ?_)
 ·obtain ⟨a,ns,rfl,_⟩:=h
  rfl
 ·obtain ⟨a,ns,rfl,hS,k⟩:=h
  refine ⟨_,BX (IG (Dh Mh (pv 1) (An CK (by rfl) T.nLen TC (AH (pv 0) Ae)) (Ak _)) (Bd (CI (Mr Bo (pv 0) (pv 1) (fun _ _ => rfl)))) Dg) (Bd (CI JV)),?_⟩
  refine ⟨_,rfl,_,rfl,a,_,rfl,.inl hS,_,_,rfl,rfl,_,rfl,?_⟩
  refine Wx (fun h1 => ?_) (fun h1 => ?_)
  ·have h1:(0:Int) < ((ns.map V.int).length:Int):=by simpa using h1
   cases ns with
   | nil => simp at h1
   | cons n ns => exact ⟨_,rfl,_,rfl,a,_,0,.int n,rfl,rfl,hS,BV (j:=0) rfl,k n⟩
  ·exact k 0
def OR:Ch:=fun ts O Φ _ => ∃ n:Int,ts = [.int n]∧∀ m:Int,0≤m→m < 2147483629→Φ (.int m) O
theorem OS:FnScope ["_law_seed"] ["_law_seed"] (AA OP):=⟨rfl,rfl,rfl,by decide +kernel,rfl,by decide +kernel,by decide +kernel⟩
theorem QW {f:Addr} {fd:FuncData} (F:Fun K "_law_next" "_law_next" OP f fd):FnOk P w K mg base (CXe P w) 1 f fd ["_law_seed"] (DH K OR):=by
 refine AY F OS ?_ ?_
 ·rintro ts O Φ Ξ ⟨n,rfl,_⟩
  rfl
 ·rintro cdv A outer s H E O Ξ hr xf _ Φ ⟨n,rfl,q⟩
  have b1:=Int.emod_nonneg (n + 7919) (show (2147483647:Int)≠0 by decide)
  have b2:=Int.emod_lt_of_pos (n + 7919) (show (0:Int) < 2147483647 by decide)
  refine AE (AO 0 (ET.we (EF (BH (ev 0) AB) AB (by decide)) ?_) OS.nd)
  exact AG (AW (ET.we (EF (BH (BH (EE (ev 0) (ev 0) (.inl ⟨by omega,by omega⟩)) (EE AB (ev 0) (.inl ⟨by decide,by decide⟩))) AB) AB (by decide)) (q _ (Int.emod_nonneg _ (by decide)) (Int.emod_lt_of_pos _ (by decide)))))
def RX:Ch:=fun ts O Φ _ => ∃ c:Int,ts = [.int c]∧∀ (p:Addr) (xs:List T),O p = none→GD xs→Φ (.raw (.ref p)) (AZ O p xs)
theorem RY:FnScope ["_law_cell","_law_left"] ["_law_cell"] (AA TK):=⟨rfl,rfl,rfl,by decide +kernel,rfl,by decide +kernel,by decide +kernel⟩
theorem TN {f:Addr} {fd:FuncData} (F:Fun K "_law_pen_of" "_law_pen_of" TK f fd) (T:Txt mg):FnOk P w K mg base (CXe P w) 1 f fd ["_law_cell"] (DH K RX):=by
 refine AY F RY ?_ ?_
 ·rintro ts O Φ Ξ ⟨n,rfl,_⟩
  rfl
 ·rintro cdv A outer s H E O Ξ hr xf _ Φ ⟨n,rfl,q⟩
  refine AE (AO 1 (ET.we (DL T.nMax rfl (ev 0) (BO AB (ev 0))) ?_) RY.nd)
  refine AG (AW (CW (EA.wa (AS (ev 1) (AS (QI T.nInt (Ut (ev 1) (KA AB AB ⟨by decide,by decide,by decide⟩))) (AS (EF (ev 1) AB (by decide)) AC))) ⟨by show 3≤sizeLine; decide,fun a ha => q a _ ha ?_⟩)))
  have b1:=Int.emod_nonneg (max n (0 - n)) (show (1000003:Int)≠0 by decide)
  have b2:=Int.emod_lt_of_pos (max n (0 - n)) (show (0:Int) < 1000003 by decide)
  exact ⟨_,_,_,rfl,by omega,b1,by omega⟩
def Da:Ch:=fun ts O Φ _ => ∃ (p:Addr) (xs:List T) (m:Int),ts = [.raw (.ref p),.int m]∧O p = some xs∧GD xs∧0 < m∧m≤1000000000∧∀ (r:Int) (xs':List T),0≤r→r < m→GD xs'→Φ (.int r) (AZ O p xs')
theorem OT:FnScope ["_law_pen","_law_many","_law_found"] ["_law_pen","_law_many"] (AA OQ):=⟨rfl,rfl,rfl,by decide +kernel,rfl,by decide +kernel,by decide +kernel⟩
theorem QX {f:Addr} {fd:FuncData} (F:Fun K "_law_draw" "_law_draw" OQ f fd) (G:FnT P w K mg base "_law_next" 1 ["_law_seed"] OR):FnOk P w K mg base (CXe P w) 2 f fd ["_law_pen","_law_many"] (DH K Da):=by
 refine AY F OT ?_ ?_
 ·rintro ts O Φ Ξ ⟨p,xs,m,rfl,_⟩
  rfl
 ·rintro cdv A outer s H E O Ξ hr xf _ Φ ⟨p,_,m,rfl,hp,⟨a,b,c,rfl,a0,c0,c1⟩,m0,m1,q⟩
  refine AE (Au (EG (CY hp (ev 0) AB) AB) (fun h => ?_) (fun h => Al ?_))
  ·refine AE (AO 2 (ET.we (EF (CY hp (ev 0) AB) (ev 1) m0) ?_) OT.nd)
   refine AE (Fc (ET.we (Ej (CY hp (ev 0) AB) (ev 1) ⟨m0,by omega⟩) (ET.we (ev 0) ⟨p,rfl,ET.we AB ⟨_,0,0,rfl,hp,rfl,?_⟩⟩)))
   exact AG (AW (ET.we (ev 2) (q _ _ (Int.emod_nonneg _ (by omega)) (Int.emod_lt_of_pos _ m0) ⟨a / m,b,c,rfl,Int.ediv_nonneg a0 (by omega),c0,c1⟩)))
  ·refine AE (Fc (AR G hr xf (CV (Cp Ci (AR G hr xf (EA.wa (AS (CY hp (ev 0) AB) AC) ⟨c,rfl,fun u u0 u1 => ?_⟩))))))
   refine ET.we AB (Dn _ (Ay ⟨u + 7,rfl,fun r r0 r1 => ET.we (ev 0) ⟨p,rfl,ET.we AB ⟨_,2,2,rfl,hp,rfl,?_⟩⟩⟩))
   exact AG (AW (ET.we (EF (Ej (CY AF (ev 0) AB) AB ⟨by decide,by decide⟩) (ev 1) m0) (q _ _ (Int.emod_nonneg _ (by omega)) (Int.emod_lt_of_pos _ m0) ⟨a,b,r,rfl,a0,r0,by omega⟩)))
def Iz:Ch:=PV fun ts r => ∃ t,ts = [t]∧Ac t = false∧r = .bl (RS t && !Nm t)
theorem OU:FnScope ["_law_found"] ["_law_found"] (AA Hj):=⟨rfl,rfl,rfl,by decide +kernel,rfl,by decide +kernel,by decide +kernel⟩
theorem ML {f:Addr} {fd:FuncData} (F:Fun K "_law_whole_of" "_law_whole_of" Hj f fd) (T:Txt mg):FnOk P w K mg base (CXe P w) 1 f fd ["_law_found"] (DH K Iz):=by
 refine AY F OU ?_ ?_
 ·rintro ts O Φ Ξ ⟨r,⟨t,rfl,_⟩,_⟩
  rfl
 ·rintro cdv A outer s H E O Ξ hr xf _ Φ ⟨_,⟨t,rfl,ht,rfl⟩,q⟩
  exact AG (AW (ET.we (Sn (KE T.nIsi T.nInt TB LB (ev 0) ht) fun _ => KB (So (KE T.nIsi T.nBool No Fd (ev 0) ht))) q))
end
theorem AQ:(1000:Nat) < sizeLine:=by decide
def PO (O0:AJ) (p:Addr) (O:AJ):Prop:=∃ xs,O = AZ O0 p xs∧GD xs
theorem PO.at {O0 O:AJ} {p:Addr} (h:PO O0 p O):∃ xs,O p = some xs∧GD xs:=by
 obtain ⟨xs,rfl,px⟩:=h
 exact ⟨xs,AF,px⟩
theorem PO.step {O0 O:AJ} {p:Addr} {xs:List T} (h:PO O0 p O) (px:GD xs):PO O0 p (AZ O p xs):=by
 obtain ⟨ys,rfl,_⟩:=h
 exact ⟨xs,BA,px⟩
theorem PO.start {O:AJ} {p:Addr} {xs:List T} (h:O p = some xs) (px:GD xs):PO O p O:=⟨xs,(Nw h).symm,px⟩
section
variable {P:Program} {w:World} {K:PySem.W.Frag} {mg:Str→Option Value} {base:Heap}
section
variable {Z:Zx} {ρ:List (Option T)} {O O0 O1:AJ} {a b:Expr} {Φ:Bb} {pos q:Pos} {p c:Addr} {m:Int} {acc:List T}
theorem Bf (G:FnT Z.X.prog Z.X.w Z.X.K Z.X.mg Z.X.base "_law_draw" 2 ["_law_pen","_law_many"] Da) (hr:Room 2 Z.X.A) (xf:XFly Z.X Z.W) (po:PO O0 p O) (ha:ET Z ρ O a (.raw (.ref p))) (hb:ET Z ρ O b (.int m)) (m0:0 < m) (m1:m≤1000000000) (k:∀ r O',0≤r→r < m→PO O0 p O'→Φ (.int r) O') (hg:Gl Z.X "_law_draw":=by rfl)
  (he:starEach [a,b] Z.X.env = (false,eval a Z.X.env) :: starEach [b] Z.X.env:=by rfl) (he2:starEach [b] Z.X.env = (false,eval b Z.X.env) :: starEach [] Z.X.env:=by rfl) (hpl:(backTo pos (starEach [b] Z.X.env)).any (·.1) = false:=by rfl):WE Z ρ O (.Call (.Name "_law_draw" q) [a,b] [] pos) Φ:=by
 obtain ⟨xs,hp,px⟩:=po.at
 exact AR G hr xf (EA.wa (AS ha (AS hb AC he2) he) ⟨p,xs,m,rfl,hp,px,m0,m1,fun r xs' r0 r1 px' => k r _ r0 r1 (po.step px')⟩) hg (by decide) he hpl
theorem Cv (G:FnT Z.X.prog Z.X.w Z.X.K Z.X.mg Z.X.base "_law_draw" 2 ["_law_pen","_law_many"] Da) (hr:Room 2 Z.X.A) (xf:XFly Z.X Z.W) (po:PO O0 p O) (hc:O c = none) (ha:ET Z ρ (AZ O c acc) a (.raw (.ref p))) (hb:ET Z ρ (AZ O c acc) b (.int m)) (m0:0 < m) (m1:m≤1000000000) (k:∀ r O',0≤r→r < m→PO O0 p O'→O' c = none→Φ (.int r) (AZ O' c acc)) (hg:Gl Z.X "_law_draw":=by rfl)
  (he:starEach [a,b] Z.X.env = (false,eval a Z.X.env) :: starEach [b] Z.X.env:=by rfl) (he2:starEach [b] Z.X.env = (false,eval b Z.X.env) :: starEach [] Z.X.env:=by rfl) (hpl:(backTo pos (starEach [b] Z.X.env)).any (·.1) = false:=by rfl):WE Z ρ (AZ O c acc) (.Call (.Name "_law_draw" q) [a,b] [] pos) Φ:=by
 obtain ⟨xs,hp,px⟩:=po.at
 have hpc:p≠c:=TD hp hc
 refine AR G hr xf (EA.wa (AS ha (AS hb AC he2) he) ⟨p,xs,m,rfl,by rw [AV hpc]; exact hp,px,m0,m1,fun r xs' r0 r1 px' => ?_⟩) hg (by decide) he hpl
 rw [Cq hpc]
 exact k r _ r0 r1 (po.step px') (by rw [AV (Ne.symm hpc)]; exact hc)
end
end
def mm (p:Int × Int):Int × Int:=(min p.1 p.2,max p.1 p.2)
section
variable {P:Program} {w:World} {K:PySem.W.Frag} {mg:Str→Option Value} {base:Heap} {CP CL:Addr}
def LO:Ch:=PV fun ts r => ∃ n u t,ts = [.tup [.int n,u],t]∧Ac t = false∧r = .bl (CA t 0 (n - 1))
theorem QY:FnScope ["web","thing"] ["web","thing"] (AA KJ):=⟨rfl,rfl,rfl,by decide +kernel,rfl,by decide +kernel,by decide +kernel⟩
theorem OV {f:Addr} {fd:FuncData} (F:Fun K "is_place" "is_place" KJ f fd) (G:FnT P w K mg base "is_whole" 1 ["thing","least","most"] Hi):FnOk P w K mg base (CXe P w) 2 f fd ["web","thing"] (DH K LO):=by
 refine AY F QY ?_ ?_
 ·rintro ts O Φ Ξ ⟨r,⟨n,u,t,rfl,_⟩,_⟩
  rfl
 ·rintro cdv A outer s H E O Ξ hr xf _ Φ ⟨_,⟨n,u,t,rfl,ht,rfl⟩,q⟩
  exact AG (AW (ET.we (BP G hr xf (AD (ev 1) (AD AB (AD (BO (BF (ev 0) AB) AB) AC))) ⟨t,0,n - 1,rfl,ht,rfl⟩) q))
def OW (CP:Addr):Ch:=fun ts O Φ Ξ => ∃ n u t,ts = [.tup [.int n,u],t]∧Ac t = false∧(CA t 0 (n - 1) = true→Φ .non O)∧(CA t 0 (n - 1) = false→Ξ (.ref CP) O)
theorem TQ:FnScope ["web","thing"] ["web","thing"] (AA OH):=⟨rfl,rfl,rfl,by decide +kernel,rfl,by decide +kernel,by decide +kernel⟩
theorem QZ {f:Addr} {fd:FuncData} (F:Fun K "need_place" "need_place" OH f fd) (mP:mg "NoPlace" = some (.ref CP)) (xP:PySem.W.excIn K CP Lp "ValueError.__new__" = true) (G:FnT P w K mg base "is_place" 2 ["web","thing"] LO):FnOk P w K mg base (CXe P w) 3 f fd ["web","thing"] (DH K (OW CP)):=by
 refine LH F TQ ?_ ?_
 ·rintro ts O Φ Ξ ⟨n,u,t,rfl,_⟩
  rfl
 ·rintro cdv A outer s H E O Ξ hr xo _ Φ ⟨n,u,t,rfl,ht,q1,q2⟩
  refine AG (Au (DW (FY (BP G hr xo.f (AD (ev 0) (AD (ev 1) AC)) ⟨n,u,t,rfl,ht,rfl⟩))) (fun h => AG (Gd xo rfl mP xP (q2 ?_))) (fun h => Al (q1 ?_)))
  ·cases z:CA t 0 (n - 1) with
   | true => rw [z] at h; cases h
   | false => rfl
  ·cases z:CA t 0 (n - 1) with
   | true => rfl
   | false => rw [z] at h; cases h
def WU (p:Int × Int):Prop:=(0≤p.1∧p.1 < 65536)∧0≤p.2∧p.2 < 65536
end
abbrev Hk:Stmt:=top 12
abbrev Hl:Stmt:=top 17
abbrev Gg:Stmt:=top 18
section
variable {P:Program} {w:World} {K:PySem.W.Frag} {mg:Str→Option Value} {base:Heap}
end
open Gr
section
variable {P:Program} {w:World} {K:PySem.W.Frag} {mg:Str→Option Value} {base:Heap} {CP:Addr}
def AX (qs:List (Int × Int)) (i:Nat):List Int:=qs.filterMap fun p => if p.1 = (i:Int) then some p.2 else if p.2 = (i:Int) then some p.1 else none
theorem JA {qs:List (Int × Int)} {p:Int × Int} {i:Nat}:AX (qs ++ [p]) i = AX qs i ++ (if p.1 = (i:Int) then [p.2] else if p.2 = (i:Int) then [p.1] else []):=by
 unfold AX
 rw [List.filterMap_append]
 congr 1
 by_cases h:p.1 = (i:Int)
 ·simp [h]
 ·by_cases h2:p.2 = (i:Int)
  ·simp [h,h2]
  ·simp [h,h2]
theorem Db {qs:List (Int × Int)} {i:Nat}:(AX qs i).length≤qs.length:=List.length_filterMap_le ..
def Cw (n:Int) (ps:List (Int × Int)):T:=.lst ((List.range n.toNat).map fun i => .lst ((AX ps i).map T.int))
structure Nst (n:Int) (O:AJ) (l:Addr) (qs:List (Int × Int)) (rs:List (Addr × List T)):Prop where
 len:(rs.length:Int) = n
 nd:(rs.map Prod.fst).Nodup
 ne:∀ r∈rs,r.1≠l
 fr:∀ r∈rs,O r.1 = none
 val:∀ (i:Nat) r,rs[i]? = some r→r.2 = (AX qs i).map T.int
theorem Dq {rs:List (Addr × List T)} {i:Nat} {r:Addr × List T} {vs:List T} (h:rs[i]? = some r):(rs.set i (r.1,vs)).map Prod.fst = rs.map Prod.fst:=QN (us:=r.2) h
theorem VJ {O:AJ} {rs:List (Addr × List T)} {l:Addr} {i:Nat} {r:Addr × List T} {us:List T} (e:rs[i]? = some r) (hn:(rs.map Prod.fst).Nodup) (hl:∀ r∈rs,r.1≠l) :
  AZ (AZ (IE O rs) l (rs.map GC)) r.1 us = AZ (IE O (rs.set i (r.1,us))) l ((rs.set i (r.1,us)).map GC):=by
 rw [Cq (hl r (List.mem_of_getElem? e)),QM (us:=r.2) hn e]
 congr 1
 have:=Dq (vs:=us) e
 have e1:∀ rs:List (Addr × List T),rs.map GC = (rs.map Prod.fst).map fun a => T.raw (.ref a):=fun rs => by rw [List.map_map]; rfl
 rw [e1,e1,this]
theorem Nst.set2 {n:Int} {O:AJ} {l:Addr} {qs:List (Int × Int)} {rs:List (Addr × List T)} (h:Nst n O l qs rs) {a b:Nat} (hab:a≠b) {ra rb:Addr × List T} (ea:rs[a]? = some ra) (eb:rs[b]? = some rb) :
  Nst n O l (qs ++ [((a:Int),(b:Int))]) ((rs.set a (ra.1,ra.2 ++ [T.int b])).set b (rb.1,rb.2 ++ [T.int a])):=by
 have eb':(rs.set a (ra.1,ra.2 ++ [T.int b]))[b]? = some rb:=by rw [List.getElem?_set_ne hab]; exact eb
 have m1:=Dq (vs:=ra.2 ++ [T.int b]) ea
 have m2:=Dq (vs:=rb.2 ++ [T.int a]) eb'
 have hm:∀ r∈((rs.set a (ra.1,ra.2 ++ [T.int b])).set b (rb.1,rb.2 ++ [T.int a])),∃ r'∈rs,r'.1 = r.1:=fun r hr => by
  have:r.1∈(((rs.set a (ra.1,ra.2 ++ [T.int b])).set b (rb.1,rb.2 ++ [T.int a])).map Prod.fst):=List.mem_map_of_mem hr
  rw [m2,m1] at this
  obtain ⟨r',h1,h2⟩:=List.mem_map.mp this
  exact ⟨r',h1,h2⟩
 refine ⟨by rw [List.length_set,List.length_set]; exact h.len,by rw [m2,m1]; exact h.nd,fun r hr => ?_,fun r hr => ?_,fun i r e => ?_⟩
 ·obtain ⟨r',h1,h2⟩:=hm r hr
  rw [← h2]; exact h.ne r' h1
 ·obtain ⟨r',h1,h2⟩:=hm r hr
  rw [← h2]; exact h.fr r' h1
 ·have la:=(List.getElem?_eq_some_iff.mp ea).1
  have lb:=(List.getElem?_eq_some_iff.mp eb).1
  rw [JA,List.map_append]
  by_cases h1:i = b
  ·subst h1
   rw [List.getElem?_set_self (by rw [List.length_set]; exact lb)] at e
   cases e
   have:¬ ((a:Int) = (i:Int)):=by omega
   show rb.2 ++ [T.int a] = _
   rw [h.val i rb eb]
   simp [this]
  ·rw [List.getElem?_set_ne (fun z => h1 z.symm)] at e
   by_cases h2:i = a
   ·subst h2
    rw [List.getElem?_set_self la] at e
    cases e
    show ra.2 ++ [T.int b] = _
    rw [h.val i ra ea]
    simp
   ·rw [List.getElem?_set_ne (fun z => h2 z.symm)] at e
    have n1:¬ ((a:Int) = (i:Int)):=by omega
    have n2:¬ ((b:Int) = (i:Int)):=by omega
    rw [h.val i r e]
    simp [n1,n2]
theorem Nst.tree {n:Int} {O:AJ} {l:Addr} {ps:List (Int × Int)} {rs:List (Addr × List T)} (h:Nst n O l ps rs):T.lst (rs.map fun r => T.lst r.2) = Cw n ps:=by
 have hl:=h.len
 unfold Cw
 congr 1
 apply List.ext_getElem?
 intro i
 rw [List.getElem?_map,List.getElem?_map]
 by_cases hi:i < rs.length
 ·rw [List.getElem?_eq_getElem hi,List.getElem?_range (by omega)]
  show some (T.lst rs[i].2) = _
  rw [h.val i rs[i] (List.getElem?_eq_getElem hi)]
  rfl
 ·rw [List.getElem?_eq_none (by omega),List.getElem?_eq_none (by rw [List.length_range]; omega)]
  rfl
def Hm:Ch:=PV fun ts r => ∃ n ps,ts = [Ab n ps]∧0≤n∧n≤200∧PY n ps∧ps.length≤200∧r = Cw n ps
theorem Hn:FnScope ["web","nears","a","b"] ["web"] (AA Hl):=⟨rfl,rfl,rfl,by decide +kernel,rfl,by decide +kernel,by decide +kernel⟩
theorem VL:(Af ["place"] []).Nodup:=by decide +kernel
theorem OX {f:Addr} {fd:FuncData} (F:Fun K "nears_of" "nears_of" Hl f fd) (Tx:Txt mg):FnOk P w K mg base (CXe P w) 1 f fd ["web"] (DH K Hm):=by
 refine AY F Hn ?_ ?_
 ·rintro ts O Φ Ξ ⟨r,⟨n,ps,rfl,_⟩,_⟩
  rfl
 ·rintro cdv A outer s H E O Ξ hr xf _ Φ ⟨_,⟨n,ps,rfl,n0,n1,hw,hl,rfl⟩,q⟩
  have sb:=AQ
  refine AE (Ge (i:=1) (nc:=["place"]) (cap:=[]) (by rfl) Hn.nd rfl (Ca (AA Hl) ["web","nears","a","b"] (by decide +kernel)) (EI.wi (Ah Tx.nRange (BF (ev 0) AB) ⟨by omega,by omega⟩) ?_))
  refine ⟨fun i acc O' => i≤200∧∃ as:List Addr,acc = (as.map fun a => (a,([]:List T))).map GC∧as.length = i∧as.Nodup∧(∀ a∈as,O a = none)∧O' = IE O (as.map fun a => (a,[])),⟨by omega,[],rfl,rfl,by simp,(fun _ h => by cases h),rfl⟩,?_,?_⟩
  ·rintro i t acc O' c e ⟨_,as,rfl,hal,hnd,hfr,rfl⟩ hc
   obtain ⟨hi,rfl⟩:=BY e
   refine ⟨[some (.int (0 + (i:Int)))],fun X' Oe He is => ⟨?_,Ek (Eb fun X' Oe He is => ?_)⟩⟩
   ·obtain ⟨cl,s',H',fp,rfl⟩:=is
    exact AT 0 VL (by decide)
   ·obtain ⟨cl,s',H',fp,rfl⟩:=is
    refine CW (Ay ⟨Nat.zero_le _,fun p hp => ?_⟩)
    have hpc:p≠c:=fun z => by rw [z,AF] at hp; cases hp
    rw [AV hpc] at hp
    have hpa:p ∉ as:=fun z => by
     rw [DY (rs:=as.map fun a => (a,[])) (r:=(p,[])) (by rw [List.map_map]; simpa [Function.comp_def] using hnd) (List.mem_map_of_mem z)] at hp
     cases hp
    have hpO:O p = none:=by
     rw [DN fun r hr => by
      obtain ⟨a,ha,rfl⟩:=List.mem_map.mp hr
      exact fun z => hpa (z ▸ ha)] at hp
     exact hp
    refine ⟨AZ (IE O (as.map fun a => (a,[]))) p [],Cq hpc,by rw [AV hpc.symm]; exact hc,by rw [List.length_map,List.length_map]; omega,by omega,as ++ [p],by rw [List.map_append,List.map_append]; rfl,by simp; omega,?_,fun a ha => ?_,?_⟩
    ·rw [List.nodup_append]
     refine ⟨hnd,by simp,fun a ha b hb z => ?_⟩
     rw [List.mem_singleton.mp hb] at z
     exact hpa (z ▸ ha)
    ·rcases List.mem_append.mp ha with ha | ha
     ·exact hfr a ha
     ·rw [List.mem_singleton.mp ha]; exact hpO
    ·rw [List.map_append]; exact (OD (r:=(p,[]))).symm
  ·rintro acc O' ⟨_,as,rfl,hal,hnd,hfr,rfl⟩ l hlO
   rw [BI] at hal
   have hkeys:((as.map fun a => (a,([]:List T))).map Prod.fst) = as:=by rw [List.map_map]; simp [Function.comp_def]
   have nst0:Nst n O l [] (as.map fun a => (a,([]:List T))):=by
    refine ⟨by rw [List.length_map]; omega,by rw [hkeys]; exact hnd,fun r hr z => ?_,fun r hr => ?_,fun i r e => ?_⟩
    ·rw [← z,DY (by rw [hkeys]; exact hnd) hr] at hlO
     cases hlO
    ·obtain ⟨a,ha,rfl⟩:=List.mem_map.mp hr
     exact hfr a ha
    ·have:=List.mem_of_getElem? e
     obtain ⟨a,ha,rfl⟩:=List.mem_map.mp this
     rfl
   have hlO':O l = none:=by
    rw [DN nst0.ne] at hlO
    exact hlO
   refine AE (BR Aa.own rfl (EI.wi (HV (BF (ev 0) AB)) ⟨fun j ρ' O' => ∃ rs v2 v3,ρ' = [some (Ab n ps),some (.raw (.ref l)),v2,v3]∧O' = AZ (IE O rs) l (rs.map GC)∧Nst n O l (ps.take j) rs,⟨_,none,none,rfl,rfl,by rw [List.take_zero]; exact nst0⟩,?_,?_⟩))
   ·rintro j t _ _ e ⟨rs,v2,v3,rfl,rfl,nst⟩
    rw [List.getElem?_map] at e
    cases ec:ps[j]? with
    | none => rw [ec] at e; cases e
    | some z =>
     rw [ec] at e
     cases e
     have hb:=hw z (List.mem_of_getElem? ec)
     have hlen:=nst.len
     have htl:(ps.take j).length≤200:=by rw [List.length_take]; omega
     obtain ⟨a,ea⟩:=Int.eq_ofNat_of_zero_le hb.1
     obtain ⟨b,eb⟩:=Int.eq_ofNat_of_zero_le (show 0≤z.2 by omega)
     have ha:a < rs.length:=by omega
     have hb':b < rs.length:=by omega
     have hab:a≠b:=by omega
     have ga:=List.getElem?_eq_getElem ha
     have gb:(rs.set a (rs[a].1,rs[a].2 ++ [T.int b]))[b]? = some rs[b]:=by rw [List.getElem?_set_ne hab]; exact List.getElem?_eq_getElem hb'
     have m1:=Dq (vs:=rs[a].2 ++ [T.int b]) ga
     have nd1:((rs.set a (rs[a].1,rs[a].2 ++ [T.int b])).map Prod.fst).Nodup:=by rw [m1]; exact nst.nd
     have ne1:∀ r∈rs.set a (rs[a].1,rs[a].2 ++ [T.int b]),r.1≠l:=fun r hr => by
      have:r.1∈(rs.set a (rs[a].1,rs[a].2 ++ [T.int b])).map Prod.fst:=List.mem_map_of_mem hr
      rw [m1] at this
      obtain ⟨r',h1,h2⟩:=List.mem_map.mp this
      rw [← h2]; exact nst.ne r' h1
     have la:rs[a].2.length≤200:=by rw [nst.val a rs[a] ga,List.length_map]; exact Nat.le_trans Db htl
     have lb:rs[b].2.length≤200:=by rw [nst.val b rs[b] (List.getElem?_eq_getElem hb'),List.length_map]; exact Nat.le_trans Db htl
     have ez:z = ((a:Int),(b:Int)):=by rw [← ea,← eb]
     subst ez
     refine ⟨[some (Ab n ps),some (.raw (.ref l)),some (.int a),some (.int b)],DJ 2 3 rfl Hn.nd (by show 2 < 4; decide) (by show 3 < 4; decide),?_⟩
     refine AE (Aj (CD (ET.we (CY (ts:=rs.map GC) AF (ev 1) (ev 2) (BV (by rw [List.getElem?_map,ga]; rfl))) ⟨rs[a].1,rfl,⟨rs[a].2,?_⟩,ET.we (ev 3) ⟨rs[a].2,?_,by omega,?_⟩⟩)))
     ·rw [AV (nst.ne _ (List.getElem_mem ha))]; exact DY nst.nd (List.getElem_mem ha)
     ·rw [AV (nst.ne _ (List.getElem_mem ha))]; exact DY nst.nd (List.getElem_mem ha)
     ·rw [VJ ga nst.nd nst.ne]
      refine AG (Aj (CD (ET.we (CY (ts:=(rs.set a (rs[a].1,rs[a].2 ++ [T.int b])).map GC) AF (ev 1) (ev 3) (BV (by rw [List.getElem?_map,gb]; rfl))) ⟨rs[b].1,rfl,⟨rs[b].2,?_⟩,ET.we (ev 2) ⟨rs[b].2,?_,by omega,?_⟩⟩)))
      ·rw [AV (ne1 _ (List.mem_of_getElem? gb))]; exact DY nd1 (List.mem_of_getElem? gb)
      ·rw [AV (ne1 _ (List.mem_of_getElem? gb))]; exact DY nd1 (List.mem_of_getElem? gb)
      ·rw [VJ gb nd1 ne1]
       refine ⟨_,_,_,rfl,rfl,?_⟩
       have:ps.take (j + 1) = ps.take j ++ [((a:Int),(b:Int))]:=by
        rw [List.take_add_one,ec]; rfl
       rw [this]
       exact nst.set2 hab ga (List.getElem?_eq_getElem hb')
   ·rintro _ _ ⟨rs,v2,v3,rfl,rfl,nst⟩
    rw [List.length_map,List.take_length] at nst
    refine OF nst.nd nst.ne nst.fr nst.fr ?_
    refine BQ (p:=l) (n:=1) (ts:=rs.map fun r => T.lst r.2) AF hlO' rfl ?_
    rw [Ap hlO']
    refine AG (AW (ET.we (ev 1) ?_))
    show Φ (T.lst (rs.map fun r => T.lst r.2)) O
    rw [nst.tree]
    exact q
end
section
variable {P:Program} {w:World} {K:PySem.W.Frag} {mg:Str→Option Value} {base:Heap} {CP:Addr}
theorem Gh {n:Int} {ps:List (Int × Int)} (hw:PY n ps) {i:Nat} {v:Int}:v∈AX ps i↔Adj ps (i:Int) v:=by
 unfold AX Adj
 rw [List.mem_filterMap]
 constructor
 ·rintro ⟨p,hp,e⟩
  by_cases h:p.1 = (i:Int)
  ·rw [if_pos h] at e
   cases e
   exact .inl (by rw [← h]; exact hp)
  ·rw [if_neg h] at e
   by_cases h2:p.2 = (i:Int)
   ·rw [if_pos h2] at e
    cases e
    exact .inr (by rw [← h2]; exact hp)
   ·rw [if_neg h2] at e; cases e
 ·rintro (h | h)
  ·exact ⟨_,h,by simp⟩
  ·have:=hw _ h
   simp only at this
   exact ⟨_,h,by rw [if_neg (by omega)]; simp⟩
theorem Fo {n:Int} {ps:List (Int × Int)} {i:Nat} (h:(i:Int) < n):atI ((List.range n.toNat).map fun i => T.lst ((AX ps i).map T.int)) (i:Int) = some (.lst ((AX ps i).map T.int)) :=
 BV (by rw [List.getElem?_map,List.getElem?_range (by omega)]; rfl)
theorem Ho {m:Nat} {i:Nat} (h:i < m):Mq m (i:Int) = some i:=by
 unfold Mq
 rw [if_pos (by omega),if_pos (by omega)]
 rfl
structure WebN (n:Int) (ps:List (Int × Int)):Prop where
 n0:0≤n
 n1:n≤200
 hw:PY n ps
 hl:ps.length≤200
theorem LP {n:Int} {t:T} (h:CA t 0 (n - 1) = true):∃ i:Nat,t = .int i∧(i:Int) < n:=by
 obtain ⟨i,rfl⟩:=LN h
 have h:(decide (0≤i) && decide (i≤n - 1)) = true:=h
 simp at h
 obtain ⟨m,rfl⟩:=Int.eq_ofNat_of_zero_le h.1
 exact ⟨m,rfl,by omega⟩
def Ad:Option Nat→T
 | none => .non
 | some d => .int d
theorem Fp {x:Option Nat}:Ac (Ad x) = false:=by cases x <;> rfl
theorem JB {x:Option Nat}:DS (Ad x) = x.isNone:=by cases x <;> rfl
def OY:Ch:=fun ts O Φ _ => ∃ n ps S,ts = [Cw n ps,.lst (S.map T.int)]∧WebN n ps∧(∀ z∈S,0≤z∧z < n)∧∀ fs,All n ps S fs→Φ (.lst (fs.map Ad)) O
def OZ:List Str:=["nears","starts","fars","start","border","steps","beyond","place","near"]
theorem Bz:FnScope OZ ["nears","starts"] (AA Gg):=⟨rfl,rfl,rfl,by decide +kernel,rfl,by decide +kernel,by decide +kernel⟩
theorem VM:(Af ["near"] []).Nodup:=by decide +kernel
def Xf (i:Nat):Stmt:=(Am Gg).getD i (.Pass ⟨0,0,0,0⟩)
def Gi:Stmt→List Stmt
 | .While _ b _ _ => b
 | .For _ _ b _ _ => b
 | _ => []
def Xh (i:Nat):Stmt:=(Gi (Xf 4)).getD i (.Pass ⟨0,0,0,0⟩)
variable {f:Addr} {cdv:Value} {A:Around} {outer:List Env} {s:Shared} {H:Hp} {E:XK} {O:AJ} {Ξ:Value→AJ→Prop} {n:Int} {ps:List (Int × Int)} {S bs:List Int} {l lb:Addr}
abbrev zF (P:Program) (w:World) (K:PySem.W.Frag) (mg:Str→Option Value) (base:Heap) (f:Addr) (cdv:Value) (A:Around) (outer:List Env) (s:Shared) (H:Hp) (E:XK) (O:AJ) (Ξ:Value→AJ→Prop):Zx:=zB P w K mg base OZ "fars_from" (AA Gg) f cdv A outer s H E O Ξ
abbrev Ef (n:Int) (ps:List (Int × Int)) (S:List Int) (l:Addr) (v3:Option T) (bs:List Int) (k:Nat) (v6 v7 v8:Option T):List (Option T):=[some (Cw n ps),some (.lst (S.map T.int)),some (.raw (.ref l)),v3,some (.lst (bs.map T.int)),some (.int (k:Int)),v6,v7,v8]
abbrev Eg (O:AJ) (l lb:Addr) (fs:List (Option Nat)) (BC:List Int):AJ:=AZ (AZ O l (fs.map Ad)) lb (BC.map T.int)
theorem Oa {v3 v7:Option T} {k:Nat} {fs:List (Option Nat)} {BC ds:List Int} {u:Int} {v:Nat} {Φ:Bb} {N Bk Ct:Il} (hll:lb≠l) (n1:n≤200) (hv:(v:Int) < n) (m:Mid n ps S k fs BC ds) (nd:BC.Nodup) (hw:PY n ps) (hS:∀ z∈S,0≤z∧z < n) (hu:IsD ps S u k) (a:Adj ps u v)
  (q:∀ fs BC,Mid n ps S k fs BC (ds ++ [(v:Int)])→BC.Nodup→N (Ef n ps S l v3 bs (k + 1) (some (.raw (.ref lb))) v7 (some (.int v))) (Eg O l lb fs BC)) :
  DP (zF P w K mg base f cdv A outer s H E O Ξ) (Ef n ps S l v3 bs (k + 1) (some (.raw (.ref lb))) v7 (some (.int v))) (Eg O l lb fs BC) (Gi ((Gi (Xh 2)).getD 0 (.Pass ⟨0,0,0,0⟩))) { nx:=N,rt:=Φ,bk:=Bk,ct:=Ct }:=by
 have sb:=AQ
 have hl:=m.len
 have hlt:v < fs.length:=by omega
 have gl:Eg O l lb fs BC l = some (fs.map Ad):=by
  show AZ (AZ O l _) lb _ l = _
  rw [AV hll.symm,AF]
 have gv:atI (fs.map Ad) (v:Int) = some (Ad fs[v]):=BV (by rw [List.getElem?_map,List.getElem?_eq_getElem hlt]; rfl)
 refine AG (Au (Cr Fp (CY gl (ev 2) (ev 8) gv)) (fun h => ?_) (fun h => Al ?_))
 ·rw [JB] at h
  have hn:fs[(v:Int).toNat]? = some none:=by
   rw [Int.toNat_natCast,List.getElem?_eq_getElem hlt]
   cases z:fs[v] with
   | none => rfl
   | some d => rw [z] at h; cases h
  have hb:BC.length≤n.toNat:=OG nd fun z hz => (m.sub z hz).1.inb hw hS
  refine AE (Fc (ET.we (ev 5) (ET.we (ev 2) ⟨l,rfl,ET.we (ev 8) ⟨_,_,v,rfl,gl,by rw [List.length_map]; exact Ho hlt,?_⟩⟩)))
  have eo:AZ (Eg O l lb fs BC) l ((fs.map Ad).set v (.int ((k + 1:Nat):Int))) = Eg O l lb (fs.set v (some (k + 1))) BC:=by
   show AZ (AZ (AZ O l _) lb _) l _ = _
   rw [Cq hll.symm,BA]
   show _ = AZ (AZ O l ((fs.set v (some (k + 1))).map Ad)) lb _
   rw [List.map_set]
   rfl
  rw [eo]
  refine AG (Aj (CD (ET.we (ev 6) ⟨lb,rfl,⟨_,AF⟩,ET.we (ev 8) ⟨BC.map T.int,AF,by rw [List.length_map]; omega,?_⟩⟩)))
  have m2:=m.hit (v:=(v:Int)) (by omega) hv hn hu a
  rw [Int.toNat_natCast] at m2
  have:=q _ _ m2 (by
   rw [List.nodup_append]
   refine ⟨nd,by simp,fun x hx y hy z => ?_⟩
   rw [List.mem_singleton.mp hy] at z
   exact m.fresh (by omega) hv hn (z ▸ hx))
  have e2:AZ (Eg O l lb (fs.set v (some (k + 1))) BC) lb (BC.map T.int ++ [T.int v]) = Eg O l lb (fs.set v (some (k + 1))) (BC ++ [(v:Int)]):=by
   show AZ (AZ (AZ O l _) lb _) lb _ = AZ (AZ O l _) lb _
   rw [BA,List.map_append]
   rfl
  rw [e2]
  exact this
 ·rw [JB] at h
  cases z:fs[v] with
  | none => rw [z] at h; cases h
  | some d => exact q fs BC (m.miss (by omega) hv (d:=d) (by rw [Int.toNat_natCast,List.getElem?_eq_getElem hlt,z])) nd
end
section
variable {P:Program} {w:World} {K:PySem.W.Frag} {mg:Str→Option Value} {base:Heap} {CP:Addr} {f:Addr} {cdv:Value} {A:Around} {outer:List Env} {s:Shared} {H:Hp} {E:XK} {O:AJ} {Ξ:Value→AJ→Prop} {n:Int} {ps:List (Int × Int)} {S bs:List Int} {l lb:Addr}
theorem MM {v3 v8:Option T} {k:Nat} {fs:List (Option Nat)} {BC ds:List Int} {u:Nat} {Φ:Bb} {N Bk Ct:Il} (hll:lb≠l) (n1:n≤200) (hu0:(u:Int) < n) (m:Mid n ps S k fs BC ds) (nd:BC.Nodup) (hw:PY n ps) (hS:∀ z∈S,0≤z∧z < n) (hu:IsD ps S u k)
  (q:∀ v8 fs BC ds',Mid n ps S k fs BC ds'→BC.Nodup→(∀ v∈ds,v∈ds')→(∀ v,Adj ps u v→v∈ds')→N (Ef n ps S l v3 bs (k + 1) (some (.raw (.ref lb))) (some (.int u)) v8) (Eg O l lb fs BC)) :
  DP (zF P w K mg base f cdv A outer s H E O Ξ) (Ef n ps S l v3 bs (k + 1) (some (.raw (.ref lb))) (some (.int u)) v8) (Eg O l lb fs BC) (Gi (Xh 2)) { nx:=N,rt:=Φ,bk:=Bk,ct:=Ct }:=by
 refine AG (BR Aa.own rfl (EI.wi (BB (EH (ev 0) (ev 7) (Fo hu0))) ⟨fun j ρ' O' => ∃ v8 fs BC ds',ρ' = Ef n ps S l v3 bs (k + 1) (some (.raw (.ref lb))) (some (.int u)) v8∧O' = Eg O l lb fs BC∧Mid n ps S k fs BC ds'∧BC.Nodup∧(∀ v∈ds,v∈ds')∧∀ v∈(AX ps u).take j,v∈ds',⟨v8,fs,BC,ds,rfl,rfl,m,nd,fun _ h => h,fun v h => by simp at h⟩,?_,?_⟩))
 ·rintro j t _ _ e ⟨v8,fs,BC,ds',rfl,rfl,m,nd,h1,h2⟩
  rw [List.getElem?_map] at e
  cases ec:(AX ps u)[j]? with
  | none => rw [ec] at e; cases e
  | some z =>
   rw [ec] at e
   cases e
   have a:=(Gh hw).mp (List.mem_of_getElem? ec)
   have hb:=a.inb hw
   obtain ⟨v,rfl⟩:=Int.eq_ofNat_of_zero_le hb.1
   refine ⟨Ef n ps S l v3 bs (k + 1) (some (.raw (.ref lb))) (some (.int u)) (some (.int v)),AT 8 Bz.nd (by show 8 < 9; decide),Oa hll n1 hb.2.1 m nd hw hS hu a fun fs' bey' m' nd' => ⟨_,_,_,_,rfl,rfl,m',nd',fun x hx => List.mem_append_left _ (h1 x hx),fun x hx => ?_⟩⟩
   rw [List.take_add_one,ec] at hx
   rcases List.mem_append.mp hx with hx | hx
   ·exact List.mem_append_left _ (h2 x hx)
   ·exact List.mem_append_right _ hx
 ·rintro _ _ ⟨v8,fs,BC,ds',rfl,rfl,m,nd,h1,h2⟩
  rw [List.length_map,List.take_length] at h2
  exact q v8 fs BC ds' m nd h1 fun v a => h2 v ((Gh hw).mpr a)
theorem MN {v3 v6 v7 v8:Option T} {k:Nat} {fs:List (Option Nat)} {Φ:Bb} {N Bk Ct:Il} (hlO:O l = none) (wn:WebN n ps) (hS:∀ z∈S,0≤z∧z < n) (h:Fr n ps S k fs) (hb:∀ v,v∈bs↔IsD ps S v k)
  (q:∀ v6 v7 v8 fs BC,Fr n ps S (k + 1) fs→(∀ v,v∈BC↔IsD ps S v (k + 1))→N (Ef n ps S l v3 BC (k + 1) v6 v7 v8) (AZ O l (fs.map Ad))) :
  DP (zF P w K mg base f cdv A outer s H E O Ξ) (Ef n ps S l v3 bs k v6 v7 v8) (AZ O l (fs.map Ad)) (Gi (Xf 4)) { nx:=N,rt:=Φ,bk:=Bk,ct:=Ct }:=by
 have sb:=AQ
 refine AE (Ss 5 SD rfl (ET.we AB (fun H v w Q ok r1 r2 acc => ⟨_,_,r1.int_inv,r2.int_inv,acc _ H (.int (((k + 1:Nat):Int))) _ ?_ (.refl ok) (.int _)⟩)) Bz.nd)
 refine AE (AO 6 (CW (Ay ⟨Nat.zero_le _,fun lb hlb => ?_⟩)) Bz.nd)
 have hll:lb≠l:=fun z => by rw [z,AF] at hlb; cases hlb
 have hlb':O lb = none:=by rw [AV hll] at hlb; exact hlb
 refine AE (BR Aa.own rfl (EI.wi (BB (ev 4)) ⟨fun i ρ' O' => ∃ v7 v8 fs BC ds,ρ' = Ef n ps S l v3 bs (k + 1) (some (.raw (.ref lb))) v7 v8∧O' = Eg O l lb fs BC∧Mid n ps S k fs BC ds∧BC.Nodup∧∀ u∈bs.take i,∀ v,Adj ps u v→v∈ds,⟨v7,v8,fs,[],[],rfl,rfl,h.mid,by simp,fun u hu => by simp at hu⟩,?_,?_⟩))
 ·rintro i t _ _ e ⟨v7,v8,fs,BC,ds,rfl,rfl,m,nd,h1⟩
  rw [List.getElem?_map] at e
  cases ec:bs[i]? with
  | none => rw [ec] at e; cases e
  | some z =>
   rw [ec] at e
   cases e
   have hz:=(hb z).mp (List.mem_of_getElem? ec)
   have hi:=hz.1.inb wn.hw hS
   obtain ⟨u,rfl⟩:=Int.eq_ofNat_of_zero_le hi.1
   refine ⟨Ef n ps S l v3 bs (k + 1) (some (.raw (.ref lb))) (some (.int u)) v8,AT 7 Bz.nd (by show 7 < 9; decide),MM hll wn.n1 hi.2 m nd wn.hw hS hz fun v8 fs' bey' ds' m' nd' g1 g2 => ⟨_,_,_,_,ds',rfl,rfl,m',nd',fun x hx v a => ?_⟩⟩
   rw [List.take_add_one,ec] at hx
   rcases List.mem_append.mp hx with hx | hx
   ·exact g1 v (h1 x hx v a)
   ·have:x = (u:Int):=by simpa using hx
    rw [this] at a
    exact g2 v a
 ·rintro _ _ ⟨v7,v8,fs,BC,ds,rfl,rfl,m,nd,h1⟩
  rw [List.length_map,List.take_length] at h1
  obtain ⟨h2,h3⟩:=m.done fun u v hu a => h1 u ((hb u).mpr hu) v a
  refine BQ (p:=lb) (n:=6) (ts:=BC.map T.int) AF hlb' rfl ?_
  rw [show Co (Eg O l lb fs BC) lb = AZ O l (fs.map Ad) from Ap (by rw [AV hll]; exact hlb')]
  exact AG (AO 4 (ET.we (ev 6) (q _ _ _ fs BC h2 h3)) Bz.nd)
theorem Fq {v:Int}:IsD ps S v 0↔v∈S:=by
 constructor
 ·rintro ⟨w,_⟩
  cases w with
  | «at» h => exact h
 ·intro h
  exact ⟨.at h,fun j hj => by omega⟩
theorem Qa {fd:FuncData} (F:Fun K "fars_from" "fars_from" Gg f fd):FnOk P w K mg base (CXe P w) 1 f fd ["nears","starts"] (DH K OY):=by
 refine AY F Bz ?_ ?_
 ·rintro ts O Φ Ξ ⟨n,ps,S,rfl,_⟩
  rfl
 ·rintro cdv A outer s H E O Ξ hr xf _ Φ ⟨n,ps,S,rfl,wn,hS,q⟩
  have sb:=AQ
  have n0:=wn.n0
  have n1:=wn.n1
  refine AE (Ge (i:=2) (nc:=["near"]) (cap:=[]) (by rfl) Bz.nd rfl (Ca (AA Gg) OZ (by decide +kernel)) (EI.wi (BB (ev 0)) ?_))
  refine ⟨fun i acc O' => i≤200∧acc = (List.replicate i (none:Option Nat)).map Ad∧O = O',⟨by omega,rfl,rfl⟩,?_,?_⟩
  ·rintro i t acc _ c e ⟨_,rfl,rfl⟩ hc
   have hi:i < n.toNat:=by
    have:=(List.getElem?_eq_some_iff.mp e).1
    simpa using this
   refine ⟨[some t],fun X' Oe He is => ⟨?_,Ek (Eb fun X' Oe He is => ?_)⟩⟩
   ·obtain ⟨cl,s',H',fp,rfl⟩:=is
    exact AT 0 VM (by decide)
   ·obtain ⟨cl,s',H',fp,rfl⟩:=is
    exact ET.we BN ⟨O,rfl,hc,by rw [List.length_map,List.length_replicate]; omega,by omega,by rw [List.replicate_succ',List.map_append]; rfl,rfl⟩
  ·rintro acc _ ⟨_,rfl,rfl⟩ l hlO
   rw [List.length_map,List.length_range]
   refine AE (BR Aa.own rfl (EI.wi (BB (ev 1)) ⟨fun j ρ' O' => ∃ (fs:List (Option Nat)) (v3:Option T),ρ' = [some (Cw n ps),some (.lst (S.map T.int)),some (.raw (.ref l)),v3,none,none,none,none,none]∧O' = AZ O l (fs.map Ad)∧(fs.length:Int) = n∧∀ v:Int,0≤v→v < n→∀ d,fs[v.toNat]? = some (some d)↔(d = 0∧v∈S.take j),⟨_,none,rfl,rfl,by rw [List.length_replicate]; omega,fun v v0 v1 d => ?_⟩,?_,?_⟩))
   ·rw [List.getElem?_replicate]
    simp
   ·rintro j t _ _ e ⟨fs,v3,rfl,rfl,hl,hf⟩
    rw [List.getElem?_map] at e
    cases ec:S[j]? with
    | none => rw [ec] at e; cases e
    | some z =>
     rw [ec] at e
     cases e
     have hz:=hS z (List.mem_of_getElem? ec)
     obtain ⟨v,rfl⟩:=Int.eq_ofNat_of_zero_le hz.1
     have hlt:v < fs.length:=by omega
     refine ⟨[some (Cw n ps),some (.lst (S.map T.int)),some (.raw (.ref l)),some (.int v),none,none,none,none,none],AT 3 Bz.nd (by show 3 < 9; decide),?_⟩
     refine AG (Fc (ET.we AB (ET.we (ev 2) ⟨l,rfl,ET.we (ev 3) ⟨_,_,v,rfl,AF,by rw [List.length_map]; exact Ho hlt,?_⟩⟩)))
     refine ⟨fs.set v (some 0),_,rfl,by rw [BA,List.map_set]; rfl,by rw [List.length_set]; exact hl,fun y y0 y1 d => ?_⟩
     rw [List.take_add_one,ec]
     by_cases hy:y = (v:Int)
     ·subst hy
      rw [Int.toNat_natCast,List.getElem?_set_self hlt]
      simp [eq_comm]
     ·rw [List.getElem?_set_ne (by omega),hf y y0 y1 d]
      simp [hy]
   ·rintro _ _ ⟨fs,v3,rfl,rfl,hl,hf⟩
    rw [List.length_map,List.take_length] at hf
    have fr:Fr n ps S 0 fs:=QO hl hf
    refine AE (AO 4 (ET.we (ev 1) ?_) Bz.nd)
    refine AE (AO 5 (ET.we AB ?_) Bz.nd)
    refine AE (Iq Aa.own (fun m ρ' O' => ∃ (k:Nat) (bs:List Int) (fs:List (Option Nat)) (v3 v6 v7 v8:Option T),ρ' = Ef n ps S l v3 bs k v6 v7 v8∧O' = AZ O l (fs.map Ad)∧Fr n ps S k fs∧(∀ v,v∈bs↔IsD ps S v k)∧m = n.toNat + 1 - k) ⟨_,0,S,fs,v3,none,none,none,rfl,rfl,fr,fun v => Fq.symm,rfl⟩ ?_)
    rintro m _ _ ⟨k,bs,fs,v3,v6,v7,v8,rfl,rfl,fr,hb,rfl⟩
    refine (show EB (zF P w K mg base f cdv A outer s H E O Ξ) (Ef n ps S l v3 bs k v6 v7 v8) (AZ O l (fs.map Ad)) _ (!(bs.map T.int).isEmpty) from Ii (t:=T.lst (bs.map T.int)) (ev 4) rfl) _ ?_
    cases bs with
    | nil =>
     refine DO ?_
     have al:=fr.all_end fun v hv => by
      have:=(hb v).mpr hv
      cases this
     refine BQ (p:=l) (n:=2) (ts:=fs.map Ad) AF hlO rfl ?_
     rw [Ap hlO]
     exact AG (AW (ET.we (ev 2) (q fs al)))
    | cons b bs' =>
     refine Eb (MN hlO wn hS fr hb fun v6 v7 v8 fs' BC fr' hb' => ⟨_,?_,k + 1,BC,fs',_,v6,v7,v8,rfl,rfl,fr',hb',rfl⟩)
     have:=((hb b).mp (by simp)).lt wn.hw hS
     omega
end
end K24
namespace L2.TL
open PySem PySem.Spec PyProof.Rows
section
variable {Z:Zx} {ρ:List (Option T)} {O:AJ} {e:Expr} {p pos:Pos} {ns:List Int} {i:Int}
theorem Qb (hi:Jx ns i) (m:Z.X.mg "min" = none) (hc:Z.X.calm = true) (h:ET Z ρ O e (.lst (ns.map T.int))) (hg:Gl Z.X "min":=by rfl) (he:starEach [e] Z.X.env = (false,eval e Z.X.env) :: starEach [] Z.X.env:=by rfl):ET Z ρ O (.Call (.Name "min" p) [e] [] pos) (.int i) :=
 Bn (MD hc) m VB (AS h AC he) (fun Φ q H vs Q ok r k => by
  obtain ⟨v,rfl,r1⟩:=r.one_inv
  obtain ⟨a,xs,rfl,h1,o1,r1⟩:=r1.lst_inv
  cases Reps.ints r1
  refine ⟨a,ns,rfl,.inl (.inl (.inl h1)),List.length_pos_of_mem hi.1,fun n hn => ?_⟩
  have:n = i:=Int.le_antisymm (hn.2 i hi.1) (hi.2 n hn.1)
  rw [this]
  exact k _ H _ O q (.refl ok) (.int _)) hg (by decide) (by decide) he
theorem JC:∀ {ns:List Int},ns≠[]→∃ i,Jx ns i
 | [],h => absurd rfl h
 | [a],_ => ⟨a,by simp,fun n hn => by rw [List.mem_singleton.mp hn]; exact Int.le_refl _⟩
 | a :: b :: ns,_ => by
  obtain ⟨i,h1,h2⟩:=JC (ns:=b :: ns) (by simp)
  refine ⟨min a i,?_,fun n hn => ?_⟩
  ·rcases Int.le_total a i with h | h
   ·rw [Int.min_eq_left h]; simp
   ·rw [Int.min_eq_right h]; exact List.mem_cons_of_mem _ h1
  ·rcases List.mem_cons.mp hn with rfl | hn
   ·exact Int.min_le_left ..
   ·exact Int.le_trans (Int.min_le_right ..) (h2 n hn)
end
end L2.TL
namespace K24
open PySem L2 L2.TL PySem.Spec PyProof.Rows Gr
section
variable {P:Program} {w:World} {K:PySem.W.Frag} {mg:Str→Option Value} {base:Heap} {CN:Addr}
def Ob (CN:Addr):Ch:=fun ts O Φ Ξ => ∃ t a b,ts = [t,.int a,.int b]∧Ac t = false∧(CA t a b = true→Φ .non O)∧(CA t a b = false→Ξ (.ref CN) O)
theorem VN:FnScope ["thing","least","most"] ["thing","least","most"] (AA Hk):=⟨rfl,rfl,rfl,by decide +kernel,rfl,by decide +kernel,by decide +kernel⟩
theorem TR {f:Addr} {fd:FuncData} (F:Fun K "need_number" "need_number" Hk f fd) (mN:mg "NoNumber" = some (.ref CN)) (xN:PySem.W.excIn K CN Lp "ValueError.__new__" = true) (G:FnT P w K mg base "is_whole" 1 ["thing","least","most"] Hi):FnOk P w K mg base (CXe P w) 2 f fd ["thing","least","most"] (DH K (Ob CN)):=by
 refine LH F VN ?_ ?_
 ·rintro ts O Φ Ξ ⟨t,a,b,rfl,_⟩
  rfl
 ·rintro cdv A outer s H E O Ξ hr xo _ Φ ⟨t,a,b,rfl,ht,q1,q2⟩
  refine AG (Au (DW (FY (BP G hr xo.f (AD (ev 0) (AD (ev 1) (AD (ev 2) AC))) ⟨t,a,b,rfl,ht,rfl⟩))) (fun h => AG (Gd xo rfl mN xN (q2 ?_))) (fun h => Al (q1 ?_)))
  ·cases z:CA t a b with
   | true => rw [z] at h; cases h
   | false => rfl
  ·cases z:CA t a b with
   | true => rfl
   | false => rw [z] at h; cases h
def Bt (n:Int) (ps:List (Int × Int)):List Int:=(List.range n.toNat).map fun i => ((AX ps i).length:Int)
end
end K24
namespace L2.TL
open PySem PySem.Spec PyProof.Rows
section
variable {Z:Zx} {ρ:List (Option T)} {O:AJ} {a:Expr} {t:T} {us:List T} {K:PySem.W.Frag} {p1 pos:Pos}
theorem Qc {j:Nat} (hr:Ac t = false) (ha:ET Z ρ O a t):EB Z ρ O (.Compare a [.IsNot] [.Constant .none j p1] pos) (!DS t):=BE Pg (Ak _) (fun Φ p H v w Q ok r1 r2 q => by
 refine ⟨r2.non_inv,?_⟩
 have e:decide (v = V.non) = DS t:=by
  cases r1 <;> first | rfl | cases hr
 rw [e]
 exact q _ H _ O p (.refl ok) (.bl _)) ha BN
end
theorem Fs:∀ {ns ms:List Int},PyData.eqvAll (dTs (ns.map T.int)) (dTs (ms.map T.int)) = decide (ns = ms)
 | [],[] => rfl
 | [],_ :: _ => rfl
 | _ :: _,[] => rfl
 | n :: ns,m :: ms => by
  show ((n == m) && PyData.eqvAll (dTs (ns.map T.int)) (dTs (ms.map T.int))) = _
  rw [Fs,Bool.eq_iff_iff]
  simp
theorem Bg:∀ {ns:List Int},rdBs (ns.map T.int) = true
 | [] => rfl
 | n :: ns => by
  show (CF (.int n) && rdBs (ns.map T.int)) = true
  rw [Bg,CF]; rfl
theorem EI.cast {Z:Zx} {ρ:List (Option T)} {O:AJ} {tg iter:Expr} {ts us:List T} (h:EI Z ρ O tg iter ts) (e:ts = us):EI Z ρ O tg iter us:=e ▸ h
theorem Dc:∀ {ns:List Int},PyData.depthAll (dTs (ns.map T.int))≤1
 | [] => by simp [dTs,PyData.depthAll]
 | n :: ns => by
  have:=Dc (ns:=ns)
  simp only [List.map_cons,dTs,PyData.depthAll,dT,PyData.depth]
  omega
end L2.TL
namespace K24
open PySem L2 L2.TL PySem.Spec PyProof.Rows
theorem YQ:bootBuiltins "ValueError" = some (.type "ValueError"):=by decide +kernel
theorem Cy {H H':Hp} {p:Addr} {o:HO} (s:Same H H') (hp:H' p = none):Same H (Aw H' p o):=fun b u e => by
 rw [AI (AM (s b u e) hp)]; exact s b u e
structure Asks (K:PySem.W.Frag) (mg:Str→Option Value) (CN:Addr) (x:Str) (b:Bool):Prop where
 ex:∃ C,mg x = some (.ref C)∧PySem.W.kitOne K (.ref CN) (.ref C) = some b
structure Kinds (K:PySem.W.Frag) (mg:Str→Option Value) (CN:Addr) (b0 b1 b2 b3 b4 b5 b6 b7:Bool):Prop where
 a0:Asks K mg CN "NoPlace" b0
 a1:Asks K mg CN "NoNumber" b1
 a2:Asks K mg CN "NoLine" b2
 a3:Asks K mg CN "NoRing" b3
 a4:Asks K mg CN "NotEven" b4
 a5:Asks K mg CN "NoWeb" b5
 a6:Asks K mg CN "NoText" b6
 a7:Asks K mg CN "TooGreat" b7
 ve:PySem.W.kitOne K (.ref CN) (.type "ValueError") = some true
 eN:ExcCls K CN
section
variable {P:Program} {w:World} {K:PySem.W.Frag} {mg:Str→Option Value} {base:Heap} {CP:Addr}
theorem KM:FnScope ["_law_e","_law_marks"] ["_law_e"] (AA Ix):=⟨rfl,rfl,rfl,by decide +kernel,rfl,by decide +kernel,by decide +kernel⟩
theorem LQ {f:Addr} {fd:FuncData} {b0 b1 b2 b3 b4 b5 b6 b7:Bool} {y:Str} {j:Nat} (F:Fun K "_law_kind_of" "_law_kind_of" Ix f fd) (T:Txt mg) (U:Kinds K mg CP b0 b1 b2 b3 b4 b5 b6 b7) (hc:(([.bl b0,.bl b1,.bl b2,.bl b3] ++ [.bl b4,.bl b5,.bl b6,.bl b7]:List V).countP fun z => JT z (.bl true)) = 1) (hj:([.bl b0,.bl b1,.bl b2,.bl b3] ++ [.bl b4,.bl b5,.bl b6,.bl b7]:List V)[j]? = some (.bl true)) (hno:∀ m z,m < j→([.bl b0,.bl b1,.bl b2,.bl b3] ++ [.bl b4,.bl b5,.bl b6,.bl b7]:List V)[m]? = some z→JT z (.bl true) = false) (hw:([.str "place",.str "number",.str "line",.str "ring",.str "even",.str "web",.str "text",.str "great"]:List V)[j]? = some (.str y)):FnH P w K mg base 1 f fd ["_law_e"] (Em CP y):=by
 obtain ⟨c0,m0,k0⟩:=U.a0.ex
 obtain ⟨c1,m1,k1⟩:=U.a1.ex
 obtain ⟨c2,m2,k2⟩:=U.a2.ex
 obtain ⟨c3,m3,k3⟩:=U.a3.ex
 obtain ⟨c4,m4,k4⟩:=U.a4.ex
 obtain ⟨c5,m5,k5⟩:=U.a5.ex
 obtain ⟨c6,m6,k6⟩:=U.a6.ex
 obtain ⟨c7,m7,k7⟩:=U.a7.ex
 refine F.okH KM (fun vs H Q E h => ?_) (fun cdv A outer s H vs Q hr h => ?_)
 ·obtain ⟨x,rfl,_⟩:=h
  rfl
 ·obtain ⟨x,rfl,hx,k⟩:=h
  refine ⟨_,BX (Gu (i:=1) KM.nd rfl (Or.inl rfl) (Ey
    (AH (An BG (by rfl) T.nIsi GB (AH (pv 0) (AH (Bc (v:=.ref c0) (by rfl) m0 rfl) Ae)))
    (AH (An BG (by rfl) T.nIsi GB (AH (pv 0) (AH (Bc (v:=.ref c1) (by rfl) m1 rfl) Ae)))
    (AH (An BG (by rfl) T.nIsi GB (AH (pv 0) (AH (Bc (v:=.ref c2) (by rfl) m2 rfl) Ae)))
    (AH (An BG (by rfl) T.nIsi GB (AH (pv 0) (AH (Bc (v:=.ref c3) (by rfl) m3 rfl) Ae))) Ae))))))
   (BX (Gu (i:=1) KM.nd rfl (Or.inl rfl) (RB Jf (pv 1) (Ey
    (AH (An BG (by rfl) T.nIsi GB (AH (pv 0) (AH (Bc (v:=.ref c4) (by rfl) m4 rfl) Ae)))
    (AH (An BG (by rfl) T.nIsi GB (AH (pv 0) (AH (Bc (v:=.ref c5) (by rfl) m5 rfl) Ae)))
    (AH (An BG (by rfl) T.nIsi GB (AH (pv 0) (AH (Bc (v:=.ref c6) (by rfl) m6 rfl) Ae)))
    (AH (An BG (by rfl) T.nIsi GB (AH (pv 0) (AH (Bc (v:=.ref c7) (by rfl) m7 rfl) Ae))) Ae)))))))
   (BX (IG (Qz (MY (IH (An BG (by rfl) T.nIsi GB (AH (pv 0) (AH (KY (v:=.ty "ValueError") (by rfl) T.nVE YQ rfl) Ae))) (fun _ => rfl)))
     (MX (Dh Mf (Mt PySem.F.plainAttrs_list PySem.F.slot_list_count PySem.F.type_list_count NA (pv 1) (AH MW Ae)) JV (Ak _)))).pt
     (Bd (CI Ba)) Dg)
   (Bd (CI (Mr Bo (Ey (AH Ba (AH Ba (AH Ba (AH Ba (AH Ba (AH Ba (AH Ba (AH Ba Ae)))))))))
    (Mt PySem.F.plainAttrs_list PySem.F.slot_list_index PySem.F.type_list_index NB (pv 1) (AH MW Ae)) (fun _ _ => rfl)))))),?_⟩
  refine ⟨_,rfl,_,.ref c0,_,_,b0,rfl,rfl,.inr ⟨x,CP,rfl,rfl,hx,U.eN⟩,k0,?_⟩
  refine ⟨_,rfl,_,.ref c1,_,_,b1,rfl,rfl,.inr ⟨x,CP,rfl,rfl,hx,U.eN⟩,k1,?_⟩
  refine ⟨_,rfl,_,.ref c2,_,_,b2,rfl,rfl,.inr ⟨x,CP,rfl,rfl,hx,U.eN⟩,k2,?_⟩
  refine ⟨_,rfl,_,.ref c3,_,_,b3,rfl,rfl,.inr ⟨x,CP,rfl,rfl,hx,U.eN⟩,k3,(by show 4≤sizeLine; decide),fun p hp => ?_⟩
  have hx1:(Aw H p (.lst [.bl b0,.bl b1,.bl b2,.bl b3])) x = some (HA CP x):=by rw [AI (AM hx hp)]; exact hx
  refine ⟨_,rfl,?_⟩
  refine ⟨_,rfl,_,.ref c4,_,_,b4,rfl,rfl,.inr ⟨x,CP,rfl,rfl,hx1,U.eN⟩,k4,?_⟩
  refine ⟨_,rfl,_,.ref c5,_,_,b5,rfl,rfl,.inr ⟨x,CP,rfl,rfl,hx1,U.eN⟩,k5,?_⟩
  refine ⟨_,rfl,_,.ref c6,_,_,b6,rfl,rfl,.inr ⟨x,CP,rfl,rfl,hx1,U.eN⟩,k6,?_⟩
  refine ⟨_,rfl,_,.ref c7,_,_,b7,rfl,rfl,.inr ⟨x,CP,rfl,rfl,hx1,U.eN⟩,k7,(by show 4≤sizeLine; decide),fun p2 hp2 => ?_⟩
  have np:p≠p2:=fun z => by rw [z,AK] at hp2; cases hp2
  refine ⟨p,p2,_,_,rfl,rfl,(by rw [AI np]; exact AK),AK,(by show 8≤sizeLine; decide),fun p3 hp3 => ?_⟩
  have s1:Same H (Aw H p (.lst [.bl b0,.bl b1,.bl b2,.bl b3])):=Cy (Same.refl H) hp
  have s2:=Cy (o:=.lst [.bl b4,.bl b5,.bl b6,.bl b7]) s1 hp2
  have s3:=Cy (o:=.lst ([.bl b0,.bl b1,.bl b2,.bl b3] ++ [.bl b4,.bl b5,.bl b6,.bl b7])) s2 hp3
  refine ⟨_,rfl,_,.ty "ValueError",_,_,true,rfl,rfl,.inr ⟨x,CP,rfl,rfl,s3 _ _ hx,U.eN⟩,U.ve,true,rfl,?_⟩
  refine DO ?_
  refine ⟨_,rfl,.inl ⟨rfl,_,SqL.of AK⟩,p3,_,_,rfl,rfl,SqL.of AK,rfl,rfl,rfl,_,rfl,?_⟩
  have ec:(!decide (V.int ((([.bl b0,.bl b1,.bl b2,.bl b3] ++ [.bl b4,.bl b5,.bl b6,.bl b7]:List V).countP fun z => JT z (.bl true):Nat):Int) = V.int 1)) = false:=by rw [hc]; rfl
  rw [ec]
  refine DO ?_
  refine ⟨(by show 8≤sizeLine; decide),fun p4 hp4 => ?_⟩
  have n4:p3≠p4:=fun z => by rw [z,AK] at hp4; cases hp4
  refine ⟨_,rfl,.inl ⟨rfl,_,SqL.of (by rw [AI n4]; exact AK)⟩,p3,_,_,j,rfl,rfl,SqL.of (by rw [AI n4]; exact AK),rfl,rfl,⟨.bl true,hj,rfl⟩,hno,?_⟩
  exact ⟨p4,_,(j:Int),_,rfl,rfl,SqL.of AK,BV hw,k _ (Cy s3 hp4)⟩
theorem RZ {xs:List V} {j:Nat} (h:((List.range j).all fun m => match xs[m]? with | some z => !JT z (.bl true) | none => true) = true):∀ m z,m < j→xs[m]? = some z→JT z (.bl true) = false:=fun m z hm e => by
 have:=List.all_eq_true.mp h m (List.mem_range.mpr hm)
 rw [e] at this
 simpa using this
theorem GE {f:Addr} {fd:FuncData} (F:Fun K "_law_kind_of" "_law_kind_of" Ix f fd) (T:Txt mg) (U:Kinds K mg CP true false false false false false false false):FnH P w K mg base 1 f fd ["_law_e"] (Em CP "place"):=LQ (j:=0) F T U rfl rfl (RZ (by decide)) rfl
theorem Ft {f:Addr} {fd:FuncData} (F:Fun K "_law_kind_of" "_law_kind_of" Ix f fd) (T:Txt mg) (U:Kinds K mg CP false true false false false false false false):FnH P w K mg base 1 f fd ["_law_e"] (Em CP "number"):=LQ (j:=1) F T U rfl rfl (RZ (by decide)) rfl
theorem Ra:FnScope ["_law_e","_law_kind"] ["_law_e"] (AA TH):=⟨rfl,rfl,rfl,by decide +kernel,rfl,by decide +kernel,by decide +kernel⟩
theorem Oc {f fK:Addr} {fd fdK:FuncData} {y:Str} (h1:y≠"great") (h2:y≠"web") (F:Fun K "_law_refused" "_law_refused" TH f fd) (FK:FnH P w K mg base 1 fK fdK ["_law_e"] (Em CP y)) (mK:mg "_law_kind_of" = some (.ref fK)) (kK:PySem.W.keepIn K (.ref fK) = true) (bK:Binds K fdK ["_law_e"] []):FnH P w K mg base 2 f fd ["_law_e"] (VF CP (.tup [.str y])):=by
 refine F.okH Ra (fun vs H Q E h => ?_) (fun cdv A outer s H vs Q hr h => ?_)
 ·obtain ⟨x,rfl,_⟩:=h
  rfl
 ·obtain ⟨x,rfl,hx,k⟩:=h
  refine ⟨_,BX (Gu (i:=1) Ra.nd rfl (Or.inl rfl) (IR FK hr (by rfl) mK kK bK (AH (pv 0) Ae)))
   (BX (IG (Dh Kc (pv 1) Ba (Ak _)) (Bd (CI (Gv (AH (pv 1) (AH (Jc (pv 0) rfl) (AH (Jc (pv 0) rfl) Ae)))))) Dg)
   (BX (IG (Dh Kc (pv 1) Ba (Ak _)) (Bd (CI (Gv (AH (pv 1) (AH (Jc (pv 0) rfl) Ae))))) Dg)
   (Bd (CI (Gv (AH (pv 1) Ae)))))),?_⟩
  refine ⟨_,rfl,x,rfl,hx,fun H' s' => ?_⟩
  have e1:decide (V.str y = V.str "great") = false:=decide_eq_false fun z => h1 (by injection z)
  have e2:decide (V.str y = V.str "web") = false:=decide_eq_false fun z => h2 (by injection z)
  refine ⟨_,rfl,rfl,_,rfl,?_⟩
  rw [e1]
  refine DO ?_
  refine ⟨_,rfl,rfl,_,rfl,?_⟩
  rw [e2]
  refine DO ?_
  refine ⟨_,rfl,(by show 1≤sizeLine; decide),fun p hp => ?_⟩
  refine k _ _ (Cy s' hp) fun K O => .tup AK (.one (.str y))
end
section
variable {P:Program} {w:World} {K:PySem.W.Frag} {mg:Str→Option Value} {base:Heap} {CP CL:Addr}
structure WebA (n:Int) (ps:List (Int × Int)):Prop where
 n0:1≤n
 n1:n≤16
 hp:∀ p∈ps,EX n p
 hl:ps.length≤200
end
end K24
namespace L2.TL
open PySem PySem.Spec PyProof.Rows
section
variable {Z:Zx} {ρ:List (Option T)} {O:AJ} {e elt tg iter:Expr} {ifs:List Expr} {csc:Scope} {nc:List Str} {cap:List (Str × Nat)} {Φ:Bb} {pos:Pos}
theorem JD {α:Type} {F:List T→AJ→Prop} {c:Expr} (xs:List α) (f g:α→T) (q:α→Bool) (hl:xs.length≤sizeLine) (h:∀ x,x∈xs→∃ ρ4,∀ X' Oe He,LcCx Z.X csc (Af nc cap) X'→∀ O',(∀ b us,O b = some us→O' b = some us)→(WG (zc X' Oe He) nc.length (Ee nc ρ cap) O' tg (f x) ρ4∧EB (zc X' Oe He) ρ4 O' c (q x)∧(q x = true→ET (zc X' Oe He) ρ4 O' elt (g x)))) (fin:F ((xs.filter q).map g) O):PX Z ρ elt tg [c] csc nc cap F (xs.map f) O:=by
 refine ⟨fun i acc O' => O' = O∧acc = ((xs.take i).filter q).map g,⟨rfl,by simp⟩,?_,?_⟩
 ·rintro i t acc O' p e ⟨rfl,rfl⟩ np
  rw [List.getElem?_map] at e
  cases ex:xs[i]? with
  | none => rw [ex] at e; cases e
  | some x =>
   rw [ex] at e
   cases e
   have hk:∀ b us,O' b = some us→(AZ O' p (((xs.take i).filter q).map g)) b = some us:=fun b us e => by
    have:b≠p:=fun z => by rw [z,np] at e; cases e
    rw [AV this]; exact e
   obtain ⟨ρ4,w⟩:=h x (List.mem_of_getElem? ex)
   have hi:=(List.getElem?_eq_some_iff.mp ex).1
   refine ⟨ρ4,fun X' Oe He is => ⟨(w X' Oe He is _ hk).1,Kz ((w X' Oe He is _ hk).2.1 _ ?_)⟩⟩
   cases hq:q x with
   | true =>
    refine Eb fun X' Oe He is => (w X' Oe He is _ hk).2.2 hq _ ⟨_,rfl,np,?_,rfl,?_⟩
    ·have:=List.length_filter_le q (xs.take i)
     simp at this ⊢; omega
    ·rw [List.take_add_one,ex]; simp [hq]
   | false =>
    refine DO ⟨_,rfl,np,rfl,?_⟩
    rw [List.take_add_one,ex]; simp [hq]
 ·rintro acc O' ⟨rfl,rfl⟩
  rw [List.length_map,List.take_length]
  exact fin
theorem Qd {α:Type} (nc:List Str) (cap:List (Str × Nat)) {c:Expr} (xs:List α) (f g:α→T) (q:α→Bool) (hc:Z.X.calm = true) (ok:LcOk Z.X csc nc cap) (hi:EI Z ρ O tg iter (xs.map f)) (hl:xs.length≤sizeLine) (h:∀ x,x∈xs→∃ ρ4,∀ X' Oe He,LcCx Z.X csc (Af nc cap) X'→∀ O',(∀ b us,O b = some us→O' b = some us)→(WG (zc X' Oe He) nc.length (Ee nc ρ cap) O' tg (f x) ρ4∧EB (zc X' Oe He) ρ4 O' c (q x)∧(q x = true→ET (zc X' Oe He) ρ4 O' elt (g x))))
  (hs:∀ x,foldedSetIterable iter Z.X.env x = pure x:=by intro _; rfl):ET Z ρ O (.ListComp elt [⟨tg,iter,[c],0⟩] csc pos) (.lst ((xs.filter q).map g)):=fun Φ p => LA hc ok (hi _ (JD xs f g q hl h p)) hs
theorem Od {ts:List T} {p:Pos} (m:Z.X.mg "list" = none) (h:ET Z ρ O e (.lst ts)) (hg:Gl Z.X "list":=by rfl) (he:starEach [e] Z.X.env = (false,eval e Z.X.env) :: starEach [] Z.X.env:=by rfl):ET Z ρ O (.Call (.Name "list" p) [e] [] pos) (.lst ts) :=
 EK FU m RU (AS h AC he) (fun Φ q H vs Q ok r k => by
  obtain ⟨v,rfl,r1⟩:=r.one_inv
  obtain ⟨a,xs,rfl,h1,_,r1⟩:=r1.lst_inv
  exact ⟨a,xs,rfl,.inl (.inl (.inl h1)),fun p hp => k _ _ _ O q (.new ok hp) (.lst AK (ok.none_of hp) (r1.kp (Bm ok hp) ok))⟩) hg (by decide) (by decide) he
end
theorem CG {i:Int}:∀ {ns:List Int},((dTs (ns.map T.int)).any fun y => PyData.eqv y (dT (.int i))) = decide (i∈ns)
 | [] => rfl
 | n :: ns => by
  show ((n == i) || (dTs (ns.map T.int)).any fun y => PyData.eqv y (dT (.int i))) = _
  rw [CG,Bool.eq_iff_iff]
  simp only [Bool.or_eq_true,decide_eq_true_eq,List.mem_cons,beq_iff_eq]
  constructor
  ·rintro (h | h)
   ·exact .inl h.symm
   ·exact .inr h
  ·rintro (h | h)
   ·exact .inl h.symm
   ·exact .inr h
end L2.TL
namespace K24
open PySem L2 L2.TL PySem.Spec PyProof.Rows Gr
theorem Of {fs:List (Option Nat)}:Fk (fs.map Ad) = (List.range fs.length).map fun j => .tup [.int (j:Int),Ad (fs.getD j none)]:=by
 unfold Fk
 apply List.ext_getElem?
 intro m
 rw [List.getElem?_map,List.getElem?_map,List.getElem?_zipIdx,List.getElem?_map]
 by_cases hm:m < fs.length
 ·rw [List.getElem?_eq_getElem hm,List.getElem?_range hm]
  simp [List.getD,hm]
 ·rw [List.getElem?_eq_none (by omega),List.getElem?_eq_none (by simp; omega)]
  rfl
def KN (fs:List (Option Nat)):List Int:=(fs.filter Option.isSome).map fun x => ((x.getD 0:Nat):Int)
theorem Fu:∀ {fs:List (Option Nat)},(fs.filter Option.isSome).map Ad = (KN fs).map T.int
 | [] => rfl
 | none :: fs => Fu (fs:=fs)
 | some d :: fs => by
  show T.int (d:Int) :: (fs.filter Option.isSome).map Ad = T.int (d:Int) :: (KN fs).map T.int
  rw [Fu]
theorem WebA.wn {n:Int} {ps:List (Int × Int)} (a:WebA n ps):WebN n ps:=⟨by have:=a.n0; omega,by have:=a.n1; omega,a.hp,a.hl⟩
section
variable {P:Program} {w:World} {K:PySem.W.Frag} {mg:Str→Option Value} {base:Heap} {CP CL:Addr}
end
end K24
namespace StT
open PySem PySem.SetTable PyProof.Rows
section
variable {prog:Program} {w:World} {A:Around} {E:Value→Shared→Prop} {s:Shared}
abbrev ih (prog:Program) (w:World) (k:Int):Int:=(intKind prog w).hash k
def Dd (xs:List (Int × Tok)) (prog:Program) (w:World):List (Int × Value):=xs.map fun p => (ih prog w p.1,Value.int p.1 p.2)
structure SetN (prog:Program) (w:World) (h:Heap) (a:Addr) (xs:List (Int × Tok)) (o:Obj) (es:Array (Int × Value)) (ep:Nat) (t:SetTable):Prop where
 get:h.get? a = some o
 ex:o.ExactSet
 dat:o.data = .set es ep t
 es:es.toList = Dd xs prog w
 nd:(xs.map (·.1)).Nodup
 tb:Tb t (xs.map fun p => ih prog w p.1)
 pl:t.plain = true
 room:xs.length * 5 < t.mask * 3
 led:t.led = !w.params.followText "set-order"
def SetY (prog:Program) (w:World) (h:Heap) (a:Addr) (xs:List (Int × Tok)):Prop:=∃ o es ep t,SetN prog w h a xs o es ep t
variable {a:Addr} {xs:List (Int × Tok)} {o:Obj} {es:Array (Int × Value)} {ep:Nat} {t:SetTable}
theorem JE:(Dd xs prog w).length = xs.length:=by simp [Dd]
theorem Og (h:es.toList = Dd xs prog w):ElemsOf (intKind prog w) es.toList:=by
 intro e he
 rw [h] at he
 obtain ⟨p,_,rfl⟩:=List.mem_map.mp he
 exact ⟨⟨p.1,intKind_is _ _ _ _,rfl⟩,rfl⟩
theorem Hq {n:Nat} (htb:Tb t (xs.map fun p => ih prog w p.1)) (hn:n = xs.length) (hr:xs.length * 5 < t.mask * 3∨xs.length≤t.mask):t.fits n = true:=by
 have h1:=htb.size
 have h3:t.fill = t.place.size:=by unfold SetTable.fill; rw [htb.dum]; rfl
 rw [List.length_map] at h1
 unfold SetTable.fits
 rw [h3,hn,h1]
 simp only [beq_self_eq_true,Bool.true_and,decide_eq_true_eq]
 omega
theorem SetN.size (S:SetN prog w s.heap a xs o es ep t):es.size = xs.length:=by
 rw [← Array.length_toList,S.es]; simp [Dd]
theorem SetN.fits (S:SetN prog w s.heap a xs o es ep t):t.fits es.size = true:=Hq S.tb S.size (.inl S.room)
theorem SetN.wk (S:SetN prog w s.heap a xs o es ep t):Wk w o es ep t:=⟨S.ex.1,S.dat,S.fits,S.tb.ris,S.pl,S.led⟩
theorem TU {n:Nat} (hes:es.toList = Dd xs prog w) (hnd:(xs.map (·.1)).Nodup) (htb:Tb t (xs.map fun p => ih prog w p.1)) (hpl:t.plain = true) (hled:t.led = !w.params.followText "set-order") (hn:xs.length = n + 1) (h1:n * 5 < t.mask * 3) (h2:t.mask * 3≤(n + 1) * 5) (h3:n < 300) :
  ∃ es' t' xs',relayAll t es (grown es.size) = (es',t',false)∧es'.toList = Dd xs' prog w∧(xs'.map (·.1)).Nodup∧Tb t' (xs'.map fun p => ih prog w p.1)∧t'.plain = true∧xs'.length * 5 < t'.mask * 3∧t'.led = (!w.params.followText "set-order")∧xs'.Perm xs∧es'.size = es.size:=by
 obtain ⟨m1,m2,m3,m4⟩:=GV htb.mask h1 h2 h3
 have hsz:es.size = n + 1:=by rw [← Array.length_toList,hes,JE,hn]
 obtain ⟨t',order,el,q1,q2,q3,q4,q5,q6,q7,q8,q9⟩:=Kn m1 (es.map (·.1)) (by rw [Array.size_map,hsz]; omega) t.finger (t.movedTo (sizeAbove (grown (n + 1)) - 1)) t.led t.plain
 rw [Array.size_map] at q5 q6 q8
 have el':t.relaid (es.map (·.1)) (grown (n + 1)) = some (t',order):=el
 have hmem:∀ r∈order.toList,r < es.size:=fun r hr => by
  obtain ⟨i,hi⟩:=List.getElem?_of_mem hr
  exact q6 i r (by simpa using hi)
 have hpo:order.toList.Perm (List.range es.size):=by
  have nd:order.toList.Nodup:=by
   rw [List.nodup_iff_pairwise_ne]
   refine List.pairwise_iff_getElem.mpr fun i j hi hj hij e => ?_
   have:=q7 i j order.toList[i] (by simp [show i < order.size by simpa using hi]) (by rw [e]; simp [show j < order.size by simpa using hj])
   omega
  refine List.perm_iff_count.mpr fun r => ?_
  rw [nd.count,List.nodup_range.count]
  by_cases hr:r < es.size
  ·obtain ⟨i,hi⟩:=q8 r hr
   rw [if_pos (List.mem_of_getElem? (i:=i) (by simpa using hi)),if_pos (List.mem_range.mpr hr)]
  ·rw [if_neg fun z => hr (hmem r z),if_neg fun z => hr (List.mem_range.mp z)]
 have hfm:(order.filterMap (es[·]?)).toList = order.toList.filterMap fun r => es[r]?:=by simp
 have hes':(order.filterMap (es[·]?)).size = es.size:=by
  rw [← Array.length_toList,hfm,BW es _ hmem,Array.length_toList,q5]
 have hesx:∀ i:Nat,es[i]? = (xs[i]?).map fun p => (ih prog w p.1,Value.int p.1 p.2):=fun i => by
  have:es[i]? = es.toList[i]?:=by simp
  rw [this,hes,Dd,List.getElem?_map]
 have hmx:∀ r∈order.toList,r < xs.toArray.size:=fun r hr => by rw [List.size_toArray,hn]; have:=hmem r hr; omega
 have at_:∀ i:Nat,(order.toList.filterMap fun r => xs[r]?)[i]? = (order.toList[i]?).bind fun r => xs[r]?:=fun i => by
  have:=Az xs.toArray order.toList hmx i
  simpa only [List.getElem?_toArray] using this
 have hpx:(order.toList.filterMap fun r => xs[r]?).Perm xs:=by
  refine (hpo.filterMap _).trans ?_
  have:(List.range es.size).filterMap (fun r => xs[r]?) = xs:=by
   rw [hsz,← hn]
   apply List.ext_getElem?
   intro i
   have:=Az xs.toArray (List.range xs.length) (fun r hr => by rw [List.size_toArray]; exact List.mem_range.mp hr) i
   simp only [List.getElem?_toArray] at this
   rw [this]
   by_cases hi:i < xs.length
   ·rw [List.getElem?_range hi]; rfl
   ·rw [List.getElem?_eq_none (by simp; omega),List.getElem?_eq_none (by omega)]; rfl
  rw [this]
 have hlen:=hpx.length_eq
 have ee:(order.filterMap (es[·]?)).toList = Dd (order.toList.filterMap fun r => xs[r]?) prog w:=by
  apply List.ext_getElem?
  intro i
  rw [hfm,Az es _ hmem,Dd,List.getElem?_map,at_]
  cases order.toList[i]? with
  | none => rfl
  | some r => exact hesx r
 have tb':Tb t' ((order.toList.filterMap fun r => xs[r]?).map fun p => ih prog w p.1):=by
  have:(order.toList.filterMap fun r => xs[r]?).map (fun p => ih prog w p.1) = order.toList.map fun r => (es.map (·.1)).getD r 0:=by
   apply List.ext_getElem?
   intro i
   rw [List.getElem?_map,at_,List.getElem?_map]
   cases hr:order.toList[i]? with
   | none => rfl
   | some r =>
    have hrl:=hmem r (List.mem_of_getElem? hr)
    have hp:xs[r]? = some (xs[r]'(by rw [hn]; omega)):=by simp [show r < xs.length by rw [hn]; omega]
    show (xs[r]?).map _ = some ((es.map (·.1)).getD r 0)
    have e3:=hesx r
    rw [hp] at e3 ⊢
    obtain ⟨l,g⟩:=Array.getElem?_eq_some_iff.mp e3
    simp [Array.getD,hrl,g]
  rw [this]
  exact q9
 have room':(order.toList.filterMap fun r => xs[r]?).length * 5 < t'.mask * 3:=by rw [hlen,hn,q1]; exact m3
 have hf':t'.fits (order.filterMap (es[·]?)).size = true:=Hq (xs:=order.toList.filterMap fun r => xs[r]?) tb' (by rw [hes',hlen,hsz,hn]) (.inl room')
 refine ⟨order.filterMap (es[·]?),t',order.toList.filterMap fun r => xs[r]?,?_,ee,(hpx.map _).nodup_iff.mpr hnd,tb',by rw [q3]; exact hpl,room',by rw [q2]; exact hled,hpx,hes'⟩
 unfold relayAll
 rw [hsz,el']
 dsimp only
 rw [if_pos]
 rw [Bool.and_eq_true]
 refine ⟨?_,hf'⟩
 unfold coversAll
 rw [← hsz]
 exact List.isPerm_iff.mpr hpo
theorem XM (S:SetN prog w s.heap a xs o es ep t) (hl:xs.length < 300) {k:Int} {tk:Tok} (hno:∀ y,(k,y) ∉ xs) :
  ∃ es1 t1 xs1,layNew t es (ih prog w k) (.int k tk) = (es1,t1,false,false)∧es1.toList = Dd xs1 prog w∧(xs1.map (·.1)).Nodup∧Tb t1 (xs1.map fun p => ih prog w p.1)∧t1.plain = true∧t1.led = (!w.params.followText "set-order")∧t1.mask = t.mask∧xs1.Perm (xs ++ [(k,tk)])∧es1.size = es.size + 1:=by
 have hlm:(xs.map fun p => ih prog w p.1).length≤t.mask:=by rw [List.length_map]; have:=S.room; omega
 obtain ⟨n,hn,hstop⟩:=EQ S.tb hlm (p:=start t.mask (ih prog w k)) (Pr.start _ _) (fun _ => ih prog w k + 1) (ih prog w k)
 rcases hstop with ⟨hf,hp⟩ | ⟨_,_,h2,_⟩
 ·have hfree:t.freeSlot (ih prog w k) = some ((advN t.mask n (start t.mask (ih prog w k))).j,false):=by
   unfold SetTable.freeSlot
   have:t.probeStart (ih prog w k) = start t.mask (ih prog w k):=IS t _
   rw [this,hp]
   rfl
  obtain ⟨p1,p2,p3,p4,p5,p6⟩:=S.tb.put hf fun c hc => by obtain ⟨i,h1,_⟩:=hn c hc; exact ⟨i,h1⟩
  generalize hJ:(advN t.mask n (start t.mask (ih prog w k))).j = J at *
  generalize hput:t.put J = tp at *
  obtain ⟨t1,q⟩:=tp
  dsimp only at p1 p2 p3 p4 p5 p6
  rw [List.length_map] at p2
  have hes1:(insertAt es q (ih prog w k,.int k tk)).toList = Dd (xs.take q ++ (k,tk) :: xs.drop q) prog w:=by
   rw [Av,S.es]
   simp [Dd]
  have hpm:(xs.take q ++ (k,tk) :: xs.drop q).Perm (xs ++ [(k,tk)]):=by
   refine List.perm_middle.trans ?_
   rw [List.take_append_drop]
   exact (List.perm_append_singleton _ _).symm
  have hsz1:(insertAt es q (ih prog w k,.int k tk)).size = es.size + 1:=Bv _ _ _ (by rw [S.size]; exact p2)
  have htb1:Tb t1 ((xs.take q ++ (k,tk) :: xs.drop q).map fun p => ih prog w p.1):=by simpa using p1
  have hlen:(xs.take q ++ (k,tk) :: xs.drop q).length = xs.length + 1:=by rw [hpm.length_eq]; simp
  have hfit:t1.fits (insertAt es q (ih prog w k,.int k tk)).size = true:=Hq htb1 (by rw [hsz1,S.size,hlen]) (.inr (by rw [hlen,p3]; have:=S.room; have:=S.tb.low; omega))
  refine ⟨insertAt es q (ih prog w k,.int k tk),t1,xs.take q ++ (k,tk) :: xs.drop q,?_,hes1,?_,htb1,by rw [p4]; exact S.pl,by rw [p5]; exact S.led,p3,hpm,hsz1⟩
  ·unfold layNew
   rw [hfree]
   dsimp only
   rw [hput]
   dsimp only
   unfold SetTable.orStandIn
   rw [hfit]
   rfl
  ·rw [(hpm.map (·.1)).nodup_iff,List.map_append]
   refine List.nodup_append.mpr ⟨S.nd,by simp,fun b hb c hc => ?_⟩
   have:c = k:=by simpa using hc
   subst this
   rintro rfl
   obtain ⟨⟨k',y⟩,hm,hk⟩:=List.mem_map.mp hb
   exact hno y (by rw [← show k' = b from hk]; exact hm)
 ·exact absurd h2 (by omega)
end
section
variable {prog:Program} {w:World} {A:Around} {E:Value→Shared→Prop} {s:Shared}
variable {a:Addr} {xs:List (Int × Tok)} {o:Obj} {es:Array (Int × Value)} {ep:Nat} {t:SetTable}
theorem TV {k:Int} {v:Value} (h:(intKind prog w).is k v = true):∃ tk,v = .int k tk:=DD h
theorem add_int (S:SetY prog w s.heap a xs) {k:Int} {tk:Tok} (hl:xs.length < 300) {Q:Bool→Shared→Prop}
  (hT:∀ y,(k,y)∈xs→Q false s)
  (hF:(∀ y,(k,y) ∉ xs)→∀ h' xs',Heap.SameBut a s.heap h'→SetY prog w h' a xs'→xs'.Perm (xs ++ [(k,tk)])→Q true { s with heap:=h' }) :
  wpAny (model prog w) A (setAddHashed a (.int k tk) (ih prog w k)) Q E s:=by
 obtain ⟨o,es,ep,t,S⟩:=S
 have hel:=Og S.es
 have hsb:es.size < scanBound:=by rw [S.size,show scanBound = 4096 from rfl]; omega
 unfold setAddHashed setAddHashedIn
 refine wpAny_holding (wpAny_bind (wpAny_setState_of S.get S.dat S.fits ?_))
 dsimp only
 rw [byScan_of (knd:=intKind prog w) rfl hsb hel]
 simp only [↓reduceIte]
 unfold setAddByScan
 refine wpAny_bind ?_
 refine wpAny_bind (wpAny_rule ?_)
 refine wpAny_bind (wpAny_setScan_of (intKind_is _ _ _ _) S.get S.dat S.fits hel ?_)
 cases hr:List.findIdx? (fun e => (intKind prog w).is k e.2) es.toList with
 | some j =>
  dsimp only
  obtain ⟨hj,hpj,_⟩:=List.findIdx?_eq_some_iff_getElem.mp hr
  refine wpAny_pure (wpAny_pure ?_)
  have hm:=List.getElem_mem hj
  rw [show es.toList[j] = es.toList[j] from rfl] at hm
  have hm2:es.toList[j]∈Dd xs prog w:=by rw [← S.es]; exact hm
  obtain ⟨p,hp,he⟩:=List.mem_map.mp hm2
  rw [← he] at hpj
  obtain ⟨tk',e2⟩:=TV hpj
  injection e2 with e3 e4
  exact hT p.2 (by rw [← e3]; exact hp)
 | none =>
  dsimp only
  have hno:∀ y,(k,y) ∉ xs:=fun y hy => by
   have:=List.findIdx?_eq_none_iff.mp hr (ih prog w k,.int k y) (by rw [S.es]; exact List.mem_map.mpr ⟨_,hy,rfl⟩)
   rw [intKind_is] at this
   exact Bool.noConfusion this
  obtain ⟨es1,t1,xs1,hL,h1,h2,h3,h4,h5,h6,h7,h8⟩:=XM S hl (tk:=tk) hno
  have hL':layNew t es ((intKind prog w).hash k) (.int k tk) = (es1,t1,false,false):=hL
  rw [hL']
  dsimp only
  refine wpAny_bind (wpAny_pure ?_)
  rw [h4]
  simp only [↓reduceIte]
  refine wpAny_bind ?_
  rw [hashByValue_scannable 8 rfl]
  refine wpAny_pure ?_
  simp only [plainKind,↓reduceIte]
  have hs1:es1.size = xs.length + 1:=by rw [h8,S.size]
  have hl1:xs1.length = xs.length + 1:=by rw [h7.length_eq]; simp
  refine wpAny_bind (wpAny_storeSet_of S.get S.dat ?_ (by rw [hs1,sizeLine_eq]; omega))
  have hg1:=DE (s:=s) S.get S.dat es1 t1
  have hsb1:=Heap.SameBut.update s.heap a (Obj.putSet es1 t1)
  have hfill:t1.fill = xs.length + 1:=by
   unfold SetTable.fill
   rw [h3.dum]
   have:=h3.size
   rw [List.length_map,hl1] at this
   rw [this]; rfl
  have hroom:=S.room
  simp only [Bool.not_false,Bool.true_and]
  cases htf:t1.tooFull with
  | true =>
   simp only [if_true]
   have htf':t1.mask * 3≤(xs.length + 1) * 5:=by
    unfold SetTable.tooFull at htf
    rw [hfill] at htf
    simpa using htf
   obtain ⟨es2,t2,xs2,g0,g1,g2,g3,g4,g5,g6,g7,g8⟩:=TU h1 h2 h3 h4 h5 hl1 (by rw [h6]; exact hroom) htf' hl
   rw [g0]
   dsimp only
   refine wpAny_bind (wpAny_pure ?_)
   refine wpAny_bind (wpAny_storeSet_of hg1 rfl ?_ (by rw [g8,hs1,sizeLine_eq]; omega))
   have hg2:=DE (s:={ s with heap:=s.heap.update a (Obj.putSet es1 t1) }) hg1 rfl es2 t2
   exact wpAny_pure (wpAny_pure (hF hno _ xs2 (hsb1.trans (Heap.SameBut.update _ a _)) ⟨_,es2,_,t2,hg2,S.ex,rfl,g1,g2,g3,g4,g5,g6⟩ (g7.trans h7)))
  | false =>
   simp only [Bool.false_eq_true,if_false]
   refine wpAny_pure (wpAny_pure (hF hno _ xs1 hsb1 ⟨_,es1,_,t1,hg1,S.ex,rfl,h1,h2,h3,h4,?_,h5⟩ h7))
   unfold SetTable.tooFull at htf
   rw [hfill] at htf
   rw [hl1]
   simpa using htf
def Hr (ks:List Int) (xs:List (Int × Tok)):Prop:=(∀ k,k∈xs.map (·.1)↔k∈ks)∧(xs.map (·.1)).Nodup∧xs.length≤ks.length
theorem SetY.keep {h h':Heap} (S:SetY prog w h a xs) (hk:∀ u,h.get? a = some u→h'.get? a = some u):SetY prog w h' a xs:=by
 obtain ⟨o,es,ep,t,S⟩:=S
 exact ⟨o,es,ep,t,hk _ S.get,S.ex,S.dat,S.es,S.nd,S.tb,S.pl,S.room,S.led⟩
theorem SetY.nd {h:Heap} (S:SetY prog w h a xs):(xs.map (·.1)).Nodup:=by
 obtain ⟨o,es,ep,t,S⟩:=S
 exact S.nd
theorem Oh {xs:List (Int × Tok)} (nd:(xs.map (·.1)).Nodup) (hb:∀ k∈xs.map (·.1),0≤k∧k < 60):xs.length < 300:=by
 have:=BS 60 ((xs.map (·.1)).map Int.toNat) (by
  rw [List.nodup_iff_pairwise_ne,List.pairwise_map]
  refine List.Pairwise.imp_of_mem (fun {a b} ha hb' hne z => hne ?_) (List.nodup_iff_pairwise_ne.mp nd)
  have p1:=hb a ha
  have p2:=hb b hb'
  omega) (fun x hx => by
  obtain ⟨a,ha,rfl⟩:=List.mem_map.mp hx
  have p1:=hb a ha
  omega)
 rw [List.length_map,List.length_map] at this
 omega
theorem Oi {I l:Addr} {items:Array Value} {ps:List (Int × Tok)} (hh:A.in1.handled = none) (hne:l≠I) (hI:a≠I) (hla:a≠l) (hps:items.toList = ps.map fun p => Value.int p.1 p.2) (hb:∀ k∈ps.map (·.1),0≤k∧k < 60)
  {R:Result→Shared→Prop}:∀ (n i:Nat) (s:Shared) (xs:List (Int × Tok)),n = ps.length - i→i≤ps.length→s.heap.IsListIter I l i→s.heap.IsList l items→SetY prog w s.heap a xs→Hr ((ps.take i).map (·.1)) xs →
   (∀ h' tk' xs',(∀ b u,b≠a→b≠I→s.heap.get? b = some u→h'.get? b = some u)→SetY prog w h' a xs'→Hr (ps.map (·.1)) xs'→R (.ok (.ret .none)) { s with heap:=h',toks:=tk' }) →
   codeAny (model prog w) A (.builtin "set.update.loop" ⟨[.ref a,.ref I],[]⟩) R s:=by
 have hsz:items.size = ps.length:=by rw [← Array.length_toList,hps,List.length_map]
 intro n
 induction n with
 | zero =>
  intro i s xs hn hi hit hl hX hS hR
  have:i = ps.length:=by omega
  subst this
  rw [List.take_length] at hS
  refine codeAny_builtin PyProof.Rows.F.entry_set_update_loop ?_
  rw [Around.under_plainId PyProof.Rows.F.plain_set_update_loop _]
  show wpAny _ A.in1 (pyNext (.ref I) >>= _) _ _ s
  refine wpAny_bind (wpAny_pyNext_list_end hh hit hl (by simp [hsz]) fun h' hk => ?_)
  show wpAny _ A.in1 (ret Value.none) _ _ _
  exact wpAny_pure (hR h' s.toks xs (fun b u _ hb e => hk b u hb e) (hX.keep fun u e => hk a u hI e) hS)
 | succ n ih =>
  intro i s xs hn hi hit hl hX hS hR
  have hlt:i < ps.length:=by omega
  obtain ⟨⟨k,x⟩,hkx⟩:∃ p,ps[i]? = some p:=⟨_,by simp [hlt]; rfl⟩
  have hitem:items[i]? = some (.int k x):=by
   have:items[i]? = items.toList[i]?:=by simp
   rw [this,hps,List.getElem?_map,hkx]; rfl
  refine codeAny_builtin PyProof.Rows.F.entry_set_update_loop ?_
  rw [Around.under_plainId PyProof.Rows.F.plain_set_update_loop _]
  show wpAny _ A.in1 (pyNext (.ref I) >>= _) _ _ s
  refine wpAny_bind (wpAny_pyNext_list_item hit hl hitem fun h1 hit1 sb1 => ?_)
  have hk1:∀ b u,b≠I→s.heap.get? b = some u→h1.get? b = some u:=fun b u hb e => (sb1.2 b hb).trans e
  have hX1:SetY prog w h1 a xs:=hX.keep fun u e => hk1 a u hI e
  have hl1:h1.IsList l items:=hl.at fun o e => hk1 l o hne e
  show wpAny _ A.in1 (holding [Value.int k x] (setAdd a (.int k x)) >>= _) _ _ _
  refine wpAny_bind (wpAny_holding ?_)
  unfold setAdd
  refine wpAny_holding ?_
  refine wpAny_bind ((intKind prog w).pyHash (s:={ s with heap:=h1 }) (k:=k) (intKind_is _ _ _ _) ?_)
  have htake:(ps.take (i + 1)).map (·.1) = (ps.take i).map (·.1) ++ [k]:=by rw [List.take_add_one,hkx,List.map_append]; rfl
  have hlen:xs.length < 300:=Oh hS.2.1 fun k hk => hb k (by
   have:=(hS.1 k).mp hk
   rw [List.map_take] at this
   exact List.mem_of_mem_take this)
  refine add_int (s:={ s with heap:=h1,toks:=s.toks + 1 }) hX1 hlen (fun y hy => ?_) (fun hno h2 xs' sb sx pm => ?_)
  ·refine wpAny_pure ⟨plainId_quiet PyProof.Rows.F.plain_set_update_loop _,ih (i + 1) _ xs (by omega) (by omega) hit1 hl1 hX1 ⟨fun k' => ?_,hS.2.1,by rw [htake,List.length_append]; have:=hS.2.2; omega⟩ fun h' tk' xs' kp sx so => hR h' tk' xs' (fun b u h1' h2' e => kp b u h1' h2' (hk1 b u h2' e)) sx so⟩
   rw [htake,List.mem_append,List.mem_singleton,hS.1 k']
   constructor
   ·exact .inl
   ·rintro (h | rfl)
    ·exact h
    ·exact (hS.1 k').mp (List.mem_map.mpr ⟨_,hy,rfl⟩)
  ·have keep2:∀ b u,b≠a→h1.get? b = some u→h2.get? b = some u:=fun b u hb e => (sb.2 b hb).trans e
   refine wpAny_pure ⟨plainId_quiet PyProof.Rows.F.plain_set_update_loop _,ih (i + 1) { s with heap:=h2,toks:=s.toks + 1 } xs' (by omega) (by omega) (hit1.at fun o e => keep2 I o (Ne.symm hI) e) (hl1.at fun o e => keep2 l o (Ne.symm hla) e)
    sx ⟨fun k' => ?_,sx.nd,by rw [htake,List.length_append,pm.length_eq,List.length_append]; have:=hS.2.2; simpa using this⟩ fun h' tk' xs2 kp sx so => hR h' tk' xs2 (fun b u h1' h2' e => kp b u h1' h2' (keep2 b u h1' (hk1 b u h2' e))) sx so⟩
   rw [htake,List.mem_append,List.mem_singleton,← hS.1 k',(pm.map (·.1)).mem_iff,List.map_append,List.mem_append]
   simp
end
section
variable {prog:Program} {w:World} {A:Around} {E:Value→Shared→Prop} {s:Shared}
theorem GF {l:Addr} {items:Array Value} {ps:List (Int × Tok)} {Q:Value→Shared→Prop}
  (hh:A.handled = none) (hl:s.heap.IsList l items) (hps:items.toList = ps.map fun p => Value.int p.1 p.2) (hb:∀ k∈ps.map (·.1),0≤k∧k < 60)
  (h:∀ (h':Heap) (tk:Nat) (xs:List (Int × Tok)),SetY prog w h' s.heap.objs.size xs→Hr (ps.map (·.1)) xs →
   (∀ b o,b < s.heap.objs.size→s.heap.get? b = some o→h'.get? b = some o)→Q (.ref s.heap.objs.size) { s with heap:=h',toks:=tk }) :
  wpAny (model prog w) A (call (.type "set") [.ref l]) Q E s:=by
 refine FR (Q₁:=fun obj s₁ => obj = .ref s.heap.objs.size∧s₁ = { s with heap:=s.heap.push (As w) }) PySem.F.called_set (PySem.F.typeCall_set_1 _) (Id _ ⟨rfl,rfl⟩) ?_
 rintro obj s₁ ⟨rfl,rfl⟩
 have hS:(s.heap.push (As w)).get? s.heap.objs.size = some (As w):=Heap.get?_push_size _ rfl
 have hT:Shared.TypeIs { s with heap:=s.heap.push (As w) } (.ref s.heap.objs.size) "set":=⟨_,hS,rfl⟩
 refine ⟨hT,codeAny_call_builtin PySem.F.called_set.init.plain PySem.F.entry_set_init (check_set_init_1 hT ?_)⟩
 obtain ⟨ol,hol,hcl,nl,hdl⟩:=hl
 obtain ⟨ocls,odict,odata,oslots⟩:=ol
 simp only at hcl hdl
 subst hcl; subst hdl
 have hol':(s.heap.push (As w)).get? l = some { cls:=.type "list",dict:=odict,data:=.seq items nl,slots:=oslots }:=Heap.get?_push_of_some _ hol
 have hsls:=PySem.F.sub_list_set
 have hslf:=PySem.F.sub_list_frozenset
 have hne:(Value.type "list" == Value.type "dict") = false:=by decide
 have hl1:(s.heap.push (As w)).IsList l items:=⟨_,hol',rfl,nl,rfl⟩
 unfold Builtin.«set.__init__» noKeywords Builtin.Frozenset.updateFrom
 generalize hPI:pyIter = PI
 wp_walk
 subst hPI
 refine wpAny_pyIter_list hl1 ?_
 refine wpAny_bind (wpAny_runValue ?_)
 have hlS:l < s.heap.objs.size:=Heap.lt_size hol
 have hneI:l≠(s.heap.push (As w)).objs.size:=by
  rw [Heap.size_push]; exact Nat.ne_of_lt (Nat.lt_succ_of_lt hlS)
 have kp:∀ b o,s.heap.get? b = some o→((s.heap.push (As w)).push { cls:=.type "list_iterator",data:=.fields #[.ref l,.int 0 0] }).get? b = some o:=fun b o e => Heap.get?_push_of_some _ (Heap.get?_push_of_some _ e)
 refine Oi (a:=s.heap.objs.size) (l:=l) (ps:=ps) (by simpa using hh) hneI (by rw [Heap.size_push]; exact Nat.ne_of_lt (Nat.lt_succ_self _)) (Nat.ne_of_gt hlS) hps hb (ps.length - 0) 0 _ [] rfl (Nat.zero_le _)
  ⟨_,Heap.get?_push_size _ rfl,rfl,rfl⟩ (hl1.push _) ⟨As w,#[],0,_,Heap.get?_push_of_some _ hS,⟨rfl,rfl,rfl⟩,rfl,rfl,List.nodup_nil,Tb.fresh _ _ _,rfl,(by show 0 * 5 < 7 * 3; decide),rfl⟩ ⟨fun p => by simp,List.nodup_nil,by simp⟩ ?_
 intro h' tk' xs' kk sx so
 refine wpAny_pure ?_
 show wpAny _ _ (ret Value.none) _ _ _
 refine wpAny_pure ⟨rfl,h h' tk' xs' sx so fun b o hb e => kk b o (Nat.ne_of_lt hb) ?_ (kp b o e)⟩
 rw [Heap.size_push]; exact Nat.ne_of_lt (Nat.lt_succ_of_lt hb)
end
open PySem.Calls PySem.W
section
variable {prog:Program} {w:World} {A:Around} {E:Value→Shared→Prop} {s:Shared}
theorem JF:∀ (xs:List (Int × Tok)),IntsAre (xs.map fun p => Value.int p.1 p.2) (xs.map (·.1))
 | [] => .nil
 | p :: xs => .cons p.1 p.2 (JF xs)
theorem JG {a:Addr} {xs:List (Int × Tok)} {Q:Value→Shared→Prop} (hh:A.handled = none) (S:SetY prog w s.heap a xs) (hz:xs.length < 64)
  (h:∀ (h':Heap) (tk:Nat) (D:Addr) (out:List Value) (ms:List Int) (c:Nat),s.heap.get? D = none→h'.get? D = some (seqObj "list" out.toArray c)→(∀ b o,s.heap.get? b = some o→h'.get? b = some o)→IntsAre out ms→ms.Perm (xs.map (·.1))→ms.Pairwise (·≤·)→Q (.ref D) { s with heap:=h',toks:=tk }) :
  wpAny (model prog w) A (call (.builtin "sorted") [.ref a]) Q E s:=by
 obtain ⟨o,es,ep,t,S⟩:=S
 refine call_function_entry kind_sorted plain_sorted entry_sorted (args_sorted1 _) ?_
 unfold Builtin.«sorted»
 refine wpAny_bind (m:=checkCount "sorted" 1 1 _) (wpAny_pure ?_)
 refine wpAny_bind (kdu_collect (A:=A.in1) (Ks S.wk) hh S.get (by rw [S.size,sizeLine_eq]; omega) fun h1 tk1 acc hk1 hacc => ?_)
 have hsz:acc.toList.length = xs.length:=by rw [Array.length_toList,hacc.1,S.size]
 have hacc2:acc.toList = (Cg w a ep es).toList.map (·.2):=by
  apply List.ext_getElem?
  intro i
  rw [List.getElem?_map]
  by_cases hi:i < acc.size
  ·have e1:acc[i]? = some acc[i]:=by simp [hi]
   obtain ⟨hh',e2⟩:=hacc.2 i _ e1
   have e2':(Cg w a ep es).toList[i]? = some (hh',acc[i]):=by simpa using e2
   rw [e2']
   simpa using e1
  ·have h1':acc.toList[i]? = none:=by simp; omega
   have h2':(Cg w a ep es).toList[i]? = none:=by
    apply List.getElem?_eq_none
    rw [Array.length_toList,DF,← hacc.1]; omega
   rw [h1',h2']; rfl
 have hperm:acc.toList.Perm (xs.map fun p => Value.int p.1 p.2):=by
  rw [hacc2]
  refine ((Dz w a ep es).map (·.2)).trans ?_
  rw [S.es,Dd,List.map_map]
  exact List.Perm.refl _
 obtain ⟨ws,hw1,hw2⟩:=CS hperm rfl
 have hI:IntsAre acc.toList (ws.map (·.1)):=by rw [← hw2]; exact JF ws
 refine wpAny_bind (wpAny_newList ?_ (by rw [hsz,sizeLine_eq]; omega))
 have hoL:(h1.push (seqObj "list" acc.toList.toArray 0)).get? h1.objs.size = some (seqObj "list" acc.toList.toArray 0):=Heap.get?_push_size _ rfl
 have hDn:s.heap.get? h1.objs.size = none:=by
  cases e:s.heap.get? h1.objs.size with
  | none => rfl
  | some o' => exact absurd (Heap.lt_size (hk1 _ _ e)) (Nat.lt_irrefl _)
 refine wpAny_bind (wpAny_holding (wpAny_call_entry slot_list_sort ⟨_,hoL,rfl⟩ entry_list_sort (list_sort_tree (s:={ s with heap:=h1.push (seqObj "list" acc.toList.toArray 0),toks:=tk1 }) hoL hI (by omega) fun out ms a1 a2 a3 => ⟨_,rfl,?_⟩) (args_list_sort _)))
 refine wpAny_pure ⟨_,rfl,?_⟩
 obtain ⟨c,hcat⟩:=sortedHeap_at (out:=out) hoL
 refine h _ tk1 h1.objs.size out.toList ms c hDn hcat (fun b o e => ?_) a1 (a2.trans (hw1.map _)) a3
 have hlt:=Heap.lt_size (hk1 b o e)
 rw [sortedHeap_old (Nat.ne_of_lt hlt) (by rw [size_push']; exact Nat.lt_succ_of_lt hlt)]
 exact Heap.get?_push_of_some _ (hk1 b o e)
end
end StT
namespace L2
open PySem PySem.Spec PySem.Calls PyProof.Rows
section
variable {X:Cx}
def VO (P:Program) (w:World) (a:Addr) (xs:List (Int × Tok)) (h:Heap):Prop:=StT.SetY P w h a xs
def JH (P:Program) (w:World) (a:Addr) (xs:List (Int × Tok)):HO:=.ext (VO P w a xs)
theorem Oj {P:Program} {w:World} {H:Hp} {h:Heap} {a:Addr} {xs:List (Int × Tok)} (S:StT.SetY P w h a xs):ObjOk P w H h a (JH P w a xs):=by
 obtain ⟨o,es,ep,t,T⟩:=S
 exact ⟨⟨o,es,ep,t,T⟩,⟨o,T.get⟩,fun h1 h2 S hk => S.keep (hk)⟩
theorem Fv:∀ {ns:List Int} {us:List Value},Vals (ns.map V.int) us→∃ ps:List (Int × Tok),us = ps.map (fun p => Value.int p.1 p.2)∧ps.map (·.1) = ns
 | [],us,r => by rw [List.map_nil] at r; cases r; exact ⟨[],rfl,rfl⟩
 | n :: ns,us,r => by
  rw [List.map_cons] at r
  cases r with
  | cons r1 r2 =>
   obtain ⟨t,rfl⟩:=r1
   obtain ⟨ps,rfl,e⟩:=Fv r2
   exact ⟨(n,t) :: ps,rfl,by rw [List.map_cons,e]⟩
def VP (X:Cx):List V→Hp→VK→Prop:=fun vs H Q => ∃ a ns,vs = [.ref a]∧SqL X.K H a (ns.map V.int)∧(∀ k∈ns,0≤k∧k < 60) ∧
 ∀ p xs,H p = none→StT.Hr ns xs→Q (.ref p) (Aw H p (JH X.prog X.w p xs))
theorem KO (hc:X.calm = true):BL X (.type "set") (VP X):=by
 intro pins s σ H vs us Q I r h
 obtain ⟨a,ns,rfl,hl,hz,q⟩:=h
 obtain ⟨u,rfl,ru⟩:=Vals.one r
 cases ru
 obtain ⟨its,rv,p,_⟩:=I.list hl
 obtain ⟨ps,e1,rfl⟩:=Fv rv
 refine StT.GF (ps:=ps) (I.ok.hd hc) p.isList (by simpa using e1) hz fun h' tk xs sx so kp => ?_
 have hf:H s.heap.objs.size = none:=I.hok.fresh (Nat.le_refl _)
 exact ⟨.ref s.heap.objs.size,Aw H s.heap.objs.size (JH X.prog X.w s.heap.objs.size xs),I.laid (t':=tk) (fun b u e => kp b u (Heap.lt_size e) e) (Nat.le_refl _) (Oj sx),rfl,q _ _ hf so⟩
def Qe (X:Cx):List V→Hp→VK→Prop:=fun vs H Q => ∃ p xs,vs = [.ref p]∧H p = some (JH X.prog X.w p xs)∧xs.length < 64 ∧
 ∀ (q:Addr) (ms:List Int),H q = none→ms.Perm (xs.map (·.1))→ms.Pairwise (·≤·)→Q (.ref q) (Aw H q (.lst (ms.map V.int)))
theorem GG (hc:X.calm = true):BL X (.builtin "sorted") (Qe X):=by
 intro pins s σ H vs us Q I r h
 obtain ⟨p,xs,rfl,hp,hz,q⟩:=h
 obtain ⟨u,rfl,ru⟩:=Vals.one r
 cases ru
 obtain ⟨S,_,_⟩:=I.hok p _ hp
 refine StT.JG (xs:=xs) (I.ok.hd hc) S hz fun h' tk D out ms c hD hg kp hI pm pw => ?_
 have hf:H D = none:=I.hok.none_of hD
 refine ⟨.ref D,Aw H D (.lst (ms.map V.int)),I.laidF (t':=tk) kp hD ⟨?_,out,c,Dw hI,hg⟩,rfl,q D ms hf pm pw⟩
 rw [List.length_map,pm.length_eq,List.length_map,sizeLine_eq]
 omega
end
end L2
namespace L2.TL
open PySem PySem.Spec PySem.Calls PyProof.Rows
section
variable {Z:Zx} {ρ:List (Option T)} {O:AJ} {e:Expr} {Φ:Bb} {pos p p1 pos1:Pos}
theorem GH {ns:List Int} {l0:Addr} (m:Z.X.mg "sorted" = none) (m2:Z.X.mg "set" = none) (hc:Z.X.calm = true) (h:ET Z ρ O e (.raw (.ref l0))) (hO:O l0 = some (ns.map T.int)) (hb:∀ q∈ns,0≤q∧q < 60)
  (k:∀ ms:List Int,ms.Pairwise (· < ·)→(∀ q,q∈ms↔q∈ns)→Φ (.lst (ms.map T.int)) O) (hg:Gl Z.X "sorted":=by rfl) (hg2:Gl Z.X "set":=by rfl) (he:starEach [e] Z.X.env = (false,eval e Z.X.env) :: starEach [] Z.X.env:=by rfl)
  (he2:starEach [Expr.Call (.Name "set" p1) [e] [] pos1] Z.X.env = (false,eval (.Call (.Name "set" p1) [e] [] pos1) Z.X.env) :: starEach [] Z.X.env:=by rfl):WE Z ρ O (.Call (.Name "sorted" p) [.Call (.Name "set" p1) [e] [] pos1] [] pos) Φ:=by
 refine PE.weak (An (GG hc) hg m LD (AH (Dv (KO hc) hg2 m2 Uz (Ie (ρ:=ρ)) (by decide) (by decide) he) Ae he2) (by decide) (by decide) he2) fun σ H Q q => ?_
 refine ⟨O,_,AS h AC he (fun ts O' => ts = [.raw (.ref l0)]∧O' = O) ⟨rfl,rfl⟩,q.1,?_⟩
 rintro vs H1 _ _ ⟨rfl,rfl⟩ f r
 obtain ⟨v,rfl,r1⟩:=r.one_inv
 cases r1.raw_inv
 obtain ⟨xs0,h1,r1⟩:=f.ok l0 _ hO
 cases r1.ints
 refine ⟨l0,ns,rfl,  .inl (.inl h1),hb,fun l xs hl1 so => ?_⟩
 obtain ⟨s1,s2,s3⟩:=so
 have f1:=Frm.new (o:=JH Z.X.prog Z.X.w l xs) f.ok hl1
 have hlen:xs.length < 64:=by
  have:=StT.BS 60 ((xs.map (·.1)).map Int.toNat) (by
   rw [List.nodup_iff_pairwise_ne,List.pairwise_map]
   refine List.Pairwise.imp_of_mem (fun {a b} ha hb' hne z => hne ?_) (List.nodup_iff_pairwise_ne.mp s2)
   have p1:=hb a ((s1 a).mp ha)
   have p2:=hb b ((s1 b).mp hb')
   omega) (fun x hx => by
   obtain ⟨a,ha,rfl⟩:=List.mem_map.mp hx
   have p1:=hb a ((s1 a).mp ha)
   omega)
  rw [List.length_map,List.length_map] at this
  omega
 refine ⟨l,xs,rfl,AK,hlen,fun d ms hd pm pw => ?_⟩
 have f2:=Frm.new (o:=.lst (ms.map V.int)) f1.ok hd
 have nd:ms.Nodup:=pm.nodup_iff.mpr s2
 refine q.2 _ _ _ _ (k ms ?_ fun z => by rw [pm.mem_iff,s1 z]) (f.trans (f1.trans f2)) (.lst AK (f1.ok.none_of hd) (EL ms))
 refine (pw.and (List.nodup_iff_pairwise_ne.mp nd)).imp fun {a b} h => ?_
 have:=h.1
 have:=h.2
 omega
end
end L2.TL
namespace K24
open PySem L2 L2.TL PySem.Spec PyProof.Rows
section
variable {P:Program} {w:World} {K:PySem.W.Frag} {mg:Str→Option Value} {base:Heap} {CP CL:Addr}
theorem TW:(Af ["_law_a","_law_b"] []).Nodup:=by decide +kernel
theorem VQ:(Af ["_law_place"] [(("_law_begin" : Str),2),(("_law_step" : Str),1),(("_law_n" : Str),0)]).Nodup:=by decide +kernel
def LR:Ch:=fun ts O Φ _ => ∃ (n:Int) (ps:List (Int × Int)),ts = [.int n,.lst (ps.map AN)]∧ps.length≤300∧(∀ p∈ps,WU p)∧∀ rs:List (Int × Int),rs.Pairwise WR→(∀ q,q∈rs↔q∈ps.map mm)→rs.length≤ps.length→Φ (Ab n rs) O
theorem Qf:FnScope ["_law_many","_law_ties"] ["_law_many","_law_ties"] (AA Fl):=⟨rfl,rfl,rfl,by decide +kernel,rfl,by decide +kernel,by decide +kernel⟩
theorem MO {f:Addr} {fd:FuncData} (F:Fun K "_law_web_of" "_law_web_of" Fl f fd) (Tx:Txt mg):FnOk P w K mg base (CXe P w) 1 f fd ["_law_many","_law_ties"] (DH K LR):=by
 refine AY F Qf ?_ ?_
 ·rintro ts O Φ Ξ ⟨n,ps,rfl,_⟩
  rfl
 ·rintro cdv A outer s H E O Ξ hr xf _ Φ ⟨n,ps,rfl,hl,hp,q⟩
  have hu:(A.deeper (envOfC "_law_web_of" (AA Fl) s.heap.objs.size f cdv)).units + 8 < cLine:=by have:=hr.un; omega
  have hz:ps.length≤sizeLine:=Nat.le_trans hl (by decide)
  refine AG (AW (HQ (Cb (ET.we (ev 0) (Cb (Io Tx.nTuple (HY (ps:=ps.map mm) Tx.nSorted Tx.nSet rfl hu ?_ (by simpa using hl) ?_ fun qs h1 h2 h3 => ⟨_,rfl,Ay ⟨by show 2≤sizeLine; decide,q qs h1 h2 (by simpa using h3)⟩⟩)))))))
  ·rw [List.map_map]
   refine By ["_law_a","_law_b"] [] ps AN _ rfl (Ca (AA Fl) ["_law_many","_law_ties"] (by decide +kernel)) (BB (ev 1)) hz fun x hx => ⟨[some (.int x.1),some (.int x.2)],fun X' Oe He is O' => ?_⟩
   obtain ⟨cl,s',H',fp,rfl⟩:=is
   exact ⟨DJ 0 1 rfl TW (by decide) (by decide),At (AD (LE Tx.nMin rfl (ev 0) (ev 1)) (AD (DL Tx.nMax rfl (ev 0) (ev 1)) AC))⟩
  ·intro z hz
   obtain ⟨p,h1,rfl⟩:=List.mem_map.mp hz
   have:=hp p h1
   unfold WU at this
   show 0≤max _ _∧max _ _ < 65536
   omega
def KP (n st bg:Int):List (Int × Int):=(List.range n.toNat).map fun (i:Nat) => (bg + (0 + (i:Int)),bg + ((0 + (i:Int)) + st) % n)
def LS:Ch:=PV fun ts r => ∃ n st bg,ts = [.int n,.int st,.int bg]∧0 < n∧n≤100∧r = .lst ((KP n st bg).map AN)
theorem Qg:FnScope ["_law_n","_law_step","_law_begin"] ["_law_n","_law_step","_law_begin"] (AA Hb):=⟨rfl,rfl,rfl,by decide +kernel,rfl,by decide +kernel,by decide +kernel⟩
theorem Ol {f:Addr} {fd:FuncData} (F:Fun K "_law_round" "_law_round" Hb f fd) (Tx:Txt mg):FnOk P w K mg base (CXe P w) 1 f fd ["_law_n","_law_step","_law_begin"] (DH K LS):=by
 refine AY F Qg ?_ ?_
 ·rintro ts O Φ Ξ ⟨r,⟨n,st,bg,rfl,_⟩,_⟩
  rfl
 ·rintro cdv A outer s H E O Ξ hr xf _ Φ ⟨_,⟨n,st,bg,rfl,n0,n1,rfl⟩,q⟩
  have sb:=AQ
  refine AG (AW (ET.we (ET.cast (By ["_law_place"] [("_law_begin",2),("_law_step",1),("_law_n",0)] (List.range n.toNat) (fun i => .int (0 + (i:Int))) (fun i => AN (bg + (0 + (i:Int)),bg + ((0 + (i:Int)) + st) % n)) rfl (Ca (AA Hb) ["_law_n","_law_step","_law_begin"] (by decide +kernel)) (Ah Tx.nRange (ev 0) ⟨by omega,by omega⟩) (by simp; omega) fun x hx => ⟨[some (.int (0 + (x:Int))),some (.int bg),some (.int st),some (.int n)],fun X' Oe He is O' => ?_⟩) ?_) q))
  ·obtain ⟨cl,s',H',fp,rfl⟩:=is
   exact ⟨AT 0 VQ (by decide),DM (BH (ev 1) (ev 0)) (BH (ev 1) (EF (BH (ev 0) (ev 2)) (ev 3) n0))⟩
  ·unfold KP
   rw [List.map_map]
   rfl
end
section
variable {P:Program} {w:World} {K:PySem.W.Frag} {mg:Str→Option Value} {base:Heap} {CP CL:Addr}
def TX (n r:Int):List T:=[.int n,.int (n + 1 + r),.int (-1),.bl true,.bl false,.non,.str "0",.tup [.int 0],.lst [.int 0],.dct]
theorem TY {n r:Int} (n0:0≤n) (r0:0≤r):∀ t∈TX n r,Ac t = false∧CA t 0 (n - 1) = false:=by
 intro t ht
 unfold TX at ht
 simp only [List.mem_cons,List.not_mem_nil,or_false] at ht
 rcases ht with rfl | rfl | rfl | rfl | rfl | rfl | rfl | rfl | rfl | rfl <;> refine ⟨rfl,?_⟩ <;> first | rfl | (show (decide (_≤_) && decide (_≤_)) = false; simp; omega)
def Om:Ch:=fun ts O Φ _ => ∃ (p:Addr) (xs:List T) (n:Int),ts = [.raw (.ref p),.int n]∧O p = some xs∧GD xs∧1≤n∧n≤16∧∀ (t:T) (O':AJ),Ac t = false→CA t 0 (n - 1) = false→PO O p O'→Φ t O'
theorem On:FnScope ["_law_pen","_law_many","_law_odd"] ["_law_pen","_law_many"] (AA OI):=⟨rfl,rfl,rfl,by decide +kernel,rfl,by decide +kernel,by decide +kernel⟩
theorem JI {f:Addr} {fd:FuncData} (F:Fun K "_law_no_place" "_law_no_place" OI f fd) (G:FnT P w K mg base "_law_draw" 2 ["_law_pen","_law_many"] Da):FnOk P w K mg base (CXe P w) 3 f fd ["_law_pen","_law_many"] (DH K Om):=by
 refine AY F On ?_ ?_
 ·rintro ts O Φ Ξ ⟨p,xs,n,rfl,_⟩
  rfl
 ·rintro cdv A outer s H E O Ξ hr xf _ Φ ⟨p,xs,n,rfl,hp,px,n0,n1,q⟩
  have sb:=AQ
  refine AE (AO 2 (Jz (Cb (ET.we (ev 1) (Cb (Cp Ci (ET.we (BH (ev 1) AB) (Bf (m:=1000000000) G hr xf (PO.start hp px) (ev 0) (ET.cast (KA AB AB ⟨by decide,by decide,by decide⟩) rfl) (by decide) (by decide) fun r O1 r0 r1 po1 => Dn _ ?_))))))) On.nd)
  refine EA.wa (ts:=[.int (-1),.bl true,.bl false,.non,.str "0",.tup [.int 0],.lst [.int 0],.dct]) (AD (NX AB) (AD FV (AD FV (AD BN (AD FW (AD (At (AD AB AC) (by show 1≤sizeLine; decide)) (AD (BD (AD AB AC) (by show 1≤sizeLine; decide)) (AD Nr AC)))))))) ⟨Nat.le_trans (show 10≤1000 by decide) (Nat.le_of_lt sb),?_⟩
  refine AG (AW (Ig Bo (fun _ _ => rfl) (ET.we (ev 2) (Bf G hr xf po1 (ev 0) AB (by decide) (by decide) fun r' O2 r0' r1' po2 => ?_))))
  obtain ⟨t,e1,m1⟩:=DB (L:=TX n r) r0' r1'
  obtain ⟨k1,k2⟩:=TY (by omega) r0 t m1
  exact Fb e1 _ (q t _ k1 k2 po2)
end
end K24
namespace L2.TL
open PySem PySem.Spec PySem.Calls PyProof.Rows
section
variable {X:Cx}
end
section
variable {Z:Zx} {ρ:List (Option T)} {O:AJ} {e a b hi:Expr} {p p2 pos:Pos} {t:T} {ts:List T} {i:Int} {Φ:Bb}
theorem LT (ha:ET Z ρ O a (.lst [t])) (hb:ET Z ρ O b (.int i)) (hi:0≤i∧i≤1000):ET Z ρ O (.BinOp a .Mult b pos) (.lst (List.replicate i.toNat t)):=fun Φ k =>
 Cp LM (ET.we ha (ET.we hb fun H v w Q ok r1 r2 q => by
  obtain ⟨a,xs,rfl,h1,_,r1⟩:=r1.lst_inv
  obtain ⟨v,rfl,g⟩:=r1.one_inv
  exact ⟨a,i,v,rfl,r2.int_inv,.inl (.inl h1),hi,fun l hl => q _ _ _ _ k (.new ok hl) (.lst AK (ok.none_of hl) ((Rep.repl g _).kp (Bm ok hl) ok))⟩))
end
end L2.TL
namespace K24
open PySem L2 L2.TL PySem.Spec PyProof.Rows Gr
def Bu (ps:List (Int × Int)) (x:Int):List Int:=(ps.filter fun p => decide (x∈[p.1,p.2])).map fun p => p.1 + p.2 - x
theorem Gj {ps:List (Int × Int)} {x v:Int}:v∈Bu ps x↔Adj ps x v:=by
 unfold Bu
 rw [List.mem_map]
 constructor
 ·rintro ⟨p,hp,rfl⟩
  obtain ⟨h1,h2⟩:=List.mem_filter.mp hp
  have h2:x = p.1∨x = p.2:=by simpa using h2
  rcases h2 with h | h
  ·refine .inl ?_
   have e:(x,p.1 + p.2 - x) = p:=Prod.ext h (by show p.1 + p.2 - x = p.2; omega)
   rw [e]; exact h1
  ·refine .inr ?_
   have e:(p.1 + p.2 - x,x) = p:=Prod.ext (by show p.1 + p.2 - x = p.1; omega) h
   rw [e]; exact h1
 ·rintro (h | h)
  ·exact ⟨_,List.mem_filter.mpr ⟨h,by simp⟩,by show x + v - x = v; omega⟩
  ·exact ⟨_,List.mem_filter.mpr ⟨h,by simp⟩,by show v + x - x = v; omega⟩
theorem MP {ps:List (Int × Int)} {x:Int}:(Bu ps x).length≤ps.length:=by
 unfold Bu
 rw [List.length_map]
 exact List.length_filter_le ..
structure Lt (n:Int) (ps:List (Int × Int)) (S:List Int) (k:Nat) (fs:List (Option Nat)):Prop where
 len:(fs.length:Int) = n
 eq:∀ v:Int,0≤v→v < n→∀ d,fs[v.toNat]? = some (some d)↔(d < k∧IsD ps S v d)
section
variable {P:Program} {w:World} {K:PySem.W.Frag} {mg:Str→Option Value} {base:Heap}
def Dr:Ch:=PV fun ts r => ∃ n ps x,ts = [Ab n ps,.int x]∧ps.length≤200∧r = .lst ((Bu ps x).map T.int)
theorem Qh:FnScope ["_law_web","_law_place"] ["_law_web","_law_place"] (AA Fm):=⟨rfl,rfl,rfl,by decide +kernel,rfl,by decide +kernel,by decide +kernel⟩
theorem VR:(Af ["_law_a","_law_b"] [(("_law_place" : Str),1)]).Nodup:=by decide +kernel
theorem Oo {f:Addr} {fd:FuncData} (F:Fun K "_law_near" "_law_near" Fm f fd):FnOk P w K mg base (CXe P w) 1 f fd ["_law_web","_law_place"] (DH K Dr):=by
 refine AY F Qh ?_ ?_
 ·rintro ts O Φ Ξ ⟨r,⟨n,ps,x,rfl,_⟩,_⟩
  rfl
 ·rintro cdv A outer s H E O Ξ hr xf _ Φ ⟨_,⟨n,ps,x,rfl,hl,rfl⟩,q⟩
  have sb:=AQ
  have hu:(A.deeper (envOfC "_law_near" (AA Fm) s.heap.objs.size f cdv)).units + 102 < cLine:=by have:=hr.un; omega
  refine AG (AW (ET.we (t:=.lst ((Bu ps x).map T.int)) (ET.cast (HZ ["_law_a","_law_b"] [("_law_place",1)] ps AN (fun p => .int (p.1 + p.2 - x)) (fun p => decide (x∈[p.1,p.2])) rfl (Ca (AA Fm) ["_law_web","_law_place"] (by decide +kernel)) (HV (BF (ev 0) AB)) (by omega) fun p hp => ⟨[some (.int p.1),some (.int p.2),some (.int x)],fun X' Oe He is O' => ?_⟩) ?_) q))
  ·obtain ⟨cl,s',H',fp,rfl⟩:=is
   refine ⟨DJ 0 1 rfl VR (by decide) (by decide),EB.cast (BE (LK hu) rfl (OA (t:=.int x) (us:=[p.1,p.2].map T.int) (by rw [CF]) Bg (by show 0≤100; decide)) (ev 2) (At (AD (ev 0) (AD (ev 1) AC)) (by show 2≤sizeLine; decide))) CG,fun _ => BO (BH (ev 0) (ev 1)) (ev 2)⟩
  ·unfold Bu
   rw [List.map_map]
   rfl
def Hs:Ch:=fun ts O Φ _ => ∃ n ps S,ts = [Ab n ps,.lst (S.map T.int)]∧WebA n ps∧S.length≤16∧(∀ z∈S,0≤z∧z < n)∧∀ fs,All n ps S fs→Φ (.lst (fs.map Ad)) O
def XO:List Str:=["_law_web","_law_starts","_law_found","_law_here","_law_far","_law_place","_law_later"]
theorem Ht:FnScope XO ["_law_web","_law_starts"] (AA DZ):=⟨rfl,rfl,rfl,by decide +kernel,rfl,by decide +kernel,by decide +kernel⟩
theorem VS:(Af ["_law_other"] [(("_law_found" : Str),2)]).Nodup:=by decide +kernel
def XQ (i:Nat):Stmt:=(Am DZ).getD i (.Pass ⟨0,0,0,0⟩)
variable {f:Addr} {cdv:Value} {A:Around} {outer:List Env} {s:Shared} {H:Hp} {E:XK} {O:AJ} {Ξ:Value→AJ→Prop} {n:Int} {ps:List (Int × Int)} {S bs:List Int} {l:Addr}
abbrev VT (P:Program) (w:World) (K:PySem.W.Frag) (mg:Str→Option Value) (base:Heap) (f:Addr) (cdv:Value) (A:Around) (outer:List Env) (s:Shared) (H:Hp) (E:XK) (O:AJ) (Ξ:Value→AJ→Prop):Zx:=zB P w K mg base XO "_law_fars" (AA DZ) f cdv A outer s H E O Ξ
abbrev EY (n:Int) (ps:List (Int × Int)) (S:List Int) (l:Addr) (bs:List Int) (k:Nat) (v5 v6:Option T):List (Option T):=[some (Ab n ps),some (.lst (S.map T.int)),some (.raw (.ref l)),some (.lst (bs.map T.int)),some (.int (k:Int)),v5,v6]
theorem Op {v5 v6:Option T} {k:Nat} {fs:List (Option Nat)} {Φ:Bb} {N Bk Ct:Il} (Tx:Txt mg) (hr:Room 1 (VT P w K mg base f cdv A outer s H E O Ξ).X.A) (xf:XFly (VT P w K mg base f cdv A outer s H E O Ξ).X (VT P w K mg base f cdv A outer s H E O Ξ).W) (G:FnT P w K mg base "_law_near" 1 ["_law_web","_law_place"] Dr) (hlO:O l = none) (wa:WebA n ps) (hS:∀ z∈S,0≤z∧z < n) (h:Lt n ps S k fs) (hbl:bs.length≤60) (hb:∀ v,v∈bs↔IsD ps S v k)
  (q:∀ v5 v6 fs ms,Lt n ps S (k + 1) fs→ms.length≤60→(∀ v,v∈ms↔IsD ps S v (k + 1))→N (EY n ps S l ms (k + 1) v5 v6) (AZ O l (fs.map Ad))) :
  DP (VT P w K mg base f cdv A outer s H E O Ξ) (EY n ps S l bs k v5 v6) (AZ O l (fs.map Ad)) (Gi (XQ 3)) { nx:=N,rt:=Φ,bk:=Bk,ct:=Ct }:=by
 have sb:=AQ
 have sz:sizeLine = 16777216:=sizeLine_eq
 have n1:=wa.n1
 have hw:PY n ps:=wa.hp
 refine AE (BR Aa.own rfl (EI.wi (BB (ev 3)) ⟨fun j ρ' O' => ∃ (fs:List (Option Nat)) (v5:Option T),ρ' = EY n ps S l bs k v5 v6∧O' = AZ O l (fs.map Ad)∧(fs.length:Int) = n∧∀ v:Int,0≤v→v < n→∀ d,fs[v.toNat]? = some (some d)↔((d < k∧IsD ps S v d)∨(d = k∧v∈bs.take j)),⟨fs,v5,rfl,rfl,h.len,fun v v0 v1 d => by rw [h.eq v v0 v1 d]; simp⟩,?_,?_⟩))
 ·rintro j t _ _ e ⟨fs,v5,rfl,rfl,hl,hf⟩
  rw [List.getElem?_map] at e
  cases ec:bs[j]? with
  | none => rw [ec] at e; cases e
  | some z =>
   rw [ec] at e
   cases e
   have hz:=(hb z).mp (List.mem_of_getElem? ec)
   have hi:=hz.1.inb hw hS
   obtain ⟨v,rfl⟩:=Int.eq_ofNat_of_zero_le hi.1
   have hlt:v < fs.length:=by omega
   refine ⟨EY n ps S l bs k (some (.int v)) v6,AT 5 Ht.nd (by show 5 < 7; decide),?_⟩
   refine AG (Fc (ET.we (ev 4) (ET.we (ev 2) ⟨l,rfl,ET.we (ev 5) ⟨_,_,v,rfl,AF,by rw [List.length_map]; exact Ho hlt,?_⟩⟩)))
   refine ⟨fs.set v (some k),_,rfl,by rw [BA,List.map_set]; rfl,by rw [List.length_set]; exact hl,fun y y0 y1 d => ?_⟩
   rw [List.take_add_one,ec]
   by_cases hy:y = (v:Int)
   ·subst hy
    rw [Int.toNat_natCast,List.getElem?_set_self hlt]
    constructor
    ·intro e
     have e:k = d:=by simpa using e
     subst e
     exact .inr ⟨rfl,by simp⟩
    ·rintro (⟨h1,h2⟩ | ⟨rfl,_⟩)
     ·have:=h2.uniq hz
      omega
     ·rfl
   ·rw [List.getElem?_set_ne (by omega),hf y y0 y1 d]
    simp [hy]
 ·rintro _ _ ⟨fs,v5,rfl,rfl,hl,hf⟩
  rw [List.length_map,List.take_length] at hf
  have h1:Lt n ps S (k + 1) fs:=⟨hl,fun v v0 v1 d => by
   rw [hf v v0 v1 d]
   constructor
   ·rintro (⟨h1,h2⟩ | ⟨rfl,h2⟩)
    ·exact ⟨by omega,h2⟩
    ·exact ⟨by omega,(hb v).mp h2⟩
   ·rintro ⟨h1,h2⟩
    by_cases hd:d = k
    ·subst hd; exact .inr ⟨rfl,(hb v).mpr h2⟩
    ·exact .inl ⟨by omega,h2⟩⟩
  clear hf h
  refine AE (AO 6 (CW (Ay ⟨Nat.zero_le _,fun lb hlb => ?_⟩)) Ht.nd)
  have hll:lb≠l:=fun z => by rw [z,AF] at hlb; cases hlb
  have hlb':O lb = none:=by rw [AV hll] at hlb; exact hlb
  refine AE (BR Aa.own rfl (EI.wi (BB (ev 3)) ⟨fun j ρ' O' => ∃ (ls:List Int) (v5:Option T),ρ' = EY n ps S l bs k v5 (some (.raw (.ref lb)))∧O' = AZ (AZ O l (fs.map Ad)) lb (ls.map T.int)∧ls.length≤200 * j∧j≤bs.length∧∀ v:Int,v∈ls↔∃ u∈bs.take j,Adj ps u v∧fs.getD v.toNat none = none,⟨[],v5,rfl,rfl,by simp,by omega,fun v => by simp⟩,?_,?_⟩))
  ·rintro j t _ _ e ⟨ls,v5,rfl,rfl,hls,hj,hv⟩
   rw [List.getElem?_map] at e
   cases ec:bs[j]? with
   | none => rw [ec] at e; cases e
   | some u =>
    rw [ec] at e
    cases e
    have hj':=(List.getElem?_eq_some_iff.mp ec).1
    have hnl:=MP (ps:=ps) (x:=u)
    have hpl:=wa.hl
    have gl:AZ (AZ O l (fs.map Ad)) lb (ls.map T.int) l = some (fs.map Ad):=by rw [AV hll.symm,AF]
    refine ⟨EY n ps S l bs k (some (.int u)) (some (.raw (.ref lb))),AT 5 Ht.nd (by show 5 < 7; decide),?_⟩
    refine AG (Aj (EM (ET.we (ev 6) ⟨lb,rfl,⟨_,AF⟩,ET.we (Qd ["_law_other"] [("_law_found",2)] (Bu ps u) T.int T.int (fun v => DS (Ad (fs.getD v.toNat none))) rfl (Ca (AA DZ) XO (by decide +kernel)) (BB (BP G hr xf (AD (ev 0) (AD (ev 5) AC)) ⟨n,ps,u,rfl,wa.hl,rfl⟩)) (by omega) fun v hvn => ⟨[some (.int v),some (.raw (.ref l))],fun X' Oe He is O' hk => ?_⟩) ⟨_,_,rfl,AF,?_,?_⟩⟩)))
    ·obtain ⟨cl,s',H',fp,rfl⟩:=is
     have a:=(Gj.mp hvn).inb hw
     obtain ⟨m,rfl⟩:=Int.eq_ofNat_of_zero_le a.1
     have hlt:m < fs.length:=by omega
     refine ⟨AT 0 VS (by decide),Cr Fp (CY (hk _ _ gl) (ev 1) (ev 0) (BV ?_)),fun _ => ev 0⟩
     rw [List.getElem?_map,List.getElem?_eq_getElem hlt,Int.toNat_natCast]
     simp [List.getD,hlt]
    ·have:=List.length_filter_le (fun v:Int => DS (Ad (fs.getD v.toNat none))) (Bu ps u)
     rw [List.length_map,List.length_map]
     have:(200:Nat) * j≤200 * 60:=Nat.mul_le_mul_left _ (by omega)
     omega
    ·refine ⟨ls ++ (Bu ps u).filter (fun v => DS (Ad (fs.getD v.toNat none))),_,rfl,by rw [BA,List.map_append],?_,by omega,fun v => ?_⟩
     ·have:=List.length_filter_le (fun v:Int => DS (Ad (fs.getD v.toNat none))) (Bu ps u)
      rw [List.length_append,Nat.mul_add]
      omega
     ·rw [List.mem_append,hv v,List.mem_filter,Gj,List.take_add_one,ec]
      have e3:DS (Ad (fs.getD v.toNat none)) = true↔fs.getD v.toNat none = none:=by
       cases fs.getD v.toNat none with
       | none => exact ⟨fun _ => rfl,fun _ => rfl⟩
       | some d => exact ⟨(fun h => by cases h),(fun h => by cases h)⟩
      rw [e3]
      constructor
      ·rintro (⟨u',h1,h2⟩ | h)
       ·exact ⟨u',List.mem_append_left _ h1,h2⟩
       ·exact ⟨u,List.mem_append_right _ (by simp),h⟩
      ·rintro ⟨u',h1,h2⟩
       rcases List.mem_append.mp h1 with h1 | h1
       ·exact .inl ⟨u',h1,h2⟩
       ·have:u' = u:=by simpa using h1
        subst this
        exact .inr h2
  ·rintro _ _ ⟨ls,v5,rfl,rfl,hls,hj,hv⟩
   rw [List.length_map,List.take_length] at hv
   have hv2:∀ v,v∈ls↔IsD ps S v (k + 1):=fun v => by
    rw [hv v]
    constructor
    ·rintro ⟨u,hu,a,hn⟩
     have ab:=a.inb hw
     have hlt:v.toNat < fs.length:=by omega
     obtain ⟨d,hd,i⟩:=(W.go ((hb u).mp hu).1 a).least
     by_cases hdk:d < k + 1
     ·have:=(h1.eq v ab.1 ab.2.1 d).mpr ⟨hdk,i⟩
      rw [List.getD_eq_getElem?_getD,this] at hn
      cases hn
     ·have:d = k + 1:=by omega
      rw [← this]; exact i
    ·intro i
     obtain ⟨u,hu,a⟩:=i.prev
     have ab:=a.inb hw
     refine ⟨u,(hb u).mpr hu,a,?_⟩
     have hlt:v.toNat < fs.length:=by omega
     rw [List.getD_eq_getElem?_getD,List.getElem?_eq_getElem hlt]
     cases z:fs[v.toNat] with
     | none => rfl
     | some d =>
      have:=(h1.eq v ab.1 ab.2.1 d).mp (by rw [List.getElem?_eq_getElem hlt,z])
      have:=this.2.uniq i
      omega
   refine AE (AO 3 (GH (ns:=ls) (l0:=lb) Tx.nSorted Tx.nSet rfl (ev 6) AF (fun z hz => ?_) fun ms hm1 hm2 => ?_) Ht.nd)
   ·have:=((hv2 z).mp hz).1.inb hw hS
    omega
   ·refine BQ (p:=lb) (n:=6) (ts:=ls.map T.int) AF hlb' rfl ?_
    rw [show Co (AZ (AZ O l (fs.map Ad)) lb (ls.map T.int)) lb = AZ O l (fs.map Ad) from Ap (by rw [AV hll]; exact hlb')]
    refine AG (AO 4 (ET.we (BH (ev 4) AB) (q _ _ fs ms h1 ?_ fun v => (hm2 v).trans (hv2 v))) Ht.nd)
    have nd:ms.Nodup:=List.nodup_iff_pairwise_ne.mpr (hm1.imp fun {a b} h => by omega)
    have hlm:ms.length≤n.toNat:=OG nd fun z hz => ((hv2 z).mp ((hm2 z).mp hz)).1.inb hw hS
    omega
theorem Oq {fd:FuncData} (F:Fun K "_law_fars" "_law_fars" DZ f fd) (Tx:Txt mg) (G:FnT P w K mg base "_law_near" 1 ["_law_web","_law_place"] Dr):FnOk P w K mg base (CXe P w) 2 f fd ["_law_web","_law_starts"] (DH K Hs):=by
 refine AY F Ht ?_ ?_
 ·rintro ts O Φ Ξ ⟨n,ps,S,rfl,_⟩
  rfl
 ·rintro cdv A outer s H E O Ξ hr xf _ Φ ⟨n,ps,S,rfl,wa,hSl,hS,q⟩
  have sb:=AQ
  have n0:=wa.n0
  have n1:=wa.n1
  have hu:(A.deeper (envOfC "_law_fars" (AA DZ) s.heap.objs.size f cdv)).units + 101 < cLine:=by have:=hr.un; omega
  refine AE (AO 2 (QP (t:=.non) (BD (AD BN AC) (by show 1≤sizeLine; decide)) (BF (ev 0) AB) ⟨by omega,by omega⟩ fun l hlO => ?_) Ht.nd)
  refine AE (AO 3 (ET.we (Od Tx.nList (ev 1)) ?_) Ht.nd)
  refine AE (AO 4 (ET.we AB ?_) Ht.nd)
  have h0:Lt n ps S 0 (List.replicate n.toNat none):=⟨by rw [List.length_replicate]; omega,fun v v0 v1 d => by
   rw [List.getElem?_replicate]
   simp⟩
  refine AE (Iq Aa.own (fun m ρ' O' => ∃ (k:Nat) (bs:List Int) (fs:List (Option Nat)) (v5 v6:Option T),ρ' = EY n ps S l bs k v5 v6∧O' = AZ O l (fs.map Ad)∧Lt n ps S k fs∧bs.length≤60∧(∀ v,v∈bs↔IsD ps S v k)∧m = n.toNat + 1 - k) ⟨_,0,S,List.replicate n.toNat none,none,none,rfl,by rw [List.map_replicate]; rfl,h0,by omega,fun v => Fq.symm,rfl⟩ ?_)
  rintro m _ _ ⟨k,bs,fs,v5,v6,rfl,rfl,lt,hbl,hb,rfl⟩
  refine (show EB (VT P w K mg base f cdv A outer s H E O Ξ) (EY n ps S l bs k v5 v6) (AZ O l (fs.map Ad)) _ (!decide (bs = [])) from EB.cast (BE (Fj hu) (Ak _) (Nz (t:=.lst (bs.map T.int)) (u:=.lst (([]:List Int).map T.int)) (by rw [CF]; exact Bg) (by rw [CF]; exact Bg) (by show PyData.depthAll _ + 1≤100; have:=Dc (ns:=bs); omega)) (ev 3) (BD AC (Nat.zero_le _))) (show _ = !decide (bs = []) from congrArg (!·) Fs)) _ ?_
  by_cases hbs:bs = []
  ·subst hbs
   refine DO ?_
   have al:All n ps S fs:=⟨lt.len,fun v v0 v1 d => by
    rw [lt.eq v v0 v1 d]
    refine ⟨fun z => z.2,fun z => ⟨?_,z⟩⟩
    by_cases hd:d < k
    ·exact hd
    ·obtain ⟨j,rfl⟩:∃ j,d = k + j:=⟨d - k,by omega⟩
     obtain ⟨u,hu⟩:=z.down
     have:=(hb u).mpr hu
     cases this⟩
   refine BQ (p:=l) (n:=2) (ts:=fs.map Ad) AF hlO rfl ?_
   rw [Ap hlO]
   exact AG (AW (ET.we (ev 2) (q fs al)))
  ·rw [show (!decide (bs = [])) = true by simp [hbs]]
   refine Eb (Op Tx (hr.mono (by decide)) xf G hlO wa hS lt hbl hb fun v5 v6 fs' ms lt' hml hm => ⟨_,?_,k + 1,ms,fs',v5,v6,rfl,rfl,lt',hml,hm,rfl⟩)
   cases bs with
   | nil => exact absurd rfl hbs
   | cons b bs' =>
    have:=((hb b).mp (by simp)).lt (show PY n ps from wa.hp) hS
    omega
end
section
variable {P:Program} {w:World} {K:PySem.W.Frag} {mg:Str→Option Value} {base:Heap} {CN CP:Addr}
def Qi (a b:Int):List T:=[.int (a - 1),.int (b + 1),.bl true,.non,.str "2",.tup [.int 2],.lst [.int 1],.bl false,.int (10 ^ 30),.dct]
theorem Os {i a b:Int} (h:¬ (a≤i∧i≤b)):CA (.int i) a b = false:=by
 show (decide (a≤i) && decide (i≤b)) = false
 by_cases h1:a≤i
 ·rw [decide_eq_true h1,decide_eq_false fun h2 => h ⟨h1,h2⟩]; rfl
 ·rw [decide_eq_false h1]; rfl
theorem TZ {a b:Int} (hb:b < 1000):∀ t∈Qi a b,Ac t = false∧CA t a b = false:=by
 intro t ht
 unfold Qi at ht
 simp only [List.mem_cons,List.not_mem_nil,or_false] at ht
 rcases ht with rfl | rfl | rfl | rfl | rfl | rfl | rfl | rfl | rfl | rfl
 ·exact ⟨rfl,Os (by omega)⟩
 ·exact ⟨rfl,Os (by omega)⟩
 ·exact ⟨rfl,rfl⟩
 ·exact ⟨rfl,rfl⟩
 ·exact ⟨rfl,rfl⟩
 ·exact ⟨rfl,rfl⟩
 ·exact ⟨rfl,rfl⟩
 ·exact ⟨rfl,rfl⟩
 ·exact ⟨rfl,Os (by omega)⟩
 ·exact ⟨rfl,rfl⟩
def Rb:Ch:=fun ts O Φ _ => ∃ (p:Addr) (xs:List T) (a b:Int),ts = [.raw (.ref p),.int a,.int b]∧O p = some xs∧GD xs∧b < 1000∧∀ (t:T) (O':AJ),Ac t = false→CA t a b = false→PO O p O'→Φ t O'
theorem VU:FnScope ["_law_pen","_law_low","_law_high"] ["_law_pen","_law_low","_law_high"] (AA TJ):=⟨rfl,rfl,rfl,by decide +kernel,rfl,by decide +kernel,by decide +kernel⟩
theorem Ta {f:Addr} {fd:FuncData} (F:Fun K "_law_odd_of" "_law_odd_of" TJ f fd) (G:FnT P w K mg base "_law_draw" 2 ["_law_pen","_law_many"] Da):FnOk P w K mg base (CXe P w) 3 f fd ["_law_pen","_law_low","_law_high"] (DH K Rb):=by
 refine AY F VU ?_ ?_
 ·rintro ts O Φ Ξ ⟨p,xs,a,b,rfl,_⟩
  rfl
 ·rintro cdv A outer s H E O Ξ hr xf _ Φ ⟨p,xs,a,b,rfl,hp,px,hb,q⟩
  have sb:=AQ
  refine AG (AW (Ig Bo (fun _ _ => rfl) (ET.we (t:=.lst (Qi a b)) (BD (AD (BO (ev 1) AB) (AD (BH (ev 2) AB) (AD FV (AD BN (AD FW (AD (At (AD AB AC) (by show 1≤sizeLine; decide)) (AD (BD (AD AB AC) (by show 1≤sizeLine; decide)) (AD FV (AD (ET.cast (KA AB AB ⟨by decide,by decide,by decide⟩) rfl) (AD Nr AC)))))))))) (Nat.le_trans (show 10≤1000 by decide) (Nat.le_of_lt sb))) (Bf G hr xf (PO.start hp px) (ev 0) AB (by decide) (by decide) fun r O2 r0 r1 po2 => ?_))))
  obtain ⟨t,e1,m1⟩:=DB (L:=Qi a b) r0 r1
  obtain ⟨k1,k2⟩:=TZ hb t m1
  exact Fb e1 _ (q t _ k1 k2 po2)
end
end K24
namespace L2
open PySem PySem.Spec PySem.Calls PyProof.Rows
section
variable {prog:Program} {w:World} {A:Around} {R:Result→Shared→Prop} {I:Addr} {fp wr:List Addr} {n:Nat} {P:Nat→Value→Prop} {St:Nat→Heap→Prop}
end
section
variable {prog:Program} {w:World} {A:Around} {E:Value→Shared→Prop} {s:Shared}
end
section
variable {M:Model} {A:Around} {E:Value→Shared→Prop} {s:Shared}
end
section
variable {X:Cx}
end
end L2
namespace L2.TL
open PySem PySem.Spec PySem.Calls PyProof.Rows
section
variable {Z:Zx} {ρ:List (Option T)} {O:AJ} {e:Expr} {p pos kp np:Pos} {ns:List Int} {j:Nat}
def XR:Option Int→T
 | none => .non
 | some m => .int m
end
end L2.TL
namespace L2
open PySem PySem.Spec PySem.Calls PyProof.Rows
section
variable {X:Cx}
def KQ (ns:List Int):Int:=preSum (fun i => ns.getD i 0) ns.length
theorem Gk {ns:List Int} (h:∀ x∈ns,0≤x∧x≤1000):∀ k,0≤preSum (fun i => ns.getD i 0) k∧preSum (fun i => ns.getD i 0) k≤1000 * (k:Int)
 | 0 => ⟨Int.le_refl _,Int.le_refl _⟩
 | k + 1 => by
  have ih:=Gk h k
  have e:0≤ns.getD k 0∧ns.getD k 0≤1000:=by
   by_cases hk:k < ns.length
   ·have:=h ns[k] (List.getElem_mem hk)
    simpa [List.getD,hk] using this
   ·simp [List.getD,List.getElem?_eq_none (by omega:ns.length≤k)]
  show 0≤preSum (fun i => ns.getD i 0) k + ns.getD k 0∧preSum (fun i => ns.getD i 0) k + ns.getD k 0≤_
  omega
theorem MQ (hc:X.calm = true):BL X (.builtin "sum") (fun vs H Q => ∃ (a:Addr) (ns:List Int),vs = [.ref a]∧WP X.K H a (ns.map V.int)∧(∀ x∈ns,0≤x∧x≤1000)∧ns.length≤1000∧Q (.int (KQ ns)) H):=by
 intro pins s σ H vs us Q I r h
 obtain ⟨a,ns,rfl,hq,hb,hz,q⟩:=h
 obtain ⟨u,rfl,ru⟩:=EO r
 cases ru
 obtain ⟨its,rv,lt,wk⟩:=I.walk hq
 have hl:its.length = ns.length:=by have:=rv.length; rw [List.length_map] at this; exact this.symm
 refine call_sum_walk (wk X.A.in1 _ _ (I.ok.hd hc) fun o St W st => ⟨_,_,_,_,_,_,fun i => ns.getD i 0,rfl,W,st,fun b hb => ?_,fun i v hv => FT rv i v hv,fun j hj => ?_,fun h' tk t' hk => ?_⟩)
 ·show b < (s.heap.push o).objs.size
  rw [Heap.size_push]
  simp only [List.mem_cons,List.not_mem_nil,or_false] at hb
  rcases hb with rfl | rfl
  ·exact Nat.lt_succ_self _
  ·exact Nat.lt_succ_of_lt lt
 ·have b1:=Gk hb (j + 1)
  have b0:0≤ns.getD j 0∧ns.getD j 0≤1000:=by
   have hjl:j < ns.length:=by omega
   have:=hb ns[j] (List.getElem_mem hjl)
   simpa [List.getD,hjl] using this
  have hj':((j + 1:Nat):Int)≤1000:=by omega
  unfold InLong
  dsimp only
  constructor
  ·omega
  ·omega
 ·rw [hl]
  exact ⟨.int _,H,I.kept (t':=tk) (NS hk),⟨t',rfl⟩,q⟩
end
end L2
namespace L2.TL
open PySem PySem.Spec PySem.Calls PyProof.Rows
section
variable {Z:Zx} {ρ:List (Option T)} {O:AJ} {e:Expr} {p pos:Pos} {ns:List Int}
theorem XS:bootBuiltins "sum" = some (.builtin "sum"):=by decide +kernel
theorem Ot (hb:∀ x∈ns,0≤x∧x≤1000) (hz:ns.length≤1000) (m:Z.X.mg "sum" = none) (hc:Z.X.calm = true) (h:ET Z ρ O e (.lst (ns.map T.int))) (hg:Gl Z.X "sum":=by rfl) (he:starEach [e] Z.X.env = (false,eval e Z.X.env) :: starEach [] Z.X.env:=by rfl):ET Z ρ O (.Call (.Name "sum" p) [e] [] pos) (.int (KQ ns)) :=
 Bn (MQ hc) m XS (AS h AC he) (fun Φ q H vs Q ok r k => by
  obtain ⟨v,rfl,r1⟩:=r.one_inv
  obtain ⟨a,xs,rfl,h1,o1,r1⟩:=r1.lst_inv
  cases Reps.ints r1
  exact ⟨a,ns,rfl,.inl (.inl (.inl h1)),hb,hz,k _ H _ O q (.refl ok) (.int _)⟩) hg (by decide) (by decide) he
end
end L2.TL
namespace K24
open PySem L2 L2.TL PySem.Spec PyProof.Rows Gr
theorem Fw {i a b:Int} (h0:a≤i) (h1:i≤b):CA (.int i) a b = true:=by
 show (decide (a≤i) && decide (i≤b)) = true
 simp
 omega
theorem KR {t:T} {a b:Int} (h:CA t a b = true):∃ i,t = .int i∧a≤i∧i≤b:=by
 obtain ⟨i,rfl⟩:=LN h
 have h:(decide (a≤i) && decide (i≤b)) = true:=h
 simp at h
 exact ⟨i,rfl,h.1,h.2⟩
def VV (g:Int):Option Nat→Bool
 | none => true
 | some k => decide (g - 1≤(k:Int))
def LU (ps:List (Int × Int)) (d g:Int) (a:Nat) (fs:List (Option Nat)):List Int :=
 if d≤((AX ps a).length:Int) then [] else ((List.range fs.length).filter fun b => decide (((AX ps b).length:Int) < d) && VV g (fs.getD b none)).map fun (b:Nat) => (b:Int)
def Cz (n:Int) (ps:List (Int × Int)) (d:Int):Int:=KQ (((Bt n ps).filter fun c => decide (c < d)).map fun c => d - c)
section
variable {P:Program} {w:World} {K:PySem.W.Frag} {mg:Str→Option Value} {base:Heap} {CN CP:Addr}
def Ou (CN:Addr) (a b:Int):Ch:=fun ts O Φ Ξ => ∃ t,ts = [t]∧Ac t = false∧(CA t a b = true→Φ .non O)∧(CA t a b = false→Ξ (.ref CN) O)
theorem Tc:FnScope ["d"] ["d"] (AA OJ):=⟨rfl,rfl,rfl,by decide +kernel,rfl,by decide +kernel,by decide +kernel⟩
theorem Qj {f:Addr} {fd:FuncData} (F:Fun K "need_any_ties" "need_any_ties" OJ f fd) (Tx:Txt mg) (G:FnT P w K mg base "need_number" 2 ["thing","least","most"] (Ob CN)):FnOk P w K mg base (CXe P w) 3 f fd ["d"] (DH K (Ou CN 0 15)):=by
 refine AY F Tc ?_ ?_
 ·rintro ts O Φ Ξ ⟨t,rfl,_⟩
  rfl
 ·rintro cdv A outer s H E O Ξ hr xf _ Φ ⟨t,rfl,ht,q1,q2⟩
  exact AG (Aj (AR G hr xf (EA.wa (AD (ev 0) (AD AB (AD (HN Tx.iMT) AC))) ⟨t,0,15,rfl,ht,q1,q2⟩)))
theorem Td:FnScope ["g"] ["g"] (AA OK):=⟨rfl,rfl,rfl,by decide +kernel,rfl,by decide +kernel,by decide +kernel⟩
theorem Qk {f:Addr} {fd:FuncData} (F:Fun K "need_ring" "need_ring" OK f fd) (Tx:Txt mg) (G:FnT P w K mg base "need_number" 2 ["thing","least","most"] (Ob CN)):FnOk P w K mg base (CXe P w) 3 f fd ["g"] (DH K (Ou CN 3 16)):=by
 refine AY F Td ?_ ?_
 ·rintro ts O Φ Ξ ⟨t,rfl,_⟩
  rfl
 ·rintro cdv A outer s H E O Ξ hr xf _ Φ ⟨t,rfl,ht,q1,q2⟩
  exact AG (Aj (AR G hr xf (EA.wa (AD (ev 0) (AD (HN Tx.iLR) (AD (HN Tx.iMR) AC))) ⟨t,3,16,rfl,ht,q1,q2⟩)))
def VW (CN:Addr):Ch:=fun ts O Φ Ξ => ∃ t u,ts = [t,u]∧Ac t = false∧Ac u = false∧(CA t 0 15 = true→CA u 3 16 = true→Φ .non O)∧(CA t 0 15 = false∨CA u 3 16 = false→Ξ (.ref CN) O)
theorem XT:FnScope ["d","g"] ["d","g"] (AA KK):=⟨rfl,rfl,rfl,by decide +kernel,rfl,by decide +kernel,by decide +kernel⟩
theorem VX {f:Addr} {fd:FuncData} (F:Fun K "need_any_ties_and_ring" "need_any_ties_and_ring" KK f fd) (G:FnT P w K mg base "need_any_ties" 3 ["d"] (Ou CN 0 15)) (G2:FnT P w K mg base "need_ring" 3 ["g"] (Ou CN 3 16)):FnOk P w K mg base (CXe P w) 4 f fd ["d","g"] (DH K (VW CN)):=by
 refine AY F XT ?_ ?_
 ·rintro ts O Φ Ξ ⟨t,u,rfl,_⟩
  rfl
 ·rintro cdv A outer s H E O Ξ hr xf _ Φ ⟨t,u,rfl,ht,hu,q1,q2⟩
  refine AE (Aj (AR G hr xf (EA.wa (AD (ev 0) AC) ⟨t,rfl,ht,fun h => ?_,fun h => q2 (.inl h)⟩)))
  exact AG (Aj (AR G2 hr xf (EA.wa (AD (ev 1) AC) ⟨u,rfl,hu,fun h2 => q1 h h2,fun h => q2 (.inr h)⟩)))
def JJ:Ch:=PV fun ts r => ∃ n ps,ts = [Ab n ps]∧WebN n ps∧r = .lst ((Bt n ps).map T.int)
theorem Ov:FnScope ["web"] ["web"] (AA En):=⟨rfl,rfl,rfl,by decide +kernel,rfl,by decide +kernel,by decide +kernel⟩
theorem VY:(Af ["near"] []).Nodup:=by decide +kernel
theorem KS {f:Addr} {fd:FuncData} (F:Fun K "ties_at" "ties_at" En f fd) (Tx:Txt mg) (G:FnT P w K mg base "nears_of" 1 ["web"] Hm):FnOk P w K mg base (CXe P w) 2 f fd ["web"] (DH K JJ):=by
 refine AY F Ov ?_ ?_
 ·rintro ts O Φ Ξ ⟨r,⟨n,ps,rfl,_⟩,_⟩
  rfl
 ·rintro cdv A outer s H E O Ξ hr xf _ Φ ⟨_,⟨n,ps,rfl,wn,rfl⟩,q⟩
  have sb:=AQ
  have n1:=wn.n1
  refine AG (AW (ET.we (ET.cast (By ["near"] [] (List.range n.toNat) (fun i => T.lst ((AX ps i).map T.int)) (fun i => T.int (((AX ps i).map T.int).length:Int)) rfl (Ca (AA En) ["web"] (by decide +kernel)) (BB (BP G hr xf (AD (ev 0) AC) ⟨n,ps,rfl,wn.n0,wn.n1,wn.hw,wn.hl,rfl⟩)) (by rw [List.length_range]; omega) fun x hx => ⟨[some (.lst ((AX ps x).map T.int))],fun X' Oe He is O' => ?_⟩) ?_) q))
  ·obtain ⟨cl,s',H',fp,rfl⟩:=is
   exact ⟨AT 0 VY (by decide),DK Tx.nLen (ev 0)⟩
  ·unfold Bt
   rw [List.map_map]
   congr 1
   apply List.map_congr_left
   intro i _
   show T.int _ = T.int _
   rw [List.length_map]
theorem Ql {n:Int} {ps:List (Int × Int)} (wn:WebN n ps):∀ c∈Bt n ps,0≤c∧c≤200:=fun c hc => by
 unfold Bt at hc
 obtain ⟨i,_,rfl⟩:=List.mem_map.mp hc
 have:=Db (qs:=ps) (i:=i)
 have:=wn.hl
 omega
theorem JK {n:Int} {ps:List (Int × Int)}:(Bt n ps).length = n.toNat:=by simp [Bt]
def LV (CN:Addr):Ch:=fun ts O Φ Ξ => ∃ n ps t,ts = [Ab n ps,t]∧Ac t = false∧WebN n ps∧(∀ d:Int,t = .int d→0≤d→d≤15→Φ (.int (Cz n ps d)) O)∧(CA t 0 15 = false→Ξ (.ref CN) O)
theorem Qm:FnScope ["web","d"] ["web","d"] (AA Hf):=⟨rfl,rfl,rfl,by decide +kernel,rfl,by decide +kernel,by decide +kernel⟩
theorem VZ:(Af ["ties"] [(("d" : Str),1)]).Nodup:=by decide +kernel
theorem Ow {f:Addr} {fd:FuncData} (F:Fun K "lacks" "lacks" Hf f fd) (Tx:Txt mg) (Gn:FnT P w K mg base "need_any_ties" 3 ["d"] (Ou CN 0 15)) (G:FnT P w K mg base "ties_at" 2 ["web"] JJ):FnOk P w K mg base (CXe P w) 4 f fd ["web","d"] (DH K (LV CN)):=by
 refine AY F Qm ?_ ?_
 ·rintro ts O Φ Ξ ⟨n,ps,t,rfl,_⟩
  rfl
 ·rintro cdv A outer s H E O Ξ hr xf _ Φ ⟨n,ps,t,rfl,ht,wn,q1,q2⟩
  have sb:=AQ
  have n1:=wn.n1
  have hll:=JK (n:=n) (ps:=ps)
  refine AE (Aj (AR Gn hr xf (EA.wa (AD (ev 1) AC) ⟨t,rfl,ht,fun h => ?_,q2⟩)))
  obtain ⟨d,rfl,d0,d1⟩:=KR h
  have hfl:=List.length_filter_le (fun c => decide (c < d)) (Bt n ps)
  refine AG (AW (ET.we (t:=.int (Cz n ps d)) (Ot (ns:=((Bt n ps).filter fun c => decide (c < d)).map fun c => d - c) ?_ (by rw [List.length_map]; omega) Tx.nSum rfl (ET.cast (HZ ["ties"] [("d",1)] (Bt n ps) T.int (fun c => T.int (d - c)) (fun c => decide (c < d)) rfl (Ca (AA Hf) ["web","d"] (by decide +kernel)) (BB (BP G (hr.mono (by decide)) xf (AD (ev 0) AC) ⟨n,ps,rfl,wn,rfl⟩)) (by omega) fun x hx => ⟨[some (.int x),some (.int d)],fun X' Oe He is O' => ?_⟩) ?_)) (q1 d rfl d0 d1)))
  ·intro x hx
   obtain ⟨c,hc,rfl⟩:=List.mem_map.mp hx
   obtain ⟨h1,h2⟩:=List.mem_filter.mp hc
   have:=Ql wn c h1
   have:=of_decide_eq_true h2
   omega
  ·obtain ⟨cl,s',H',fp,rfl⟩:=is
   exact ⟨AT 0 VZ (by decide),Ij (ev 0) (ev 1),fun _ => BO (ev 1) (ev 0)⟩
  ·rw [List.map_map]
   rfl
def LW:Ch:=fun ts O Φ _ => ∃ (n:Int) (ps:List (Int × Int)) (d g:Int) (a:Nat),ts = [Ab n ps,.int d,.int g,.int (a:Int)]∧WebN n ps∧(a:Int) < n∧∀ fs,All n ps [(a:Int)] fs→Φ (.lst ((LU ps d g a fs).map T.int)) O
def Xj:List Str:=["web","d","g","a","nears","fars"]
theorem Te:FnScope Xj ["web","d","g","a"] (AA Hc):=⟨rfl,rfl,rfl,by decide +kernel,rfl,by decide +kernel,by decide +kernel⟩
theorem Va:(Af ["b","far"] [(("nears" : Str),4),(("d" : Str),1),(("g" : Str),2)]).Nodup:=by decide +kernel
theorem MR {f:Addr} {fd:FuncData} (F:Fun K "places_to_tie" "places_to_tie" Hc f fd) (Tx:Txt mg) (G:FnT P w K mg base "nears_of" 1 ["web"] Hm) (Gf:FnT P w K mg base "fars_from" 1 ["nears","starts"] OY) (ex:∀ {n:Int} {ps:List (Int × Int)} {a:Nat},WebN n ps→(a:Int) < n→∃ fs,All n ps [(a:Int)] fs):FnOk P w K mg base (CXe P w) 2 f fd ["web","d","g","a"] (DH K LW):=by
 refine AY F Te ?_ ?_
 ·rintro ts O Φ Ξ ⟨n,ps,d,g,a,rfl,_⟩
  rfl
 ·rintro cdv A outer s H E O Ξ hr xf _ Φ ⟨n,ps,d,g,a,rfl,wn,ha,q⟩
  have sb:=AQ
  have n1:=wn.n1
  refine AE (AO 4 (ET.we (BP G hr xf (AD (ev 0) AC) ⟨n,ps,rfl,wn.n0,wn.n1,wn.hw,wn.hl,rfl⟩) ?_) Te.nd)
  refine AE (Au (k:=decide (d≤((AX ps a).length:Int))) (EB.cast (RN (DK Tx.nLen (EH (ev 4) (ev 3) (Fo ha))) (ev 1)) (by rw [List.length_map])) (fun h => ?_) (fun h => Al ?_))
  ·obtain ⟨fs,al⟩:=ex wn ha
   have:=q fs al
   unfold LU at this
   rw [if_pos (of_decide_eq_true h)] at this
   exact AG (AW (ET.we (BD AC (Nat.zero_le _)) this))
  ·refine AE (AO 5 (AR Gf hr xf (EA.wa (AD (ev 4) (AD (BD (ts:=[(a:Int)].map T.int) (AD (ev 3) AC) (by show 1≤sizeLine; decide)) AC)) ⟨n,ps,[(a:Int)],rfl,wn,fun z hz => by rw [List.mem_singleton.mp hz]; exact ⟨by omega,ha⟩,fun fs al => ?_⟩)) Te.nd)
   have hlf:=al.len
   have:=q fs al
   unfold LU at this
   rw [if_neg (of_decide_eq_false h)] at this
   refine AG (AW (ET.we (ET.cast (HZ ["b","far"] [("nears",4),("d",1),("g",2)] (List.range fs.length) (fun j => .tup [.int (j:Int),Ad (fs.getD j none)]) (fun j => .int (j:Int)) (fun b => decide (((AX ps b).length:Int) < d) && VV g (fs.getD b none)) rfl (Ca (AA Hc) Xj (by decide +kernel)) (EI.cast (QS Tx.nEnum (ev 5)) Of) (by rw [List.length_range]; omega) fun x hx => ⟨[some (.int (x:Int)),some (Ad (fs.getD x none)),some (Cw n ps),some (.int d),some (.int g)],fun X' Oe He is O' => ?_⟩) (by rw [List.map_map]; rfl)) this))
   obtain ⟨cl,s',H',fp,rfl⟩:=is
   have hxl:=List.mem_range.mp hx
   refine ⟨DJ 0 1 rfl Va (by decide) (by decide),EW.eb (DX (EB.cast (Ij (DK Tx.nLen (EH (ev 2) (ev 0) (Fo (by omega)))) (ev 3)) (by rw [List.length_map])) fun _ => Do (EW.eb ?_)),fun _ => ev 0⟩
   cases z:fs.getD x none with
   | none => exact EW.cast (Fa (x:=true) (y:=true) (Cr (t:=.non) rfl (ev 1)) fun h => by cases h) rfl
   | some k => exact EW.cast (Fa (x:=false) (Cr (t:=.int (k:Int)) rfl (ev 1)) fun _ => FZ (RN (ev 1) (BO (ev 4) AB))) rfl
def Rc (CN CP:Addr):Ch:=fun ts O Φ Ξ => ∃ n ps d g t u,ts = [Ab n ps,d,g,t,u]∧(∀ x∈[d,g,t,u],Ac x = false)∧WebN n ps∧(CA d 0 15 = false∨CA g 3 16 = false→Ξ (.ref CN) O) ∧
 ∀ d' g':Int,d = .int d'→g = .int g'→0≤d'→d'≤15→3≤g'→g'≤16→(CA t 0 (n - 1) = false∨CA u 0 (n - 1) = false→Ξ (.ref CP) O)∧∀ (a:Nat) (b:Int),t = .int (a:Int)→u = .int b→(a:Int) < n→0≤b→b < n→∀ fs,All n ps [(a:Int)] fs→Φ (.bl (decide (b∈LU ps d' g' a fs))) O
theorem Vb:FnScope ["web","d","g","a","b"] ["web","d","g","a","b"] (AA QT):=⟨rfl,rfl,rfl,by decide +kernel,rfl,by decide +kernel,by decide +kernel⟩
theorem Tf {f:Addr} {fd:FuncData} (F:Fun K "may_tie" "may_tie" QT f fd) (Gn:FnT P w K mg base "need_any_ties_and_ring" 4 ["d","g"] (VW CN)) (Gp:FnT P w K mg base "need_place" 3 ["web","thing"] (OW CP)) (G:FnT P w K mg base "places_to_tie" 2 ["web","d","g","a"] LW):FnOk P w K mg base (CXe P w) 5 f fd ["web","d","g","a","b"] (DH K (Rc CN CP)):=by
 refine AY F Vb ?_ ?_
 ·rintro ts O Φ Ξ ⟨n,ps,d,g,t,u,rfl,_⟩
  rfl
 ·rintro cdv A outer s H E O Ξ hr xf _ Φ ⟨n,ps,d,g,t,u,rfl,hraw,wn,q1,q2⟩
  have hu:(A.deeper (envOfC "may_tie" (AA QT) s.heap.objs.size f cdv)).units + 102 < cLine:=by have:=hr.un; omega
  refine AE (Aj (AR Gn hr xf (EA.wa (AD (ev 1) (AD (ev 2) AC)) ⟨d,g,rfl,hraw d (by simp),hraw g (by simp),fun hd hg => ?_,q1⟩)))
  obtain ⟨d',rfl,d0,d1⟩:=KR hd
  obtain ⟨g',rfl,g0,g1⟩:=KR hg
  obtain ⟨q3,q4⟩:=q2 d' g' rfl rfl d0 d1 g0 g1
  refine AE (Aj (AR Gp (hr.mono (by decide)) xf (EA.wa (AD (ev 0) (AD (ev 3) AC)) ⟨n,_,t,rfl,hraw t (by simp),fun h => ?_,fun h => q3 (.inl h)⟩)))
  refine AE (Aj (AR Gp (hr.mono (by decide)) xf (EA.wa (AD (ev 0) (AD (ev 4) AC)) ⟨n,_,u,rfl,hraw u (by simp),fun h2 => ?_,fun h => q3 (.inr h)⟩)))
  obtain ⟨a,rfl,ha⟩:=LP h
  obtain ⟨b,rfl,hb⟩:=LP h2
  refine AG (AW (NU (LK hu) rfl (ET.we (ev 4) (AR G (hr.mono (by decide)) xf (EA.wa (AD (ev 0) (AD (ev 1) (AD (ev 2) (AD (ev 3) AC)))) ⟨n,ps,d',g',a,rfl,wn,ha,fun fs al => OB (t:=.int (b:Int)) (us:=(LU ps d' g' a fs).map T.int) (by rw [CF]) Bg (by show 0≤100; decide) _ ?_⟩)))))
  rw [CG]
  exact q4 a b rfl rfl ha (by omega) hb fs al
end
end K24
namespace L2.TL
open PySem PySem.Spec PySem.Calls PyProof.Rows
section
variable {K:PySem.W.Frag} {O:AJ} {H:Hp} {P:Program} {w:World} {h:Heap}
end
section
variable {X:Cx}
end
section
variable {Z:Zx} {ρ:List (Option T)} {O:AJ} {e:Expr} {p pos:Pos} {t:T} {ts:List T} {Φ:Bb}
end
end L2.TL
namespace L2
open PySem PySem.Spec PyProof.Rows
section
variable {X:Cx} {a b:Expr} {rest:List Expr} {pos:Pos} {ta tb:TE}
theorem Tg (ha:PE X a ta) (hb:PE X (.BoolOp .Or (b :: rest) pos) tb):PE X (.BoolOp .Or (a :: b :: rest) pos) (fun σ H Q => ta σ H fun x H1 => ∃ k,Pi X.K x H1 k∧if k = true then Q x H1 else tb σ H1 Q):=by
 intro pins s σ H Q I h
 refine BoolOp_or (Aq (ha pins s σ H _ I h) fun v s1 ⟨x,H1,I1,r1,k,tr,q1⟩ => ?_)
 refine wpAny_mono (Ml pins s1 σ H1 x v (fun k' H' => k' = k∧H' = H1) I1 r1 ⟨k,tr,rfl,rfl⟩) ?_ fun _ _ e => e
 rintro k' s2 ⟨H2,I2,rfl,rfl⟩
 cases k' with
 | false =>
  rw [if_neg Bool.false_ne_true] at q1
  exact hb pins s2 σ H2 Q I2 q1
 | true =>
  rw [if_pos rfl] at q1
  exact ⟨x,H2,I2,r1,q1⟩
end
end L2
namespace L2.TL
open PySem PySem.Spec PyProof.Rows
section
variable {Z:Zx} {ρ:List (Option T)} {O:AJ} {a b:Expr} {es:List Expr} {pos:Pos} {t u:T}
end
section
variable {Z:Zx} {ρ:List (Option T)} {O:AJ} {es:List Expr} {ts:List T} {Ψ:Es} {pos p:Pos} {tg:Expr} {body:List Stmt} {k:Nat} {x y z:Str} {ta tb tc:T} {p1 p2 p3:Pos}
theorem Reps.three_inv {K:PySem.W.Frag} {O:AJ} {H:Hp} {vs:List V} {t u v:T} (r:Reps K O H vs [t,u,v]):∃ a b c,vs = [a,b,c]∧Rep K O H a t∧Rep K O H b u∧Rep K O H c v:=by
 obtain ⟨a,vs',rfl,h1,r'⟩:=Reps.cons_inv r
 obtain ⟨b,c,rfl,h2,h3⟩:=r'.two_inv
 exact ⟨a,b,c,rfl,h1,h2,h3⟩
theorem Qn (i j m:Nat) {n:Nat} (hc:Z.X.calm = true) (hN:Z.X.N.Nodup) (hni:i < n) (hnj:j < n) (hnm:m < n) (hi:Z.X.N[i]? = some x:=by rfl) (hj:Z.X.N[j]? = some y:=by rfl) (hm:Z.X.N[m]? = some z:=by rfl)
  (hx:IF Z.X.env.scope x:=by first | exact Or.inl rfl | exact Or.inr rfl) (hy:IF Z.X.env.scope y:=by first | exact Or.inl rfl | exact Or.inr rfl) (hz:IF Z.X.env.scope z:=by first | exact Or.inl rfl | exact Or.inr rfl)
  (hf:Z.X.fn x = true∨Z.X.env.scope.names.lookup x = some .local:=by first | exact .inl rfl | exact .inr rfl) (hf2:Z.X.fn y = true∨Z.X.env.scope.names.lookup y = some .local:=by first | exact .inl rfl | exact .inr rfl) (hf3:Z.X.fn z = true∨Z.X.env.scope.names.lookup z = some .local:=by first | exact .inl rfl | exact .inr rfl)
  (hs:(assignEach [.Name x p1,.Name y p2,.Name z p3] Z.X.env).map (·.2) = assign (.Name x p1) Z.X.env :: (assignEach [.Name y p2,.Name z p3] Z.X.env).map (·.2):=by rfl) (hs2:(assignEach [.Name y p2,.Name z p3] Z.X.env).map (·.2) = assign (.Name y p2) Z.X.env :: (assignEach [.Name z p3] Z.X.env).map (·.2):=by rfl) (hs3:(assignEach [.Name z p3] Z.X.env).map (·.2) = assign (.Name z p3) Z.X.env :: (assignEach [] Z.X.env).map (·.2):=by rfl)
  (hl:(assignEach [.Name x p1,.Name y p2,.Name z p3] Z.X.env).length = 3:=by rfl) (hst:(assignEach [.Name x p1,.Name y p2,.Name z p3] Z.X.env).findIdx? (·.1) = none:=by rfl) :
  WG Z n ρ O (.Tuple [.Name x p1,.Name y p2,.Name z p3] k pos) (.tup [ta,tb,tc]) (((ρ.set i (some ta)).set j (some tb)).set m (some tc)) :=
 PG.weak (JW hc (BK (BU hN hi hx hf) (BK (BU hN hj hy hf2) (BK (BU hN hm hz hf3) Gs hs3) hs2) hs) hl hst) fun v σ H Q q => by
  obtain ⟨q1,q2,q3⟩:=q
  obtain ⟨a,xs,rfl,h1,r⟩:=q2.tup_inv
  obtain ⟨v,w,u,rfl,r1,r2,r3⟩:=r.three_inv
  exact ⟨a,_,rfl,.inl (.inl h1),rfl,v,_,rfl,w,_,rfl,u,_,rfl,rfl,q3 _ ⟨((q1.rl.set r1).set r2).set r3,q1.fr⟩ ⟨by simp,fun m hm => by rw [List.getElem?_set_ne (by omega),List.getElem?_set_ne (by omega),List.getElem?_set_ne (by omega)]⟩⟩
end
end L2.TL
namespace K24
open PySem L2 L2.TL PySem.Spec PyProof.Rows Gr
theorem Th {n:Int} {ps:List (Int × Int)} {S:List Int} (n0:0≤n):∃ fs,All n ps S fs:=by
 classical
 refine ⟨(List.range n.toNat).map fun (i:Nat) => if h:∃ d,IsD ps S (i:Int) d then some h.choose else none,⟨by simp; omega,fun v v0 v1 d => ?_⟩⟩
 obtain ⟨i,rfl⟩:=Int.eq_ofNat_of_zero_le v0
 rw [Int.toNat_natCast,List.getElem?_map,List.getElem?_range (by omega),Option.map_some]
 constructor
 ·intro h
  have h:=Option.some.inj h
  by_cases hx:∃ d,IsD ps S (i:Int) d
  ·rw [dif_pos hx] at h
   cases h
   exact hx.choose_spec
  ·rw [dif_neg hx] at h; cases h
 ·intro h
  have hx:∃ d,IsD ps S (i:Int) d:=⟨d,h⟩
  rw [dif_pos hx,hx.choose_spec.uniq h]
theorem EN {ps:List (Int × Int)} {i:Nat}:(Bu ps (i:Int)).length = (AX ps i).length:=by
 induction ps with
 | nil => rfl
 | cons p qs ih =>
  unfold Bu AX at ih ⊢
  rw [List.length_map] at ih ⊢
  by_cases h1:p.1 = (i:Int)
  ·rw [List.filterMap_cons,if_pos h1,List.filter_cons,if_pos (by simp [h1]),List.length_cons,List.length_cons,ih]
  ·by_cases h2:p.2 = (i:Int)
   ·rw [List.filterMap_cons,if_neg h1,if_pos h2,List.filter_cons,if_pos (by simp [h2]),List.length_cons,List.length_cons,ih]
   ·rw [List.filterMap_cons,if_neg h1,if_neg h2,List.filter_cons,if_neg (by simp [Ne.symm h1,Ne.symm h2]),ih]
theorem JL {d:Int}:∀ cs:List Int,(cs.map fun c => max 0 (d - c)).sum = ((cs.filter fun c => decide (c < d)).map fun c => d - c).sum
 | [] => rfl
 | c :: cs => by
  rw [List.map_cons,List.sum_cons,JL cs,List.filter_cons]
  by_cases h:c < d
  ·rw [if_pos (decide_eq_true h),List.map_cons,List.sum_cons]
   congr 1
   omega
  ·rw [if_neg (by simpa using h)]
   have:max 0 (d - c) = 0:=by omega
   rw [this]
   omega
theorem LX (ns:List Int):KQ ns = ns.sum:=by
 unfold KQ
 rw [PyProof.Rows.preSum_getD,List.take_length]
theorem Qo {n:Int} {ps:List (Int × Int)} {d:Int}:KQ ((Bt n ps).map fun c => max 0 (d - c)) = Cz n ps d:=by
 unfold Cz
 rw [LX,LX,JL]
section
variable {P:Program} {w:World} {K:PySem.W.Frag} {mg:Str→Option Value} {base:Heap} {CN CP:Addr}
def Ox:Ch:=PV fun ts r => ∃ (n:Int) (ps:List (Int × Int)) (d:Int),ts = [Ab n ps,.int d]∧(0≤n∧n≤16)∧ps.length≤200∧d≤100∧r = .int (Cz n ps d)
theorem Vc:FnScope ["_law_web","_law_d"] ["_law_web","_law_d"] (AA Eo):=⟨rfl,rfl,rfl,by decide +kernel,rfl,by decide +kernel,by decide +kernel⟩
theorem Vd:(Af ["_law_place"] [(("_law_d" : Str),1),(("_law_web" : Str),0)]).Nodup:=by decide +kernel
theorem Ti {f:Addr} {fd:FuncData} (F:Fun K "_law_lacks_of" "_law_lacks_of" Eo f fd) (Tx:Txt mg) (G:FnT P w K mg base "_law_near" 1 ["_law_web","_law_place"] Dr):FnOk P w K mg base (CXe P w) 2 f fd ["_law_web","_law_d"] (DH K Ox):=by
 refine AY F Vc ?_ ?_
 ·rintro ts O Φ Ξ ⟨r,⟨n,ps,d,rfl,_⟩,_⟩
  rfl
 ·rintro cdv A outer s H E O Ξ hr xf _ Φ ⟨_,⟨n,ps,d,rfl,hn,hpl,hd,rfl⟩,q⟩
  have sb:=AQ
  have hll:=JK (n:=n) (ps:=ps)
  rw [← Qo] at q
  refine AG (AW (ET.we (t:=.int (KQ ((Bt n ps).map fun c => max 0 (d - c)))) (Ot ?_ (by rw [List.length_map]; omega) Tx.nSum rfl (ET.cast (By ["_law_place"] [("_law_d",1),("_law_web",0)] (List.range n.toNat) (fun i => T.int ((i:Nat):Int)) (fun i => T.int (max 0 (d - (((Bu ps (i:Int)).map T.int).length:Int)))) rfl (Ca (AA Eo) ["_law_web","_law_d"] (by decide +kernel)) (EI.cast (Ah Tx.nRange (BF (ev 0) AB) ⟨by omega,by omega⟩) ?_) (by rw [List.length_range]; omega) fun x hx => ⟨[some (.int (x:Int)),some (.int d),some (Ab n ps)],fun X' Oe He is O' => ?_⟩) ?_)) q))
  ·intro x hx
   obtain ⟨c,hc,rfl⟩:=List.mem_map.mp hx
   have:0≤c:=by
    unfold Bt at hc
    obtain ⟨i,_,rfl⟩:=List.mem_map.mp hc
    omega
   omega
  ·unfold Ed
   simp
  ·obtain ⟨cl,s',H',fp,rfl⟩:=is
   exact ⟨AT 0 Vd (by decide),DL Tx.nMax rfl AB (BO (ev 1) (DK Tx.nLen (BP G (hr.mono (by decide)) El (AD (ev 2) (AD (ev 0) AC)) ⟨n,ps,x,rfl,hpl,rfl⟩)))⟩
  ·unfold Bt
   rw [List.map_map,List.map_map]
   congr 1
   apply List.map_congr_left
   intro i _
   show T.int _ = T.int _
   rw [List.length_map,EN]
def Re:Ch:=fun ts O Φ _ => ∃ n ps p,ts = [Ab n ps,AN p]∧WebA n ps∧(0≤p.1∧p.1 < n)∧(0≤p.2∧p.2 < n)∧∀ x:Option Nat,Φ (Ad x) O
def Ve:List Str:=["_law_web","_law_tie","_law_less","_law_far"]
theorem Oy:FnScope Ve ["_law_web","_law_tie"] (AA OL):=⟨rfl,rfl,rfl,by decide +kernel,rfl,by decide +kernel,by decide +kernel⟩
theorem Vf:(Af ["_law_other"] [(("_law_tie" : Str),1)]).Nodup:=by decide +kernel
theorem Tj {f:Addr} {fd:FuncData} (F:Fun K "_law_through" "_law_through" OL f fd) (Tx:Txt mg) (G:FnT P w K mg base "_law_fars" 2 ["_law_web","_law_starts"] Hs):FnOk P w K mg base (CXe P w) 3 f fd ["_law_web","_law_tie"] (DH K Re):=by
 refine AY F Oy ?_ ?_
 ·rintro ts O Φ Ξ ⟨n,ps,p,rfl,_⟩
  rfl
 ·rintro cdv A outer s H E O Ξ hr xf _ Φ ⟨n,ps,p,rfl,wa,h1,h2,q⟩
  have sb:=AQ
  have hpl:=wa.hl
  have hu:(A.deeper (envOfC "_law_through" (AA OL) s.heap.objs.size f cdv)).units + 101 < cLine:=by have:=hr.un; omega
  refine AE (AO 2 (ET.we (t:=Ab n (ps.filter fun q => decide (q≠p))) (At (AD (BF (ev 0) AB) (AD (Nq Tx.nTuple (HZ ["_law_other"] [("_law_tie",1)] ps AN AN (fun q => decide (q≠p)) rfl (Ca (AA OL) Ve (by decide +kernel)) (HV (BF (ev 0) AB)) (by omega) fun x hx => ⟨[some (AN x),some (AN p)],fun X' Oe He is O' => ?_⟩)) AC)) (by show 2≤sizeLine; decide)) ?_) Oy.nd)
  ·obtain ⟨cl,s',H',fp,rfl⟩:=is
   refine ⟨AT 0 Vf (by decide),EB.cast (BE (Fj hu) (Ak _) (Nz (LL x) (LL p) (KH x)) (ev 0) (ev 1)) ?_,fun _ => ev 0⟩
   rw [OC]
   by_cases h:x = p <;> simp [h]
  ·refine AE (AO 3 (Ig Bo (fun _ _ => rfl) (AR G hr xf (EA.wa (AD (ev 2) (AD (BD (ts:=[p.1].map T.int) (AD (BF (ev 1) AB) AC) (by show 1≤sizeLine; decide)) AC)) ⟨n,_,[p.1],rfl,⟨wa.n0,wa.n1,fun z hz => wa.hp z (List.mem_filter.mp hz).1,Nat.le_trans (List.length_filter_le ..) wa.hl⟩,by simp,fun z hz => by rw [List.mem_singleton.mp hz]; exact h1,fun fs al => ?_⟩))) Oy.nd)
   have hlf:=al.len
   obtain ⟨j,hj⟩:=Int.eq_ofNat_of_zero_le h2.1
   have hjl:j < fs.length:=by omega
   refine ET.we (BF (ev 1) AB) (Fb (t:=Ad fs[j]) ?_ _ ?_)
   ·rw [hj]
    exact BV (by rw [List.getElem?_map,List.getElem?_eq_getElem hjl]; rfl)
   ·cases fs[j] with
    | none => exact AG (AW (ET.we (Ky (x:=true) (ta:=.non) (tb:=.non) (Cr (t:=.non) rfl (ev 3)) (fun _ => BN) (fun h => by cases h)) (q none)))
    | some d => exact AG (AW (ET.we (Ky (x:=false) (ta:=.non) (tb:=.int ((d:Int) + 1)) (Cr (t:=.int (d:Int)) rfl (ev 3)) (fun h => by cases h) (fun _ => BH (ev 3) AB)) (q (some (d + 1)))))
end
end K24
namespace L2.TL
open PySem PySem.Spec PyProof.Rows
section
variable {Z:Zx} {ρ:List (Option T)} {O:AJ} {a b:Expr} {es:List Expr} {pos:Pos} {Φ:Bb}
theorem Tk (h:WE Z ρ O a fun t O1 => ∃ k,TruT O1 t k∧if k = true then Φ t O1 else WE Z ρ O1 (.BoolOp .Or (b :: es) pos) Φ):WE Z ρ O (.BoolOp .Or (a :: b :: es) pos) Φ :=
 PE.weak (Tg (BT (ρ:=ρ)) (BT (ρ:=ρ))) fun σ H Q q => ⟨O,_,h,q.1,by
  rintro v H1 t O1 ⟨k,tr,w⟩ f r
  refine ⟨k,tr.v r f.ok,?_⟩
  cases k with
  | true => exact Eb (q.2 _ H1 _ O1 (by simpa using w) f r)
  | false => exact DO ⟨O1,Φ,by simpa using w,q.1.step f,q.2.step f⟩⟩
end
end L2.TL
namespace K24
open PySem L2 L2.TL PySem.Spec PyProof.Rows Gr
section
variable {P:Program} {w:World} {K:PySem.W.Frag} {mg:Str→Option Value} {base:Heap} {CN CP:Addr}
def Vg:Ch:=fun ts O Φ _ => ∃ n ps,ts = [Ab n ps]∧WebA n ps∧∀ x:Option Int,Φ (XR x) O
theorem Vh:FnScope ["_law_web","_law_some"] ["_law_web"] (AA Cu):=⟨rfl,rfl,rfl,by decide +kernel,rfl,by decide +kernel,by decide +kernel⟩
theorem Vi:(Af ["_law_one"] []).Nodup:=by decide +kernel
theorem Vj:(Af ["_law_tie"] [(("_law_web" : Str),0)]).Nodup:=by decide +kernel
theorem Vk {f:Addr} {fd:FuncData} (F:Fun K "_law_shortest" "_law_shortest" Cu f fd) (Tx:Txt mg) (G:FnT P w K mg base "_law_through" 3 ["_law_web","_law_tie"] Re):FnOk P w K mg base (CXe P w) 4 f fd ["_law_web"] (DH K Vg):=by
 refine AY F Vh ?_ ?_
 ·rintro ts O Φ Ξ ⟨n,ps,rfl,_⟩
  rfl
 ·rintro cdv A outer s H E O Ξ hr xf _ Φ ⟨n,ps,rfl,wa,q⟩
  have sb:=AQ
  have hpl:=wa.hl
  have hu:(A.deeper (envOfC "_law_shortest" (AA Cu) s.heap.objs.size f cdv)).units + 101 < cLine:=by have:=hr.un; omega
  refine AE (Nl (i:=1) (nc:=["_law_one"]) (cap:=[]) (by rfl) Vh.nd rfl (Ca (AA Cu) ["_law_web","_law_some"] (by decide +kernel)) (HU (LA (nc:=["_law_tie"]) (cap:=[("_law_web",0)]) rfl (Ca (AA Cu) ["_law_web","_law_some"] (by decide +kernel)) (EI.wi (HV (BF (ev 0) AB)) ⟨fun i acc O' => i≤200∧O = O'∧∃ xs:List (Option Nat),acc = xs.map Ad∧xs.length = i,⟨by omega,rfl,[],rfl,rfl⟩,?_,?_⟩))))
  ·rintro i t acc _ c e ⟨_,rfl,xs,rfl,hxl⟩ hc
   rw [List.getElem?_map] at e
   cases ec:ps[i]? with
   | none => rw [ec] at e; cases e
   | some p =>
    rw [ec] at e
    cases e
    have hi:=(List.getElem?_eq_some_iff.mp ec).1
    have hp:=wa.hp p (List.mem_of_getElem? ec)
    unfold EX at hp
    refine ⟨[some (AN p),some (Ab n ps)],fun X' Oe He is => ⟨?_,Ek (Eb fun X' Oe He is => ?_)⟩⟩
    ·obtain ⟨cl,s',H',fp,rfl⟩:=is
     exact AT 0 Vj (by decide)
    ·obtain ⟨cl,s',H',fp,rfl⟩:=is
     refine AR G (hr.mono (by decide)) El (EA.wa (AD (ev 1) (AD (ev 0) AC)) ⟨n,ps,p,rfl,wa,⟨by omega,by omega⟩,⟨by omega,by omega⟩,fun x => ⟨O,rfl,hc,?_,by omega,rfl,xs ++ [x],by rw [List.map_append]; rfl,by simp; omega⟩⟩)
     rw [List.length_map]
     omega
  ·rintro acc _ ⟨_,rfl,xs,rfl,hxl⟩
   rw [List.length_map] at hxl
   refine ⟨_,rfl,EV xs Ad Ad Option.isSome (by omega) (fun x hx => ⟨[some (Ad x)],fun X' Oe He is O' => ?_⟩) ?_⟩
   ·obtain ⟨cl,s',H',fp,rfl⟩:=is
    refine ⟨AT 0 Vi (by decide),EB.cast (Qc Fp (ev 0)) ?_,fun _ => ev 0⟩
    cases x <;> rfl
   ·rw [Fu]
    have cnd:∀ {ρ:List (Option T)},ρ = [some (Ab n ps),some (.lst ((KN xs).map T.int))]→EB (zB P w K mg base ["_law_web","_law_some"] "_law_shortest" (AA Cu) f cdv A outer s H E O Ξ) ρ O (match (Am Cu).getD 1 (.Pass ⟨0,0,0,0⟩) with | .Return (some (.IfExp c _ _ _)) _ => c | _ => .Constant .none 0 ⟨0,0,0,0⟩) (!decide (KN xs = [])):=by
     rintro ρ rfl
     exact EB.cast (BE (Fj hu) (Ak _) (Nz (t:=.lst ((KN xs).map T.int)) (u:=.lst (([]:List Int).map T.int)) (by rw [CF]; exact Bg) (by rw [CF]; exact Bg) (by show PyData.depthAll _ + 1≤100; have:=Dc (ns:=KN xs); omega)) (ev 1) (BD AC (Nat.zero_le _))) (congrArg (!·) Fs)
    by_cases e:KN xs = []
    ·exact AG (AW (ET.we (Ky (x:=false) (ta:=.non) (tb:=.non) (EB.cast (cnd rfl) (by simp [e])) (fun h => by cases h) (fun _ => BN)) (q none)))
    ·obtain ⟨m,hm⟩:=JC e
     exact AG (AW (ET.we (Ky (x:=true) (ta:=.int m) (tb:=.non) (EB.cast (cnd rfl) (by simp [e])) (fun _ => Qb hm Tx.nMin rfl (ev 1)) (fun h => by cases h)) (q (some m))))
def Vl:Ch:=fun ts O Φ _ => ∃ (n:Int) (ps:List (Int × Int)) (d g:Int) (a:Nat),ts = [Ab n ps,.int d,.int g,.int (a:Int)]∧WebA n ps∧3≤g∧(a:Int) < n∧∀ fs,All n ps [(a:Int)] fs→Φ (.lst ((LU ps d g a fs).map T.int)) O
def YR:List Str:=["_law_web","_law_d","_law_g","_law_a","_law_far","_law_found","_law_b","_law_few"]
theorem Oz:FnScope YR ["_law_web","_law_d","_law_g","_law_a"] (AA KL):=⟨rfl,rfl,rfl,by decide +kernel,rfl,by decide +kernel,by decide +kernel⟩
def UF (ps:List (Int × Int)) (d g:Int) (a:Nat) (fs:List (Option Nat)) (b:Nat):Bool:=!decide ((b:Int) = (a:Int)) && (decide (max ((AX ps a).length:Int) ((AX ps b).length:Int) < d) && (match fs.getD b none with | none => true | some k => decide (g - 2 < (k:Int))))
theorem Vm {n:Int} {ps:List (Int × Int)} {d g:Int} {a:Nat} {fs:List (Option Nat)} (al:All n ps [(a:Int)] fs) (ha:(a:Int) < n) (hg:3≤g):((List.range fs.length).filter (UF ps d g a fs)).map (fun (b:Nat) => (b:Int)) = LU ps d g a fs:=by
 have hl:=al.len
 have h0:fs.getD a none = some 0:=by
  have:=(al.eq (a:Int) (by omega) ha 0).mpr (Fq.mpr (by simp))
  rw [Int.toNat_natCast] at this
  rw [List.getD_eq_getElem?_getD,this]
  rfl
 unfold LU
 by_cases h:d≤((AX ps a).length:Int)
 ·rw [if_pos h]
  rw [List.filter_eq_nil_iff.mpr fun b hb => ?_]
  ·rfl
  ·unfold UF
   have:¬ max ((AX ps a).length:Int) ((AX ps b).length:Int) < d:=by omega
   rw [decide_eq_false this,Bool.false_and,Bool.and_false]
   exact Bool.false_ne_true
 ·rw [if_neg h]
  congr 1
  apply List.filter_congr
  intro b hb
  unfold UF
  by_cases hba:b = a
  ·subst hba
   rw [h0,decide_eq_true rfl]
   show false = (_ && decide (g - 1≤((0:Nat):Int)))
   have hz:decide (g - 1≤((0:Nat):Int)) = false:=decide_eq_false (by omega)
   rw [hz,Bool.and_false]
  ·rw [decide_eq_false (by omega:¬ (b:Int) = (a:Int))]
   have e1:decide (max ((AX ps a).length:Int) ((AX ps b).length:Int) < d) = decide (((AX ps b).length:Int) < d):=by
    rw [Bool.eq_iff_iff,decide_eq_true_eq,decide_eq_true_eq]
    omega
   rw [e1]
   cases fs.getD b none with
   | none => rfl
   | some k =>
    have e2:decide (g - 2 < (k:Int)) = decide (g - 1≤(k:Int)):=by
     rw [Bool.eq_iff_iff,decide_eq_true_eq,decide_eq_true_eq]
     omega
    show (true && (_ && decide (g - 2 < (k:Int)))) = _
    rw [e2]
    rfl
theorem Vn {f:Addr} {fd:FuncData} (F:Fun K "_law_partners" "_law_partners" KL f fd) (Tx:Txt mg) (G:FnT P w K mg base "_law_fars" 2 ["_law_web","_law_starts"] Hs) (Gn:FnT P w K mg base "_law_near" 1 ["_law_web","_law_place"] Dr):FnOk P w K mg base (CXe P w) 3 f fd ["_law_web","_law_d","_law_g","_law_a"] (DH K Vl):=by
 refine AY F Oz ?_ ?_
 ·rintro ts O Φ Ξ ⟨n,ps,d,g,a,rfl,_⟩
  rfl
 ·rintro cdv A outer s H E O Ξ hr xf _ Φ ⟨n,ps,d,g,a,rfl,wa,hg,ha,q⟩
  have sb:=AQ
  have n1:=wa.n1
  refine AE (AO 4 (AR G hr xf (EA.wa (AD (ev 0) (AD (BD (ts:=[(a:Int)].map T.int) (AD (ev 3) AC) (by show 1≤sizeLine; decide)) AC)) ⟨n,ps,[(a:Int)],rfl,wa,by simp,fun z hz => by rw [List.mem_singleton.mp hz]; exact ⟨by omega,ha⟩,fun fs al => ?_⟩)) Oz.nd)
  have hlf:=al.len
  have q:=q fs al
  rw [← Vm al ha hg] at q
  refine AE (AO 5 (CW (EA.wa AC ⟨Nat.zero_le _,fun l hlO => ?_⟩)) Oz.nd)
  refine AE (BR Aa.own rfl (EI.wi (Ah Tx.nRange (BF (ev 0) AB) ⟨by omega,by omega⟩) ⟨fun i ρ' O' => i≤200∧∃ v6 v7,ρ' = [some (Ab n ps),some (.int d),some (.int g),some (.int (a:Int)),some (.lst (fs.map Ad)),some (.raw (.ref l)),v6,v7]∧O' = AZ O l ((((List.range i).filter (UF ps d g a fs)).map fun (b:Nat) => (b:Int)).map T.int),⟨by omega,none,none,rfl,rfl⟩,?_,?_⟩))
  ·rintro i t _ _ e ⟨_,v6,v7,rfl,rfl⟩
   obtain ⟨hi,rfl⟩:=BY e
   rw [Int.zero_add]
   have hil:i < fs.length:=by omega
   have hpl:=wa.hl
   have fl:=List.length_filter_le (UF ps d g a fs) (List.range i)
   rw [List.length_range] at fl
   refine ⟨[some (Ab n ps),some (.int d),some (.int g),some (.int (a:Int)),some (.lst (fs.map Ad)),some (.raw (.ref l)),some (.int (i:Int)),v7],AT 6 Oz.nd (by show 6 < 8; decide),?_⟩
   have hget:atI (fs.map Ad) (i:Int) = some (Ad (fs.getD i none)):=BV (by rw [List.getElem?_map,List.getElem?_eq_getElem hil]; simp [List.getD,hil])
   refine AE (AO 7 (ET.we (t:=.bl (decide (max ((AX ps a).length:Int) ((AX ps i).length:Int) < d))) (ET.cast (Us (DL Tx.nMax rfl (DK Tx.nLen (BP Gn (hr.mono (by decide)) xf (AD (ev 0) (AD (ev 3) AC)) ⟨n,ps,a,rfl,wa.hl,rfl⟩)) (DK Tx.nLen (BP Gn (hr.mono (by decide)) xf (AD (ev 0) (AD (ev 6) AC)) ⟨n,ps,i,rfl,wa.hl,rfl⟩))) (ev 1)) (by rw [List.length_map,List.length_map,EN,EN])) ?_) Oz.nd)
   refine AG (Au (k:=UF ps d g a fs i) (EW.eb (DX (Na (ev 6) (ev 3)) fun _ => DX (FY (ev 7)) fun _ => Do (EW.eb ?_))) (fun h => ?_) (fun h => Al ⟨by omega,_,_,rfl,?_⟩))
   ·cases z:fs.getD i none with
    | none => exact EW.cast (Fa (x:=true) (y:=true) (Cr (t:=.non) rfl (EH (ev 4) (ev 6) (by rw [hget,z]; rfl))) fun h => by cases h) rfl
    | some k => exact EW.cast (Fa (x:=false) (Cr (t:=.int (k:Int)) rfl (EH (ev 4) (ev 6) (by rw [hget,z]; rfl))) fun _ => FZ (Uv (EH (t:=.int (k:Int)) (ev 4) (ev 6) (by rw [hget,z]; rfl)) (BO (ev 2) AB))) rfl
   ·refine AG (Aj (CD (ET.we (ev 5) ⟨l,rfl,⟨_,AF⟩,ET.we (ev 6) ⟨_,AF,by rw [List.length_map,List.length_map]; omega,by omega,_,_,rfl,?_⟩⟩)))
    rw [BA,List.range_succ,List.filter_append,List.map_append,List.map_append,List.filter_cons,if_pos h]
    rfl
   ·rw [List.range_succ,List.filter_append,List.filter_cons,if_neg (by rw [h]; exact Bool.false_ne_true)]
    simp
  ·rintro _ _ ⟨_,v6,v7,rfl,rfl⟩
   rw [BI,show n.toNat = fs.length by omega]
   refine BQ (p:=l) (n:=5) AF hlO rfl ?_
   rw [Ap hlO]
   exact AG (AW (ET.we (ev 5) q))
end
abbrev kT (y:Str):T:=.tup [.str y]
theorem Rf {n i:Int} (h0:0≤i) (h1:i < n):CA (.int i) 0 (n - 1) = true:=Fw h0 (by omega)
section
variable {P:Program} {w:World} {K:PySem.W.Frag} {mg:Str→Option Value} {base:Heap} {CN CP:Addr}
def YS (n:Int) (ps:List (Int × Int)) (t:T) (O:AJ) (Φ:Bb) (XN:Prop):Prop:=(∀ d:Int,t = .int d→0≤d→d≤15→Φ (.int (Cz n ps d)) O)∧(CA t 0 15 = false→XN)
def YT (n:Int) (ps:List (Int × Int)) (d g t u:T) (O:AJ) (Φ:Bb) (XN XP:Prop):Prop:=(CA d 0 15 = false∨CA g 3 16 = false→XN) ∧
 ∀ d' g':Int,d = .int d'→g = .int g'→0≤d'→d'≤15→3≤g'→g'≤16→(CA t 0 (n - 1) = false∨CA u 0 (n - 1) = false→XP)∧∀ (a:Nat) (b:Int),t = .int (a:Int)→u = .int b→(a:Int) < n→0≤b→b < n→∀ fs,All n ps [(a:Int)] fs→Φ (.bl (decide (b∈LU ps d' g' a fs))) O
def PB:Ch:=fun ts O Φ _ =>
 (∃ n ps t x y z,ts = [.int 0,Ab n ps,t,x,y,z]∧Ac t = false∧WebA n ps∧YS n ps t O Φ (Φ (kT "number") O)) ∨
 (∃ n ps d g t u,ts = [.int 1,Ab n ps,d,g,t,u]∧(∀ x∈[d,g,t,u],Ac x = false)∧WebA n ps∧YT n ps d g t u O Φ (Φ (kT "number") O) (Φ (kT "place") O))
def YU:List Str:=["_law_way","_law_web","_law_d","_law_g","_law_a","_law_b","_law_e"]
theorem PC:FnScope YU ["_law_way","_law_web","_law_d","_law_g","_law_a","_law_b"] (AA OM):=⟨rfl,rfl,rfl,by decide +kernel,rfl,by decide +kernel,by decide +kernel⟩
theorem Qp {f fR:Addr} {fd fdR:FuncData} {CR:Addr} (F:Fun K "_law_told_of" "_law_told_of" OM f fd) (FP:FnH P w K mg base 2 fR fdR ["_law_e"] (VF CP (kT "place"))) (FN:FnH P w K mg base 2 fR fdR ["_law_e"] (VF CN (kT "number")))
  (mR':mg "_law_refused" = some (.ref fR)) (kR':PySem.W.keepIn K (.ref fR) = true) (bR':Binds K fdR ["_law_e"] [])
  (mR:mg "RingError" = some (.ref CR)) (bR:PySem.W.mroIn K CR (.type "BaseException") = some true) (kP:PySem.W.kitCls K (.ref CP) (.ref CR) = some true) (kN:PySem.W.kitCls K (.ref CN) (.ref CR) = some true)
  (G1:FnT P w K mg base "lacks" 4 ["web","d"] (LV CN)) (G2:FnT P w K mg base "may_tie" 5 ["web","d","g","a","b"] (Rc CN CP)):FnOk P w K mg base (CXe P w) 6 f fd ["_law_way","_law_web","_law_d","_law_g","_law_a","_law_b"] (DH K PB):=by
 refine AY F PC ?_ ?_
 ·rintro ts O Φ Ξ (⟨n,ps,t,x,y,z,rfl,_⟩ | ⟨n,ps,d,g,t,u,rfl,_⟩) <;> rfl
 ·rintro cdv A outer s H E O Ξ hr xf ts Φ q
  refine AG ?_
  refine QQ (kh:=2) (i:=6) (fun C y => (C = CP∧y = kT "place")∨(C = CN∧y = kT "number")) (fun pins E' xf => ?body) ?fh (hr.mono (by decide)) mR' kR' bR' rfl rfl rfl PC.nd rfl rfl mR bR ?kc rfl (fun _ => rfl) (fun _ => Or.inl rfl) rfl rfl (by decide) (by decide) (by decide) (by decide)
  case fh =>
   rintro C y (⟨rfl,rfl⟩ | ⟨rfl,rfl⟩)
   ·exact FP
   ·exact FN
  case kc =>
   rintro C y (⟨rfl,_⟩ | ⟨rfl,_⟩)
   ·exact kP
   ·exact kN
  case body =>
   rcases q with ⟨n,ps,t,x,y,z,rfl,ht,wa,q1,q2⟩ | ⟨n,ps,d,g,t,u,rfl,hraw,wa,q1,q2⟩
   ·refine AE (Au (k:=true) (EB.cast (EG (ev 0) AB) rfl) (fun _ => AG (AW ?_)) (fun h => by cases h))
    exact AR G1 (hr.mono (by decide)) xf (EA.wa (AD (ev 1) (AD (ev 2) AC)) ⟨n,ps,t,rfl,ht,wa.wn,q1,fun h => ⟨CN,_,rfl,.inr ⟨rfl,rfl⟩,q2 h⟩⟩)
   ·refine AE (Au (k:=false) (EB.cast (EG (ev 0) AB) rfl) (fun h => by cases h) (fun _ => Al (AG (AW ?_))))
    exact AR G2 hr xf (EA.wa (AD (ev 1) (AD (ev 2) (AD (ev 3) (AD (ev 4) (AD (ev 5) AC))))) ⟨n,ps,d,g,t,u,rfl,hraw,wa.wn,fun h => ⟨CN,_,rfl,.inr ⟨rfl,rfl⟩,q1 h⟩,fun d' g' e1 e2 d0 d1 g0 g1 => ⟨fun h => ⟨CP,_,rfl,.inl ⟨rfl,rfl⟩,(q2 d' g' e1 e2 d0 d1 g0 g1).1 h⟩,(q2 d' g' e1 e2 d0 d1 g0 g1).2⟩⟩)
def Vo:Ch:=PV fun ts r => ∃ (n:Int) (ps:List (Int × Int)) (d g:Int),ts = [Ab n ps,.int d,.int g]∧WebA n ps∧(0≤d∧d≤15)∧(3≤g∧g≤16)∧r = .bl true
def YV:List Str:=["_law_web","_law_d","_law_g","_law_found","_law_a","_law_some","_law_b","_law_told"]
theorem MS:FnScope YV ["_law_web","_law_d","_law_g"] (AA Hg):=⟨rfl,rfl,rfl,by decide +kernel,rfl,by decide +kernel,by decide +kernel⟩
theorem Vp {f:Addr} {fd:FuncData} (F:Fun K "_law_right" "_law_right" Hg f fd) (Tx:Txt mg) (Gw:FnT P w K mg base "_law_whole_of" 1 ["_law_found"] Iz) (Gl:FnT P w K mg base "_law_lacks_of" 2 ["_law_web","_law_d"] Ox) (Gp:FnT P w K mg base "_law_partners" 3 ["_law_web","_law_d","_law_g","_law_a"] Vl)
  (Gt:FnT P w K mg base "_law_told_of" 6 ["_law_way","_law_web","_law_d","_law_g","_law_a","_law_b"] PB):FnOk P w K mg base (CXe P w) 7 f fd ["_law_web","_law_d","_law_g"] (DH K Vo):=by
 refine AY F MS ?_ ?_
 ·rintro ts O Φ Ξ ⟨r,⟨n,ps,d,g,rfl,_⟩,_⟩
  rfl
 ·rintro cdv A outer s H E O Ξ hr xf _ Φ ⟨_,⟨n,ps,d,g,rfl,wa,hd,hg,rfl⟩,q⟩
  have hu:(A.deeper (envOfC "_law_right" (AA Hg) s.heap.objs.size f cdv)).units + 102 < cLine:=by have:=hr.un; omega
  have n0:=wa.n0
  have n1:=wa.n1
  refine AE (AO 3 (ET.we (t:=.int (Cz n ps d)) (DI Gt hr xf (AD AB (AD (ev 0) (AD (ev 1) (AD BN (AD BN (AD BN AC)))))) fun Φ q => .inl ⟨n,ps,_,_,_,_,rfl,rfl,wa,fun d' e _ _ => by cases e; exact q,fun h => by rw [Fw hd.1 hd.2] at h; cases h⟩) ?_) MS.nd)
  refine AE (Au (k:=false) (EW.eb (EW.cast (Fa (x:=false) (y:=false) (EB.cast (DW (k:=true) (FY (BP Gw (hr.mono (by decide)) xf (AD (ev 3) AC) ⟨_,rfl,rfl,rfl⟩))) rfl) fun _ => FZ (EB.cast (Na (ev 3) (BP Gl (hr.mono (by decide)) xf (AD (ev 0) (AD (ev 1) AC)) ⟨n,ps,d,rfl,⟨by omega,n1⟩,wa.hl,by omega,rfl⟩)) (by rw [decide_eq_true rfl]; rfl))) rfl)) (fun h => by cases h) (fun _ => Al ?_))
  refine AE (BR Aa.own rfl (EI.wi (Ah Tx.nRange (BF (ev 0) AB) ⟨by omega,by omega⟩) ⟨fun i ρ' O' => ∃ v4 v5 v6 v7,ρ' = [some (Ab n ps),some (.int d),some (.int g),some (.int (Cz n ps d)),v4,v5,v6,v7]∧O = O',⟨none,none,none,none,rfl,rfl⟩,?_,?_⟩))
  ·rintro a t _ _ e ⟨v4,v5,v6,v7,rfl,rfl⟩
   obtain ⟨ha,rfl⟩:=BY e
   rw [Int.zero_add]
   have ha:(a:Int) < n:=by omega
   refine ⟨[some (Ab n ps),some (.int d),some (.int g),some (.int (Cz n ps d)),some (.int (a:Int)),v5,v6,v7],AT 4 MS.nd (by show 4 < 8; decide),?_⟩
   refine AE (AO 5 (AR Gp (hr.mono (by decide)) xf (EA.wa (AD (ev 0) (AD (ev 1) (AD (ev 2) (AD (ev 4) AC)))) ⟨n,ps,d,g,a,rfl,wa,hg.1,ha,fun fs al => ?_⟩)) MS.nd)
   refine AG (BR Aa.own rfl (EI.wi (Ah Tx.nRange (BF (ev 0) AB) ⟨by omega,by omega⟩) ⟨fun i ρ' O' => ∃ v6 v7,ρ' = [some (Ab n ps),some (.int d),some (.int g),some (.int (Cz n ps d)),some (.int (a:Int)),some (.lst ((LU ps d g a fs).map T.int)),v6,v7]∧O = O',⟨v6,v7,rfl,rfl⟩,?_,?_⟩))
   ·rintro b t _ _ e ⟨v6,v7,rfl,rfl⟩
    obtain ⟨hb,rfl⟩:=BY e
    rw [Int.zero_add]
    have hb:(b:Int) < n:=by omega
    refine ⟨[some (Ab n ps),some (.int d),some (.int g),some (.int (Cz n ps d)),some (.int (a:Int)),some (.lst ((LU ps d g a fs).map T.int)),some (.int (b:Int)),v7],AT 6 MS.nd (by show 6 < 8; decide),?_⟩
    refine AE (AO 7 (ET.we (t:=.bl (decide ((b:Int)∈LU ps d g a fs))) (DI Gt hr xf (AD AB (AD (ev 0) (AD (ev 1) (AD (ev 2) (AD (ev 4) (AD (ev 6) AC)))))) fun Φ q => .inr ⟨n,ps,_,_,_,_,rfl,by simp [Ac],wa,(fun h => by rw [Fw hd.1 hd.2,Fw hg.1 hg.2] at h; rcases h with h | h <;> cases h),fun d' g' e1 e2 _ _ _ _ => ⟨(fun h => by rw [Rf (by omega) ha,Rf (by omega) hb] at h; rcases h with h | h <;> cases h),fun a' b' e3 e4 _ _ _ fs' al' => ?told⟩⟩) ?rest) MS.nd)
    case told =>
     cases e1
     cases e2
     cases e4
     have:a' = a:=by injection e3 with e3; omega
     subst this
     cases al'.uniq al
     exact q
    case rest =>
     refine AG (Au (k:=false) (EW.eb (EW.cast (Fa (x:=false) (y:=false) (EB.cast (DW (KG (t:=.bl (decide ((b:Int)∈LU ps d g a fs))) Tx.nIsi Tx.nBool No Fd (ev 7) rfl)) rfl) fun _ => FZ (EB.cast (Sm (ev 7) (Jy (LK hu) rfl (OB (t:=.int (b:Int)) (us:=(LU ps d g a fs).map T.int) (by rw [CF]) Bg (by show 0≤100; decide)) (ev 6) (ev 5))) (by rw [CG]; simp))) rfl)) (fun h => by cases h) (fun _ => Al ⟨_,_,rfl,rfl⟩))
   ·rintro _ _ ⟨v6,v7,rfl,rfl⟩
    exact ⟨_,_,_,_,rfl,rfl⟩
  ·rintro _ _ ⟨v4,v5,v6,v7,rfl,rfl⟩
   exact AG (AW (ET.we FV q))
end
end K24
namespace L2.TL
open PySem PySem.Spec PyProof.Rows
section
variable {Z:Zx} {ρ:List (Option T)} {O:AJ} {Ψ:Es}
theorem Hu (i j:Nat) {x y:Str} {a b:Expr} {px py pt pos:Pos} {kt k2 pt2} (hc:Z.X.calm = true) (hN:Z.X.N.Nodup) (h:WA Z ρ O [a,b] fun ts O' => ∃ t u,ts = [t,u]∧Ψ.nx ((ρ.set i (some t)).set j (some u)) O')
  (hi:Z.X.N[i]? = some x:=by rfl) (hj:Z.X.N[j]? = some y:=by rfl) (hij:i≠j:=by decide) (hx:Z.X.env.scope.names.lookup x = some .local:=by rfl) (hy:Z.X.env.scope.names.lookup y = some .local:=by rfl)
  (hw:swappedStores [.Tuple [.Name x px,.Name y py] kt pt] (.Tuple [a,b] k2 pt2) Z.X.env = pure (some [x,y]):=by rfl)
  (hs:swapsWithSole [.Tuple [.Name x px,.Name y py] kt pt] (.Tuple [a,b] k2 pt2) pos.line Z.X.env = pure false:=by rfl) :
  WS Z ρ O (.Assign [.Tuple [.Name x px,.Name y py] kt pt] (.Tuple [a,b] k2 pt2) pos) Ψ :=
 PS.weak (SB hc hN hi hj hij hx hy h hw hs) fun D σ H q => ⟨q.1,fun vs H' ts O' ⟨t,u,e,p⟩ f r => by
  subst e
  obtain ⟨v,w,rfl,r1,r2⟩:=r.two_inv
  exact ⟨v,w,rfl,q.2.nx _ O' _ H' p ⟨((q.1.step f).rl.set r1).set r2,(q.1.step f).fr⟩ f.kp⟩⟩
theorem Qq {a b:Expr} {p pos:Pos} {Φ:Bb} (m:Z.X.mg "max" = none) (hc:Z.X.calm = true) (h:WA Z ρ O [a,b] fun ts O1 => ∃ i j:Int,ts = [.int i,.int j]∧Φ (.int (max i j)) O1) (hg:Gl Z.X "max":=by rfl)
  (he:starEach [a,b] Z.X.env = (false,eval a Z.X.env) :: starEach [b] Z.X.env:=by rfl) (hpl:(backTo pos (starEach [b] Z.X.env)).any (·.1) = false:=by rfl):WE Z ρ O (.Call (.Name "max" p) [a,b] [] pos) Φ :=
 Ik (GJ hc) m VA (PA.weak h fun σ H Q q => ⟨q.1,fun vs H' ts O' ⟨i,j,e,p⟩ f r => q.2 vs H' ts O' (fun H1 vs1 Q1 ok r1 k => by
  subst e
  obtain ⟨v,w,rfl,h1,h2⟩:=r1.two_inv
  rw [h1.int_inv,h2.int_inv]
  refine ⟨i,j,rfl,?_⟩
  have:(if j > i then j else i) = max i j:=by omega
  rw [this]
  exact k _ H1 _ O' p (.refl ok) (.int _)) f r⟩) hg (by decide) (by decide) he hpl
end
end L2.TL
namespace K24
open PySem L2 L2.TL PySem.Spec PyProof.Rows Gr
def JM (n:Int) (L:List (Int × Int)):Prop:=∀ q∈L,(0≤q.1∧q.1 < n)∧(0≤q.2∧q.2 < n)∧q.1≠q.2
def H3 (L:List (Int × Int)):Prop:=∃ a b c,a∈L∧b∈L∧c∈L∧mm a≠mm b∧mm b≠mm c∧mm a≠mm c
structure OkP (n d:Int) (L:List (Int × Int)):Prop where
 n0:3≤n
 n1:n≤10
 hd:0≤d∧d≤15
 hL:JM n L
 hl:L.length≤100
 h3:H3 L
theorem H3.left {L M:List (Int × Int)} (h:H3 L):H3 (L ++ M):=by
 obtain ⟨a,b,c,h1,h2,h3,h4⟩:=h
 exact ⟨a,b,c,List.mem_append.mpr (.inl h1),List.mem_append.mpr (.inl h2),List.mem_append.mpr (.inl h3),h4⟩
theorem H3.right {L M:List (Int × Int)} (h:H3 M):H3 (L ++ M):=by
 obtain ⟨a,b,c,h1,h2,h3,h4⟩:=h
 exact ⟨a,b,c,List.mem_append.mpr (.inr h1),List.mem_append.mpr (.inr h2),List.mem_append.mpr (.inr h3),h4⟩
theorem Ep {n:Int} {L M:List (Int × Int)} (h1:JM n L) (h2:JM n M):JM n (L ++ M):=fun q hq => by
 rcases List.mem_append.mp hq with h | h
 ·exact h1 q h
 ·exact h2 q h
theorem Cf {a b:Int × Int} (h:min a.1 a.2≠min b.1 b.2∨max a.1 a.2≠max b.1 b.2):mm a≠mm b:=fun z => by
 have e1:min a.1 a.2 = min b.1 b.2:=congrArg Prod.fst z
 have e2:max a.1 a.2 = max b.1 b.2:=congrArg Prod.snd z
 rcases h with h | h
 ·exact h e1
 ·exact h e2
theorem Ds {x m:Int} (hm:0 < m) (h0:0≤x) (h1:x < 2 * m):(x < m∧x % m = x)∨(m≤x∧x % m = x - m):=by
 by_cases h:x < m
 ·exact .inl ⟨h,Int.emod_eq_of_lt h0 h⟩
 ·refine .inr ⟨by omega,?_⟩
  have:x % m = (x - m) % m:=by rw [Int.sub_emod_right]
  rw [this]
  exact Int.emod_eq_of_lt (by omega) (by omega)
theorem Hv {m st bg:Int}:(KP m st bg).length = m.toNat:=by simp [KP]
theorem LY {m st bg n:Int} (hm:0 < m) (hs:0 < st∧st < m) (hb:0≤bg) (hn:bg + m≤n):JM n (KP m st bg):=fun q hq => by
 unfold KP at hq
 obtain ⟨i,hi,rfl⟩:=List.mem_map.mp hq
 have hi:=List.mem_range.mp hi
 have:=Ds (x:=0 + (i:Int) + st) hm (by omega) (by omega)
 dsimp only
 omega
theorem KT {m st bg:Int} {i:Nat} (h:(i:Int) < m):(bg + (0 + (i:Int)),bg + ((0 + (i:Int)) + st) % m)∈KP m st bg:=List.mem_map.mpr ⟨i,List.mem_range.mpr (by omega),rfl⟩
theorem Vq {m:Int} (hm:3≤m):H3 (KP m 1 0):=by
 have e0:=Ds (x:=0 + ((0:Nat):Int) + 1) (m:=m) (by omega) (by omega) (by omega)
 have e1:=Ds (x:=0 + ((1:Nat):Int) + 1) (m:=m) (by omega) (by omega) (by omega)
 have e2:=Ds (x:=0 + ((2:Nat):Int) + 1) (m:=m) (by omega) (by omega) (by omega)
 refine ⟨_,_,_,KT (i:=0) (by omega),KT (i:=1) (by omega),KT (i:=2) (by omega),Cf ?_,Cf ?_,Cf ?_⟩ <;> dsimp only <;> omega
def PD (h:Int):List (Int × Int):=(List.range h.toNat).map fun (i:Nat) => ((i:Int),h + (i:Int))
theorem Rg {h n:Int} (h0:0 < h) (hn:2 * h≤n):JM n (PD h):=fun q hq => by
 unfold PD at hq
 obtain ⟨i,hi,rfl⟩:=List.mem_map.mp hq
 have hi:=List.mem_range.mp hi
 dsimp only
 omega
theorem Rh {h:Int} (h0:3≤h):H3 (PD h):=by
 have mem:∀ i:Nat,(i:Int) < h→((i:Int),h + (i:Int))∈PD h:=fun i hi => List.mem_map.mpr ⟨i,List.mem_range.mpr (by omega),rfl⟩
 refine ⟨_,_,_,mem 0 (by omega),mem 1 (by omega),mem 2 (by omega),Cf ?_,Cf ?_,Cf ?_⟩ <;> dsimp only <;> omega
def PF (i:Nat):List (Int × Int):=(List.range i).flatMap fun (b:Nat) => (List.range b).map fun (a:Nat) => ((a:Int),(b:Int))
theorem JN {i:Nat}:PF (i + 1) = PF i ++ (List.range i).map fun (a:Nat) => ((a:Int),(i:Int)):=by
 unfold PF
 rw [List.range_succ,List.flatMap_append]
 simp
theorem Hw {i:Nat} {a b:Nat}:((a:Int),(b:Int))∈PF i↔a < b∧b < i:=by
 unfold PF
 rw [List.mem_flatMap]
 constructor
 ·rintro ⟨c,hc,h⟩
  obtain ⟨d,hd,e⟩:=List.mem_map.mp h
  have hc:=List.mem_range.mp hc
  have hd:=List.mem_range.mp hd
  have e1:(d:Int) = (a:Int):=congrArg Prod.fst e
  have e2:(c:Int) = (b:Int):=congrArg Prod.snd e
  omega
 ·rintro ⟨h1,h2⟩
  exact ⟨b,List.mem_range.mpr h2,List.mem_map.mpr ⟨a,List.mem_range.mpr h1,rfl⟩⟩
theorem Tl {i:Nat} {n:Int} (h:(i:Int)≤n):JM n (PF i):=fun q hq => by
 unfold PF at hq
 obtain ⟨b,hb,hq⟩:=List.mem_flatMap.mp hq
 obtain ⟨a,ha,rfl⟩:=List.mem_map.mp hq
 have:=List.mem_range.mp hb
 have:=List.mem_range.mp ha
 dsimp only
 omega
theorem Hx:∀ i:Nat,i≤10→(PF i).length≤10 * i
 | 0,_ => by simp [PF]
 | i + 1,h => by
  have:=Hx i (by omega)
  rw [JN,List.length_append,List.length_map,List.length_range]
  omega
theorem Tm {i:Nat} (h:3≤i):H3 (PF i):=by
 refine ⟨(0,1),(0,2),(1,2),Hw (a:=0) (b:=1) |>.mpr (by omega),Hw (a:=0) (b:=2) |>.mpr (by omega),Hw (a:=1) (b:=2) |>.mpr (by omega),Cf ?_,Cf ?_,Cf ?_⟩ <;> decide
def PZ (h:Int) (i:Nat):List (Int × Int):=(List.range i).flatMap fun (a:Nat) => (List.range h.toNat).map fun (b:Nat) => ((a:Int),h + (b:Int))
theorem JO {h:Int} {i:Nat}:PZ h (i + 1) = PZ h i ++ (List.range h.toNat).map fun (b:Nat) => ((i:Int),h + (b:Int)):=by
 unfold PZ
 rw [List.range_succ,List.flatMap_append]
 simp
theorem Tn {h n:Int} {i:Nat} (hi:(i:Int)≤h) (hn:2 * h≤n):JM n (PZ h i):=fun q hq => by
 unfold PZ at hq
 obtain ⟨b,hb,hq⟩:=List.mem_flatMap.mp hq
 obtain ⟨a,ha,rfl⟩:=List.mem_map.mp hq
 have:=List.mem_range.mp hb
 have:=List.mem_range.mp ha
 dsimp only
 omega
theorem Hy {h:Int} (hh:h≤8):∀ i:Nat,(PZ h i).length≤8 * i
 | 0 => by simp [PZ]
 | i + 1 => by
  have:=Hy hh i
  rw [JO,List.length_append,List.length_map,List.length_range]
  omega
theorem To {h:Int} {i:Nat} (h0:3≤h) (hi:1≤i):H3 (PZ h i):=by
 have mem:∀ b:Nat,(b:Int) < h→(((0:Nat):Int),h + (b:Int))∈PZ h i:=fun b hb => List.mem_flatMap.mpr ⟨0,List.mem_range.mpr (by omega),List.mem_map.mpr ⟨b,List.mem_range.mpr (by omega),rfl⟩⟩
 refine ⟨_,_,_,mem 0 (by omega),mem 1 (by omega),mem 2 (by omega),Cf ?_,Cf ?_,Cf ?_⟩ <;> dsimp only <;> omega
theorem Vr {L rs:List (Int × Int)} (h:H3 L) (hm:∀ q,q∈rs↔q∈L.map mm):3≤rs.length:=by
 obtain ⟨a,b,c,h1,h2,h3,n1,n2,n3⟩:=h
 have ma:=(hm (mm a)).mpr (List.mem_map.mpr ⟨a,h1,rfl⟩)
 have mb:=(hm (mm b)).mpr (List.mem_map.mpr ⟨b,h2,rfl⟩)
 have mc:=(hm (mm c)).mpr (List.mem_map.mpr ⟨c,h3,rfl⟩)
 match rs,ma,mb,mc with
 | [],ma,_,_ => cases ma
 | [x],ma,mb,_ => exact absurd ((List.mem_singleton.mp ma).trans (List.mem_singleton.mp mb).symm) n1
 | [x,y],ma,mb,mc =>
  simp only [List.mem_cons,List.not_mem_nil,or_false] at ma mb mc
  rcases ma with ma | ma <;> rcases mb with mb | mb <;> rcases mc with mc | mc
  all_goals first | exact absurd (ma.trans mb.symm) n1 | exact absurd (mb.trans mc.symm) n2 | exact absurd (ma.trans mc.symm) n3
 | _ :: _ :: _ :: _,_,_,_ => simp
theorem PH {n:Int} {L rs:List (Int × Int)} (h:JM n L) (hm:∀ q,q∈rs↔q∈L.map mm):∀ q∈rs,EX n q:=fun q hq => by
 obtain ⟨y,hy,rfl⟩:=List.mem_map.mp ((hm q).mp hq)
 have:=h y hy
 unfold EX mm
 show 0≤min _ _∧min _ _ < max _ _∧max _ _ < n
 omega
theorem LZ {n:Int} {L:List (Int × Int)} (h:JM n L) (hn:n≤100):∀ q∈L,WU q:=fun q hq => by
 have:=h q hq
 unfold WU
 omega
theorem Tp {n:Int} {rs:List (Int × Int)} (h:∀ q∈rs,EX n q):JM n rs:=fun q hq => by
 have:=h q hq
 unfold EX at this
 omega
def UG:List Str:=["_law_pen","_law_most","_law_n","_law_half","_law_every","_law_one","_law_way","_law_pairs","_law_d","_law_step","_law_whole","_law_left","_law_turn","_law_g"]
theorem CH:FnScope UG ["_law_pen","_law_most"] (AA Dp):=⟨rfl,rfl,rfl,by decide +kernel,rfl,by decide +kernel,by decide +kernel⟩
def De (i:Nat):Stmt:=(Am Dp).getD i (.Pass ⟨0,0,0,0⟩)
theorem Vs:(Af ["_law_other"] [(("_law_one" : Str),5)]).Nodup:=by decide +kernel
theorem Ri:(Af ["_law_at"] [(("_law_half" : Str),3)]).Nodup:=by decide +kernel
theorem Vt:(Af ["_law_other"] [(("_law_one" : Str),5),(("_law_half" : Str),3)]).Nodup:=by decide +kernel
def Vu:List Int:=[0,0,0,1,-1,2]
section
variable {P:Program} {w:World} {K:PySem.W.Frag} {mg:Str→Option Value} {base:Heap} {f:Addr} {cdv:Value} {A:Around} {outer:List Env} {s:Shared} {H:Hp} {E:XK} {O0 O1:AJ} {Ξ:Value→AJ→Prop} {p:Addr} {n d half way:Int} {L:List (Int × Int)} {v4 v5 v9 v10 v11 v12 v13:Option T} {Φ:Bb} {N:Il} {ss:List Stmt} {Ψ:Es}
abbrev zP (P:Program) (w:World) (K:PySem.W.Frag) (mg:Str→Option Value) (base:Heap) (f:Addr) (cdv:Value) (A:Around) (outer:List Env) (s:Shared) (H:Hp) (E:XK) (O:AJ) (Ξ:Value→AJ→Prop):Zx:=zB P w K mg base UG "_law_part_of" (AA Dp) f cdv A outer s H E O Ξ
abbrev Tq (p:Addr) (n half:Int) (v4 v5:Option T) (way:Int) (L:List (Int × Int)) (d:Int) (v9 v10 v11 v12 v13:Option T):List (Option T):=[some (.raw (.ref p)),some (.int 10),some (.int n),some (.int half),v4,v5,some (.int way),some (.lst (L.map AN)),some (.int d),v9,v10,v11,v12,v13]
structure HasP (P:Program) (w:World) (K:PySem.W.Frag) (mg:Str→Option Value) (base:Heap):Prop where
 tx:Txt mg
 gd:FnT P w K mg base "_law_draw" 2 ["_law_pen","_law_many"] Da
 gw:FnT P w K mg base "_law_web_of" 1 ["_law_many","_law_ties"] LR
 gr:FnT P w K mg base "_law_round" 1 ["_law_n","_law_step","_law_begin"] LS
 gl:FnT P w K mg base "_law_lacks_of" 2 ["_law_web","_law_d"] Ox
 gs:FnT P w K mg base "_law_shortest" 4 ["_law_web"] Vg
def MU (O0:AJ) (p:Addr) (Φ:Bb):Prop:=∀ (n:Int) (ps:List (Int × Int)) (d g:Int) (O':AJ),3≤n→n≤10→(∀ q∈ps,EX n q)→ps.Pairwise WR→ps.length≤120→(0≤d∧d≤15)→(3≤g∧g≤16)→PO O0 p O'→Φ (.tup [Ab n ps,.int d,.int g]) O'
theorem Tr {W:T} {ws:List (Int × Int)} (B:HasP P w K mg base) (hr:Room 4 (zP P w K mg base f cdv A outer s H E O0 Ξ).X.A) (xf:XFly (zP P w K mg base f cdv A outer s H E O0 Ξ).X (zP P w K mg base f cdv A outer s H E O0 Ξ).W) (po:PO O0 p O1) (n0:3≤n) (n1:n≤10) (hd:0≤d∧d≤15) (ww:WebA n ws) (hL:JM n L) (hl:L.length≤120) (v7:Option T) (q:MU O0 p Φ) :
  DP (zP P w K mg base f cdv A outer s H E O0 Ξ) [some (.raw (.ref p)),some (.int 10),some (.int n),some (.int half),v4,v5,some (.int way),v7,some (.int d),v9,some (Ab n ws),some (.lst (L.map AN)),v12,v13] O1 [De 13,De 14] { nx:=N,rt:=Φ }:=by
 have last:∀ (x:Int) (O2:AJ),PO O0 p O2→DP (zP P w K mg base f cdv A outer s H E O0 Ξ) [some (.raw (.ref p)),some (.int 10),some (.int n),some (.int half),v4,v5,some (.int way),v7,some (.int d),v9,some (Ab n ws),some (.lst (L.map AN)),v12,some (.int (max 3 x))] O2 [De 14] { nx:=N,rt:=Φ }:=fun x O2 po2 =>
  AG (AW (HQ (Cb (AR B.gw (hr.mono (by decide)) xf (EA.wa (AD (ev 2) (AD (ev 11) AC)) ⟨n,L,rfl,by omega,LZ hL (by omega),fun rs r1 r2 r3 => Cb (ET.we (ev 8) (Cb (ET.we (LE B.tx.nMin rfl AB (ev 13)) (Ay ⟨by show 3≤sizeLine; decide,q n rs d _ O2 n0 n1 (PH hL r2) r1 (by omega) hd ⟨by omega,by omega⟩ po2⟩))))⟩)))))
 refine AE (AO 13 (Qq B.tx.nMax rfl (Cb (ET.we AB (Cb (Cp Ci (Tk (AR B.gs hr xf (EA.wa (AD (ev 10) AC) ⟨n,ws,rfl,ww,fun x => ?_⟩)))))))) CH.nd)
 have tail:∀ x:Int,WE (zP P w K mg base f cdv A outer s H E O0 Ξ) [some (.raw (.ref p)),some (.int 10),some (.int n),some (.int half),v4,v5,some (.int way),v7,some (.int d),v9,some (Ab n ws),some (.lst (L.map AN)),v12,v13] O1 (match De 13 with | .Assign _ (.Call _ [_,.BinOp _ _ e _] _ _) _ => e | _ => .Constant .none 0 ⟨0,0,0,0⟩) fun tb O2 => RT (zP P w K mg base f cdv A outer s H E O0 Ξ).K (Me fun i j => .int (i + j)) (.int x) tb O2 fun t O3 => WA (zP P w K mg base f cdv A outer s H E O0 Ξ) [some (.raw (.ref p)),some (.int 10),some (.int n),some (.int half),v4,v5,some (.int way),v7,some (.int d),v9,some (Ab n ws),some (.lst (L.map AN)),v12,v13] O3 [] fun ts O4 => ∃ i j:Int,T.int 3 :: t :: ts = [.int i,.int j]∧DP (zP P w K mg base f cdv A outer s H E O0 Ξ) [some (.raw (.ref p)),some (.int 10),some (.int n),some (.int half),v4,v5,some (.int way),v7,some (.int d),v9,some (Ab n ws),some (.lst (L.map AN)),v12,some (.int (max i j))] O4 [De 14] { nx:=N,rt:=Φ }:=fun x => by
  refine Ig Bo (fun _ _ => rfl) (ET.we (t:=.lst (Vu.map T.int)) (BD (AD AB (AD AB (AD AB (AD AB (AD (NX AB) (AD AB AC)))))) (by show 6≤sizeLine; decide)) (Bf B.gd (hr.mono (by decide)) xf po (ev 0) AB (by decide) (by decide) fun r O2 r0 r1 po2 => ?_))
  obtain ⟨t,e1,m1⟩:=DB (L:=Vu.map T.int) r0 r1
  obtain ⟨o,_,rfl⟩:=List.mem_map.mp m1
  exact Fb e1 _ (Dn _ (Ay ⟨3,x + o,rfl,last _ _ po2⟩))
 cases x with
 | none => exact ⟨false,rfl,DO (ET.we (KB AB) (tail 3))⟩
 | some m =>
  by_cases hm:m = 0
  ·subst hm
   exact ⟨false,rfl,DO (ET.we (KB AB) (tail 3))⟩
  ·exact ⟨true,by show true = (m != 0); simp [hm],Eb (tail m)⟩
end
theorem Xl {A B:Prop} {k:Bool} (h1:k = true→A) (h2:k = false→B):if k = true then A else B:=by
 cases k with
 | true => rw [if_pos rfl]; exact h1 rfl
 | false => rw [if_neg Bool.false_ne_true]; exact h2 rfl
theorem Hz {O0 O2:AJ} {p l:Addr} (po:PO O0 p O2) (h:O2 l = none):O0 l = none:=by
 obtain ⟨xs,rfl,_⟩:=po
 by_cases e:l = p
 ·rw [e,AF] at h; cases h
 ·rw [AV e] at h; exact h
theorem Gm {α β:Type} {f:α→β}:∀ (L:List α) (k:Nat),(L.map f).eraseIdx k = (L.eraseIdx k).map f
 | [],_ => rfl
 | a :: L,0 => rfl
 | a :: L,k + 1 => by
  show f a :: (L.map f).eraseIdx k = f a :: (L.eraseIdx k).map f
  rw [Gm L k]
section
variable {P:Program} {w:World} {K:PySem.W.Frag} {mg:Str→Option Value} {base:Heap} {f:Addr} {cdv:Value} {A:Around} {outer:List Env} {s:Shared} {H:Hp} {E:XK} {O0 O1:AJ} {Ξ:Value→AJ→Prop} {p:Addr} {n d half way:Int} {L:List (Int × Int)} {v4 v5 v9 v10 v11 v12 v13:Option T} {Φ:Bb} {N:Il} {ss:List Stmt} {Ψ:Es}
theorem Ts {l:Addr} {ws:List (Int × Int)} {v7:Option T} (B:HasP P w K mg base) (hr:Room 4 (zP P w K mg base f cdv A outer s H E O0 Ξ).X.A) (xf:XFly (zP P w K mg base f cdv A outer s H E O0 Ξ).X (zP P w K mg base f cdv A outer s H E O0 Ξ).W) (po:PO O0 p O1) (hlO:O1 l = none) (n0:3≤n) (n1:n≤10) (hd:0≤d∧d≤15) (ww:WebA n ws) (hL:JM n L) (hl:L.length≤110) (q:MU O0 p Φ) :
  DP (zP P w K mg base f cdv A outer s H E O0 Ξ) [some (.raw (.ref p)),some (.int 10),some (.int n),some (.int half),v4,v5,some (.int way),v7,some (.int d),v9,some (Ab n ws),some (.raw (.ref l)),v12,v13] (AZ O1 l (L.map AN)) [De 12,De 13,De 14] { nx:=N,rt:=Φ }:=by
 have sb:=AQ
 have fin:∀ {v5:Option T} {O2:AJ} {M:List (Int × Int)},PO O0 p O2→O2 l = none→JM n M→M.length≤120→DP (zP P w K mg base f cdv A outer s H E O0 Ξ) [some (.raw (.ref p)),some (.int 10),some (.int n),some (.int half),v4,v5,some (.int way),v7,some (.int d),v9,some (Ab n ws),some (.raw (.ref l)),v12,v13] (AZ O2 l (M.map AN)) [De 13,De 14] { nx:=N,rt:=Φ }:=fun {v5 O2 M} po2 hl2 hM hm => by
  refine BQ (p:=l) (n:=11) AF (Hz po2 hl2) rfl ?_
  rw [Ap hl2]
  exact Tr (W:=.non) B hr xf po2 n0 n1 hd ww hM hm v7 q
 refine AE (Ng (WW.wt (Nd (NZ Kc (Ak _) (Cv B.gd (hr.mono (by decide)) xf po hlO (ev 0) AB (by decide) (by decide) fun r O2 r0 r1 po2 hl2 => ET.we AB (NW _ ⟨_,rfl,Xl (fun _ => ?_) (fun _ => ?_)⟩))))))
 ·refine Kx (EB.wt (Ij (BP B.gl (hr.mono (by decide)) xf (AD (At (AD (ev 2) (AD (MH B.tx.nTuple AF (ev 11)) AC)) (by show 2≤sizeLine; decide)) (AD (ev 8) AC)) ⟨n,L,d,rfl,⟨by omega,by omega⟩,by omega,by omega,rfl⟩) AB) (Xl (fun _ => ?_) (fun _ => Al (fin po2 hl2 hL (by omega)))))
  refine AE (AO 5 (Cv B.gd (hr.mono (by decide)) xf po2 hl2 (ev 0) (BO (ev 2) AB) (by omega) (by omega) fun one O3 o0 o1 po3 hl3 => ?_) CH.nd)
  refine AG (Aj (CD (ET.we (ev 11) ⟨l,rfl,⟨_,AF⟩,HQ (Cb (ET.we (ev 5) (Cb (Cp Ci (ET.we (BH (ev 5) AB) (Cv B.gd (hr.mono (by decide)) xf po3 hl3 (ev 0) (BO (BO (ev 2) AB) (ev 5)) (by omega) (by omega) fun r2 O4 s0 s1 po4 hl4 => Dn _ (Ay ⟨by show 2≤sizeLine; decide,_,AF,by rw [List.length_map]; omega,?_⟩)))))))⟩)))
  rw [BA,show L.map AN ++ [T.tup [.int one,.int (one + 1 + r2)]] = (L ++ [(one,one + 1 + r2)]).map AN by rw [List.map_append]; rfl]
  refine fin po4 hl4 (Ep hL fun z hz => ?_) (by rw [List.length_append]; simp; omega)
  rw [List.mem_singleton.mp hz]
  dsimp only
  omega
 ·exact DO (Al (fin po2 hl2 hL (by omega)))
theorem JP (B:HasP P w K mg base) (hr:Room 4 (zP P w K mg base f cdv A outer s H E O0 Ξ).X.A) (xf:XFly (zP P w K mg base f cdv A outer s H E O0 Ξ).X (zP P w K mg base f cdv A outer s H E O0 Ξ).W) (po:PO O0 p O1) (ok:OkP n d L) (q:MU O0 p Φ) :
  DP (zP P w K mg base f cdv A outer s H E O0 Ξ) (Tq p n half v4 v5 way L d v9 v10 v11 v12 v13) O1 [De 9,De 10,De 11,De 12,De 13,De 14] { nx:=N,rt:=Φ }:=by
 have sb:=AQ
 have n0:=ok.n0
 have n1:=ok.n1
 have hl:=ok.hl
 refine AE (AO 10 (AR B.gw (hr.mono (by decide)) xf (EA.wa (AD (ev 2) (AD (ev 7) AC)) ⟨n,L,rfl,by omega,LZ ok.hL (by omega),fun rs r1 r2 r3 => ?_⟩)) CH.nd)
 have h3:=Vr ok.h3 r2
 have pp:=PH ok.hL r2
 have ww:WebA n rs:=⟨by omega,by omega,pp,by omega⟩
 refine AE (AO 11 (MG B.tx.nList (BF (ev 10) AB) fun l hlO => ?_) CH.nd)
 refine AE (BR Aa.own rfl (Gb B.tx.nRange (Cb (Cv B.gd (hr.mono (by decide)) xf po hlO (ev 0) AB (by decide) (by decide) fun r O2 t0 t1 po2 hl2 => Ay ⟨r,rfl,by omega,by omega,fun i ρ' O' => i≤3∧∃ (M:List (Int × Int)) (v12:Option T) (O3:AJ),ρ' = [some (.raw (.ref p)),some (.int 10),some (.int n),some (.int half),v4,v5,some (.int way),some (.lst (L.map AN)),some (.int d),v9,some (Ab n rs),some (.raw (.ref l)),v12,v13]∧O' = AZ O3 l (M.map AN)∧PO O0 p O3∧O3 l = none∧3≤M.length + i∧M.length≤100∧JM n M,⟨by omega,rs,v12,O2,rfl,rfl,po2,hl2,by omega,by omega,Tp pp⟩,?_,?_⟩))))
 ·rintro i t _ _ e ⟨_,M,v12,O3,rfl,rfl,po3,hl3,hm,hm2,hM⟩
  obtain ⟨hi,rfl⟩:=BY e
  have hi3:i < 3:=by omega
  refine ⟨[some (.raw (.ref p)),some (.int 10),some (.int n),some (.int half),v4,v5,some (.int way),some (.lst (L.map AN)),some (.int d),v9,some (Ab n rs),some (.raw (.ref l)),some (.int (0 + (i:Int))),v13],AT 12 CH.nd (by show 12 < 14; decide),?_⟩
  refine AG (Aj (Nt (ET.we (ev 11) ⟨l,rfl,⟨_,AF⟩,Cv (m:=((M.map AN).length:Int)) B.gd (hr.mono (by decide)) xf po3 hl3 (ev 0) (QH B.tx.nLen (ev 11) AF) (by rw [List.length_map]; omega) (by rw [List.length_map]; omega) fun k O4 k0 k1 po4 hl4 => ?_⟩)))
  rw [List.length_map] at k1
  have hk:k.toNat < M.length:=by omega
  refine ⟨_,k,AN M[k.toNat],rfl,AF,k0,by omega,by rw [List.length_map]; omega,by rw [List.getElem?_map,List.getElem?_eq_getElem hk]; rfl,?_⟩
  refine ⟨by omega,M.eraseIdx k.toNat,_,O4,rfl,by rw [BA,Gm],po4,hl4,?_,?_,fun z hz => hM z (List.mem_of_mem_eraseIdx hz)⟩
  ·have:=List.length_eraseIdx_of_lt hk
   omega
  ·have:=List.length_eraseIdx_of_lt hk
   omega
 ·rintro _ _ ⟨_,M,v12,O3,rfl,rfl,po3,hl3,hm,hm2,hM⟩
  exact Ts B hr xf po3 hl3 n0 n1 ok.hd ww hM (by omega) q
end
theorem PJ {n m:Int} {L:List (Int × Int)} (h:JM n L) (hn:n≤m):JM m L:=fun q hq => by
 have:=h q hq
 omega
section
variable {P:Program} {w:World} {K:PySem.W.Frag} {mg:Str→Option Value} {base:Heap} {f:Addr} {cdv:Value} {A:Around} {outer:List Env} {s:Shared} {H:Hp} {E:XK} {O0 O1:AJ} {Ξ:Value→AJ→Prop} {p:Addr} {n d half way:Int} {L:List (Int × Int)} {v4 v5 v9 v10 v11 v12 v13:Option T} {Φ:Bb} {N:Il} {ss:List Stmt} {Ψ:Es}
theorem Tt (B:HasP P w K mg base) (hr:Room 4 (zP P w K mg base f cdv A outer s H E O0 Ξ).X.A) (xf:XFly (zP P w K mg base f cdv A outer s H E O0 Ξ).X (zP P w K mg base f cdv A outer s H E O0 Ξ).W) (po:PO O0 p O1) (ok:OkP n d L) (hf:3≤half∧half≤5) (q:MU O0 p Φ) :
  DP (zP P w K mg base f cdv A outer s H E O0 Ξ) (Tq p n half v4 v5 way L d v9 v10 v11 v12 v13) O1 [De 8,De 9,De 10,De 11,De 12,De 13,De 14] { nx:=N,rt:=Φ }:=by
 have sb:=AQ
 refine AE (Au (EW.eb (DX (EG (ev 6) AB) fun _ => DX (RM (EE AB (ev 3) (.inl ⟨by decide,by decide⟩)) (ev 1)) fun _ => Do (Ij (ev 3) AB))) (fun h => ?_) (fun _ => Al (JP B hr xf po ok q)))
 refine AE (Hu 2 8 rfl CH.nd (EA.wa (AD (EE AB (ev 3) (.inl ⟨by decide,by decide⟩)) (AD (ev 3) AC)) ⟨_,_,rfl,?_⟩))
 refine AE (AO 7 (CW (EA.wa AC ⟨Nat.zero_le _,fun l hlO => ?_⟩)) CH.nd)
 refine AG (BR Aa.own rfl (EI.wi (Ah B.tx.nRange (ev 3) ⟨by omega,by omega⟩) ⟨fun i ρ' O' => ∃ v5,ρ' = [some (.raw (.ref p)),some (.int 10),some (.int (2 * half)),some (.int half),v4,v5,some (.int way),some (.raw (.ref l)),some (.int half),v9,v10,v11,v12,v13]∧O' = AZ O1 l ((PZ half i).map AN),⟨v5,rfl,rfl⟩,?_,?_⟩))
 ·rintro i t _ _ e ⟨v5,rfl,rfl⟩
  obtain ⟨hi,rfl⟩:=BY e
  rw [Int.zero_add]
  have hl1:=Hy (h:=half) (by omega) i
  refine ⟨[some (.raw (.ref p)),some (.int 10),some (.int (2 * half)),some (.int half),v4,some (.int (i:Int)),some (.int way),some (.raw (.ref l)),some (.int half),v9,v10,v11,v12,v13],AT 5 CH.nd (by show 5 < 14; decide),?_⟩
  refine AG (Aj (EM (ET.we (ev 7) ⟨l,rfl,⟨_,AF⟩,ET.we (t:=.lst (((List.range half.toNat).map fun (b:Nat) => ((i:Int),half + (b:Int))).map AN)) (ET.cast (By ["_law_other"] [("_law_one",5),("_law_half",3)] (List.range half.toNat) (fun (j:Nat) => T.int (j:Int)) (fun (j:Nat) => AN ((i:Int),half + (j:Int))) rfl (Ca (AA Dp) UG (by decide +kernel)) (EI.cast (Ah B.tx.nRange (ev 3) ⟨by omega,by omega⟩) ?_) (by rw [List.length_range]; omega) fun x hx => ⟨[some (.int (x:Int)),some (.int (i:Int)),some (.int half)],fun X' Oe He is O' => ?_⟩) ?_) ⟨_,_,rfl,AF,by simp only [List.length_map,List.length_range]; omega,_,rfl,?_⟩⟩)))
  ·unfold Ed
   simp
  ·obtain ⟨cl,s',H',fp,rfl⟩:=is
   exact ⟨AT 0 Vt (by decide),DM (ev 1) (BH (ev 2) (ev 0))⟩
  ·rw [List.map_map]
   rfl
  ·rw [BA,JO,List.map_append]
 ·rintro _ _ ⟨v5,rfl,rfl⟩
  rw [BI]
  refine BQ (p:=l) (n:=7) AF (Hz po hlO) rfl ?_
  rw [Ap hlO]
  have h2:2 * half≤10:=by
   simp only [Bool.and_eq_true,decide_eq_true_eq] at h
   exact h.2.1
  have hl2:=Hy (h:=half) (by omega) half.toNat
  exact JP B hr xf po ⟨by omega,h2,by omega,Tn (by omega) (by omega),by omega,To hf.1 (by omega)⟩ q
theorem Vv (B:HasP P w K mg base) (hr:Room 4 (zP P w K mg base f cdv A outer s H E O0 Ξ).X.A) (xf:XFly (zP P w K mg base f cdv A outer s H E O0 Ξ).X (zP P w K mg base f cdv A outer s H E O0 Ξ).W) (po:PO O0 p O1) (ok:OkP n d L) (hf:3≤half∧half≤5) (q:MU O0 p Φ) :
  DP (zP P w K mg base f cdv A outer s H E O0 Ξ) (Tq p n half v4 v5 way L d v9 v10 v11 v12 v13) O1 [De 7,De 8,De 9,De 10,De 11,De 12,De 13,De 14] { nx:=N,rt:=Φ }:=by
 have sb:=AQ
 have sz:sizeLine = 16777216:=sizeLine_eq
 have hu:(zP P w K mg base f cdv A outer s H E O0 Ξ).X.A.units + 102 < cLine:=by have:=hr.un; omega
 have lc:∀ {ρ:List (Option T)} {O:AJ} {v:List (Option T)} {e:Expr} (h3:ρ[3]? = some (some (.int half))),True:=fun _ => trivial
 refine AE (Au (EW.eb (DX (EB.cast (BE (LK hu) rfl (OA (t:=.int way) (us:=[2,3].map T.int) (by rw [CF]) Bg (by show 0≤100; decide)) (ev 6) (At (AD AB (AD AB AC)) (by show 2≤sizeLine; decide))) (by rw [CG])) fun _ => Do (RM (EE AB (ev 3) (.inl ⟨by decide,by decide⟩)) (ev 1)))) (fun h => ?_) (fun _ => Al (Tt B hr xf po ok hf q)))
 have h2:2 * half≤10:=by
  simp only [Bool.and_eq_true,decide_eq_true_eq,id_eq] at h
  exact h.2
 refine AE (Hu 2 8 rfl CH.nd (EA.wa (AD (EE AB (ev 3) (.inl ⟨by decide,by decide⟩)) (AD AB AC)) ⟨_,_,rfl,?_⟩))
 refine AE (AO 9 (Cp Ci (ET.we AB (Bf (m:=max 1 ((half - 1) / 2)) B.gd (hr.mono (by decide)) xf po (ev 0) (DL B.tx.nMax rfl AB (Ej (BO (ev 3) AB) AB ⟨by decide,by decide⟩)) (by omega) (by omega) fun r O2 r0 r1 po2 => Dn _ ?_))) CH.nd)
 have hsL:(PD half).length = half.toNat:=by simp [PD]
 have hr1:=Hv (m:=half) (st:=1) (bg:=0)
 have hr2:=Hv (m:=half) (st:=1 + r) (bg:=half)
 have hr3:=Hv (m:=2 * half) (st:=1) (bg:=0)
 refine AE (AO 7 (ET.we (t:=.lst ((PD half ++ KP half 1 0 ++ KP half (1 + r) half).map AN)) (ET.cast (HX (HX (us:=(KP half 1 0).map AN) (By ["_law_at"] [("_law_half",3)] (List.range half.toNat) (fun (j:Nat) => T.int (j:Int)) (fun (j:Nat) => AN ((j:Int),half + (j:Int))) rfl (Ca (AA Dp) UG (by decide +kernel)) (EI.cast (Ah B.tx.nRange (ev 3) ⟨by omega,by omega⟩) (by unfold Ed; simp)) (by rw [List.length_range]; omega) fun x hx => ⟨[some (.int (x:Int)),some (.int half)],fun X' Oe He is O' => ?c1⟩) (BP B.gr (hr.mono (by decide)) xf (AD (ev 3) (AD AB (AD AB AC))) ⟨half,1,0,rfl,by omega,by omega,rfl⟩) ?l1) (BP B.gr (hr.mono (by decide)) xf (AD (ev 3) (AD (ev 9) (AD (ev 3) AC))) ⟨half,1 + r,half,rfl,by omega,by omega,rfl⟩) ?l2) ?t1) ?k1) CH.nd)
 case c1 =>
  obtain ⟨cl,s',H',fp,rfl⟩:=is
  exact ⟨AT 0 Ri (by decide),DM (ev 0) (BH (ev 1) (ev 0))⟩
 case l1 =>
  simp only [List.length_map,List.length_range]
  omega
 case l2 =>
  simp only [List.length_map,List.length_append,List.length_range]
  omega
 case t1 =>
  rw [List.map_append,List.map_append]
  unfold PD
  rw [List.map_map]
  rfl
 case k1 =>
  have ok2:OkP (2 * half) 3 (PD half ++ KP half 1 0 ++ KP half (1 + r) half):=⟨by omega,h2,by omega,Ep (Ep (Rg (by omega) (by omega)) (PJ (n:=half) (LY (by omega) (by omega) (by omega) (by omega)) (by omega))) (LY (by omega) (by omega) (by omega) (by omega)),by simp only [List.length_append]; omega,(Rh hf.1).left.left⟩
  refine AG (Au (EG (ev 6) AB) (fun _ => ?_) (fun _ => Al (Tt B hr xf po2 ok2 hf q)))
  refine AG (AO 7 (ET.we (t:=.lst ((KP (2 * half) 1 0 ++ PD half).map AN)) (ET.cast (HX (BP B.gr (hr.mono (by decide)) xf (AD (ev 2) (AD AB (AD AB AC))) ⟨2 * half,1,0,rfl,by omega,by omega,rfl⟩) (By ["_law_at"] [("_law_half",3)] (List.range half.toNat) (fun (j:Nat) => T.int (j:Int)) (fun (j:Nat) => AN ((j:Int),half + (j:Int))) rfl (Ca (AA Dp) UG (by decide +kernel)) (EI.cast (Ah B.tx.nRange (ev 3) ⟨by omega,by omega⟩) (by unfold Ed; simp)) (by rw [List.length_range]; omega) fun x hx => ⟨[some (.int (x:Int)),some (.int half)],fun X' Oe He is O' => ?c2⟩) ?l3) ?t2) ?k2) CH.nd)
  case c2 =>
   obtain ⟨cl,s',H',fp,rfl⟩:=is
   exact ⟨AT 0 Ri (by decide),DM (ev 0) (BH (ev 1) (ev 0))⟩
  case l3 =>
   simp only [List.length_map,List.length_range]
   omega
  case t2 =>
   rw [List.map_append]
   unfold PD
   rw [List.map_map]
   rfl
  case k2 =>
   exact Tt B hr xf po2 ⟨by omega,h2,by omega,Ep (LY (by omega) (by omega) (by omega) (by omega)) (Rg (by omega) (by omega)),by simp only [List.length_append]; omega,(Rh hf.1).right⟩ hf q
def PK:Ch:=fun ts O Φ _ => ∃ (p:Addr) (xs:List T),ts = [.raw (.ref p),.int 10]∧O p = some xs∧GD xs∧MU O p Φ
theorem Qr {fd:FuncData} (F:Fun K "_law_part_of" "_law_part_of" Dp f fd) (B:HasP P w K mg base):FnOk P w K mg base (CXe P w) 5 f fd ["_law_pen","_law_most"] (DH K PK):=by
 refine AY F CH ?_ ?_
 ·rintro ts O Φ Ξ ⟨p,xs,rfl,_⟩
  rfl
 ·rintro cdv A outer s H E O Ξ hr xf _ Φ ⟨p,xs,rfl,hp,px,q⟩
  have sb:=AQ
  refine AE (AO 2 (Cp Ci (ET.we AB (Bf (m:=8) B.gd (hr.mono (by decide)) xf (PO.start hp px) (ev 0) (ET.cast (BO (ev 1) AB) rfl) (by decide) (by decide) fun r O1 r0 r1 po => Dn _ ?_))) CH.nd)
  have hn:3≤3 + r∧3 + r≤10:=by omega
  generalize 3 + r = n at hn
  refine AE (AO 3 (ET.we (DL B.tx.nMax rfl AB (Ej (ev 2) AB ⟨by decide,by decide⟩)) ?_) CH.nd)
  have hf:3≤max 3 (n / 2)∧max 3 (n / 2)≤5:=by omega
  generalize max 3 (n / 2) = half at hf
  refine AE (AO 4 (CW (EA.wa AC ⟨Nat.zero_le _,fun l hlO => ?_⟩)) CH.nd)
  refine AE (BR Aa.own rfl (EI.wi (Ah B.tx.nRange (ev 2) ⟨by omega,by omega⟩) ⟨fun i ρ' O' => i≤10∧∃ v5,ρ' = [some (.raw (.ref p)),some (.int 10),some (.int n),some (.int half),some (.raw (.ref l)),v5,none,none,none,none,none,none,none,none]∧O' = AZ O1 l ((PF i).map AN),⟨by omega,none,rfl,rfl⟩,?_,?_⟩))
  ·rintro i t _ _ e ⟨hi10,v5,rfl,rfl⟩
   obtain ⟨hi,rfl⟩:=BY e
   rw [Int.zero_add]
   have hl1:=Hx i hi10
   refine ⟨[some (.raw (.ref p)),some (.int 10),some (.int n),some (.int half),some (.raw (.ref l)),some (.int (i:Int)),none,none,none,none,none,none,none,none],AT 5 CH.nd (by show 5 < 14; decide),?_⟩
   refine AG (Aj (EM (ET.we (ev 4) ⟨l,rfl,⟨_,AF⟩,ET.we (t:=.lst (((List.range i).map fun (a:Nat) => ((a:Int),(i:Int))).map AN)) (ET.cast (By ["_law_other"] [("_law_one",5)] (List.range i) (fun (j:Nat) => T.int (j:Int)) (fun (j:Nat) => AN ((j:Int),(i:Int))) rfl (Ca (AA Dp) UG (by decide +kernel)) (EI.cast (Ah B.tx.nRange (ev 5) ⟨by omega,by omega⟩) ?_) (by rw [List.length_range]; omega) fun x hx => ⟨[some (.int (x:Int)),some (.int (i:Int))],fun X' Oe He is O' => ?_⟩) ?_) ⟨_,_,rfl,AF,by simp only [List.length_map,List.length_range]; omega,by omega,_,rfl,?_⟩⟩)))
   ·unfold Ed
    simp
   ·obtain ⟨cl,s',H',fp,rfl⟩:=is
    exact ⟨AT 0 Vs (by decide),DM (ev 0) (ev 1)⟩
   ·rw [List.map_map]
    rfl
   ·rw [BA,JN,List.map_append]
  ·rintro _ _ ⟨_,v5,rfl,rfl⟩
   rw [BI]
   refine BQ (p:=l) (n:=4) AF (Hz po hlO) rfl ?_
   rw [Ap hlO]
   refine AE (AO 6 (Bf B.gd (hr.mono (by decide)) xf po (ev 0) AB (by decide) (by decide) fun way O2 w0 w1 po2 => ?_) CH.nd)
   refine AE (Hu 7 8 rfl CH.nd (EA.wa (AD (BP B.gr (hr.mono (by decide)) xf (AD (ev 2) (AD AB (AD AB AC))) ⟨n,1,0,rfl,by omega,by omega,rfl⟩) (AD AB AC)) ⟨_,_,rfl,?_⟩))
   have hrl:=Hv (m:=n) (st:=1) (bg:=0)
   have ok1:OkP n 2 (KP n 1 0):=⟨hn.1,hn.2,by omega,LY (by omega) (by omega) (by omega) (by omega),by omega,Vq hn.1⟩
   have hel:=Hx n.toNat (by omega)
   refine AE (Au (EW.eb (DX (EG (ev 6) AB) fun _ => Do (Ij (ev 2) AB))) (fun h => ?_) (fun _ => Al (Vv B hr xf po2 ok1 hf q)))
   refine AG (Hu 7 8 rfl CH.nd (EA.wa (AD (ev 4) (AD (BO (ev 2) AB) AC)) ⟨_,_,rfl,?_⟩))
   exact Vv B hr xf po2 ⟨hn.1,hn.2,by omega,Tl (by omega),by omega,Tm (by omega)⟩ hf q
end
end K24
namespace L2
open PySem PySem.Spec PyProof.Rows
section
variable {X:Cx} {pos:Pos}
theorem Vw {v w u:V} {us:List Value} (r:Vals [v,w,u] us):∃ u1 u2 u3,us = [u1,u2,u3]∧RelV v u1∧RelV w u2∧RelV u u3:=by
 cases r with
 | cons p q =>
  cases q with
  | cons p' q' =>
   cases q' with
   | cons p2 q2 =>
    cases q2
    exact ⟨_,_,_,rfl,p,p',p2⟩
def Vx (i j m:Nat) (ta:TA):TS:=fun D σ H => ta σ H fun vs H1 => ∃ v w u,vs = [v,w,u]∧D.nx (((σ.set i (some v)).set j (some w)).set m (some u)) H1
theorem Qs {i j m:Nat} {x y z:Str} {a b c:Expr} {ta:TA} {px py pz pt:Pos} {kt k2 pt2} (hc:X.calm = true) (hN:X.N.Nodup) (hi:X.N[i]? = some x) (hj:X.N[j]? = some y) (hm:X.N[m]? = some z) (hij:i≠j) (him:i≠m) (hjm:j≠m)
  (hx:X.env.scope.names.lookup x = some .local) (hy:X.env.scope.names.lookup y = some .local) (hz:X.env.scope.names.lookup z = some .local) (ha:PA X [a,b,c] ta)
  (hw:swappedStores [.Tuple [.Name x px,.Name y py,.Name z pz] kt pt] (.Tuple [a,b,c] k2 pt2) X.env = pure (some [x,y,z]))
  (hs:swapsWithSole [.Tuple [.Name x px,.Name y py,.Name z pz] kt pt] (.Tuple [a,b,c] k2 pt2) pos.line X.env = pure false) :
  PS X (.Assign [.Tuple [.Name x px,.Name y py,.Name z pz] kt pt] (.Tuple [a,b,c] k2 pt2) pos) (Vx i j m ta):=by
 intro pins s σ H D I h
 rw [exec_Assign_arm]
 refine wpAny_bind (wpAny_standAt ?_)
 rw [hs]
 refine wpAny_bind (wpAny_pure ?_)
 rw [if_neg (by decide)]
 refine wpAny_bind (Tuple_ (Aq (ha _ pins s σ H _ I h) fun us s1 ⟨vs,H1,I1,r1,q1⟩ => ?_))
 obtain ⟨v,w,u,e1,q1⟩:=q1
 subst e1
 obtain ⟨u1,u2,u3,rfl,rv,rw',ru⟩:=Vw r1
 refine wpAny_newObj_type ?_ (by show 3≤sizeLine; decide)
 have I2:Inv X pins σ H1 { s1 with heap:=s1.heap.push { cls:=.type "tuple",data:=.seq [u1,u2,u3].toArray } }:=I1.kept (t':=s1.toks) fun b o e => Heap.get?_push_of_some _ e
 rw [hw]
 refine wpAny_bind (wpAny_pure ?_)
 show wpAny (model X.prog X.w) X.A (do rule "assign.swapped-stores"; let items ← unpackItems (.ref s1.heap.objs.size) 3 none; assignInOrder [fun v => bindName X.env z v,fun v => bindName X.env y v,fun v => bindName X.env x v] items.reverse; pure Flow.next) _ _ _
 refine wpAny_bind (wpAny_rule (wpAny_bind (unpackItems_tuple (items:=#[u1,u2,u3]) (I.ok.hd hc) (IsTup.new s1.heap _) fun h' hx' => ?_)))
 have I3:=I2.kept (h':=h') (t':=s1.toks) fun b o e => hx' b o (Nat.ne_of_lt (Heap.lt_size e)) e
 show wpAny _ _ (assignInOrder [fun v => bindName X.env z v,fun v => bindName X.env y v,fun v => bindName X.env x v] [u3,u2,u1] >>= fun _ => pure Flow.next) _ _ _
 refine wpAny_bind (assignInOrder_cons (wpAny_bindName (BJ I3 hN hm (.inl hz) ru (fun s2 I4 => ?_) (.inr hz))))
 refine assignInOrder_cons (wpAny_bindName (BJ I4 hN hj (.inl hy) rw' (fun s3 I5 => ?_) (.inr hy)))
 refine assignInOrder_cons (wpAny_bindName (BJ I5 hN hi (.inl hx) rv (fun s4 I6 => assignInOrder_nil (wpAny_pure ?_)) (.inr hx)))
 have e:((σ.set m (some u)).set j (some w)).set i (some v) = ((σ.set i (some v)).set j (some w)).set m (some u):=by
  rw [List.set_comm _ _ hij.symm,List.set_comm _ _ him.symm,List.set_comm _ _ hjm.symm]
 rw [e] at I6
 exact ⟨_,H1,I6,q1⟩
end
end L2
namespace L2.TL
open PySem PySem.Spec PyProof.Rows
section
variable {Z:Zx} {ρ:List (Option T)} {O:AJ} {Ψ:Es}
theorem Vy {K:PySem.W.Frag} {O:AJ} {H:Hp} {vs:List V} {t u v:T} (r:Reps K O H vs [t,u,v]):∃ a b c,vs = [a,b,c]∧Rep K O H a t∧Rep K O H b u∧Rep K O H c v:=by
 obtain ⟨a,vs',rfl,h1,r'⟩:=Reps.cons_inv r
 obtain ⟨b,c,rfl,h2,h3⟩:=r'.two_inv
 exact ⟨a,b,c,rfl,h1,h2,h3⟩
theorem Qt (i j m:Nat) {x y z:Str} {a b c:Expr} {px py pz pt pos:Pos} {kt k2 pt2} (hc:Z.X.calm = true) (hN:Z.X.N.Nodup) (h:WA Z ρ O [a,b,c] fun ts O' => ∃ t u v,ts = [t,u,v]∧Ψ.nx (((ρ.set i (some t)).set j (some u)).set m (some v)) O')
  (hi:Z.X.N[i]? = some x:=by rfl) (hj:Z.X.N[j]? = some y:=by rfl) (hm:Z.X.N[m]? = some z:=by rfl) (hij:i≠j:=by decide) (him:i≠m:=by decide) (hjm:j≠m:=by decide) (hx:Z.X.env.scope.names.lookup x = some .local:=by rfl) (hy:Z.X.env.scope.names.lookup y = some .local:=by rfl) (hz:Z.X.env.scope.names.lookup z = some .local:=by rfl)
  (hw:swappedStores [.Tuple [.Name x px,.Name y py,.Name z pz] kt pt] (.Tuple [a,b,c] k2 pt2) Z.X.env = pure (some [x,y,z]):=by rfl)
  (hs:swapsWithSole [.Tuple [.Name x px,.Name y py,.Name z pz] kt pt] (.Tuple [a,b,c] k2 pt2) pos.line Z.X.env = pure false:=by rfl) :
  WS Z ρ O (.Assign [.Tuple [.Name x px,.Name y py,.Name z pz] kt pt] (.Tuple [a,b,c] k2 pt2) pos) Ψ :=
 PS.weak (Qs hc hN hi hj hm hij him hjm hx hy hz h hw hs) fun D σ H q => ⟨q.1,fun vs H' ts O' ⟨t,u,v,e,p⟩ f r => by
  subst e
  obtain ⟨v1,v2,v3,rfl,r1,r2,r3⟩:=Vy r
  exact ⟨v1,v2,v3,rfl,q.2.nx _ O' _ H' p ⟨(((q.1.step f).rl.set r1).set r2).set r3,(q.1.step f).fr⟩ f.kp⟩⟩
variable {k:Nat} {x y z x2:Str} {ta tb tc td:T} {p1 p2 p3 p4 pos:Pos}
theorem Qu (i j m l:Nat) {n:Nat} (hc:Z.X.calm = true) (hN:Z.X.N.Nodup) (hni:i < n) (hnj:j < n) (hnm:m < n) (hnl:l < n) (hi:Z.X.N[i]? = some x:=by rfl) (hj:Z.X.N[j]? = some y:=by rfl) (hm:Z.X.N[m]? = some z:=by rfl) (hl':Z.X.N[l]? = some x2:=by rfl)
  (hx:IF Z.X.env.scope x:=by first | exact Or.inl rfl | exact Or.inr rfl) (hy:IF Z.X.env.scope y:=by first | exact Or.inl rfl | exact Or.inr rfl) (hz:IF Z.X.env.scope z:=by first | exact Or.inl rfl | exact Or.inr rfl) (hx2:IF Z.X.env.scope x2:=by first | exact Or.inl rfl | exact Or.inr rfl)
  (hf:Z.X.fn x = true∨Z.X.env.scope.names.lookup x = some .local:=by first | exact .inl rfl | exact .inr rfl) (hf2:Z.X.fn y = true∨Z.X.env.scope.names.lookup y = some .local:=by first | exact .inl rfl | exact .inr rfl) (hf3:Z.X.fn z = true∨Z.X.env.scope.names.lookup z = some .local:=by first | exact .inl rfl | exact .inr rfl) (hf4:Z.X.fn x2 = true∨Z.X.env.scope.names.lookup x2 = some .local:=by first | exact .inl rfl | exact .inr rfl)
  (hs:(assignEach [.Name x p1,.Name y p2,.Name z p3,.Name x2 p4] Z.X.env).map (·.2) = assign (.Name x p1) Z.X.env :: (assignEach [.Name y p2,.Name z p3,.Name x2 p4] Z.X.env).map (·.2):=by rfl) (hs2:(assignEach [.Name y p2,.Name z p3,.Name x2 p4] Z.X.env).map (·.2) = assign (.Name y p2) Z.X.env :: (assignEach [.Name z p3,.Name x2 p4] Z.X.env).map (·.2):=by rfl) (hs3:(assignEach [.Name z p3,.Name x2 p4] Z.X.env).map (·.2) = assign (.Name z p3) Z.X.env :: (assignEach [.Name x2 p4] Z.X.env).map (·.2):=by rfl) (hs4:(assignEach [.Name x2 p4] Z.X.env).map (·.2) = assign (.Name x2 p4) Z.X.env :: (assignEach [] Z.X.env).map (·.2):=by rfl)
  (hl:(assignEach [.Name x p1,.Name y p2,.Name z p3,.Name x2 p4] Z.X.env).length = 4:=by rfl) (hst:(assignEach [.Name x p1,.Name y p2,.Name z p3,.Name x2 p4] Z.X.env).findIdx? (·.1) = none:=by rfl) :
  WG Z n ρ O (.Tuple [.Name x p1,.Name y p2,.Name z p3,.Name x2 p4] k pos) (.tup [ta,tb,tc,td]) ((((ρ.set i (some ta)).set j (some tb)).set m (some tc)).set l (some td)) :=
 PG.weak (JW hc (BK (BU hN hi hx hf) (BK (BU hN hj hy hf2) (BK (BU hN hm hz hf3) (BK (BU hN hl' hx2 hf4) Gs hs4) hs3) hs2) hs) hl hst) fun v σ H Q q => by
  obtain ⟨q1,q2,q3⟩:=q
  obtain ⟨a,xs,rfl,h1,r⟩:=q2.tup_inv
  obtain ⟨v,xs',rfl,r1,r⟩:=Reps.cons_inv r
  obtain ⟨w,u,t,rfl,r2,r3,r4⟩:=Vy r
  exact ⟨a,_,rfl,.inl (.inl h1),rfl,v,_,rfl,w,_,rfl,u,_,rfl,t,_,rfl,rfl,q3 _ ⟨(((q1.rl.set r1).set r2).set r3).set r4,q1.fr⟩ ⟨by simp,fun m hm => by rw [List.getElem?_set_ne (by omega),List.getElem?_set_ne (by omega),List.getElem?_set_ne (by omega),List.getElem?_set_ne (by omega)]⟩⟩
end
end L2.TL
namespace K24
open PySem L2 L2.TL PySem.Spec PyProof.Rows Gr
def WV (i:Nat):Stmt:=(Am Iy).getD i (.Pass ⟨0,0,0,0⟩)
def XU:Stmt→Expr
 | .For _ e _ _ _ => e
 | _ => .Constant .none 0 ⟨0,0,0,0⟩
def Tu:Stmt→List Stmt
 | .For _ _ b _ _ => b
 | _ => []
def Vz:Stmt→Expr
 | .For e _ _ _ _ => e
 | _ => .Constant .none 0 ⟨0,0,0,0⟩
def Xm:Stmt:=(Tu (WV 0)).getD 0 (.Pass ⟨0,0,0,0⟩)
def KU:List Str:=["_law_script","_law_web","_law_d","_law_g","_law_cell","_law_pen","_law_bad","_law_odd","_law_more","_law_wrong"]
theorem EZ:FnScope KU ["_law_script"] (AA Iy):=⟨rfl,rfl,rfl,by decide +kernel,rfl,by decide +kernel,by decide +kernel⟩
theorem WB:(Af ["_law_one","_law_two","_law_a","_law_b"] [(("_law_web" : Str),1)]).Nodup:=by decide +kernel
theorem WC:(Af ["_law_a","_law_b"] [(("_law_web" : Str),1),(("_law_d" : Str),2),(("_law_g" : Str),3)]).Nodup:=by decide +kernel
theorem KW {y:Str}:(dT (.tup [.str y])).depth≤100:=by simp [dT,dTs,PyData.depth,PyData.depthAll]
theorem Tv {y:Str} (h:PyData.strOk y = true):CF (kT y) = true:=by rw [CF,rdBs,CF,h]; rfl
theorem Rj {y:Str}:PyData.eqv (dT (kT y)) (dT (kT y)) = true:=by simp [dT,dTs,PyData.eqv,PyData.eqvAll]
theorem Rk {y:Str} (h:PyData.strOk y = true) (m:Nat):CF (.lst (List.replicate m (kT y))) = true:=by
 rw [CF,Ip]
 intro t ht
 rw [List.eq_of_mem_replicate ht]
 exact Tv h
theorem PL {y:Str}:∀ (m:Nat),PyData.eqvAll (dTs (List.replicate m (kT y))) (dTs (List.replicate m (kT y))) = true
 | 0 => rfl
 | m + 1 => by
  rw [List.replicate_succ,dTs,PyData.eqvAll,PL m,Rj]
  rfl
theorem JQ {y:Str}:∀ (m:Nat),PyData.depthAll (dTs (List.replicate m (kT y)))≤2
 | 0 => by simp [dTs,PyData.depthAll]
 | m + 1 => by
  have:=JQ (y:=y) m
  rw [List.replicate_succ,dTs,PyData.depthAll]
  simp only [dT,dTs,PyData.depth,PyData.depthAll]
  omega
theorem Rm {Z:Zx} {ρ:List (Option T)} {O:AJ} {a b:Expr} {pos:Pos} {y:Str} {m:Nat} (hu:Z.X.A.units + 101 < cLine) (h:PyData.strOk y = true) (ha:ET Z ρ O a (.lst (List.replicate m (kT y)))) (hb:ET Z ρ O b (.lst (List.replicate m (kT y)))):EB Z ρ O (.Compare a [.NotEq] [b] pos) false :=
 EB.cast (BE (Fj hu) (Ak _) (Nz (Rk h m) (Rk h m) (by show PyData.depthAll _ + 1≤100; have:=JQ (y:=y) m; omega)) ha hb) (by
  show (!PyData.eqvAll _ _) = false
  rw [PL]; rfl)
theorem Dt {a b:Int} {t:T} (h:CA t a b = false) {i:Int} (e:t = .int i) (h0:a≤i) (h1:i≤b):False:=by
 rw [e,Fw h0 h1] at h
 cases h
theorem Tw {d g t u:T} (h1:Ac d = false) (h2:Ac g = false) (h3:Ac t = false) (h4:Ac u = false):∀ x∈[d,g,t,u],Ac x = false:=by
 intro x hx
 simp only [List.mem_cons,List.not_mem_nil,or_false] at hx
 rcases hx with rfl | rfl | rfl | rfl
 ·exact h1
 ·exact h2
 ·exact h3
 ·exact h4
theorem Fy {n:Int} {ps:List (Int × Int)} {d g t u:T} (wa:WebA n ps) (hraw:∀ x∈[d,g,t,u],Ac x = false) (h:CA d 0 15 = false∨CA g 3 16 = false) {O:AJ} {Φ:Bb} {Ξ:Value→AJ→Prop} (q:Φ (kT "number") O):PB [.int 1,Ab n ps,d,g,t,u] O Φ Ξ :=
 .inr ⟨n,ps,d,g,t,u,rfl,hraw,wa,fun _ => q,fun d' g' e1 e2 d0 d1 g0 g1 => (by rcases h with h | h; exact Dt h e1 d0 d1; exact Dt h e2 g0 g1:False).elim⟩
theorem IA {n d g:Int} {ps:List (Int × Int)} {t u:T} (wa:WebA n ps) (hd:0≤d∧d≤15) (hg:3≤g∧g≤16) (ht:Ac t = false) (hu:Ac u = false) (h:CA t 0 (n - 1) = false∨CA u 0 (n - 1) = false) {O:AJ} {Φ:Bb} {Ξ:Value→AJ→Prop} (q:Φ (kT "place") O):PB [.int 1,Ab n ps,.int d,.int g,t,u] O Φ Ξ :=
 .inr ⟨n,ps,_,_,t,u,rfl,(by intro x hx; simp only [List.mem_cons,List.not_mem_nil,or_false] at hx; rcases hx with rfl | rfl | rfl | rfl; rfl; rfl; exact ht; exact hu),wa,(fun h => by rw [Fw hd.1 hd.2,Fw hg.1 hg.2] at h; rcases h with h | h <;> cases h),fun d' g' e1 e2 _ _ _ _ => ⟨fun _ => q,fun a b e3 e4 ha b0 b1 => (by rcases h with h | h; exact Dt h e3 (by omega) (by omega); exact Dt h e4 (by omega) (by omega):False).elim⟩⟩
section
variable {P:Program} {w:World} {K:PySem.W.Frag} {mg:Str→Option Value} {base:Heap} {f:Addr} {cdv:Value} {A:Around} {outer:List Env} {s:Shared} {H:Hp} {E:XK}
abbrev zL (P:Program) (w:World) (K:PySem.W.Frag) (mg:Str→Option Value) (base:Heap) (f:Addr) (cdv:Value) (A:Around) (outer:List Env) (s:Shared) (H:Hp) (E:XK):Zx:=zB P w K mg base KU "law" (AA Iy) f cdv A outer s H E LJ (fun _ _ => False)
structure Has (P:Program) (w:World) (K:PySem.W.Frag) (mg:Str→Option Value) (base:Heap):Prop where
 tx:Txt mg
 gd:FnT P w K mg base "_law_draw" 2 ["_law_pen","_law_many"] Da
 gp:FnT P w K mg base "_law_pen_of" 1 ["_law_cell"] RX
 gq:FnT P w K mg base "_law_part_of" 5 ["_law_pen","_law_most"] PK
 gn:FnT P w K mg base "_law_no_place" 3 ["_law_pen","_law_many"] Om
 go:FnT P w K mg base "_law_odd_of" 3 ["_law_pen","_law_low","_law_high"] Rb
 gt:FnT P w K mg base "_law_told_of" 6 ["_law_way","_law_web","_law_d","_law_g","_law_a","_law_b"] PB
 gr:FnT P w K mg base "_law_right" 7 ["_law_web","_law_d","_law_g"] Vo
def La (K:PySem.W.Frag):Sp:=fun vs H Q _ => ∃ (a:Addr) (ns:List Int),vs = [.ref a]∧SqL K H a (ns.map V.int)∧ns.length≤63∧∀ H',Q (.bl true) H'
def XV:Bb:=fun t _ => t = .bl true
theorem PM {ρ:List (Option T)} {a:Addr} {ns:List Int} {Φ:Bb} {fC:Addr} {fdC:FuncData} (hr:Room 7 (zL P w K mg base f cdv A outer s H E).X.A) (xf:XFly (zL P w K mg base f cdv A outer s H E).X (zL P w K mg base f cdv A outer s H E).W) (hS:SqL K H a (ns.map V.int)) (hn:ns.length≤63) (hρ:ρ[0]? = some (some (.raw (.ref a))))
  (FC:FnOk P w K mg base (CXe P w) 1 fC fdC ["_law_script","_law_k"] (Fn K)) (mC:mg "_law_cell_at" = some (.ref fC)) (kC:PySem.W.keepIn K (.ref fC) = true) (bC:Binds K fdC ["_law_script","_law_k"] [])
  (k:∀ ms:List Int,ms.length≤64→Φ (.lst (ms.map T.int)) LJ):HWE (zL P w K mg base f cdv A outer s H E) ρ LJ (XU (WV 1)) Φ:=by
 have sb:=AQ
 refine ⟨?_⟩
 refine Cp Jf ?_
 refine Jz (Cb (Nv FC mC kC bC (hr.mono (by decide)) xf (AD (ev 0 hρ) (AD AB AC)) ?_))
 intro σ H1 vs Q as r acc
 obtain ⟨v,u,rfl,r1,r2⟩:=r.two_inv
 cases r1.raw_inv
 cases r2.int_inv
 refine ⟨a,ns,rfl,RW as.fr.kp hS,fun c => acc _ _ _ _ ?_ (.refl as.ok) (.int c)⟩
 refine Ay ⟨by show 1≤sizeLine; decide,?_⟩
 refine TF rfl hS (ev 0 hρ) AB AB fun ms hm => ?_
 exact LF (ts:=[T.int c]) (us:=ms.map T.int) (by simp; omega) _ (k (c :: ms) (by simp; omega))
theorem PN {O:AJ} {v0 v1 v2 v3 v5 v6 v7 v8 v9:Option T} {c:Int} {Φ:Bb} {N Bk Ct:Il} (B:Has P w K mg base) (hr:Room 7 (zL P w K mg base f cdv A outer s H E).X.A) (xf:XFly (zL P w K mg base f cdv A outer s H E).X (zL P w K mg base f cdv A outer s H E).W)
  (k:∀ ρ' O',(∃ v1 v2 v3 v4 v5 v6 v7 v8 v9,ρ' = [v0,v1,v2,v3,v4,v5,v6,v7,v8,v9])→N ρ' O'):HS (zL P w K mg base f cdv A outer s H E) [v0,v1,v2,v3,some (.int c),v5,v6,v7,v8,v9] O (Tu (WV 1)) { nx:=N,rt:=Φ,bk:=Bk,ct:=Ct }:=by
 have hu:(zL P w K mg base f cdv A outer s H E).X.A.units + 101 < cLine:=by have:=hr.un; omega
 refine Be (AO 5 (AR B.gp (hr.mono (by decide)) xf (EA.wa (AD (ev 4) AC) ⟨c,rfl,fun p xs hp px => ?_⟩)) EZ.nd)
 refine Be (Su (n:=10) (AR B.gq (hr.mono (by decide)) xf (EA.wa (AD (ev 5) (AD AB AC)) ⟨p,xs,rfl,AF,px,fun n ps d g O1 n0 n1 hP pw hl hd hg po => ⟨_,Qn 1 2 3 rfl EZ.nd (by decide) (by decide) (by decide),?_⟩⟩)))
 have wa:WebA n ps:=⟨by omega,by omega,hP,by omega⟩
 refine Be (Ng (WW.wt (RO (EB.wt (EB.cast (DW (k:=true) (FY (BP B.gr hr xf (AD (ev 1) (AD (ev 2) (AD (ev 3) AC))) ⟨n,ps,d,g,rfl,wa,hd,hg,rfl⟩))) rfl) (DO ?_)))))
 refine Nc (Nb (Ih (AR B.gr hr xf ?_)))
 refine Cb (ET.we (ev 1) (Cb (Bf (m:=16) B.gd (hr.mono (by decide)) xf po (ev 5) AB (by decide) (by decide) fun r O2 r0 r1 po2 => Cb (Cp Ci (ET.we AB (Bf (m:=14) B.gd (hr.mono (by decide)) xf po2 (ev 5) AB (by decide) (by decide) fun r' O3 r0' r1' po3 => Dn _ ?_))))))
 refine Ay ⟨_,⟨n,ps,r,3 + r',rfl,wa,⟨r0,by omega⟩,⟨by omega,by omega⟩,rfl⟩,true,rfl,DO (Al ?_)⟩
 obtain ⟨ys,hy,py⟩:=po3.at
 refine Be (Qt 6 7 8 rfl EZ.nd (Cb (AR B.go (hr.mono (by decide)) xf (EA.wa (AD (ev 5) (AD AB (AD AB AC))) ⟨p,ys,0,15,rfl,hy,py,by decide,fun bad O4 b1 b2 po4 => ?_⟩))))
 obtain ⟨zs,hz,pz⟩:=po4.at
 refine Cb (AR B.go (hr.mono (by decide)) xf (EA.wa (AD (ev 5) (AD AB (AD AB AC))) ⟨p,zs,3,16,rfl,hz,pz,by decide,fun odd O5 o1 o2 po5 => ?_⟩))
 obtain ⟨ws,hw,pw'⟩:=po5.at
 refine Cb (AR B.gn (hr.mono (by decide)) xf (EA.wa (AD (ev 5) (AD (BF (ev 1) AB) AC)) ⟨p,ws,n,rfl,hw,pw',by omega,by omega,fun more O6 m1 m2 po6 => ?_⟩))
 refine Ay ⟨_,_,_,rfl,?_⟩
 refine Be (Au (k:=false) (EB.cast (BE (Fj hu) (Ak _) (Nz (t:=kT "number") (u:=kT "number") (Tv (by decide +kernel)) (Tv (by decide +kernel)) KW) (DI B.gt (hr.mono (by decide)) xf (AD AB (AD (ev 1) (AD (ev 6) (AD BN (AD BN (AD BN AC)))))) fun Φ q => .inl ⟨n,ps,_,_,_,_,rfl,b1,wa,fun d' e h0 h1 => (Dt b2 e h0 h1).elim,fun _ => q⟩) (At (AD FW AC) (by show 1≤sizeLine; decide))) (by rw [Rj]; rfl)) (fun h => by cases h) (fun _ => Al ?_))
 refine Be (AO 9 (ET.we (t:=.lst ([(bad,T.int g,T.int 0,T.int 0),(T.int d,odd,T.int 0,T.int 0),(bad,odd,more,more)].map fun x => .tup [x.1,x.2.1,x.2.2.1,x.2.2.2])) (BD (AD (At (AD (ev 6) (AD (ev 3) (AD AB (AD AB AC)))) (by show 4≤sizeLine; decide)) (AD (At (AD (ev 2) (AD (ev 7) (AD AB (AD AB AC)))) (by show 4≤sizeLine; decide)) (AD (At (AD (ev 6) (AD (ev 7) (AD (ev 8) (AD (ev 8) AC)))) (by show 4≤sizeLine; decide)) AC))) (by show 3≤sizeLine; decide)) ?_) EZ.nd)
 refine Be (Au (k:=false) (Rm (y:="number") (m:=3) hu (by decide +kernel) (ET.cast (By ["_law_one","_law_two","_law_a","_law_b"] [("_law_web",1)] [(bad,T.int g,T.int 0,T.int 0),(T.int d,odd,T.int 0,T.int 0),(bad,odd,more,more)] (fun x => .tup [x.1,x.2.1,x.2.2.1,x.2.2.2]) (fun _ => kT "number") rfl (Ca (AA Iy) KU (by decide +kernel)) (BB (ev 9)) (by show 3≤sizeLine; decide) fun x hx => ⟨[some x.1,some x.2.1,some x.2.2.1,some x.2.2.2,some (Ab n ps)],fun X' Oe He is O' => ?c1⟩) rfl) (LT (i:=3) (BD (AD (At (AD FW AC) (by show 1≤sizeLine; decide)) AC) (by show 1≤sizeLine; decide)) AB ⟨by decide,by decide⟩)) (fun h => by cases h) (fun _ => Al ?k1))
 case c1 =>
  obtain ⟨cl,s',H',fp,rfl⟩:=is
  refine ⟨Qu 0 1 2 3 rfl WB (by decide) (by decide) (by decide) (by decide),DI B.gt (hr.mono (by decide)) El (AD AB (AD (ev 4) (AD (ev 0) (AD (ev 1) (AD (ev 2) (AD (ev 3) AC)))))) fun Φ q => ?_⟩
  simp only [List.mem_cons,List.not_mem_nil,or_false] at hx
  rcases hx with rfl | rfl | rfl
  ·exact Fy wa (Tw b1 rfl rfl rfl) (.inl b2) q
  ·exact Fy wa (Tw rfl o1 rfl rfl) (.inr o2) q
  ·exact Fy wa (Tw b1 o1 m1 m1) (.inl b2) q
 case k1 =>
  refine Ha (Au (k:=false) (Rm (y:="place") (m:=3) hu (by decide +kernel) (ET.cast (By ["_law_a","_law_b"] [("_law_web",1),("_law_d",2),("_law_g",3)] [(more,T.int 0),(T.int 0,more),(more,more)] (fun x => .tup [x.1,x.2]) (fun _ => kT "place") rfl (Ca (AA Iy) KU (by decide +kernel)) (BB (ts:=[(more,T.int 0),(T.int 0,more),(more,more)].map fun x => .tup [x.1,x.2]) (BD (AD (At (AD (ev 8) (AD AB AC)) (by show 2≤sizeLine; decide)) (AD (At (AD AB (AD (ev 8) AC)) (by show 2≤sizeLine; decide)) (AD (At (AD (ev 8) (AD (ev 8) AC)) (by show 2≤sizeLine; decide)) AC))) (by show 3≤sizeLine; decide))) (by show 3≤sizeLine; decide) fun x hx => ⟨[some x.1,some x.2,some (Ab n ps),some (.int d),some (.int g)],fun X' Oe He is O' => ?_⟩) rfl) (LT (i:=3) (BD (AD (At (AD FW AC) (by show 1≤sizeLine; decide)) AC) (by show 1≤sizeLine; decide)) AB ⟨by decide,by decide⟩)) (fun h => by cases h) (fun _ => Al (k _ _ ⟨_,_,_,_,_,_,_,_,_,rfl⟩)))
  obtain ⟨cl,s',H',fp,rfl⟩:=is
  refine ⟨DJ 0 1 rfl WC (by decide) (by decide),DI B.gt (hr.mono (by decide)) El (AD AB (AD (ev 2) (AD (ev 3) (AD (ev 4) (AD (ev 0) (AD (ev 1) AC)))))) fun Φ q => ?_⟩
  simp only [List.mem_cons,List.not_mem_nil,or_false] at hx
  rcases hx with rfl | rfl | rfl
  ·exact IA wa hd hg m1 rfl (.inl m2) q
  ·exact IA wa hd hg rfl m1 (.inr m2) q
  ·exact IA wa hd hg m1 m1 (.inl m2) q
section
variable {Z:Zx} {ρ:List (Option T)} {O:AJ} {i j n:Int} {k1 k2 x y:Nat} {p1 p2 pos pos':Pos} {es:List Expr} {ps:List (Int × Int)}
theorem Cc (h:HEA Z ρ O es (ps.map AN)):HEA Z ρ O (.Tuple [.Constant (.int i) k1 p1,.Constant (.int j) k2 p2] x pos :: es) (((i,j) :: ps).map AN):=⟨XG (DM AB AB) h.out⟩
theorem IB:HEA Z ρ O [] (([]:List (Int × Int)).map AN):=⟨VD⟩
theorem PP (h:HEA Z ρ O es (ps.map AN)) (hl:ps.length≤1000):HET Z ρ O (.Tuple [.Constant (.int n) k1 p1,.Tuple es y pos'] x pos) (Ab n ps) :=
 ⟨At (AD AB (AD (At h.out (by rw [List.length_map]; exact Nat.le_trans hl (Nat.le_of_lt AQ))) AC)) (Nat.le_trans (show 2≤1000 by decide) (Nat.le_of_lt AQ))⟩
theorem PQ {W:Expr} {xs:List (Int × List (Int × Int))} (h:HET Z ρ O W (Ab n ps)) (hr:HEA Z ρ O es (xs.map fun x => Ab x.1 x.2)) (hn:Br W = true):HEA Z ρ O (W :: es) (((n,ps) :: xs).map fun x => Ab x.1 x.2):=.cons h hr hn
end
def WD:List (Int × List (Int × Int)):=[(1,[]),(3,[]),(4,[(0,1),(1,2),(2,3)])]
def WF:List (Int × Int):=[(0,3),(1,3),(2,4),(2,5),(15,16),(3,4)]
theorem Ty:∀ x∈WD,WebA x.1 x.2:=by
 intro x hx
 simp only [WD,List.mem_cons,List.not_mem_nil,or_false] at hx
 rcases hx with rfl | rfl | rfl
 ·exact ⟨by decide,by decide,(fun p hp => by cases hp),by decide⟩
 ·exact ⟨by decide,by decide,(fun p hp => by cases hp),by decide⟩
 ·refine ⟨by decide,by decide,(fun p hp => ?_),by decide⟩
  simp only [List.mem_cons,List.not_mem_nil,or_false] at hp
  rcases hp with rfl | rfl | rfl <;> (unfold EX; decide)
theorem Tz:∀ x∈WF,(0≤x.1∧x.1≤15)∧3≤x.2∧x.2≤16:=by
 intro x hx
 simp only [WF,List.mem_cons,List.not_mem_nil,or_false] at hx
 rcases hx with rfl | rfl | rfl | rfl | rfl | rfl <;> decide
theorem Qv {a1 b1 c1 a2 b2 c2 a4 b4 c4 d1 d2 d3 d4 d5 d6 d7 d8 d9:Nat} {q1 r1 s1 q2 r2 s2 q4 r4 s4 t1 t2 t3 t4 t5 t6 t7 t8 t9:Pos} {Z:Zx} {ρ:List (Option T)} {O:AJ} :
  HEA Z ρ O [.Tuple [.Constant (.int 1) a1 q1,.Tuple [] b1 r1] c1 s1,.Tuple [.Constant (.int 3) a2 q2,.Tuple [] b2 r2] c2 s2,
   .Tuple [.Constant (.int 4) a4 q4,.Tuple [.Tuple [.Constant (.int 0) d4 t4,.Constant (.int 1) d5 t5] d6 t6,.Tuple [.Constant (.int 1) d1 t1,.Constant (.int 2) d2 t2] d3 t3,.Tuple [.Constant (.int 2) d7 t7,.Constant (.int 3) d8 t8] d9 t9] b4 r4] c4 s4] (WD.map fun x => Ab x.1 x.2) :=
 PQ (xs:=[(3,[]),(4,[(0,1),(1,2),(2,3)])]) (PP (ps:=[]) IB (by decide)) (PQ (xs:=[(4,[(0,1),(1,2),(2,3)])]) (PP (ps:=[]) IB (by decide)) (PQ (xs:=[]) (PP (ps:=[(0,1),(1,2),(2,3)]) (Cc (Cc (Cc IB))) (by decide)) .nil rfl) rfl) rfl
theorem Qw {a1 a2 a3 b1 b2 b3 c1 c2 c3 d1 d2 d3 e1 e2 e3 f1 f2 f3:Nat} {p1 p2 p3 q1 q2 q3 r1 r2 r3 s1 s2 s3 t1 t2 t3 u1 u2 u3:Pos} {Z:Zx} {ρ:List (Option T)} {O:AJ} :
  HEA Z ρ O [.Tuple [.Constant (.int 0) a1 p1,.Constant (.int 3) a2 p2] a3 p3,.Tuple [.Constant (.int 1) b1 q1,.Constant (.int 3) b2 q2] b3 q3,.Tuple [.Constant (.int 2) c1 r1,.Constant (.int 4) c2 r2] c3 r3,.Tuple [.Constant (.int 2) d1 s1,.Constant (.int 5) d2 s2] d3 s3,.Tuple [.Constant (.int 15) e1 t1,.Constant (.int 16) e2 t2] e3 t3,.Tuple [.Constant (.int 3) f1 u1,.Constant (.int 4) f2 u2] f3 u3] (WF.map AN) :=
 Cc (Cc (Cc (Cc (Cc (Cc IB)))))
theorem Qx {es es6:List Expr} {p1 p2 p3 p4:Pos} {ss:List Stmt} {a:Addr} (B:Has P w K mg base) (hr:Room 7 (zL P w K mg base f cdv A outer s H E).X.A) (xf:XFly (zL P w K mg base f cdv A outer s H E).X (zL P w K mg base f cdv A outer s H E).W) {Ψ:Es} (h:HEA (zL P w K mg base f cdv A outer s H E) (CZ KU [.raw (.ref a)]) LJ es (WD.map fun x => Ab x.1 x.2))
  (h6:∀ ρ,HEA (zL P w K mg base f cdv A outer s H E) ρ LJ es6 (WF.map AN)) (k:∀ v1 v2 v3,HS (zL P w K mg base f cdv A outer s H E) [some (.raw (.ref a)),v1,v2,v3,none,none,none,none,none,none] LJ ss Ψ) :
  HS (zL P w K mg base f cdv A outer s H E) (CZ KU [.raw (.ref a)]) LJ (.For (Vz (WV 0)) (.List es p1) [.For (Vz Xm) (.List es6 p3) (Tu Xm) [] p4] [] p2 :: ss) Ψ:=by
 refine Be (LI Aa.own rfl h (by show 3≤sizeLine; decide) (fun i ρ' O' => LJ = O'∧∃ v1 v2 v3,ρ' = [some (.raw (.ref a)),v1,v2,v3,none,none,none,none,none,none]) ⟨rfl,none,none,none,rfl⟩ ?_ ?_)
 ·rintro i t _ _ e ⟨rfl,v1,v2,v3,rfl⟩
  rw [List.getElem?_map] at e
  cases ec:WD[i]? with
  | none => rw [ec] at e; cases e
  | some x =>
   rw [ec] at e
   cases e
   have wa:=Ty x (List.mem_of_getElem? ec)
   refine ⟨[some (.raw (.ref a)),some (Ab x.1 x.2),v2,v3,none,none,none,none,none,none],AT 1 EZ.nd (by show 1 < 10; decide),?_⟩
   refine Ha (LI Aa.own rfl (h6 _) (by show 6≤sizeLine; decide) (fun i ρ' O' => LJ = O'∧∃ v2 v3,ρ' = [some (.raw (.ref a)),some (Ab x.1 x.2),v2,v3,none,none,none,none,none,none]) ⟨rfl,v2,v3,rfl⟩ ?_ ?_)
   ·rintro j t _ _ e ⟨rfl,v2,v3,rfl⟩
    rw [List.getElem?_map] at e
    cases ec:WF[j]? with
    | none => rw [ec] at e; cases e
    | some y =>
     rw [ec] at e
     cases e
     have hy:=Tz y (List.mem_of_getElem? ec)
     refine ⟨[some (.raw (.ref a)),some (Ab x.1 x.2),some (.int y.1),some (.int y.2),none,none,none,none,none,none],DJ 2 3 rfl EZ.nd (by show 2 < 10; decide) (by show 3 < 10; decide),?_⟩
     exact Ha (Au (k:=false) (EB.cast (DW (k:=true) (FY (BP B.gr hr xf (AD (ev 1) (AD (ev 2) (AD (ev 3) AC))) ⟨x.1,x.2,y.1,y.2,rfl,wa,hy.1,hy.2,rfl⟩))) rfl) (fun h => by cases h) (fun _ => Al ⟨rfl,_,_,rfl⟩))
   ·rintro _ _ ⟨rfl,v2,v3,rfl⟩
    exact ⟨rfl,_,_,_,rfl⟩
 ·rintro _ _ ⟨rfl,v1,v2,v3,rfl⟩
  exact k v1 v2 v3
theorem PR {a:Addr} {ns:List Int} {fC:Addr} {fdC:FuncData} (B:Has P w K mg base) (hr:Room 7 (zL P w K mg base f cdv A outer s H E).X.A) (xf:XFly (zL P w K mg base f cdv A outer s H E).X (zL P w K mg base f cdv A outer s H E).W) (hS:SqL K H a (ns.map V.int)) (hn:ns.length≤63)
  (FC:FnOk P w K mg base (CXe P w) 1 fC fdC ["_law_script","_law_k"] (Fn K)) (mC:mg "_law_cell_at" = some (.ref fC)) (kC:PySem.W.keepIn K (.ref fC) = true) (bC:Binds K fdC ["_law_script","_law_k"] []):HS (zL P w K mg base f cdv A outer s H E) (CZ KU [.raw (.ref a)]) LJ (Am Iy) { nx:=fun _ O' => XV .non O',rt:=XV }:=by
 refine Qx B hr xf Qv (fun _ => Qw) fun v1 v2 v3 => ?_
 refine Be (QK Aa.own rfl (PM hr xf hS hn rfl FC mC kC bC fun ms hm => ⟨ms.map T.int,rfl,fun i ρ' O' => ∃ v1 v2 v3 v4 v5 v6 v7 v8 v9,ρ' = [some (.raw (.ref a)),v1,v2,v3,v4,v5,v6,v7,v8,v9],⟨_,_,_,_,_,_,_,_,_,rfl⟩,?_,?_⟩) (by intro _; rfl))
 ·rintro i t _ O1 e ⟨v1,v2,v3,v4,v5,v6,v7,v8,v9,rfl⟩
  rw [List.getElem?_map] at e
  cases ec:ms[i]? with
  | none => rw [ec] at e; cases e
  | some c =>
   rw [ec] at e
   cases e
   exact ⟨[some (.raw (.ref a)),v1,v2,v3,some (.int c),v5,v6,v7,v8,v9],AT 4 EZ.nd (by show 4 < 10; decide),PN B hr xf fun ρ' O' h => h⟩
 ·rintro _ _ _
  exact Ha (AW (ET.we FV rfl))
theorem UA {fd:FuncData} {fC:Addr} {fdC:FuncData} (F:Fun K "law" "law" Iy f fd) (B:Has P w K mg base)
  (FC:FnOk P w K mg base (CXe P w) 1 fC fdC ["_law_script","_law_k"] (Fn K)) (mC:mg "_law_cell_at" = some (.ref fC)) (kC:PySem.W.keepIn K (.ref fC) = true) (bC:Binds K fdC ["_law_script","_law_k"] []) :
  FnOk P w K mg base (CXe P w) 8 f fd ["_law_script"] (La K):=by
 refine VE F EZ (fun vs H Q E h => ?_) (fun cdv A outer s H vs Q E hr h => ?_)
 ·obtain ⟨a,ns,rfl,_⟩:=h
  rfl
 ·obtain ⟨a,ns,rfl,hS,hn,k⟩:=h
  refine ⟨[.raw (.ref a)],LJ,XV,fun _ _ => False,.cons (.raw _) .nil,Ny,fun xf => PR B hr xf hS hn FC mC kC bC,fun v H' t O' p f r => ?_,fun cls O' H' z => z.elim⟩
  have p:t = T.bl true:=p
  subst p
  cases r.bl_inv
  exact k H'
end
end K24
namespace L2.TL
open PySem PySem.Spec PyProof.Rows
structure Fi (K:PySem.W.Frag) (x:Str) (st:Stmt) (f:Addr) (fd:FuncData):Prop where
 F:Fun K x x st f fd
 a:PySem.W.nsIn K mainGlobals x = some (some (.ref f))
def Fx (K:PySem.W.Frag) (x:Str) (st:Stmt):Prop:=∃ f fd,Fi K x st f fd
def Zn (K:PySem.W.Frag) (x:Str):Prop:=PySem.W.nsIn K mainGlobals x = some none
def Cn (K:PySem.W.Frag) (x:Str) (C:Addr):Prop:=PySem.W.nsIn K mainGlobals x = some (some (.ref C))
structure Mg (P:Program) (w:World) (K:PySem.W.Frag) (mg:Str→Option Value) (base:Heap):Prop where
 mm:∀ {x:Str} {v:Value},PySem.W.nsIn K mainGlobals x = some (some v)→mg x = some v
section
variable {P:Program} {w:World} {K:PySem.W.Frag} {mg:Str→Option Value} {base:Heap} {x:Str} {st:Stmt} {f:Addr} {fd:FuncData} {ps:List Str} {k:Nat}
theorem fi {oc:Value} {od:Option Addr} {kV doc pm:Value} {an:Option Addr} {cdv ct:Value} {osl:Array (Option Value)} (a:PySem.W.nsIn K mainGlobals x = some (some (.ref f))) (l:K.lookup f = some ⟨oc,od,.func (PySem.W.fnOf x x (Di st) (Am st) (AA st) .none kV doc pm an cdv ct),osl⟩) (q:PySem.W.codeIn K cdv x = true) (h:PySem.W.keepIn K (.ref f) = true) :
  Fx K x st:=⟨f,_,⟨⟨⟨oc,od,kV,doc,pm,an,cdv,ct,osl,rfl,l,q⟩,h⟩,a⟩⟩
abbrev Bi (x:Str) (st:Stmt) (ps:List Str) (us:List Value):Prop:=∀ (kV doc pm:Value) (an:Option Addr) (cdv ct:Value),bindArgs (PySem.W.fnOf x x (Di st) (Am st) (AA st) .none kV doc pm an cdv ct) ⟨us,[]⟩ = pure (ps.zip us)
theorem Fi.b1 (h:Fi K x st f fd) (hl:ps.length = 1) (q:∀ a,Bi x st ps [a]):Binds K fd ps []:=h.F.binds fun _ _ _ _ _ _ us e => match us,e.trans hl with | [a],_ => q a ..
theorem Fi.b2 (h:Fi K x st f fd) (hl:ps.length = 2) (q:∀ a b,Bi x st ps [a,b]):Binds K fd ps []:=h.F.binds fun _ _ _ _ _ _ us e => match us,e.trans hl with | [a,b],_ => q a b ..
theorem Fi.b3 (h:Fi K x st f fd) (hl:ps.length = 3) (q:∀ a b c,Bi x st ps [a,b,c]):Binds K fd ps []:=h.F.binds fun _ _ _ _ _ _ us e => match us,e.trans hl with | [a,b,c],_ => q a b c ..
theorem Fi.b4 (h:Fi K x st f fd) (hl:ps.length = 4) (q:∀ a b c d,Bi x st ps [a,b,c,d]):Binds K fd ps []:=h.F.binds fun _ _ _ _ _ _ us e => match us,e.trans hl with | [a,b,c,d],_ => q a b c d ..
theorem Fi.b5 (h:Fi K x st f fd) (hl:ps.length = 5) (q:∀ a b c d e,Bi x st ps [a,b,c,d,e]):Binds K fd ps []:=h.F.binds fun _ _ _ _ _ _ us e => match us,e.trans hl with | [a,b,c,d,g],_ => q a b c d g ..
theorem Fi.b6 (h:Fi K x st f fd) (hl:ps.length = 6) (q:∀ a b c d e g,Bi x st ps [a,b,c,d,e,g]):Binds K fd ps []:=h.F.binds fun _ _ _ _ _ _ us e => match us,e.trans hl with | [a,b,c,d,g,i],_ => q a b c d g i ..
theorem Fi.t {s:Ch} (h:Fi K x st f fd) (M:Mg P w K mg base) (ok:FnOk P w K mg base (CXe P w) k f fd ps (DH K s)) (b:Binds K fd ps []):FnT P w K mg base x k ps s:=⟨f,fd,ok,M.mm h.a,h.F.kp,b⟩
structure Xk (K:PySem.W.Frag) (C CR c0 c1 c2 c3 c4 c5 c6 c7:Addr) (b0 b1 b2 b3 b4 b5 b6 b7:Bool):Prop where
 e0:PySem.W.kitOne K (.ref C) (.ref c0) = some b0
 e1:PySem.W.kitOne K (.ref C) (.ref c1) = some b1
 e2:PySem.W.kitOne K (.ref C) (.ref c2) = some b2
 e3:PySem.W.kitOne K (.ref C) (.ref c3) = some b3
 e4:PySem.W.kitOne K (.ref C) (.ref c4) = some b4
 e5:PySem.W.kitOne K (.ref C) (.ref c5) = some b5
 e6:PySem.W.kitOne K (.ref C) (.ref c6) = some b6
 e7:PySem.W.kitOne K (.ref C) (.ref c7) = some b7
 kR:PySem.W.kitOne K (.ref C) (.ref CR) = some true
 nR:(Value.ref C == Value.ref CR) = false
 ve:PySem.W.kitOne K (.ref C) (.type "ValueError") = some true
 g1:PySem.W.findIn K (.ref C) "__getattribute__" = some (some (.builtin "BaseException.__getattribute__"))
 g2:PySem.W.findIn K (.ref C) "__getattr__" = some none
 g3:PySem.W.mroIn K C (.type "BaseException") = some true
 g4:PySem.W.mroIn K C (.type "object") = some true
 g5:PySem.W.findIn K (.ref C) "__class__" = some (some (.builtin "object.__class__"))
structure Xg (K:PySem.W.Frag) (CR:Addr):Prop where
 bR:PySem.W.mroIn K CR (.type "BaseException") = some true
 g6:PySem.W.specialIn K (.builtin "object.__class__") "__get__" = some (some (.builtin "getset_descriptor.__get__"))
 g7:PySem.W.takesIn K (.builtin "object.__class__") = some true
theorem Xk.kit {C CR c0 c1 c2 c3 c4 c5 c6 c7:Addr} {b0 b1 b2 b3 b4 b5 b6 b7:Bool} (x:Xk K C CR c0 c1 c2 c3 c4 c5 c6 c7 b0 b1 b2 b3 b4 b5 b6 b7):PySem.W.kitCls K (.ref C) (.ref CR) = some true:=by
 have h:=x.kR
 unfold PySem.W.kitOne at h
 rw [x.nR,if_neg Bool.false_ne_true] at h
 exact h
end
end L2.TL
namespace K24
open PySem L2 L2.TL
theorem JR {P:Program} {w:World} {K:PySem.W.Frag} {mg:Str→Option Value} {base:Heap} {C CR CNoPlace CNoNumber CNoLine CNoRing CNotEven CNoWeb CNoText CTooGreat:Addr} {b0 b1 b2 b3 b4 b5 b6 b7:Bool} (M:Mg P w K mg base) (mNoPlace:Cn K "NoPlace" CNoPlace) (mNoNumber:Cn K "NoNumber" CNoNumber) (mNoLine:Cn K "NoLine" CNoLine) (mNoRing:Cn K "NoRing" CNoRing) (mNotEven:Cn K "NotEven" CNotEven) (mNoWeb:Cn K "NoWeb" CNoWeb) (mNoText:Cn K "NoText" CNoText) (mTooGreat:Cn K "TooGreat" CTooGreat) (g:Xg K CR) (x:Xk K C CR CNoPlace CNoNumber CNoLine CNoRing CNotEven CNoWeb CNoText CTooGreat b0 b1 b2 b3 b4 b5 b6 b7):Kinds K mg C b0 b1 b2 b3 b4 b5 b6 b7 :=
 ⟨⟨_,M.mm mNoPlace,x.e0⟩,⟨_,M.mm mNoNumber,x.e1⟩,⟨_,M.mm mNoLine,x.e2⟩,⟨_,M.mm mNoRing,x.e3⟩,⟨_,M.mm mNotEven,x.e4⟩,⟨_,M.mm mNoWeb,x.e5⟩,⟨_,M.mm mNoText,x.e6⟩,⟨_,M.mm mTooGreat,x.e7⟩,x.ve,⟨x.g1,x.g2,x.g3,x.g4,x.g5,g.g6,g.g7⟩⟩
theorem UB {l:PySem.W.OpenLaw} {w:World} {K:PySem.W.Frag} {h:Heap} {mg:Str→Option Value} {fa CR CNoPlace CNoNumber CNoLine CNoRing CNotEven CNoWeb CNoText CTooGreat:Addr} {tLEAST_RING tMOST_TIES tMOST_RING:Tok} (X:K.In h) (G:h.Ns mainGlobals mg) (hfa:mg "law" = some (.ref fa))
  (H0:Fx K "is_whole" KI) (H1:Fx K "need_number" Hk) (H2:Fx K "is_place" KJ) (H3:Fx K "need_place" OH) (H4:Fx K "nears_of" Hl) (H5:Fx K "fars_from" Gg) (H6:Fx K "need_any_ties" OJ) (H7:Fx K "need_ring" OK) (H8:Fx K "need_any_ties_and_ring" KK) (H9:Fx K "ties_at" En) (H10:Fx K "places_to_tie" Hc) (H11:Fx K "may_tie" QT) (H12:Fx K "lacks" Hf) (H13:Fx K "_law_cell_at" OO) (H14:Fx K "_law_next" OP) (H15:Fx K "_law_pen_of" TK) (H16:Fx K "_law_draw" OQ) (H17:Fx K "_law_whole_of" Hj) (H18:Fx K "_law_kind_of" Ix) (H19:Fx K "_law_refused" TH) (H20:Fx K "_law_web_of" Fl) (H21:Fx K "_law_near" Fm) (H22:Fx K "_law_round" Hb) (H23:Fx K "_law_fars" DZ) (H24:Fx K "_law_through" OL) (H25:Fx K "_law_shortest" Cu) (H26:Fx K "_law_lacks_of" Eo) (H27:Fx K "_law_part_of" Dp) (H28:Fx K "_law_partners" KL) (H29:Fx K "_law_odd_of" TJ) (H30:Fx K "_law_no_place" OI) (H31:Fx K "_law_told_of" OM) (H32:Fx K "_law_right" Hg) (H33:Fx K "law" Iy)
  (zint:Zn K "int") (zbool:Zn K "bool") (ztuple:Zn K "tuple") (zlist:Zn K "list") (zset:Zn K "set") (zrange:Zn K "range") (zisinstance:Zn K "isinstance") (zmax:Zn K "max") (zmin:Zn K "min") (zlen:Zn K "len") (zall:Zn K "all") (zsorted:Zn K "sorted") (zrepr:Zn K "repr") (zValueError:Zn K "ValueError") (zenumerate:Zn K "enumerate") (zsum:Zn K "sum") (vLEAST_RING:PySem.W.nsIn K mainGlobals "LEAST_RING" = some (some (.int 3 tLEAST_RING))) (vMOST_TIES:PySem.W.nsIn K mainGlobals "MOST_TIES" = some (some (.int 15 tMOST_TIES))) (vMOST_RING:PySem.W.nsIn K mainGlobals "MOST_RING" = some (some (.int 16 tMOST_RING))) (mNoPlace:Cn K "NoPlace" CNoPlace) (mNoNumber:Cn K "NoNumber" CNoNumber) (mNoLine:Cn K "NoLine" CNoLine) (mNoRing:Cn K "NoRing" CNoRing) (mNotEven:Cn K "NotEven" CNotEven) (mNoWeb:Cn K "NoWeb" CNoWeb) (mNoText:Cn K "NoText" CNoText) (mTooGreat:Cn K "TooGreat" CTooGreat) (mR:Cn K "RingError" CR) (gR:Xg K CR)
  (yNoPlace:Xk K CNoPlace CR CNoPlace CNoNumber CNoLine CNoRing CNotEven CNoWeb CNoText CTooGreat true false false false false false false false) (xNoPlace:PySem.W.excIn K CNoPlace Lp "ValueError.__new__" = true) (yNoNumber:Xk K CNoNumber CR CNoPlace CNoNumber CNoLine CNoRing CNotEven CNoWeb CNoText CTooGreat false true false false false false false false) (xNoNumber:PySem.W.excIn K CNoNumber Lp "ValueError.__new__" = true)
  : ∃ fd:FuncData,(∀ (s:Shared) (v:Value),BindsTo s fd ⟨[v],[]⟩ [("_law_script",v)])∧∀ base:Heap,K.In base→base.Ns mainGlobals mg→FnOk l.prog w K mg base (CXe l.prog w) 8 fa fd ["_law_script"] (La K):=by
 obtain ⟨f0,d0,h0⟩:=H0
 obtain ⟨f1,d1,h1⟩:=H1
 obtain ⟨f2,d2,h2⟩:=H2
 obtain ⟨f3,d3,h3⟩:=H3
 obtain ⟨f4,d4,h4⟩:=H4
 obtain ⟨f5,d5,h5⟩:=H5
 obtain ⟨f6,d6,h6⟩:=H6
 obtain ⟨f7,d7,h7⟩:=H7
 obtain ⟨f8,d8,h8⟩:=H8
 obtain ⟨f9,d9,h9⟩:=H9
 obtain ⟨f10,d10,h10⟩:=H10
 obtain ⟨f11,d11,h11⟩:=H11
 obtain ⟨f12,d12,h12⟩:=H12
 obtain ⟨f13,d13,h13⟩:=H13
 obtain ⟨f14,d14,h14⟩:=H14
 obtain ⟨f15,d15,h15⟩:=H15
 obtain ⟨f16,d16,h16⟩:=H16
 obtain ⟨f17,d17,h17⟩:=H17
 obtain ⟨f18,d18,h18⟩:=H18
 obtain ⟨f19,d19,h19⟩:=H19
 obtain ⟨f20,d20,h20⟩:=H20
 obtain ⟨f21,d21,h21⟩:=H21
 obtain ⟨f22,d22,h22⟩:=H22
 obtain ⟨f23,d23,h23⟩:=H23
 obtain ⟨f24,d24,h24⟩:=H24
 obtain ⟨f25,d25,h25⟩:=H25
 obtain ⟨f26,d26,h26⟩:=H26
 obtain ⟨f27,d27,h27⟩:=H27
 obtain ⟨f28,d28,h28⟩:=H28
 obtain ⟨f29,d29,h29⟩:=H29
 obtain ⟨f30,d30,h30⟩:=H30
 obtain ⟨f31,d31,h31⟩:=H31
 obtain ⟨f32,d32,h32⟩:=H32
 obtain ⟨f33,d33,h33⟩:=H33
 have e:=hfa.symm.trans (PySem.W.mg_of X G h33.a)
 cases e
 have mm:∀ {x:Str} {v:Value},PySem.W.nsIn K mainGlobals x = some (some v)→mg x = some v:=fun e => PySem.W.mg_of X G e
 have nn:∀ {x:Str},Zn K x→mg x = none:=fun e => PySem.W.mg_none_of X G e
 have Tx:Txt mg:=⟨nn zint,nn zbool,nn ztuple,nn zlist,nn zset,nn zrange,nn zisinstance,nn zmax,nn zmin,nn zlen,nn zall,nn zsorted,nn zrepr,nn zValueError,nn zenumerate,nn zsum,⟨tLEAST_RING,mm vLEAST_RING⟩,⟨tMOST_TIES,mm vMOST_TIES⟩,⟨tMOST_RING,mm vMOST_RING⟩⟩
 refine ⟨d33,fun s v => ?_,fun base _ _ => ?_⟩
 ·obtain ⟨⟨_,_,_,_,_,_,_,_,_,rfl,_⟩,_⟩:=h33.F
  exact .of_eq rfl
 have M:Mg l.prog w K mg base:=⟨mm⟩
 have UNoPlace:=JR M mNoPlace mNoNumber mNoLine mNoRing mNotEven mNoWeb mNoText mTooGreat gR yNoPlace
 have UNoNumber:=JR M mNoPlace mNoNumber mNoLine mNoRing mNotEven mNoWeb mNoText mTooGreat gR yNoNumber
 have G0:=h0.t M (ON h0.F Tx) (h0.b3 rfl fun _ _ _ _ _ _ _ _ _ => rfl)
 have G1:=h1.t M (TR h1.F (mm mNoNumber) xNoNumber G0) (h1.b3 rfl fun _ _ _ _ _ _ _ _ _ => rfl)
 have G2:=h2.t M (OV h2.F G0) (h2.b2 rfl fun _ _ _ _ _ _ _ _ => rfl)
 have G3:=h3.t M (QZ h3.F (mm mNoPlace) xNoPlace G2) (h3.b2 rfl fun _ _ _ _ _ _ _ _ => rfl)
 have G4:=h4.t M (OX h4.F Tx) (h4.b1 rfl fun _ _ _ _ _ _ _ => rfl)
 have G5:=h5.t M (Qa h5.F) (h5.b2 rfl fun _ _ _ _ _ _ _ _ => rfl)
 have G6:=h6.t M (Qj h6.F Tx G1) (h6.b1 rfl fun _ _ _ _ _ _ _ => rfl)
 have G7:=h7.t M (Qk h7.F Tx G1) (h7.b1 rfl fun _ _ _ _ _ _ _ => rfl)
 have G8:=h8.t M (VX h8.F G6 G7) (h8.b2 rfl fun _ _ _ _ _ _ _ _ => rfl)
 have G9:=h9.t M (KS h9.F Tx G4) (h9.b1 rfl fun _ _ _ _ _ _ _ => rfl)
 have G10:=h10.t M (MR h10.F Tx G4 G5 fun wn _ => Th wn.n0) (h10.b4 rfl fun _ _ _ _ _ _ _ _ _ _ => rfl)
 have G11:=h11.t M (Tf h11.F G8 G3 G10) (h11.b5 rfl fun _ _ _ _ _ _ _ _ _ _ _ => rfl)
 have G12:=h12.t M (Ow h12.F Tx G6 G9) (h12.b2 rfl fun _ _ _ _ _ _ _ _ => rfl)
 have W13:FnOk l.prog w K mg base (CXe l.prog w) 1 f13 _ _ (Fn K):=QV h13.F Tx
 have G14:=h14.t M (QW h14.F) (h14.b1 rfl fun _ _ _ _ _ _ _ => rfl)
 have G15:=h15.t M (TN h15.F Tx) (h15.b1 rfl fun _ _ _ _ _ _ _ => rfl)
 have G16:=h16.t M (QX h16.F G14) (h16.b2 rfl fun _ _ _ _ _ _ _ _ => rfl)
 have G17:=h17.t M (ML h17.F Tx) (h17.b1 rfl fun _ _ _ _ _ _ _ => rfl)
 have WNoPlace:=Oc (P:=l.prog) (w:=w) (base:=base) (by decide) (by decide) h19.F (GE h18.F Tx UNoPlace) (mm h18.a) h18.F.kp (h18.b1 rfl fun _ _ _ _ _ _ _ => rfl)
 have WNoNumber:=Oc (P:=l.prog) (w:=w) (base:=base) (by decide) (by decide) h19.F (Ft h18.F Tx UNoNumber) (mm h18.a) h18.F.kp (h18.b1 rfl fun _ _ _ _ _ _ _ => rfl)
 have G20:=h20.t M (MO h20.F Tx) (h20.b2 rfl fun _ _ _ _ _ _ _ _ => rfl)
 have G21:=h21.t M (Oo h21.F) (h21.b2 rfl fun _ _ _ _ _ _ _ _ => rfl)
 have G22:=h22.t M (Ol h22.F Tx) (h22.b3 rfl fun _ _ _ _ _ _ _ _ _ => rfl)
 have G23:=h23.t M (Oq h23.F Tx G21) (h23.b2 rfl fun _ _ _ _ _ _ _ _ => rfl)
 have G24:=h24.t M (Tj h24.F Tx G23) (h24.b2 rfl fun _ _ _ _ _ _ _ _ => rfl)
 have G25:=h25.t M (Vk h25.F Tx G24) (h25.b1 rfl fun _ _ _ _ _ _ _ => rfl)
 have G26:=h26.t M (Ti h26.F Tx G21) (h26.b2 rfl fun _ _ _ _ _ _ _ _ => rfl)
 have G27:=h27.t M (Qr h27.F ⟨Tx,G16,G20,G22,G26,G25⟩) (h27.b2 rfl fun _ _ _ _ _ _ _ _ => rfl)
 have G28:=h28.t M (Vn h28.F Tx G23 G21) (h28.b4 rfl fun _ _ _ _ _ _ _ _ _ _ => rfl)
 have G29:=h29.t M (Ta h29.F G16) (h29.b3 rfl fun _ _ _ _ _ _ _ _ _ => rfl)
 have G30:=h30.t M (JI h30.F G16) (h30.b2 rfl fun _ _ _ _ _ _ _ _ => rfl)
 have G31:=h31.t M (Qp h31.F WNoPlace WNoNumber (mm h19.a) h19.F.kp (h19.b1 rfl fun _ _ _ _ _ _ _ => rfl) (mm mR) gR.bR yNoPlace.kit yNoNumber.kit G12 G11) (h31.b6 rfl fun _ _ _ _ _ _ _ _ _ _ _ _ => rfl)
 have G32:=h32.t M (Vp h32.F Tx G17 G26 G28 G31) (h32.b3 rfl fun _ _ _ _ _ _ _ _ _ => rfl)
 exact UA h33.F ⟨Tx,G16,G15,G27,G30,G29,G31,G32⟩ W13 (mm h13.a) h13.F.kp (h13.b2 rfl fun _ _ _ _ _ _ _ _ => rfl)
theorem walk {l:PySem.W.OpenLaw} {q:Program} {loose:List Str} {XP:(Str→Option Value)→Heap→Prop} {YP:World→Heap→Prop} {d:DefRec} {K:Params→PySem.W.Frag} (hn:l.most = some 63) (hdf:d.params.defaults = [])
  (hY:∀ (w:World) (h:Heap),YP w h→(K w.params).In h)
  (F:∀ (w:World) (mg:Str→Option Value) (fa:Addr) (h:Heap),(K w.params).In h→h.Ns mainGlobals mg→mg d.name = some (.ref fa) →
   ∃ fd:FuncData,(∀ (s:Shared) (u:Value),BindsTo s fd ⟨[u],[]⟩ [("_law_script",u)])∧∀ base:Heap,(K w.params).In base→base.Ns mainGlobals mg→FnOk l.prog w (K w.params) mg base (CXe l.prog w) 8 fa fd ["_law_script"] (La (K w.params))) :
  PySem.W.WalkO q loose XP YP l.row.toRowW d [] (fun f vs => PySem.call f vs) :=
 L2.Pn (n:=63) (k:=8) (x:="_law_script") (CX:=fun w => CXe l.prog w) (sp:=fun w => La (K w.params)) hn (by decide) hdf ⟨rfl,by decide,by decide,rfl⟩ hY F (fun _ _ a ns hl _ hS => ⟨a,ns,rfl,hS,hl,fun _ => rfl⟩) fun _ _ _ _ _ z => z.never
end K24
open PySem PySem.W PyProof.Rows
set_option maxRecDepth 100000 in
set_option maxHeartbeats 0 in
theorem PySem.Challenge.cw_noshortring_k24_lacking_ties_holds : PySem.Challenge.rw_noshortring_k24_lacking_ties.Holds := by
 w_on; o_law
 refine PySem.W.holds_open (q:=K24.kq) (loose:=[]) (Xt:=fun s => PySem.W.xlAt K24.kq [] s && PySem.W.recOk [] s) (XP:=PySem.W.XL K24.kq []) (Yf:=fun s => K24.ka.map s.heap.get?) (Ya:=fun w => (K24.Kk w.params).map fun (p:Addr × Obj) => some p.2) (YP:=PySem.W.InK K24.Kk) (N:=6234) K24.left (PySem.W.InK.of fun _ => by kernel_rfl) PySem.W.InK.keeps (fun s e => xl_of s (Bool.and_eq_true_iff.mp e).1) XL.keeps (by rfl) (by rfl) (by rfl) (fun s e => recFacts_of (Bool.and_eq_true_iff.mp e).2) (by rfl) (by first | assumption | decide +kernel) (by first | k_qdec | decide +kernel) ⟨rfl,rfl,rfl,rfl,rfl,by decide +kernel⟩ ?hw ?hc
 (case hw => w_witness2)
 k_fill
 refine K24.walk (l:=PySem.Challenge.rw_noshortring_k24_lacking_ties) rfl rfl (fun w h Y => Y) ?F
 case F =>
  intro w mg fa h KX G hmg
  refine' K24.UB KX G hmg ?H0 ?H1 ?H2 ?H3 ?H4 ?H5 ?H6 ?H7 ?H8 ?H9 ?H10 ?H11 ?H12 ?H13 ?H14 ?H15 ?H16 ?H17 ?H18 ?H19 ?H20 ?H21 ?H22 ?H23 ?H24 ?H25 ?H26 ?H27 ?H28 ?H29 ?H30 ?H31 ?H32 ?H33 ?zint ?zbool ?ztuple ?zlist ?zset ?zrange ?zisinstance ?zmax ?zmin ?zlen ?zall ?zsorted ?zrepr ?zValueError ?zenumerate ?zsum ?vLEAST_RING ?vMOST_TIES ?vMOST_RING ?mNoPlace ?mNoNumber ?mNoLine ?mNoRing ?mNotEven ?mNoWeb ?mNoText ?mTooGreat ?mR ?gR ?yNoPlace ?xNoPlace ?yNoNumber ?xNoNumber
  case H0 | H1 | H2 | H3 | H4 | H5 | H6 | H7 | H8 | H9 | H10 | H11 | H12 | H13 | H14 | H15 | H16 | H17 | H18 | H19 | H20 | H21 | H22 | H23 | H24 | H25 | H26 | H27 | H28 | H29 | H30 | H31 | H32 | H33 => (refine' L2.TL.fi ?a ?l ?q ?k; (case a => k_is); (case l => k_is); (case q => k_is); (case k => k_is))
  case zint | zbool | ztuple | zlist | zset | zrange | zisinstance | zmax | zmin | zlen | zall | zsorted | zrepr | zValueError | zenumerate | zsum => (delta L2.TL.Zn; k_is)
  case mNoPlace | mNoNumber | mNoLine | mNoRing | mNotEven | mNoWeb | mNoText | mTooGreat | mR => (delta L2.TL.Cn; k_is)
  case vLEAST_RING => k_is
  case vMOST_TIES => k_is
  case vMOST_RING => k_is
  case gR => exact ⟨by k_is,by k_is,by k_is⟩
  case yNoPlace => exact ⟨by kit_is,by kit_is,by kit_is,by kit_is,by kit_is,by kit_is,by kit_is,by kit_is,by kit_is,rfl,by kit_is,by k_is,by k_is,by k_is,by k_is,by k_is⟩
  case xNoPlace => k_exc
  case yNoNumber => exact ⟨by kit_is,by kit_is,by kit_is,by kit_is,by kit_is,by kit_is,by kit_is,by kit_is,by kit_is,rfl,by kit_is,by k_is,by k_is,by k_is,by k_is,by k_is⟩
  case xNoNumber => k_exc
