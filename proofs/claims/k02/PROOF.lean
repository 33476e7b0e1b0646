import PyProof.Rows.All
import Wide.All
import OpenK.AllK
import Wide.FinOn
import Lean
import PyProof.EqAt
import PyProof.EqKinds
import PyProof.TupleCall
import PySem.Challenge.RW_noshortring_k02_webs_made
noncomputable section
set_option Elab.async false
set_option linter.all false
set_option maxRecDepth 100000
namespace L2
open PySem PySem.Spec PyProof.Rows
abbrev Hr:=Sum Int Str
def Py:Hr→Value→Bool
 | .inl k,v => Value.isInt k v
 | .inr x,v => Value.isStrOf x v
def UW (w:World):Hr→Int
 | .inl k => hashInt k
 | .inr x => hashStr w x
theorem Aa:∀ {k:Hr} {v:Value},Py k v = true→(∃ i t,k = Sum.inl i∧v = Value.int i t)∨(∃ x t,k = Sum.inr x∧v = Value.str x t)
 | .inl i,v,h => by
  obtain ⟨t,e⟩:=Value.isInt_shape (k:=i) (v:=v) h
  exact .inl ⟨i,t,rfl,e⟩
 | .inr x,v,h => by
  obtain ⟨t,e⟩:=Value.isStrOf_shape (x:=x) (v:=v) h
  exact .inr ⟨x,t,rfl,e⟩
theorem Qd (a b:Int):decide ((Sum.inl a:Hr) = Sum.inl b) = (a == b):=by
 by_cases e:a = b
 ·subst e; simp
 ·have h:¬ (Sum.inl a:Hr) = Sum.inl b:=fun q => e (Sum.inl.inj q)
  rw [decide_eq_false h]
  exact (beq_eq_false_iff_ne.mpr e).symm
theorem Qe (a b:Str):decide ((Sum.inr a:Hr) = Sum.inr b) = decide (a = b):=by
 by_cases e:a = b
 ·subst e; simp
 ·have h:¬ (Sum.inr a:Hr) = Sum.inr b:=fun q => e (Sum.inr.inj q)
  rw [decide_eq_false h,decide_eq_false e]
theorem Qf (a:Int) (b:Str):decide ((Sum.inl a:Hr) = Sum.inr b) = false:=decide_eq_false (fun q => nomatch q)
theorem Qg (a:Str) (b:Int):decide ((Sum.inr a:Hr) = Sum.inl b) = false:=decide_eq_false (fun q => nomatch q)
def Go (prog:Program) (w:World):PySem.KeyKind prog w Hr where
 is:=Py
 hash:=UW w
 inj:=fun v a b ha hb => by
  rcases Aa ha with ⟨i,t,rfl,rfl⟩ | ⟨x,t,rfl,rfl⟩
  ·rcases Aa hb with ⟨j,u,rfl,e⟩ | ⟨y,u,rfl,e⟩
   ·injection e with e1 _; rw [e1]
   ·exact nomatch e
  ·rcases Aa hb with ⟨j,u,rfl,e⟩ | ⟨y,u,rfl,e⟩
   ·exact nomatch e
   ·injection e with e1 _; rw [e1]
 byValue:=fun k v h => by
  rcases Aa h with ⟨i,t,rfl,rfl⟩ | ⟨x,t,rfl,rfl⟩ <;> rfl
 pyHash:=fun hv h => by
  rcases Aa hv with ⟨i,t,rfl,rfl⟩ | ⟨x,t,rfl,rfl⟩
  ·exact wpAny_pyHash_int h
  ·exact wpAny_pyHash_str h
 eqBool:=fun hu hv h => by
  rcases Aa hu with ⟨i,t,rfl,rfl⟩ | ⟨x,t,rfl,rfl⟩
  ·rcases Aa hv with ⟨j,u,rfl,rfl⟩ | ⟨y,u,rfl,rfl⟩
   ·rw [Qd] at h; exact wpAny_eqBool_int h
   ·rw [Qf] at h; exact SeqAt.EqAt.int_str i t y u _ _ _ _ h
  ·rcases Aa hv with ⟨j,u,rfl,rfl⟩ | ⟨y,u,rfl,rfl⟩
   ·rw [Qg] at h; exact SeqAt.EqAt.str_int x t j u _ _ _ _ h
   ·rw [Qe] at h; exact wpAny_eqBool_str h
 «strs»:=fun k x t v h => by
  rcases Aa h with ⟨i,u,rfl,e⟩ | ⟨y,u,rfl,e⟩
  ·exact nomatch e
  ·injection e with e1 _
   subst e1
   cases v <;> rfl
inductive V where
 | non | bl (b:Bool) | int (i:Int) | str (x:Str) | byt (b:Array UInt8) | flt (b:UInt64) | ref (a:Addr) | ty (n:String)
 deriving DecidableEq
def RelV:V→Value→Prop
 | .non,u => u = Value.none
 | .bl b,u => u = Value.bool b
 | .int i,u => ∃ t,u = Value.int i t
 | .str x,u => ∃ t,u = Value.str x t
 | .byt b,u => ∃ t,u = Value.bytes b t
 | .flt b,u => ∃ t,u = Value.float b t
 | .ref a,u => u = Value.ref a
 | .ty n,u => u = Value.type n
abbrev Vals:List V→List Value→Prop:=Paired RelV
theorem Vals.length {xs:List V} {us:List Value} (r:Vals xs us):xs.length = us.length:=Paired.length r
theorem Vals.get:∀ {xs:List V} {us:List Value} {i:Nat} {x:V},Vals xs us→xs[i]? = some x→∃ u,us[i]? = some u∧RelV x u
 | _,_,_,_,.nil,e => by simp at e
 | _,_,0,_,.cons r _,e => by simp at e; subst e; exact ⟨_,rfl,r⟩
 | _,_,i + 1,x,.cons _ t,e => by
  obtain ⟨u,h1,h2⟩:=Vals.get (i:=i) (x:=x) t (by simpa using e)
  exact ⟨u,by simpa using h1,h2⟩
theorem Vals.set {x:V} {u:Value} (r:RelV x u):∀ {xs:List V} {us:List Value} (i:Nat),Vals xs us→Vals (xs.set i x) (us.set i u)
 | _,_,_,.nil => .nil
 | _,_,0,.cons _ t => .cons r t
 | _,_,i + 1,.cons q t => .cons q (Vals.set r i t)
theorem Vals.append:∀ {xs ys:List V} {us ws:List Value},Vals xs us→Vals ys ws→Vals (xs ++ ys) (us ++ ws)
 | _,_,_,_,.nil,s => s
 | _,_,_,_,.cons r t,s => .cons r (Vals.append t s)
theorem Vals.take:∀ {xs:List V} {us:List Value} (n:Nat),Vals xs us→Vals (xs.take n) (us.take n)
 | _,_,0,_ => .nil
 | _,_,_ + 1,.nil => .nil
 | _,_,n + 1,.cons r t => .cons r (Vals.take n t)
theorem Vals.drop:∀ {xs:List V} {us:List Value} (n:Nat),Vals xs us→Vals (xs.drop n) (us.drop n)
 | _,_,0,r => r
 | _,_,_ + 1,.nil => .nil
 | _,_,n + 1,.cons _ t => Vals.drop n t
def MC:Option V→Option Value→Prop
 | some v,some u => RelV v u
 | none,none => True
 | _,_ => False
def KV {κ:Type}:List (κ × V)→List (κ × Value)→Prop:=Paired fun (p:κ × V) (q:κ × Value) => p.1 = q.1∧RelV p.2 q.2
def kV:Hr→V
 | .inl i => .int i
 | .inr x => .str x
inductive HO where
 /-- a list -/
 | lst (xs:List V)
 /-- a tuple (never changes) -/
 | tup (xs:List V)
 /-- a dict whose keys are ints and texts; one whose keys are tuples of ints and texts (the empty one is both) -/
 | dK (kvs:List (Hr × V)) | dT (kvs:List (List Hr × V))
 /-- a set of ints: its members,its size -/
 | set (S:Int→Bool) (n:Nat)
 /-- an instance of the class at C,its dict at dx,its attributes -/
 | ins (C dx:Addr) (fs:List (Str × V))
 /-- the dict of the instance at x -/
 | own (x:Addr)
 /-- the dict of an exception -/
 | xd (fs:List (Str × V))
 /-- a bound method,f of x -/
 | met (f x:Addr)
 /-- a range object lo,lo + 1,.. below hi -/
 | rng (lo hi:Int)
 /-- a thing that is known to the object (the script; a dict while a loop walks it): read,never written while it is so -/
 | frz (o:Obj) (u:HO)
 /-- a code object's table -/
 | tbl (ps:Array Value)
 /-- any other thing,by what is true of its one object (a def of one's own: SetO a S n:=HO.ext fun h => ..) -/
 | ext (φ:Heap→Prop)
abbrev Hp:=Addr→Option HO
def upd (H:Hp) (a:Addr) (o:HO):Hp:=fun b => if b = a then some o else H b
theorem AG {H:Hp} {a:Addr} {o:HO}:upd H a o a = some o:=by unfold upd; rw [if_pos rfl]
theorem AD {H:Hp} {a b:Addr} {o:HO} (h:b≠a):upd H a o b = H b:=by unfold upd; rw [if_neg h]
theorem OS {H:Hp} {a:Addr} {o u:HO}:upd (upd H a o) a u = upd H a u:=by
 funext b; unfold upd; split <;> rfl
theorem AL {H:Hp} {a b:Addr} {o:HO} (h:H a = some o) (h':H b = none):a≠b:=by
 intro e; subst e; rw [h] at h'; cases h'
section
variable (P:Program) (w:World)
def ObjOk (H:Hp) (h:Heap) (a:Addr):HO→Prop
 | .lst xs => xs.length≤sizeLine∧∃ (its:List Value) (n:Nat),Vals xs its∧h.get? a = some { cls:=.type "list",data:=.seq its.toArray n }
 | .tup xs => xs.length≤sizeLine∧∃ its:List Value,Vals xs its∧IsTup h a its.toArray
 | .dK kvs => kvs.length≤sizeLine∧(a == sysModules) = false∧∃ vs,KV kvs vs∧h.DictOf (Go P w) a vs
 | .dT kvs => kvs.length≤sizeLine∧(a == sysModules) = false∧∃ xs:List (List Hr × Addr × Value),
   Paired (fun (p:List Hr × V) (q:List Hr × Addr × Value) => p.1 = q.1∧H q.2.1 = some (.tup (p.1.map kV))∧RelV p.2 q.2.2) kvs xs ∧
   ∃ o es ep,h.get? a = some o∧o.ExactDict∧o.data = .dict es ep∧es.toList = xs.map (entryOfKey (tupleKind (Go P w)))∧(xs.map (·.1)).Nodup
 | .set S n => h.SetOf (intKind P w) a S n
 | .ins C dx fs => H dx = some (.own a)∧fs.length≤1000∧dx≠a∧h.get? a = some (PySem.W.instObj C dx) ∧
   ∃ mA,h.Ns1 dx mA∧(∀ f,MC (fs.lookup f) (mA f))∧PySem.Within mA (fs.map (·.1))
 | .own _ => ∃ o,h.get? a = some o
 | .xd fs => ∃ mA,h.Ns1 a mA∧∀ f,MC (fs.lookup f) (mA f)
 | .rng lo hi => ∃ t u v,h.get? a = some { cls:=.type "range",data:=.fields #[.int lo t,.int hi u,.int 1 v] }
 | .frz o u => h.get? a = some o∧ObjOk H h a u
 | .tbl ps => h.get? a = some { cls:=.none,data:=.fields ps }
 | .met f x => h.get? a = some (PySem.W.methodObj (.ref f) (.ref x))
 | .ext φ => φ h∧(∃ o,h.get? a = some o)∧∀ h1 h2:Heap,φ h1→(∀ o,h1.get? a = some o→h2.get? a = some o)→φ h2
def HOk (H:Hp) (h:Heap):Prop:=∀ a o,H a = some o→ObjOk P w H h a o
end
section
variable {P:Program} {w:World} {H H':Hp} {h h':Heap} {a:Addr} {o:HO}
theorem ObjOk.lt (x:ObjOk P w H h a o):a < h.objs.size:=by
 cases o with
 | lst xs => obtain ⟨_,_,_,_,e⟩:=x; exact Heap.lt_size e
 | tup xs => obtain ⟨_,_,_,p⟩:=x; exact p.lt
 | dK kvs => obtain ⟨_,_,_,_,o,_,_,e,_⟩:=x; exact Heap.lt_size e
 | dT kvs => obtain ⟨_,_,_,_,o,_,_,e,_⟩:=x; exact Heap.lt_size e
 | set S n => obtain ⟨o,_,_,_,e,_⟩:=x; exact Heap.lt_size e
 | ins C dx fs => obtain ⟨_,_,_,e,_⟩:=x; exact Heap.lt_size e
 | own y => obtain ⟨_,e⟩:=x; exact Heap.lt_size e
 | xd fs => obtain ⟨_,⟨_,_,_,e,_⟩,_⟩:=x; exact Heap.lt_size e
 | rng lo hi => obtain ⟨_,_,_,e⟩:=x; exact Heap.lt_size e
 | frz ob u => obtain ⟨e,_⟩:=x; exact Heap.lt_size e
 | tbl ps => exact Heap.lt_size (show h.get? a = some _ from x)
 | met f y => exact Heap.lt_size (show h.get? a = some _ from x)
 | ext φ => obtain ⟨_,⟨_,e⟩,_⟩:=x; exact Heap.lt_size e
theorem Paired.mapP {α β:Type} {F G:α→β→Prop}:∀ {l₁:List α} {l₂:List β},Paired F l₁ l₂→(∀ a b,F a b→G a b)→Paired G l₁ l₂
 | _,_,.nil,_ => .nil
 | _,_,.cons r t,f => .cons (f _ _ r) (Paired.mapP t f)
theorem ObjOk.stay (x:ObjOk P w H h a o) (k:∀ b u,(b = a∨H b = some (.own a))→h.get? b = some u→h'.get? b = some u)
  (ho:∀ b,H b = some (.own a)→H' b = some (.own a)) (ht:∀ b xs,H b = some (.tup xs)→H' b = some (.tup xs)):ObjOk P w H' h' a o:=by
 induction o with
 | lst xs => obtain ⟨z,its,n,r,e⟩:=x; exact ⟨z,its,n,r,k _ _ (.inl rfl) e⟩
 | tup xs => obtain ⟨z,its,r,ob,e,c⟩:=x; exact ⟨z,its,r,ob,k _ _ (.inl rfl) e,c⟩
 | dK kvs => obtain ⟨z,y,vs,r,ob,es,ep,e,c⟩:=x; exact ⟨z,y,vs,r,ob,es,ep,k _ _ (.inl rfl) e,c⟩
 | dT kvs =>
  obtain ⟨z,y,xs,r,ob,es,ep,e,c⟩:=x
  exact ⟨z,y,xs,Paired.mapP r fun p q z => ⟨z.1,ht _ _ z.2.1,z.2.2⟩,ob,es,ep,k _ _ (.inl rfl) e,c⟩
 | set S n => obtain ⟨ob,es,ep,t,e,c⟩:=x; exact ⟨ob,es,ep,t,k _ _ (.inl rfl) e,c⟩
 | ins C dx fs =>
  obtain ⟨d,z,ne,e,mA,⟨od,es,ep,e2,c⟩,r⟩:=x
  exact ⟨ho _ d,z,ne,k _ _ (.inl rfl) e,mA,⟨od,es,ep,k _ _ (.inr d) e2,c⟩,r⟩
 | own y => obtain ⟨ob,e⟩:=x; exact ⟨ob,k _ _ (.inl rfl) e⟩
 | xd fs => obtain ⟨mA,⟨od,es,ep,e,c⟩,r⟩:=x; exact ⟨mA,⟨od,es,ep,k _ _ (.inl rfl) e,c⟩,r⟩
 | rng lo hi => obtain ⟨t,u,v,e⟩:=x; exact ⟨t,u,v,k _ _ (.inl rfl) e⟩
 | frz ob u ih => obtain ⟨e,q⟩:=x; exact ⟨k _ _ (.inl rfl) e,ih q⟩
 | tbl ps =>
  have e:h.get? a = some { cls:=.none,data:=.fields ps }:=x
  show h'.get? a = some { cls:=.none,data:=.fields ps }
  exact k a _ (.inl rfl) e
 | met f y =>
  have e:h.get? a = some (PySem.W.methodObj (.ref f) (.ref y)):=x
  show h'.get? a = some (PySem.W.methodObj (.ref f) (.ref y))
  exact k a _ (.inl rfl) e
 | ext φ => obtain ⟨p,⟨o,e⟩,st⟩:=x; exact ⟨st _ _ p fun o q => k _ _ (.inl rfl) q,⟨o,k _ _ (.inl rfl) e⟩,st⟩
theorem HOk.lt (x:HOk P w H h) (e:H a = some o):a < h.objs.size:=(x a o e).lt
theorem HOk.fresh (x:HOk P w H h) (e:h.objs.size≤a):H a = none:=by
 cases q:H a with
 | none => rfl
 | some u => exact absurd (Nat.lt_of_lt_of_le (x.lt q) e) (Nat.lt_irrefl _)
theorem HOk.kept (x:HOk P w H h) (k:∀ b u,h.get? b = some u→h'.get? b = some u):HOk P w H h':=fun a o e =>
 (x a o e).stay (fun b u _ q => k b u q) (fun _ q => q) fun _ _ q => q
theorem HOk.laid (x:HOk P w H h) (k:∀ b u,h.get? b = some u→h'.get? b = some u) (hp:h.objs.size≤a) (new:ObjOk P w (upd H a o) h' a o):HOk P w (upd H a o) h':=fun b u e => by
 have hn:=x.fresh hp
 by_cases hb:b = a
 ·subst hb; rw [AG] at e; cases e; exact new
 ·rw [AD hb] at e
  exact (x b u e).stay (fun c v _ q => k c v q) (fun c q => by rw [AD (AL q hn)]; exact q) fun c xs q => by rw [AD (AL q hn)]; exact q
end
def Rd (H:Hp) (a:Addr) (u:HO):Prop:=H a = some u∨∃ o,H a = some (.frz o u)
theorem Rd.ok {P:Program} {w:World} {H:Hp} {h:Heap} {a:Addr} {u:HO} (r:Rd H a u) (x:HOk P w H h):ObjOk P w H h a u:=by
 rcases r with r | ⟨o,r⟩
 ·exact x a u r
 ·obtain ⟨_,q⟩:=x a _ r
  exact q
def UM:Option HO→Prop
 | some (.lst _) => True
 | some (.dK _) => True
 | some (.dT _) => True
 | some (.set _ _) => True
 | some (.ins _ _ _) => True
 | some (.ext _) => True
 | _ => False
section
variable {P:Program} {w:World} {H:Hp} {h h':Heap} {x e:Addr} {o':HO}
theorem HOk.write (ok:HOk P w H h) (mu:UM (H x)) (he:e = x∨H e = some (.own x)) (k:∀ b u,b≠e→h.get? b = some u→h'.get? b = some u) (heo:∃ u,h'.get? e = some u)
  (new:ObjOk P w (upd H x o') h' x o'):HOk P w (upd H x o') h':=fun b u q => by
 have nown:∀ c y,H c = some (.own y)→c≠x:=fun c y r z => by subst z; rw [r] at mu; exact mu
 have ntup:∀ c xs,H c = some (.tup xs)→c≠x:=fun c xs r z => by subst z; rw [r] at mu; exact mu
 by_cases hb:b = x
 ·subst hb; rw [AG] at q; cases q; exact new
 ·rw [AD hb] at q
  by_cases hbe:b = e
  ·have q':H b = some (.own x):=by
    rcases he with z | z
    ·exact absurd (hbe.trans z) hb
    ·rw [hbe]; exact z
   rw [q] at q'; cases q'
   obtain ⟨v,hv⟩:=heo
   exact ⟨v,by rw [hbe]; exact hv⟩
  ·refine (ok b u q).stay (fun c v hc r => k c v ?_ r) (fun c r => by rw [AD (nown c b r)]; exact r) fun c xs r => by rw [AD (ntup c xs r)]; exact r
   rcases hc with rfl | hc
   ·exact hbe
   ·rintro rfl
    rcases he with z | z
    ·exact nown c b hc z
    ·rw [hc] at z; cases z; exact hb rfl
end
structure Un (fs ex:List Addr) (H H':Hp) (h h':Heap):Prop where
 keep:∀ b o,h.get? b = some o→H b = none→b ∉ fs→b ∉ ex→h'.get? b = some o
 slot:∀ b o,h.get? b = some o→H b = none→b∈fs→b ∉ ex→∃ sl,h'.get? b = some { o with slots:=sl }
 free:∀ b o,h.get? b = some o→H b = none→b ∉ ex→H' b = none
 there:∀ b o,h.get? b = some o→b ∉ ex→∃ o',h'.get? b = some o'
 tups:∀ b xs,H b = some (.tup xs)→H' b = some (.tup xs)
 frzs:∀ b o u,H b = some (.frz o u)→H' b = some (.frz o u)
 tbls:∀ b ps,H b = some (.tbl ps)→∃ more,H' b = some (.tbl (ps ++ more))
section
variable {fs fs' ex ex':List Addr} {H H1 H2:Hp} {h h1 h2 h':Heap} {a x e:Addr} {o:HO}
theorem Un.any (u:Un fs ex H H1 h h1) {b:Addr} {ob:Obj} (q:h.get? b = some ob) (n:H b = none) (hx:b ∉ ex):∃ sl,h1.get? b = some { ob with slots:=sl }:=by
 by_cases hb:b∈fs
 ·exact u.slot b ob q n hb hx
 ·exact ⟨ob.slots,u.keep b ob q n hb hx⟩
theorem Un.kept (k:∀ b u,h.get? b = some u→h'.get? b = some u):Un fs ex H H h h' :=
 ⟨fun b ob q _ _ _ => k b ob q,fun b ob q _ _ _ => ⟨ob.slots,k b ob q⟩,fun _ _ _ n _ => n,fun b ob q _ => ⟨ob,k b ob q⟩,fun _ _ q => q,fun _ _ _ q => q,fun _ ps q => ⟨#[],by rw [q]; simp⟩⟩
theorem Un.refl:Un fs ex H H h h:=Un.kept fun _ _ q => q
theorem Un.laid (k:∀ b u,h.get? b = some u→h'.get? b = some u) (hp:h.objs.size≤a) (hn:H a = none):Un fs ex H (upd H a o) h h' where
 keep:=fun b u q _ _ _ => k b u q
 slot:=fun b u q _ _ _ => ⟨u.slots,k b u q⟩
 free:=fun b u q n _ => by rw [AD (Nat.ne_of_lt (Nat.lt_of_lt_of_le (Heap.lt_size q) hp))]; exact n
 there:=fun b u q _ => ⟨u,k b u q⟩
 tups:=fun b xs q => by rw [AD (AL q hn)]; exact q
 frzs:=fun b u xs q => by rw [AD (AL q hn)]; exact q
 tbls:=fun b ps q => ⟨#[],by rw [AD (AL q hn),q]; simp⟩
theorem Un.write (mu:UM (H x)) (he:e = x∨H e = some (.own x)) (k:∀ b u,b≠e→h.get? b = some u→h'.get? b = some u) (heo:∃ u,h'.get? e = some u):Un fs ex H (upd H x o) h h':=by
 have hx:∀ b,H b = none→b≠x:=fun b n z => by subst z; rw [n] at mu; exact mu
 have hb:∀ b,H b = none→b≠e:=fun b n z => by
  subst z
  rcases he with r | r
  ·exact hx b n r
  ·rw [n] at r; cases r
 have hm:∀ b u,H b = some u→¬ UM (some u)→b≠x:=fun b u q nm z => by subst z; rw [q] at mu; exact nm mu
 refine ⟨fun b u q n _ _ => k b u (hb b n) q,fun b u q n _ _ => ⟨u.slots,k b u (hb b n) q⟩,fun b u q n _ => by rw [AD (hx b n)]; exact n,fun b u q _ => ?_,
  fun b xs q => by rw [AD (hm b _ q fun z => z)]; exact q,fun b u xs q => by rw [AD (hm b _ q fun z => z)]; exact q,fun b ps q => ⟨#[],by rw [AD (hm b _ q fun z => z),q]; simp⟩⟩
 by_cases hbe:b = e
 ·subst hbe; exact heo
 ·exact ⟨u,k b u hbe q⟩
end
def UN (h:Heap) (H:Hp):List Addr:=(List.range h.objs.size).filter fun a => (H a).isSome
def Gp (h:Heap) (H:Hp):Heap:=PySem.W.hideAll h (UN h H)
theorem LF (h:Heap) (H:Hp):(Gp h H).objs.size = h.objs.size:=PySem.W.hideAll_size _ _
theorem MD {h:Heap} {H:Hp} {b:Addr} {o:Obj} (e:h.get? b = some o) (n:H b = none):(Gp h H).get? b = some o :=
 PySem.W.hideAll_get _ e fun hm => by
  have q:(H b).isSome = true:=(List.mem_filter.mp hm).2
  rw [n] at q; simp at q
theorem OT {h:Heap} {H:Hp} {b:Addr} {o:Obj} (e:(Gp h H).get? b = some o):h.get? b = some o∧H b = none:=by
 have e':h.get? b = some o:=PySem.W.of_hideAll (UN h H) e
 refine ⟨e',?_⟩
 cases q:H b with
 | none => rfl
 | some x =>
  have hm:b∈UN h H:=List.mem_filter.mpr ⟨List.mem_range.mpr (Heap.lt_size e'),by simp [q]⟩
  have z:(Gp h H).get? b = none:=PySem.W.hideAll_none (UN h H) hm
  rw [z] at e; cases e
structure Mod (K:PySem.W.Frag) (mg:Str→Option Value) (base:Heap):Prop where
 kin:K.In base
 glob:base.Ns mainGlobals mg
 blt:∃ mb,base.Ns builtinsNs mb∧∀ x:Str,x≠"__name__"→mb x = bootBuiltins x
 nolimit:base.NoLimit
structure Cx where
 prog:Program
 w:World
 K:PySem.W.Frag
 mg:Str→Option Value
 base:Heap
 A:Around
 N:List Str
 s₀:Shared
 H₀:Hp
 env:Env
 outer:List Env
 stack:List Env
 ex:List Addr
 fn:Str→Bool
 calm:Bool
 pn:List (Addr × Obj)
 xe:Value→Shared→Prop
def Dl (l:List Env):List Addr:=l.filterMap (·.frame)
abbrev Cx.fs (X:Cx):List Addr:=Dl X.outer
def SW (sc:Scope) (x:Str):Prop:=sc.names.lookup x = some .local∨sc.names.lookup x = some .cell∨sc.names.lookup x = some .free
def OP (sc:Scope) (x:Str):Prop:=sc.names.lookup x = some .local∨sc.names.lookup x = some .cell
def Look (env:Env) (h:Heap) (m:Str→Option Value) (x:Str) (u:Value):Prop :=
 (env.kindOf x = some .local∧m x = some u)∨((env.kindOf x = some .cell∨env.kindOf x = some .free)∧∃ c,env.cells.lookup x = some c∧h.IsCell c (some u))
structure Cx.Ok (X:Cx):Prop where
 mod:Mod X.K X.mg X.base
 kind:X.env.scope.kind = .function
 glob:X.env.globals = mainGlobals
 blt:X.env.builtins = builtinsNs
 above:X.s₀.heap.objs.size≤X.env.locals
 inj:∀ x y c,X.env.cells.lookup x = some c→X.env.cells.lookup y = some c→x = y
 has:∀ x,(X.env.kindOf x = some .cell∨X.env.kindOf x = some .free)→∃ c,X.env.cells.lookup x = some c
 cab:∀ x c,X.fn x = true→X.env.cells.lookup x = some c→X.s₀.heap.objs.size≤c
 hd:X.calm = true→X.A.handled = none
 frames:X.A.frames = some X.stack
 stk:X.stack = X.outer∨(X.stack = X.env :: X.outer∧X.env.frame = some X.env.locals)
 exf:∀ b∈X.ex,b≠X.env.locals∧∀ x c,X.env.cells.lookup x = some c→c≠b
 bs:∀ b o,X.base.get? b = some o→X.s₀.heap.get? b = some o∧X.H₀ b = none
 bsz:X.base.objs.size≤X.s₀.heap.objs.size
 noex:∀ b o,X.base.get? b = some o→b ∉ X.ex
 exfs:∀ b∈X.ex,b ∉ X.fs
 funs:X.s₀.heap.FunFrames X.base X.outer
 frf:∀ b∈X.fs,X.H₀ b = none
structure Inv (X:Cx) (pins:List (Addr × Obj)) (σ:List (Option V)) (H:Hp) (s:Shared):Prop where
 ok:X.Ok
 os:s.os = X.s₀.os
 bare:AllBare s.gens
 base:Un X.fs X.ex X.H₀ H X.s₀.heap s.heap
 loc:∃ m,s.heap.Ns X.env.locals m∧∀ (i:Nat) (x:Str) (v:V),X.N[i]? = some x→σ[i]? = some (some v)→SW X.env.scope x→∃ u,RelV v u∧Look X.env s.heap m x u
 cell:∀ x c,X.env.cells.lookup x = some c→∃ v,s.heap.IsCell c v
 free:H X.env.locals = none
 freeC:∀ x c,X.env.cells.lookup x = some c→H c = none
 pin:∀ p∈X.pn ++ pins,s.heap.get? p.1 = some p.2∧H p.1 = none∧p.1≠X.env.locals∧p.1 ∉ X.fs∧∀ v,p.2.data≠.cell v
 hok:HOk X.prog X.w H s.heap
 len:σ.length = X.N.length
section
variable {X:Cx} {pins:List (Addr × Obj)} {σ:List (Option V)} {H H':Hp} {s:Shared} {h':Heap}
theorem Cx.Ok.nofr (ok:X.Ok) {b:Addr} {o:Obj} (e:X.base.get? b = some o):b ∉ X.fs:=fun hb => by
 have:=(ok.funs.mem hb).1
 rw [e] at this; cases this
theorem Inv.bs (I:Inv X pins σ H s):∀ b o,X.base.get? b = some o→s.heap.get? b = some o∧H b = none:=fun b o e =>
 ⟨I.base.keep b o (I.ok.bs b o e).1 (I.ok.bs b o e).2 (I.ok.nofr e) (I.ok.noex b o e),I.base.free b o (I.ok.bs b o e).1 (I.ok.bs b o e).2 (I.ok.noex b o e)⟩
theorem Inv.bk (I:Inv X pins σ H s):∀ b o,X.base.get? b = some o→s.heap.get? b = some o:=fun b o e => (I.bs b o e).1
theorem Inv.mod (I:Inv X pins σ H s):Mod X.K X.mg X.base:=I.ok.mod
theorem Inv.kIn (I:Inv X pins σ H s):X.K.In s.heap:=I.ok.mod.kin.keeps I.bk
theorem Inv.lt (I:Inv X pins σ H s):X.env.locals < s.heap.objs.size:=let ⟨_,hn,_⟩:=I.loc; hn.lt
theorem Inv.sz (I:Inv X pins σ H s):X.s₀.heap.objs.size≤s.heap.objs.size:=Nat.le_trans I.ok.above (Nat.le_of_lt I.lt)
theorem Inv.nofs (I:Inv X pins σ H s) {a:Addr} (h:s.heap.objs.size≤a):a ∉ X.fs:=fun hb => by
 obtain ⟨_,o,ho,_⟩:=I.ok.funs.mem hb
 exact absurd (Nat.lt_of_lt_of_le (Heap.lt_size ho) (Nat.le_trans I.sz h)) (Nat.lt_irrefl _)
theorem Inv.cne (I:Inv X pins σ H s):∀ x c,X.env.cells.lookup x = some c→c≠X.env.locals:=fun x c e z => by
 obtain ⟨v,o,ho,hd⟩:=I.cell x c e
 obtain ⟨m,⟨o',es,ep,ho',hd',_⟩,_⟩:=I.loc
 rw [z,ho'] at ho; cases ho; rw [hd'] at hd; cases hd
theorem Inv.funs (I:Inv X pins σ H s):s.heap.FunFrames X.base X.outer:=by
 have all:∀ (l:List Env),(∀ b∈Dl l,b∈X.fs)→X.s₀.heap.FunFrames X.base l→s.heap.FunFrames X.base l:=by
  intro l
  induction l with
  | nil => intro _ _; trivial
  | cons env r ih =>
   intro hs hl
   obtain ⟨hk,⟨L,o,hf,hn,ho,hd⟩,hr⟩:=hl
   have hL:L∈X.fs:=hs L (by unfold Dl; rw [List.filterMap_cons,hf]; exact List.mem_cons_self)
   obtain ⟨sl,e⟩:=I.base.slot L o ho (I.ok.frf L hL) hL fun z => I.ok.exfs L z hL
   exact ⟨hk,⟨L,_,hf,hn,e,hd⟩,ih (fun b hb => hs b (by unfold Dl; rw [List.filterMap_cons,hf]; exact List.mem_cons_of_mem _ hb)) hr⟩
 exact all X.outer (fun _ hb => hb) I.ok.funs
theorem Inv.stack (I:Inv X pins σ H s):s.heap.FunFrames X.base X.stack:=by
 rcases I.ok.stk with e | ⟨e,hf⟩
 ·rw [e]; exact I.funs
 ·rw [e]
  obtain ⟨m,hn,_⟩:=I.loc
  refine .cons (by rw [I.ok.kind]; decide) hf hn ?_ I.funs
  exact Heap.get?_none_of_le (Nat.le_trans I.ok.bsz I.ok.above)
theorem Inv.stkSub (I:Inv X pins σ H s):∀ b∈Dl X.stack,b∈X.env.locals :: X.fs:=fun b hb => by
 rcases I.ok.stk with e | ⟨e,hf⟩
 ·rw [e] at hb; exact List.mem_cons_of_mem _ hb
 ·rw [e] at hb
  unfold Dl at hb
  rw [List.filterMap_cons,hf] at hb
  exact hb
theorem Inv.stkFree (I:Inv X pins σ H s):∀ b∈Dl X.stack,H b = none:=fun b hb => by
 rcases List.mem_cons.mp (I.stkSub b hb) with e | hb
 ·rw [e]; exact I.free
 ·obtain ⟨_,o,ho,_⟩:=I.ok.funs.mem hb
  exact I.base.free b o ho (I.ok.frf b hb) fun z => I.ok.exfs b z hb
theorem Inv.step {g':Array GenState} {t':Nat} {d':Drawn} {ch:List Addr} (I:Inv X pins σ H s)
  (hch:∀ b∈ch,(b∈X.ex∨X.s₀.heap.objs.size≤b)∧b≠X.env.locals∧(∀ x c,X.env.cells.lookup x = some c→c≠b)∧∀ p∈X.pn ++ pins,p.1≠b)
  (keep:∀ b o,b≠X.env.locals→b ∉ X.fs→b ∉ ch→s.heap.get? b = some o→H b = none→h'.get? b = some o)
  (slot:∀ b o,b≠X.env.locals→b∈X.fs→b ∉ ch→s.heap.get? b = some o→H b = none→∃ sl,h'.get? b = some { o with slots:=sl }) (free:∀ b o,b ∉ ch→s.heap.get? b = some o→H b = none→H' b = none)
  (there:∀ b o,b ∉ ch→s.heap.get? b = some o→∃ o',h'.get? b = some o')
  (tups:∀ b xs,H b = some (.tup xs)→H' b = some (.tup xs)) (frzs:∀ b o u,H b = some (.frz o u)→H' b = some (.frz o u)) (tbls:∀ b ps,H b = some (.tbl ps)→∃ more,H' b = some (.tbl (ps ++ more)))
  (ns:∀ m,s.heap.Ns X.env.locals m→h'.Ns X.env.locals m) (hok:HOk X.prog X.w H' h') (hg:AllBare g') :
  Inv X pins σ H' { s with heap:=h',gens:=g',drawn:=d',toks:=t' }:=by
 have neL:∀ b o,X.s₀.heap.get? b = some o→b≠X.env.locals:=fun b o e => Nat.ne_of_lt (Nat.lt_of_lt_of_le (Heap.lt_size e) I.ok.above)
 have neC:∀ b o,X.s₀.heap.get? b = some o→b ∉ X.ex→b ∉ ch:=fun b o e hx hb => by
  rcases (hch b hb).1 with z | z
  ·exact hx z
  ·exact absurd (Nat.lt_of_lt_of_le (Heap.lt_size e) z) (Nat.lt_irrefl _)
 have cellK:∀ x c,X.env.cells.lookup x = some c→∀ v,s.heap.IsCell c v→h'.IsCell c v:=fun x c e v ⟨o,ho,hd⟩ => by
  have nch:c ∉ ch:=fun z => (hch c z).2.2.1 x c e rfl
  by_cases hc:c∈X.fs
  ·obtain ⟨sl,q⟩:=slot c o (I.cne x c e) hc nch ho (I.freeC x c e)
   exact ⟨_,q,hd⟩
  ·exact ⟨o,keep c o (I.cne x c e) hc nch ho (I.freeC x c e),hd⟩
 refine ⟨I.ok,I.os,hg,⟨fun b o e n hb hx => ?_,fun b o e n hb hx => ?_,fun b o e n hx => ?_,fun b o e hx => ?_,fun b xs e => tups b xs (I.base.tups b xs e),fun b o xs e => frzs b o xs (I.base.frzs b o xs e),fun b ps e => ?_⟩,?_,fun x c e => ?_,?_,fun x c e => ?_,fun p hp => ?_,hok,I.len⟩
 ·exact keep b o (neL b o e) hb (neC b o e hx) (I.base.keep b o e n hb hx) (I.base.free b o e n hx)
 ·obtain ⟨sl,e1⟩:=I.base.slot b o e n hb hx
  obtain ⟨sl',e2⟩:=slot b _ (neL b o e) hb (neC b o e hx) e1 (I.base.free b o e n hx)
  exact ⟨sl',e2⟩
 ·obtain ⟨o',e1⟩:=I.base.there b o e hx
  exact free b o' (neC b o e hx) e1 (I.base.free b o e n hx)
 ·obtain ⟨o',e1⟩:=I.base.there b o e hx
  exact there b o' (neC b o e hx) e1
 ·obtain ⟨m1,e1⟩:=I.base.tbls b ps e
  obtain ⟨m2,e2⟩:=tbls b _ e1
  exact ⟨m1 ++ m2,by rw [e2,Array.append_assoc]⟩
 ·obtain ⟨m,hn,hl⟩:=I.loc
  refine ⟨m,ns m hn,fun i x v e1 e2 e3 => ?_⟩
  obtain ⟨u,r,l⟩:=hl i x v e1 e2 e3
  refine ⟨u,r,?_⟩
  rcases l with l | ⟨k,c,e,z⟩
  ·exact .inl l
  ·exact .inr ⟨k,c,e,cellK x c e _ z⟩
 ·obtain ⟨v,z⟩:=I.cell x c e
  exact ⟨v,cellK x c e v z⟩
 ·obtain ⟨m,⟨o,_,_,ho,_⟩,_⟩:=I.loc
  exact free _ o (fun z => (hch _ z).2.1 rfl) ho I.free
 ·obtain ⟨v,o,ho,hd⟩:=I.cell x c e
  exact free c o (fun z => (hch c z).2.2.1 x c e rfl) ho (I.freeC x c e)
 ·obtain ⟨e,n,ne,nf,d⟩:=I.pin p hp
  have nch:p.1 ∉ ch:=fun z => (hch p.1 z).2.2.2 p hp rfl
  exact ⟨keep p.1 p.2 ne nf nch e n,free p.1 p.2 nch e n,ne,nf,d⟩
theorem Inv.un {t':Nat} (I:Inv X pins σ H s) (u:Un X.fs [] H H' s.heap h') (hok:HOk X.prog X.w H' h'):Inv X pins σ H' { s with heap:=h',toks:=t' }:=by
 obtain ⟨m,⟨o,es,ep,ho,r⟩,_⟩:=id I.loc
 obtain ⟨sl,hL⟩:=u.any ho I.free (by simp)
 exact I.step (g':=s.gens) (d':=s.drawn) (ch:=[]) (fun _ z => nomatch z) (fun b o _ hb _ e n => u.keep b o e n hb (by simp)) (fun b o _ hb _ e n => u.slot b o e n hb (by simp)) (fun b o _ e n => u.free b o e n (by simp)) (fun b o _ e => u.there b o e (by simp)) u.tups u.frzs u.tbls (fun m' hm => by
  obtain ⟨o',es',ep',ho',r'⟩:=hm
  rw [ho] at ho'; cases ho'
  exact ⟨_,es',ep',hL,r'⟩) hok I.bare
theorem Inv.call {g':Array GenState} {t':Nat} {d':Drawn} {ch:List Addr} (I:Inv X pins σ H s) (u:Un (Dl X.stack) ch H H' s.heap h') (hok:HOk X.prog X.w H' h') (hg:AllBare g')
  (hch:∀ b∈ch,(b∈X.ex∨X.s₀.heap.objs.size≤b)∧b≠X.env.locals∧(∀ x c,X.env.cells.lookup x = some c→c≠b)∧∀ p∈X.pn ++ pins,p.1≠b) :
  Inv X pins σ H' { s with heap:=h',gens:=g',drawn:=d',toks:=t' }:=by
 obtain ⟨m,⟨o,es,ep,ho,r⟩,_⟩:=id I.loc
 obtain ⟨sl,hL⟩:=u.any ho I.free fun z => (hch _ z).2.1 rfl
 exact I.step (ch:=ch) hch (fun b o hL hb hc e n => u.keep b o e n (fun z => (List.mem_cons.mp (I.stkSub b z)).elim hL hb) hc) (fun b o _ _ hc e n => u.any e n hc) (fun b o hc e n => u.free b o e n hc) (fun b o hc e => u.there b o e hc) u.tups u.frzs u.tbls (fun m' hm => by
  obtain ⟨o',es',ep',ho',r'⟩:=hm
  rw [ho] at ho'; cases ho'
  exact ⟨_,es',ep',hL,r'⟩) hok hg
theorem Inv.turned {t':Nat} {it:Addr} (I:Inv X pins σ H s) (k:∀ b o,b≠it→s.heap.get? b = some o→h'.get? b = some o) (hn:H it = none) (hL:it≠X.env.locals)
  (h1:it∈X.ex∨X.s₀.heap.objs.size≤it) (h2:∀ x c,X.env.cells.lookup x = some c→c≠it) (h3:∀ p∈X.pn ++ pins,p.1≠it):Inv X pins σ H { s with heap:=h',toks:=t' }:=by
 have nit:∀ b u,H b = some u→b≠it:=fun b u e z => by rw [z,hn] at e; cases e
 refine I.step (g':=s.gens) (d':=s.drawn) (ch:=[it]) (fun b hb => ?_) (fun b o _ _ hc e _ => k b o (fun z => hc (by simp [z])) e) (fun b o _ _ hc e _ => ⟨o.slots,k b o (fun z => hc (by simp [z])) e⟩) (fun _ _ _ _ n => n)
  (fun b o hc e => ⟨o,k b o (fun z => hc (by simp [z])) e⟩) (fun _ _ e => e) (fun _ _ _ e => e) (fun b ps e => ⟨#[],by rw [e]; simp⟩) (fun m hm => ?_) (fun b u e => ?_) I.bare
 ·have e:b = it:=by simpa using hb
  subst e
  exact ⟨h1,hL,h2,h3⟩
 ·obtain ⟨o,es,ep,ho,r⟩:=hm
  exact ⟨o,es,ep,k _ o (Ne.symm hL) ho,r⟩
 ·refine (I.hok b u e).stay (fun c v hc q => k c v ?_ q) (fun _ q => q) fun _ _ q => q
  rcases hc with z | z
  ·rw [z]; exact nit b u e
  ·exact nit c _ z
theorem Inv.tok (I:Inv X pins σ H s) (t:Nat):Inv X pins σ H { s with toks:=t }:=I.un (h':=s.heap) (t':=t) Un.refl I.hok
theorem Inv.kept {t':Nat} (I:Inv X pins σ H s) (k:∀ b u,s.heap.get? b = some u→h'.get? b = some u):Inv X pins σ H { s with heap:=h',toks:=t' }:=I.un (Un.kept k) (I.hok.kept k)
theorem Inv.laid {a:Addr} {o:HO} {t':Nat} (I:Inv X pins σ H s) (k:∀ b u,s.heap.get? b = some u→h'.get? b = some u) (hp:s.heap.objs.size≤a) (new:ObjOk X.prog X.w (upd H a o) h' a o) :
  Inv X pins σ (upd H a o) { s with heap:=h',toks:=t' }:=I.un (Un.laid k hp (I.hok.fresh hp)) (I.hok.laid k hp new)
theorem Inv.write {x e:Addr} {o:HO} {t':Nat} (I:Inv X pins σ H s) (mu:UM (H x)) (he:e = x∨H e = some (.own x)) (k:∀ b u,b≠e→s.heap.get? b = some u→h'.get? b = some u) (heo:∃ u,h'.get? e = some u)
  (new:ObjOk X.prog X.w (upd H x o) h' x o):Inv X pins σ (upd H x o) { s with heap:=h',toks:=t' }:=I.un (Un.write mu he k heo) (I.hok.write mu he k heo new)
theorem Inv.weak {σ':List (Option V)} (I:Inv X pins σ H s) (hl:σ'.length = σ.length) (w:∀ (i:Nat) v,σ'[i]? = some (some v)→σ[i]? = some (some v)):Inv X pins σ' H s :=
 ⟨I.ok,I.os,I.bare,I.base,let ⟨m,hn,hl'⟩:=I.loc; ⟨m,hn,fun i x v e1 e2 e3 => hl' i x v e1 (w i v e2) e3⟩,I.cell,I.free,I.freeC,I.pin,I.hok,hl.trans I.len⟩
theorem Inv.pins_of {pins':List (Addr × Obj)} (I:Inv X pins σ H s) (h:∀ p∈pins',s.heap.get? p.1 = some p.2∧H p.1 = none∧p.1≠X.env.locals∧p.1 ∉ X.fs∧∀ v,p.2.data≠.cell v):Inv X pins' σ H s :=
 ⟨I.ok,I.os,I.bare,I.base,I.loc,I.cell,I.free,I.freeC,fun p hp => (List.mem_append.mp hp).elim (fun z => I.pin p (List.mem_append_left _ z)) (h p),I.hok,I.len⟩
theorem Eo {N:List Str} (hN:N.Nodup) {i j:Nat} {x:Str} (a:N[i]? = some x) (b:N[j]? = some x):i = j:=by
 obtain ⟨h1,e1⟩:=List.getElem?_eq_some_iff.mp a
 obtain ⟨h2,e2⟩:=List.getElem?_eq_some_iff.mp b
 exact (List.getElem_inj hN).mp (e1.trans e2.symm)
theorem Fu {M:Model} {A:Around} {E:Value→Shared→Prop} {i:Nat} {x:Str} {v:V} {u:Value} {Q:Unit→Shared→Prop} (I:Inv X pins σ H s) (hN:X.N.Nodup) (hi:X.N[i]? = some x) (hx:OP X.env.scope x) (r:RelV v u)
  (h:∀ s',Inv X pins (σ.set i (some v)) H s'→(∃ a,Heap.SameBut a s.heap s'.heap∧(a = X.env.locals∨X.env.cells.lookup x = some a))→Q () s') (hf:X.fn x = true∨X.env.scope.names.lookup x = some .local:=by first | exact .inl rfl | exact .inr rfl | assumption):wpAny M A (storeName X.env x u) Q E s:=by
 obtain ⟨m,hn,hl⟩:=id I.loc
 have hcls:(X.env.scope.kind == .class || (X.env.scope.kind == .module && X.env.locals != X.env.globals)) = false:=by rw [I.ok.kind]; rfl
 have hiσ:i < σ.length:=by rw [I.len]; exact (List.getElem?_eq_some_iff.mp hi).1
 have cne:=I.cne
 have tracked:∀ {a:Addr} {h':Heap},(∃ o,s.heap.get? a = some o∧H a = none)→Heap.SameBut a s.heap h'→HOk X.prog X.w H h':=fun {a h'} ha hs b ob e => by
  obtain ⟨_,_,hfree⟩:=ha
  refine (I.hok b ob e).stay (fun c w' hc q => (hs.2 c ?_).trans q) (fun _ q => q) fun _ _ q => q
  rintro rfl
  rcases hc with rfl | hc
  ·rw [hfree] at e; cases e
  ·rw [hfree] at hc; cases hc
 rcases hx with hk | hk
 ·refine wpAny_storeName_local hk hn (fun h' hn' hs => ?_) hcls
  obtain ⟨oL,_,_,hoL,_⟩:=id hn
  refine h _ ⟨I.ok,I.os,I.bare,⟨fun b o e n hb hx => ?_,fun b o e n hb hx => ?_,I.base.free,fun b o e hx => ?_,I.base.tups,I.base.frzs,I.base.tbls⟩,⟨_,hn',fun j y v' e1 e2 e3 => ?_⟩,fun y c e => ?_,I.free,I.freeC,fun p hp => ?_,tracked ⟨oL,hoL,I.free⟩ hs,by simpa using I.len⟩ ⟨_,hs,.inl rfl⟩
  ·exact (hs.2 b (Nat.ne_of_lt (Nat.lt_of_lt_of_le (Heap.lt_size e) I.ok.above))).trans (I.base.keep b o e n hb hx)
  ·obtain ⟨sl,e1⟩:=I.base.slot b o e n hb hx
   exact ⟨sl,(hs.2 b (Nat.ne_of_lt (Nat.lt_of_lt_of_le (Heap.lt_size e) I.ok.above))).trans e1⟩
  ·obtain ⟨o',e1⟩:=I.base.there b o e hx
   exact ⟨o',(hs.2 b (Nat.ne_of_lt (Nat.lt_of_lt_of_le (Heap.lt_size e) I.ok.above))).trans e1⟩
  ·by_cases hj:j = i
   ·subst hj
    rw [hi] at e1; cases e1
    rw [List.getElem?_set_self hiσ] at e2
    cases e2
    exact ⟨u,r,.inl ⟨hk,by simp⟩⟩
   ·rw [List.getElem?_set_ne (Ne.symm hj)] at e2
    obtain ⟨u',r',q⟩:=hl j y v' e1 e2 e3
    refine ⟨u',r',?_⟩
    rcases q with ⟨k,e⟩ | ⟨k,c,e,z⟩
    ·refine .inl ⟨k,?_⟩
     have:y≠x:=fun e => hj (Eo hN e1 (e ▸ hi))
     simp [this,e]
    ·exact .inr ⟨k,c,e,z.sameBut hs (cne y c e)⟩
  ·obtain ⟨w',z⟩:=I.cell y c e
   exact ⟨w',z.sameBut hs (cne y c e)⟩
  ·obtain ⟨e,n,ne,nf,d⟩:=I.pin p hp
   exact ⟨(hs.2 p.1 ne).trans e,n,ne,nf,d⟩
 ·have hfn:X.fn x = true:=by
   rcases hf with z | z
   ·exact z
   ·rw [z] at hk; cases hk
  obtain ⟨c,hc⟩:=I.ok.has x (.inl hk)
  obtain ⟨w',z⟩:=I.cell x c hc
  refine wpAny_storeName_cell I.ok.kind hk hc z (fun h' hc' hs => ?_)
  obtain ⟨oc,hoc,hocd⟩:=id z
  refine h { s with heap:=h' } ⟨I.ok,I.os,I.bare,⟨fun b o e n hb hx => ?_,fun b o e n hb hx => ?_,I.base.free,fun b o e hx => ?_,I.base.tups,I.base.frzs,I.base.tbls⟩,⟨m,hn.sameBut hs (Ne.symm (cne x c hc)),fun j y v' e1 e2 e3 => ?_⟩,fun y c' e => ?_,I.free,I.freeC,fun p hp => ?_,tracked ⟨oc,hoc,I.freeC x c hc⟩ hs,by simpa using I.len⟩ ⟨c,hs,.inr hc⟩
  ·exact (hs.2 b (Nat.ne_of_lt (Nat.lt_of_lt_of_le (Heap.lt_size e) (I.ok.cab x c hfn hc)))).trans (I.base.keep b o e n hb hx)
  ·obtain ⟨sl,e1⟩:=I.base.slot b o e n hb hx
   exact ⟨sl,(hs.2 b (Nat.ne_of_lt (Nat.lt_of_lt_of_le (Heap.lt_size e) (I.ok.cab x c hfn hc)))).trans e1⟩
  ·obtain ⟨o',e1⟩:=I.base.there b o e hx
   exact ⟨o',(hs.2 b (Nat.ne_of_lt (Nat.lt_of_lt_of_le (Heap.lt_size e) (I.ok.cab x c hfn hc)))).trans e1⟩
  ·by_cases hj:j = i
   ·subst hj
    rw [hi] at e1; cases e1
    rw [List.getElem?_set_self hiσ] at e2
    cases e2
    exact ⟨u,r,.inr ⟨.inl hk,c,hc,hc'⟩⟩
   ·rw [List.getElem?_set_ne (Ne.symm hj)] at e2
    obtain ⟨u',r',q⟩:=hl j y v' e1 e2 e3
    refine ⟨u',r',?_⟩
    rcases q with q | ⟨k,c',e,z'⟩
    ·exact .inl q
    ·refine .inr ⟨k,c',e,z'.sameBut hs ?_⟩
     rintro rfl
     exact hj (Eo hN e1 (I.ok.inj _ _ _ e hc ▸ hi))
  ·by_cases hcc:c' = c
   ·subst hcc; exact ⟨_,hc'⟩
   ·obtain ⟨w2,z2⟩:=I.cell y c' e
    exact ⟨w2,z2.sameBut hs hcc⟩
  ·obtain ⟨e,n,ne,nf,d⟩:=I.pin p hp
   refine ⟨(hs.2 p.1 ?_).trans e,n,ne,nf,d⟩
   intro q
   rw [q,hoc] at e
   have q':oc = p.2:=Option.some.inj e
   exact d w' (by rw [← q']; exact hocd)
theorem Ep {M:Model} {A:Around} {E:Value→Shared→Prop} {i:Nat} {x:Str} {v:V} {u:Value} {Q:Unit→Shared→Prop} (I:Inv X pins σ H s) (hN:X.N.Nodup) (hi:X.N[i]? = some x) (hx:OP X.env.scope x) (r:RelV v u)
  (h:∀ s',Inv X pins (σ.set i (some v)) H s'→Q () s') (hf:X.fn x = true∨X.env.scope.names.lookup x = some .local:=by first | exact .inl rfl | exact .inr rfl | assumption):wpAny M A (storeName X.env x u) Q E s :=
 Fu I hN hi hx r (fun s' I' _ => h s' I') hf
theorem Inv.call' {s':Shared} {ch:List Addr} (I:Inv X pins σ H s) (ho:s'.os = s.os) (u:Un (Dl X.stack) ch H H' s.heap s'.heap) (hok:HOk X.prog X.w H' s'.heap) (hg:AllBare s'.gens)
  (hch:∀ b∈ch,(b∈X.ex∨X.s₀.heap.objs.size≤b)∧b≠X.env.locals∧(∀ x c,X.env.cells.lookup x = some c→c≠b)∧∀ p∈X.pn ++ pins,p.1≠b):Inv X pins σ H' s':=by
 obtain ⟨h',g',d',t',o'⟩:=s'
 have e:o' = s.os:=ho
 subst e
 exact I.call (g':=g') (t':=t') (d':=d') u hok hg hch
end
abbrev XK:=Value→Option Addr→Hp→Prop
abbrev St:=List (Option V)
abbrev VK:=V→Hp→Prop
abbrev TE:=St→Hp→VK→Prop
abbrev TT:=St→Hp→(Bool→Hp→Prop)→Prop
abbrev TA:=St→Hp→(List V→Hp→Prop)→Prop
structure Ends where
 nx:St→Hp→Prop
 rt:VK
 bk:St→Hp→Prop:=fun _ _ => False
 ct:St→Hp→Prop:=fun _ _ => False
abbrev TS:=Ends→St→Hp→Prop
def EP (X:Cx) (pins:List (Addr × Obj)) (σ:St) (Q:VK) (u:Value) (s':Shared):Prop:=∃ v H',Inv X pins σ H' s'∧RelV v u∧Q v H'
def TP (X:Cx) (pins:List (Addr × Obj)) (σ:St) (Q:Bool→Hp→Prop) (b:Bool) (s':Shared):Prop:=∃ H',Inv X pins σ H' s'∧Q b H'
def AP (X:Cx) (pins:List (Addr × Obj)) (σ:St) (Q:List V→Hp→Prop) (us:List Value) (s':Shared):Prop:=∃ vs H',Inv X pins σ H' s'∧Vals vs us∧Q vs H'
def SP (X:Cx) (pins:List (Addr × Obj)) (D:Ends) (f:Flow) (s':Shared):Prop :=
 match f with
 | .next => ∃ σ' H',Inv X pins σ' H' s'∧D.nx σ' H'
 | .brk => ∃ σ' H',Inv X pins σ' H' s'∧D.bk σ' H'
 | .cont => ∃ σ' H',Inv X pins σ' H' s'∧D.ct σ' H'
 | .ret u => ∃ v σ' H',Inv X pins σ' H' s'∧RelV v u∧D.rt v H'
def PE (X:Cx) (e:Expr) (t:TE):Prop :=
 ∀ (pins:List (Addr × Obj)) (s:Shared) (σ:St) (H:Hp) (Q:VK),Inv X pins σ H s→t σ H Q→wpAny (model X.prog X.w) X.A (eval e X.env) (EP X pins σ Q) X.xe s
def PT (X:Cx) (e:Expr) (t:TT):Prop :=
 ∀ (pins:List (Addr × Obj)) (s:Shared) (σ:St) (H:Hp) (Q:Bool→Hp→Prop),Inv X pins σ H s→t σ H Q→wpAny (model X.prog X.w) X.A (isTrue e X.env (eval e X.env)) (TP X pins σ Q) X.xe s
def PW (X:Cx) (e:Expr) (t:TT):Prop :=
 ∀ (whole:Sem Value) (pins:List (Addr × Obj)) (s:Shared) (σ:St) (H:Hp) (Q:Bool→Hp→Prop),Inv X pins σ H s→t σ H Q→wpAny (model X.prog X.w) X.A (isTrue e X.env whole) (TP X pins σ Q) X.xe s
theorem PW.pt {X:Cx} {e:Expr} {t:TT} (h:PW X e t):PT X e t:=h _
def PA (X:Cx) (es:List Expr) (t:TA):Prop :=
 ∀ (pos:Pos) (pins:List (Addr × Obj)) (s:Shared) (σ:St) (H:Hp) (Q:List V→Hp→Prop),Inv X pins σ H s→t σ H Q→wpAny (model X.prog X.w) X.A (spliced (backTo pos (starEach es X.env))) (AP X pins σ Q) X.xe s
def PS (X:Cx) (st:Stmt) (t:TS):Prop :=
 ∀ (pins:List (Addr × Obj)) (s:Shared) (σ:St) (H:Hp) (D:Ends),Inv X pins σ H s→t D σ H→wpAny (model X.prog X.w) X.A (exec st X.env) (SP X pins D) X.xe s
def PSs (X:Cx) (st:List Stmt) (t:TS):Prop :=
 ∀ (pins:List (Addr × Obj)) (s:Shared) (σ:St) (H:Hp) (D:Ends),Inv X pins σ H s→t D σ H→wpAny (model X.prog X.w) X.A (execs st X.env) (SP X pins D) X.xe s
theorem Ac {α:Type} {t:Sem α} {Q Q':α→Shared→Prop} {M:Model} {A:Around} {E:Value→Shared→Prop} {s:Shared} (h:wpAny M A t Q E s) (hQ:∀ a s,Q a s→Q' a s):wpAny M A t Q' E s:=wpAny_mono h hQ fun _ _ x => x
section
variable {X:Cx}
def Sa (i:Nat):TE:=fun σ H Q => ∃ v,σ[i]? = some (some v)∧Q v H
def tC (v:V):TE:=fun _ H Q => Q v H
theorem ME {i:Nat} {x:Str} {pos:Pos} (hN:X.N[i]? = some x) (hv:SW X.env.scope x) (hd:(x == ("__debug__" : Str)) = false:=by decide) (hcd:(x == ("__classdict__" : Str)) = false:=by decide):PE X (.Name x pos) (Sa i):=by
 intro pins s σ H Q I h
 obtain ⟨v,e,h⟩:=h
 obtain ⟨m,hn,hl⟩:=I.loc
 obtain ⟨u,r,l⟩:=hl i x v hN e hv
 have fin:EP X pins σ Q u s:=⟨v,H,I,r,h⟩
 rcases l with ⟨hk,hm⟩ | ⟨hk,c,hc,hcell⟩
 ·exact wpAny_Name (wpAny_loadName_local I.ok.kind hk hn hm fin) hd
 ·rcases hk with hk | hk
  ·exact wpAny_Name (wpAny_loadName_cell I.ok.kind hk hc hcell fin) hd
  ·exact wpAny_Name (wpAny_loadName_free I.ok.kind hk hc hcell fin hcd) hd
theorem Gq {i j pos}:PE X (.Constant (.int i) j pos) (tC (.int i)):=fun _ _ _ H _ I h => wpAny_Constant_int ⟨.int i,H,I.tok _,⟨_,rfl⟩,h⟩
theorem MF {b j pos}:PE X (.Constant (.bool b) j pos) (tC (.bl b)):=fun _ _ _ H _ I h => Constant_bool ⟨.bl b,H,I,rfl,h⟩
theorem Qh {j pos}:PE X (.Constant .none j pos) (tC .non):=fun _ _ _ H _ I h => Constant_none ⟨.non,H,I,rfl,h⟩
theorem Br {x j pos}:PE X (.Constant (.str x) j pos) (tC (.str x)):=fun _ _ _ H _ I h => Calls.Constant_str ⟨.str x,H,I.tok _,⟨_,rfl⟩,h⟩
def Gl (X:Cx) (x:Str):Prop:=X.env.kindOf x = some .globalImplicit
theorem DN {E:Value→Shared→Prop} {pins:List (Addr × Obj)} {s:Shared} {σ:St} {H:Hp} {x:Str} {u:Value} {pos:Pos} {Q:Value→Shared→Prop} (I:Inv X pins σ H s) (hg:Gl X x) (hm:X.mg x = some u) (h:Q u s)
  (hd:(x == ("__debug__" : Str)) = false:=by decide):wpAny (model X.prog X.w) X.A (eval (.Name x pos) X.env) Q E s :=
 Calls.Name_function_global I.ok.kind hg (Calls.loadGlobal_global (by rw [I.ok.glob]; exact I.mod.glob.keeps I.bk) hm h) hd
theorem Dm {E:Value→Shared→Prop} {pins:List (Addr × Obj)} {s:Shared} {σ:St} {H:Hp} {x:Str} {u:Value} {pos:Pos} {Q:Value→Shared→Prop} (I:Inv X pins σ H s) (hg:Gl X x) (hm:X.mg x = none) (hv:bootBuiltins x = some u) (h:Q u s)
  (hn:x≠"__name__":=by decide) (hd:(x == ("__debug__" : Str)) = false:=by decide):wpAny (model X.prog X.w) X.A (eval (.Name x pos) X.env) Q E s:=by
 obtain ⟨mb,h1,h2⟩:=I.mod.blt
 exact Calls.Name_function_global I.ok.kind hg (Calls.loadGlobal_builtin (by rw [I.ok.glob]; exact I.mod.glob.keeps I.bk) hm (by rw [I.ok.blt]; exact h1.keeps I.bk) ((h2 x hn).trans hv) h) hd
theorem BT {x:Str} {v:V} {u:Value} {pos:Pos} (hg:Gl X x) (hm:X.mg x = some u) (r:RelV v u) (hd:(x == ("__debug__" : Str)) = false:=by decide):PE X (.Name x pos) (tC v) :=
 fun _ _ _ H _ I h => DN I hg hm ⟨v,H,I,r,h⟩ hd
theorem KC {x:Str} {v:V} {u:Value} {pos:Pos} (hg:Gl X x) (hm:X.mg x = none) (hv:bootBuiltins x = some u) (r:RelV v u) (hn:x≠"__name__":=by decide) (hd:(x == ("__debug__" : Str)) = false:=by decide):PE X (.Name x pos) (tC v) :=
 fun _ _ _ H _ I h => Dm I hg hm hv ⟨v,H,I,r,h⟩ hn hd
variable {a b:Expr} {ta tb:TE} {pos:Pos}
variable {tA tB':TT} {rest:List Expr}
def UX (t u:TT):TT:=fun σ H Q => t σ H fun c H1 => if c = true then u σ H1 Q else Q false H1
def Vb (t u:TT):TT:=fun σ H Q => t σ H fun c H1 => if c = true then Q true H1 else u σ H1 Q
def UY (t:TT):TT:=fun σ H Q => t σ H fun c H1 => Q (!c) H1
theorem OU (ha:PT X a tA):PW X (.BoolOp .And [a] pos) tA:=by
 intro wh pins s σ H Q I h
 refine isTrue_and (Ac (ha pins s σ H Q I h) fun c s1 e => ?_)
 cases c with
 | true => exact isTrue_and_nil e
 | false => exact e
theorem MG (ha:PT X a tA):PW X (.BoolOp .Or [a] pos) tA:=by
 intro wh pins s σ H Q I h
 refine isTrue_or (Ac (ha pins s σ H Q I h) fun c s1 e => ?_)
 cases c with
 | false => exact isTrue_or_nil e
 | true => exact e
theorem Qi (ha:PT X a tA) (hb:PW X (.BoolOp .And (b :: rest) pos) tB'):PW X (.BoolOp .And (a :: b :: rest) pos) (UX tA tB'):=by
 intro wh pins s σ H Q I h
 refine isTrue_and (Ac (ha pins s σ H _ I h) fun c s1 ⟨H1,I1,q1⟩ => ?_)
 cases c with
 | true => exact hb wh pins s1 σ H1 Q I1 q1
 | false => exact ⟨H1,I1,q1⟩
theorem Pz (ha:PT X a tA) (hb:PW X (.BoolOp .Or (b :: rest) pos) tB'):PW X (.BoolOp .Or (a :: b :: rest) pos) (Vb tA tB'):=by
 intro wh pins s σ H Q I h
 refine isTrue_or (Ac (ha pins s σ H _ I h) fun c s1 ⟨H1,I1,q1⟩ => ?_)
 cases c with
 | true => exact ⟨H1,I1,q1⟩
 | false => exact hb wh pins s1 σ H1 Q I1 q1
theorem MH (ha:PT X a tA):PT X (.UnaryOp .Not a pos) (UY tA):=by
 intro pins s σ H Q I h
 exact isTrue_not (ha pins s σ H (fun c H1 => Q (!c) H1) I h)
def Sb (ta tb:TE):TE:=fun σ H Q => ta σ H fun x H1 => ∃ c,x = .bl c∧if c = true then tb σ H1 Q else Q (.bl false) H1
def UZ (ta tb:TE):TE:=fun σ H Q => ta σ H fun x H1 => ∃ c,x = .bl c∧if c = true then Q (.bl true) H1 else tb σ H1 Q
def Sc (ta:TE):TE:=fun σ H Q => ta σ H fun x H1 => ∃ c,x = .bl c∧Q (.bl (!c)) H1
theorem Qj {op} {t:TE} (h:PE X a t):PE X (.BoolOp op [a] pos) t:=fun pins s σ H Q I hw => BoolOp_one (h pins s σ H Q I hw)
theorem Qk (ha:PE X a ta) (hb:PE X (.BoolOp .And (b :: rest) pos) tb):PE X (.BoolOp .And (a :: b :: rest) pos) (Sb ta tb):=by
 intro pins s σ H Q I h
 refine BoolOp_and (Ac (ha pins s σ H _ I h) fun v s1 ⟨x,H1,I1,r1,q1⟩ => ?_)
 obtain ⟨c,rfl,q1⟩:=q1
 cases r1
 refine wpAny_truthy_bool ?_
 cases c with
 | true => exact hb pins s1 σ H1 Q I1 q1
 | false => exact ⟨.bl false,H1,I1,rfl,q1⟩
theorem Sd (ha:PE X a ta) (hb:PE X (.BoolOp .Or (b :: rest) pos) tb):PE X (.BoolOp .Or (a :: b :: rest) pos) (UZ ta tb):=by
 intro pins s σ H Q I h
 refine BoolOp_or (Ac (ha pins s σ H _ I h) fun v s1 ⟨x,H1,I1,r1,q1⟩ => ?_)
 obtain ⟨c,rfl,q1⟩:=q1
 cases r1
 refine wpAny_truthy_bool ?_
 cases c with
 | false => exact hb pins s1 σ H1 Q I1 q1
 | true => exact ⟨.bl true,H1,I1,rfl,q1⟩
theorem Ql (ha:PE X a ta):PE X (.UnaryOp .Not a pos) (Sc ta):=by
 intro pins s σ H Q I h
 refine UnaryOp_ (Ac (ha pins s σ H _ I h) fun v s1 ⟨x,H1,I1,r1,q1⟩ => ?_)
 obtain ⟨c,rfl,q1⟩:=q1
 cases r1
 exact not_of (wpAny_truthy_bool ⟨.bl (!c),H1,I1,rfl,q1⟩)
end
def SqL (K:PySem.W.Frag) (H:Hp) (a:Addr) (xs:List V):Prop :=
 Rd H a (.lst xs) ∨
  ∃ (o:Obj) (its:Array Value) (n:Nat),K.lookup a = some o∧o.cls = .type "list"∧o.dict = none∧o.data = .seq its n∧its.size≤sizeLine∧Vals xs its.toList
def Hv (K:PySem.W.Frag) (H:Hp) (a:Addr) (xs:List V):Prop :=
 Rd H a (.tup xs) ∨
  ∃ (o:Obj) (its:Array Value) (n:Nat),K.lookup a = some o∧o.cls = .type "tuple"∧o.data = .seq its n∧its.size≤sizeLine∧Vals xs its.toList
def Ua:Value→Option V
 | .none => some .non
 | .bool b => some (.bl b)
 | .int i _ => some (.int i)
 | .str x _ => some (.str x)
 | .bytes b _ => some (.byt b)
 | .float b _ => some (.flt b)
 | .ref a => some (.ref a)
 | .type n => some (.ty n)
 | _ => none
theorem RelV.abs {x:V} {u:Value} (r:RelV x u):Ua u = some x:=by
 cases x with
 | non => cases r; rfl
 | bl _ => cases r; rfl
 | int _ => obtain ⟨t,rfl⟩:=r; rfl
 | str _ => obtain ⟨t,rfl⟩:=r; rfl
 | byt _ => obtain ⟨t,rfl⟩:=r; rfl
 | flt _ => obtain ⟨t,rfl⟩:=r; rfl
 | ref _ => cases r; rfl
 | ty _ => cases r; rfl
theorem RelV.inj {x y:V} {u:Value} (r:RelV x u) (q:RelV y u):x = y:=Option.some.inj (r.abs.symm.trans q.abs)
theorem Vals.inj:∀ {xs ys:List V} {us:List Value},Vals xs us→Vals ys us→xs = ys
 | _,_,_,.nil,.nil => rfl
 | _,_,_,.cons r t,.cons r' t' => by rw [r.inj r',Vals.inj t t']
section
variable {X:Cx} {pins:List (Addr × Obj)} {σ:St} {H:Hp} {s:Shared} {a:Addr} {xs ys:List V}
theorem SqL.of {K:PySem.W.Frag} (h:H a = some (.lst xs)):SqL K H a xs:=.inl (.inl h)
theorem Inv.list (I:Inv X pins σ H s) (h:SqL X.K H a xs):∃ its:List Value,Vals xs its∧PlainL s.heap a its.toArray∧xs.length≤sizeLine:=by
 rcases h with h | ⟨o,its,n,hk,hc,hd,hs,hz,r⟩
 ·obtain ⟨z,its,n,r,e⟩:=h.ok I.hok
  exact ⟨its,r,⟨_,n,e,rfl,rfl,rfl⟩,z⟩
 ·refine ⟨its.toList,r,⟨o,n,I.kIn a o hk,hc,hd,by simpa using hs⟩,?_⟩
  have e:=r.length
  simp only [Array.length_toList] at e
  omega
theorem Inv.tuple (I:Inv X pins σ H s) (h:Hv X.K H a xs):∃ its:List Value,Vals xs its∧IsTup s.heap a its.toArray∧xs.length≤sizeLine:=by
 rcases h with h | ⟨o,its,n,hk,hc,hs,hz,r⟩
 ·obtain ⟨z,its,r,p⟩:=h.ok I.hok
  exact ⟨its,r,p,z⟩
 ·refine ⟨its.toList,r,⟨o,I.kIn a o hk,hc,n,by simpa using hs⟩,?_⟩
  have e:=r.length
  simp only [Array.length_toList] at e
  omega
theorem Inv.list_inj (I:Inv X pins σ H s) (h:SqL X.K H a xs) (h':SqL X.K H a ys):xs = ys:=by
 obtain ⟨its,r,⟨o,n,e,_,_,d⟩,_⟩:=I.list h
 obtain ⟨its',r',⟨o',n',e',_,_,d'⟩,_⟩:=I.list h'
 rw [e] at e'; cases e'
 rw [d] at d'
 injection d' with d1 _
 have:its = its':=by simpa using congrArg Array.toList d1
 subst this
 exact r.inj r'
theorem Inv.tuple_inj (I:Inv X pins σ H s) (h:Hv X.K H a xs) (h':Hv X.K H a ys):xs = ys:=by
 obtain ⟨its,r,⟨o,e,_,n,d⟩,_⟩:=I.tuple h
 obtain ⟨its',r',⟨o',e',_,n',d'⟩,_⟩:=I.tuple h'
 rw [e] at e'; cases e'
 rw [d] at d'
 injection d' with d1 _
 have:its = its':=by simpa using congrArg Array.toList d1
 subst this
 exact r.inj r'
end
section
variable {X:Cx} {pins:List (Addr × Obj)} {σ:St} {H:Hp} {s:Shared} {E:Value→Shared→Prop}
end
section
variable {X:Cx} {st:Stmt} {rest:List Stmt} {t u:TS} {e:Expr} {te:TE} {pos:Pos}
def Se:TS:=fun D σ H => D.nx σ H
def Ub (t u:TS):TS:=fun D σ H => t { D with nx:=u D } σ H
theorem Gr:PSs X [] Se:=fun _ _ σ H _ I h => wpAny_execs_nil ⟨σ,H,I,h⟩
theorem Cc (h1:PS X st t) (h2:PSs X rest u):PSs X (st :: rest) (Ub t u):=by
 intro pins s σ H D I h
 refine wpAny_execs_cons (Ac (h1 pins s σ H { D with nx:=u D } I h) fun f s1 q => ?_)
 cases f with
 | next =>
  obtain ⟨σ',H',I',q⟩:=q
  exact h2 pins s1 σ' H' D I' q
 | ret v => exact q
 | brk => exact q
 | cont => exact q
theorem Cq (h1:PS X st t):PSs X [st] t:=by
 intro pins s σ H D I h
 refine wpAny_execs_cons (Ac (h1 pins s σ H D I h) fun f s1 q => ?_)
 cases f with
 | next => exact wpAny_execs_nil q
 | ret v => exact q
 | brk => exact q
 | cont => exact q
theorem Inv.quiet {pins:List (Addr × Obj)} {σ:St} {H:Hp} {s:Shared} (I:Inv X pins σ H s):interactive X.env = false:=by simp [interactive,I.ok.kind]
def Sf (te:TE):TS:=fun D σ H => te σ H fun _ H1 => D.nx σ H1
theorem OV (he:PE X e te) (hs:swapsWith e none pos.line X.env = pure false:=by rfl):PS X (.Expr e pos) (Sf te):=by
 intro pins s σ H D I h
 exact wpAny_Expr_any (Ac (he pins s σ H _ I h) fun v s1 ⟨x,H1,I1,r1,q1⟩ => ⟨σ,H1,I1,q1⟩) I.quiet hs
def Uc (te:TE):TS:=fun D σ H => te σ H D.rt
theorem Dn (he:PE X e te):PS X (.Return (some e) pos) (Uc te):=by
 intro pins s σ H D I h
 exact wpAny_Return_some (Ac (he pins s σ H _ I h) fun v s1 ⟨x,H1,I1,r1,q1⟩ => ⟨x,σ,H1,I1,r1,q1⟩)
def Ud (c:TT) (t u:TS):TS:=fun D σ H => c σ H fun b H1 => if b = true then t D σ H1 else u D σ H1
theorem MI {c:Expr} {a b:List Stmt} {tc:TT} (hc:PT X c tc) (ha:PSs X a t) (hb:PSs X b u):PS X (.If c a b pos) (Ud tc t u):=by
 intro pins s σ H D I h
 refine wpAny_If (Ac (hc pins s σ H _ I h) fun d s1 ⟨H1,I1,q1⟩ => ?_)
 cases d with
 | true => exact ha pins s1 σ H1 D I1 q1
 | false => exact hb pins s1 σ H1 D I1 q1
end
abbrev TG:=V→St→Hp→(St→Hp→Prop)→Prop
abbrev Qm:=List V→St→Hp→(St→Hp→Prop)→Prop
def PG (X:Cx) (target:Expr) (t:TG):Prop :=
 ∀ (pins:List (Addr × Obj)) (s:Shared) (σ:St) (H:Hp) (v:V) (u:Value) (Q:St→Hp→Prop),Inv X pins σ H s→RelV v u→t v σ H Q →
  wpAny (model X.prog X.w) X.A (assign target X.env u) (fun _ s' => ∃ σ' H',Inv X pins σ' H' s'∧Q σ' H') X.xe s
def UO (X:Cx) (ts:List Expr) (t:Qm):Prop :=
 ∀ (pins:List (Addr × Obj)) (s:Shared) (σ:St) (H:Hp) (vs:List V) (us:List Value) (Q:St→Hp→Prop),Inv X pins σ H s→Vals vs us→t vs σ H Q →
  wpAny (model X.prog X.w) X.A (assignInOrder ((assignEach ts X.env).map (·.2)) us) (fun _ s' => ∃ σ' H',Inv X pins σ' H' s'∧Q σ' H') X.xe s
abbrev Qn:=V→V→V→Hp→(Hp→Prop)→Prop
def Sg (X:Cx) (t:Qn):Prop :=
 ∀ (pins:List (Addr × Obj)) (s:Shared) (σ:St) (H:Hp) (o i v:V) (ov iv u:Value) (Q:Hp→Prop),Inv X pins σ H s→RelV o ov→RelV i iv→RelV v u→t o i v H Q →
  wpAny (model X.prog X.w) X.A (setItem ov iv u) (fun _ s' => ∃ H',Inv X pins σ H' s'∧Q H') X.xe s
section
variable {X:Cx} {pos:Pos}
def QA (i:Nat):TG:=fun v σ H Q => Q (σ.set i (some v)) H
theorem Gu {i:Nat} {x:Str} (hN:X.N.Nodup) (hi:X.N[i]? = some x) (hx:OP X.env.scope x) (hf:X.fn x = true∨X.env.scope.names.lookup x = some .local:=by first | exact .inl rfl | exact .inr rfl | assumption):PG X (.Name x pos) (QA i):=by
 intro pins s σ H v u Q I r h
 exact wpAny_assign_Name (Ep I hN hi hx r (fun s' I' => ⟨_,H,I',h⟩) hf)
def Ue:Qm:=fun vs σ H Q => vs = []∧Q σ H
def Sh (t:TG) (u:Qm):Qm:=fun vs σ H Q => ∃ v r,vs = v :: r∧t v σ H fun σ' H' => u r σ' H' Q
theorem OW:UO X [] Ue:=by
 intro pins s σ H vs us Q I r h
 obtain ⟨e,h⟩:=h
 subst e
 cases r
 exact assignInOrder_nil ⟨σ,H,I,h⟩
theorem Hw {e:Expr} {es:List Expr} {t:TG} {u:Qm} (h1:PG X e t) (h2:UO X es u)
  (hs:(assignEach (e :: es) X.env).map (·.2) = assign e X.env :: (assignEach es X.env).map (·.2):=by rfl):UO X (e :: es) (Sh t u):=by
 intro pins s σ H vs us Q I r h
 obtain ⟨v,vr,e1,h⟩:=h
 subst e1
 cases r with
 | cons r rr =>
  rw [hs]
  refine assignInOrder_cons (Ac (h1 pins s σ H _ _ _ I r h) fun _ s1 ⟨σ1,H1,I1,q1⟩ => ?_)
  exact h2 pins s1 σ1 H1 _ _ Q I1 rr q1
def Uf (K:PySem.W.Frag) (n:Nat) (t:Qm):TG:=fun v σ H Q => ∃ a xs,v = .ref a∧Hv K H a xs∧xs.length = n∧t xs σ H Q
theorem Qo {es:List Expr} {k:Nat} {t:Qm} {n:Nat} (hc:X.calm = true) (h:UO X es t)
  (hn:(assignEach es X.env).length = n:=by rfl) (hst:(assignEach es X.env).findIdx? (·.1) = none:=by rfl):PG X (.Tuple es k pos) (Uf X.K n t):=by
 intro pins s σ H v u Q I r hw
 obtain ⟨a,xs,e1,hq,hl,hw⟩:=hw
 subst e1
 cases r
 obtain ⟨its,rv,ht,hz⟩:=I.tuple hq
 refine assign_Tuple_tuple (I.ok.hd hc) ht (by simp [hn,← hl,rv.length]) hst fun h' hx => ?_
 have I1:Inv X pins σ H { s with heap:=h' }:=I.kept (t':=s.toks) fun b o e => hx b o (Nat.ne_of_lt (Heap.lt_size e)) e
 exact h pins _ σ H xs _ Q I1 (by simpa using rv) hw
def Ug (to ti:TE) (t:Qn):TG:=fun v σ H Q => to σ H fun o H1 => ti σ H1 fun i H2 => t o i v H2 fun H3 => Q σ H3
theorem Qp {o i:Expr} {to ti:TE} {t:Qn} (ho:PE X o to) (hi:PE X i ti) (hs:Sg X t)
  (ha:∀ v,assign (.Subscript o i pos) X.env v = (do
   let ov ← holding [v] (eval o X.env)
   let iv ← holding [v,ov] (eval i X.env)
   standAt pos
   holding [v,ov,iv] (setItem ov iv v)
   release [v,ov,iv] []):=by intro _; rfl):PG X (.Subscript o i pos) (Ug to ti t):=by
 intro pins s σ H v u Q I r h
 rw [ha]
 refine wpAny_bind (wpAny_holding (Ac (ho pins s σ H _ I h) fun ov s1 ⟨x,H1,I1,r1,q1⟩ => ?_))
 refine wpAny_bind (wpAny_holding (Ac (hi pins s1 σ H1 _ I1 q1) fun iv s2 ⟨y,H2,I2,r2,q2⟩ => ?_))
 refine wpAny_bind (wpAny_standAt (wpAny_bind (wpAny_holding (Ac (hs pins s2 σ H2 x y v ov iv u _ I2 r1 r2 r q2) fun _ s3 ⟨H3,I3,q3⟩ => ?_))))
 exact wpAny_release ⟨σ,H3,I3,q3⟩
def Si (te:TE) (g:TG):TS:=fun D σ H => te σ H fun x H1 => g x σ H1 D.nx
theorem MJ {tg e:Expr} {te:TE} {g:TG} (he:PE X e te) (hg:PG X tg g) (hs:swapsWithSole [tg] e pos.line X.env = pure false:=by rfl) (hw:swappedStores [tg] e X.env = pure none:=by rfl)
  (h1:(assignEach [tg] X.env).map (·.2) = [assign tg X.env]:=by rfl):PS X (.Assign [tg] e pos) (Si te g):=by
 intro pins s σ H D I h
 refine wpAny_Assign_stores (Ac (he pins s σ H _ I h) fun v s1 ⟨x,H1,I1,r1,q1⟩ => ?_) hs hw
 rw [h1]
 exact Ac (hg pins s1 σ H1 x v _ I1 r1 q1) fun _ s2 q => q
theorem JC {i:Nat} {x:Str} {e:Expr} {te:TE} {pos':Pos} (hN:X.N.Nodup) (hi:X.N[i]? = some x) (hx:OP X.env.scope x) (he:PE X e te) (hs:swapsWith e (some (.Name x pos')) pos.line X.env = pure false:=by rfl) (hf:X.fn x = true∨X.env.scope.names.lookup x = some .local:=by first | exact .inl rfl | exact .inr rfl | assumption) :
  PS X (.Assign [.Name x pos'] e pos) (Si te (QA i)):=by
 intro pins s σ H D I h
 refine wpAny_Assign_Name (Ac (he pins s σ H _ I h) fun v s1 ⟨y,H1,I1,r1,q1⟩ => ?_) hs
 exact Ep I1 hN hi hx r1 (fun s2 I2 => ⟨_,H1,I2,q1⟩) hf
end
section
variable {X:Cx} {pos:Pos}
def Qq (c:TT) (tb:TS):TS:=fun D σ H => ∃ W:Nat→St→Hp→Prop,(∃ m,W m σ H)∧∀ m σ H,W m σ H →
 c σ H fun b H1 => if b = true then ∃ N:St→Hp→Prop,(∀ σ' H',N σ' H'→∃ m',m' < m∧W m' σ' H')∧tb { D with nx:=N,ct:=N,bk:=D.nx } σ H1 else D.nx σ H1
theorem MK {c:Expr} {body:List Stmt} {tc:TT} {tb:TS} (hp:PassesOwn (model X.prog X.w) X.A X.env X.xe) (hc:PT X c tc) (hb:PSs X body tb):PS X (.While c body [] pos) (Qq tc tb):=by
 intro pins s σ H D I h
 obtain ⟨W,⟨m0,w0⟩,turn⟩:=h
 refine wpAny_While (codeAny_whileLoop (fun n s' => ∃ σ' H',Inv X pins σ' H' s'∧W n σ' H') ?_ m0 ⟨σ,H,I,w0⟩)
 rintro n s1 ⟨σ1,H1,I1,w1⟩
 refine wpAny_passesOwn hp (Ac (hc pins s1 σ1 H1 _ I1 (turn n σ1 H1 w1)) fun b s2 ⟨H2,I2,q2⟩ => ?_)
 cases b with
 | true =>
  obtain ⟨N,hN,q2⟩:=q2
  rw [if_pos rfl]
  refine wpAny_passesOwn hp (Ac (hb pins s2 σ1 H2 _ I2 q2) fun f s3 q3 => ?_)
  cases f with
  | next =>
   obtain ⟨σ3,H3,I3,n3⟩:=q3
   obtain ⟨m',hm,w3⟩:=hN σ3 H3 n3
   exact ⟨m',hm,σ3,H3,I3,w3⟩
  | cont =>
   obtain ⟨σ3,H3,I3,n3⟩:=q3
   obtain ⟨m',hm,w3⟩:=hN σ3 H3 n3
   exact ⟨m',hm,σ3,H3,I3,w3⟩
  | brk => exact q3
  | ret v => exact q3
 | false =>
  rw [if_neg Bool.false_ne_true]
  exact wpAny_execs_nil ⟨σ1,H2,I2,q2⟩
end
structure It where
 go:Nat→Hp→Prop
 yld:Nat→Hp→V→Hp→Prop
 stop:Nat→Hp→Prop
def Er (X:Cx) (pins:List (Addr × Obj)) (H:Hp) (b:Addr):Prop :=
 H b = none∧b≠X.env.locals∧b ∉ X.fs∧(b∈X.ex∨X.s₀.heap.objs.size≤b)∧(∀ x c,X.env.cells.lookup x = some c→c≠b)∧∀ p∈X.pn ++ pins,p.1≠b
theorem Inv.fpOk {X:Cx} {pins:List (Addr × Obj)} {σ:St} {H H':Hp} {s:Shared} {b:Addr} (I:Inv X pins σ H s) (hb:s.heap.objs.size≤b) (hn:H' b = none):Er X pins H' b:=by
 refine ⟨hn,Nat.ne_of_gt (Nat.lt_of_lt_of_le I.lt hb),I.nofs hb,.inr (Nat.le_trans I.sz hb),fun x c e z => ?_,fun p hp z => ?_⟩
 ·obtain ⟨v,q⟩:=I.cell x c e
  exact absurd (Nat.lt_of_lt_of_le q.lt (by rw [z]; exact hb)) (Nat.lt_irrefl _)
 ·exact absurd (Nat.lt_of_lt_of_le (Heap.lt_size (I.pin p hp).1) (by rw [z]; exact hb)) (Nat.lt_irrefl _)
structure Turn (P:Program) (w:World) (K:PySem.W.Frag) (tg:Expr) (J:It) (fp:List Addr) (it:Addr) (tn:Nat→Heap→Prop):Prop where
 mem:it∈fp
 obj:∀ i h,tn i h→∀ b∈fp,∃ o,h.get? b = some o∧∀ v,o.data≠.cell v
 keep:∀ i h h',tn i h→(∀ b∈fp,∀ o,h.get? b = some o→h'.get? b = some o)→tn i h'
 item:∀ (X:Cx),X.prog = P→X.w = w→X.K = K→X.calm = true→∀ (i:Nat) (pins:List (Addr × Obj)) (s:Shared) (σ:St) (H:Hp) (E:Value→Shared→Prop),Inv X pins σ H s→(∀ b∈fp,Er X pins H b)→tn i s.heap→J.go i H →
  wpAny (model P w) X.A (pyNext (.ref it)) (fun r s1 => ∃ u,r = some u ∧
   wpAny (model P w) X.A (letOwnedTupleGo tg (.ref it) u) (fun _ s2 => ∃ x H',Inv X pins σ H' s2∧RelV x u∧J.yld i H x H'∧tn (i + 1) s2.heap∧∀ b∈fp,H' b = none) E s1) E s
 done:∀ (X:Cx),X.prog = P→X.w = w→X.K = K→X.calm = true→∀ (i:Nat) (pins:List (Addr × Obj)) (s:Shared) (σ:St) (H:Hp) (E:Value→Shared→Prop),Inv X pins σ H s→(∀ b∈fp,Er X pins H b)→tn i s.heap→J.stop i H →
  wpAny (model P w) X.A (pyNext (.ref it)) (fun r s1 => r = none∧Inv X pins σ H s1) E s
 self:∀ (A:Around) (i:Nat) (s:Shared) (Q:Value→Shared→Prop) (E:Value→Shared→Prop),tn i s.heap→Q (.ref it) s→wpAny (model P w) A (pyIter (.ref it)) Q E s
abbrev TI:=St→Hp→(It→Hp→Prop)→Prop
def VP (X:Cx) (pins:List (Addr × Obj)) (σ:St) (tg:Expr) (R:It→Hp→Prop) (itv:Value) (s2:Shared):Prop :=
 ∃ (it:Addr) (fp:List Addr) (tn:Nat→Heap→Prop) (J:It) (H':Hp),itv = .ref it∧Inv X pins σ H' s2∧Turn X.prog X.w X.K tg J fp it tn∧tn 0 s2.heap∧(∀ b∈fp,Er X pins H' b)∧R J H'
def PI (X:Cx) (tg iter:Expr) (wi:TI):Prop :=
 ∀ (pins:List (Addr × Obj)) (s:Shared) (σ:St) (H:Hp) (R:It→Hp→Prop),Inv X pins σ H s→wi σ H R →
  wpAny (model X.prog X.w) X.A (eval iter X.env) (fun v s1 => wpAny (model X.prog X.w) X.A (pyIter v) (VP X pins σ tg R) X.xe s1) X.xe s
theorem ML {M:Model} {A:Around} {E:Value→Shared→Prop} {s:Shared} {tg:Expr} {it:Addr} {u:Value} {o:Obj} {n:String} {vs:Array Value} {Q:Unit→Shared→Prop} (ho:s.heap.get? it = some o) (hc:o.cls = .type n) (hd:o.data = .fields vs)
    (hn:["enumerate","zip","dict_itemiterator","dict_reverseitemiterator","odict_iterator","itertools.zip_longest","itertools.pairwise"].contains n = false) (hQ:Q () s):wpAny M A (letOwnedTupleGo tg (.ref it) u) Q E s:=by
  unfold letOwnedTupleGo
  cases tg <;> first
    | exact wpAny_pure hQ
    | (cases u <;> first
        | exact wpAny_pure hQ
        | (refine wpAny_bind (wpAny_load ho ?_)
           rw [hc,hd]
           show wpAny M A (if (["enumerate","zip","dict_itemiterator","dict_reverseitemiterator","odict_iterator","itertools.zip_longest","itertools.pairwise"].contains n && vs[0]? == some (rawInt _)) = true then _ else _) Q E s
           rw [if_neg (by intro h; rw [hn,Bool.false_and] at h; cases h)]
           exact wpAny_pure hQ))
def Uh (K:PySem.W.Frag) (a:Addr):It :=
 ⟨fun i H => ∃ xs x,SqL K H a xs∧xs[i]? = some x,fun i H x H' => H' = H∧∀ xs,SqL K H a xs→xs[i]? = some x,fun i H => ∃ xs,SqL K H a xs∧xs.length≤i⟩
def Ui (K:PySem.W.Frag) (a:Addr):It :=
 ⟨fun i H => ∃ xs x,Hv K H a xs∧xs[i]? = some x,fun i H x H' => H' = H∧∀ xs,Hv K H a xs→xs[i]? = some x,fun i H => ∃ xs,Hv K H a xs∧xs.length≤i⟩
def Sj (lo:Int) (n:Nat):It:=⟨fun i _ => i < n,fun i H x H' => H' = H∧x = .int (lo + i),fun i _ => n≤i⟩
theorem LG {P:Program} {w:World} {K:PySem.W.Frag} {tg:Expr} (a it:Addr):Turn P w K tg (Uh K a) [it] it (fun i h => h.IsListIter it a i) where
 mem:=by simp
 obj:=fun i h st b hb => by
  have e:b = it:=by simpa using hb
  subst e
  obtain ⟨o,e,c,d⟩:=st
  exact ⟨o,e,fun v z => by rw [d] at z; cases z⟩
 keep:=fun i h h' st k => st.at fun o e => k it (by simp) o e
 item:=by
  intro X hP hw hK hc i pins s σ H E I hf st hg
  subst hP hw hK
  obtain ⟨xs,x,hq,hx⟩:=hg
  obtain ⟨its,rv,p,hz⟩:=I.list hq
  obtain ⟨u,hu,ru⟩:=rv.get hx
  obtain ⟨f0,f1,f2,f3,f4,f5⟩:=hf it (by simp)
  refine wpAny_pyNext_list_item st p.isList (x:=u) (by simpa using hu) fun h' st' sb => ?_
  have I1:Inv X pins σ H { s with heap:=h' }:=I.turned (t':=s.toks) (fun b o hb e => (sb.2 b hb).trans e) f0 f1 f3 f4 f5
  obtain ⟨o,e,c,d⟩:=id st'
  exact ⟨u,rfl,ML (s:={ s with heap:=h' }) e c d (by decide) ⟨x,H,I1,ru,⟨rfl,fun ys hy => by rw [I.list_inj hy hq]; exact hx⟩,st',fun b hb => (hf b hb).1⟩⟩
 done:=by
  intro X hP hw hK hc i pins s σ H E I hf st hg
  subst hP hw hK
  obtain ⟨xs,hq,hx⟩:=hg
  obtain ⟨its,rv,p,hz⟩:=I.list hq
  obtain ⟨f0,f1,f2,f3,f4,f5⟩:=hf it (by simp)
  have hl:=rv.length
  exact wpAny_pyNext_list_end (I.ok.hd hc) st p.isList (by simp; omega) fun h' eb => ⟨rfl,I.turned (t':=s.toks) (fun b o hb e => eb b o hb e) f0 f1 f3 f4 f5⟩
 self:=fun _ _ _ _ _ st h => wpAny_pyIter_listiter st h
theorem JD {P:Program} {w:World} {K:PySem.W.Frag} {tg:Expr} (a it:Addr):Turn P w K tg (Ui K a) [it] it (fun i h => h.IsTupleIter it a i) where
 mem:=by simp
 obj:=fun i h st b hb => by
  have e:b = it:=by simpa using hb
  subst e
  obtain ⟨o,e,c,d⟩:=st
  exact ⟨o,e,fun v z => by rw [d] at z; cases z⟩
 keep:=fun i h h' st k => st.at fun o e => k it (by simp) o e
 item:=by
  intro X hP hw hK hc i pins s σ H E I hf st hg
  subst hP hw hK
  obtain ⟨xs,x,hq,hx⟩:=hg
  obtain ⟨its,rv,p,hz⟩:=I.tuple hq
  obtain ⟨u,hu,ru⟩:=rv.get hx
  obtain ⟨f0,f1,f2,f3,f4,f5⟩:=hf it (by simp)
  refine wpAny_pyNext_tuple_item st (show s.heap.IsTuple a its.toArray from p) (x:=u) (by simpa using hu) fun h' st' sb => ?_
  have I1:Inv X pins σ H { s with heap:=h' }:=I.turned (t':=s.toks) (fun b o hb e => (sb.2 b hb).trans e) f0 f1 f3 f4 f5
  obtain ⟨o,e,c,d⟩:=id st'
  exact ⟨u,rfl,ML (s:={ s with heap:=h' }) e c d (by decide) ⟨x,H,I1,ru,⟨rfl,fun ys hy => by rw [I.tuple_inj hy hq]; exact hx⟩,st',fun b hb => (hf b hb).1⟩⟩
 done:=by
  intro X hP hw hK hc i pins s σ H E I hf st hg
  subst hP hw hK
  obtain ⟨xs,hq,hx⟩:=hg
  obtain ⟨its,rv,p,hz⟩:=I.tuple hq
  obtain ⟨f0,f1,f2,f3,f4,f5⟩:=hf it (by simp)
  have hl:=rv.length
  exact wpAny_pyNext_tuple_end (I.ok.hd hc) st (show s.heap.IsTuple a its.toArray from p) (by simp; omega) fun h' eb => ⟨rfl,I.turned (t':=s.toks) (fun b o hb e => eb b o hb e) f0 f1 f3 f4 f5⟩
 self:=fun _ _ _ _ _ st h => wpAny_pyIter_tupleiter st h
theorem JE {P:Program} {w:World} {K:PySem.W.Frag} {tg:Expr} (it:Addr) (lo:Int) (n:Nat):Turn P w K tg (Sj lo n) [it] it (fun i h => IsRangeIter h it (lo + (i:Nat) * 1) ((n:Int) - (i:Nat)) 1) where
 mem:=by simp
 obj:=fun i h st b hb => by
  have e:b = it:=by simpa using hb
  subst e
  exact ⟨_,st,fun v z => by
   have z':Data.fields _ = Data.cell v:=z
   cases z'⟩
 keep:=fun i h h' st k => k it (by simp) _ st
 item:=by
  intro X hP hw hK hc i pins s σ H E I hf st hg
  subst hP hw hK
  obtain ⟨f0,f1,f2,f3,f4,f5⟩:=hf it (by simp)
  have W:=Walks.range (prog:=X.prog) (w:=X.w) (I.ok.hd hc) it lo 1 n
  refine W.item i s _ _ hg st fun v h' tk hv st' kk => ?_
  obtain ⟨t,rfl⟩:=hv
  have I1:Inv X pins σ H { s with heap:=h',toks:=tk }:=I.turned (fun b o hb e => kk b o (by simpa using hb) e) f0 f1 f3 f4 f5
  refine ⟨_,rfl,ML (s:={ s with heap:=h',toks:=tk }) (n:="range_iterator") st' rfl rfl (by decide) ⟨.int (lo + i),H,I1,⟨t,?_⟩,⟨rfl,rfl⟩,st',fun b hb => (hf b hb).1⟩⟩
  rw [Int.mul_one]
 done:=by
  intro X hP hw hK hc i pins s σ H E I hf st hg
  subst hP hw hK
  obtain ⟨f0,f1,f2,f3,f4,f5⟩:=hf it (by simp)
  exact wpAny_pyNext_range_end (I.ok.hd hc) st (by have:n≤i:=hg; omega) fun h' eb => ⟨rfl,I.turned (t':=s.toks) (fun b o hb e => eb b o hb e) f0 f1 f3 f4 f5⟩
 self:=fun _ _ _ _ _ st h => wpAny_pyIter_rangeiter st h
section
variable {X:Cx} {tg:Expr}
def Sk (K:PySem.W.Frag) (tl:TE):TI:=fun σ H R => tl σ H fun x H1 => ∃ a,x = .ref a∧(∃ xs,SqL K H1 a xs)∧R (Uh K a) H1
def Uj (K:PySem.W.Frag) (tl:TE):TI:=fun σ H R => tl σ H fun x H1 => ∃ a,x = .ref a∧(∃ xs,Hv K H1 a xs)∧R (Ui K a) H1
theorem OX {l:Expr} {tl:TE} (hl:PE X l tl):PI X tg l (Sk X.K tl):=by
 intro pins s σ H R I h
 refine Ac (hl pins s σ H _ I h) fun v s1 ⟨x,H1,I1,r1,q1⟩ => ?_
 obtain ⟨a,e,⟨xs,hq⟩,q⟩:=q1
 subst e
 cases r1
 obtain ⟨its,rv,p,hz⟩:=I1.list hq
 refine wpAny_pyIter_list p.isList ?_
 refine ⟨s1.heap.objs.size,[s1.heap.objs.size],_,_,H1,rfl,I1.kept (t':=s1.toks) fun b o e => Heap.get?_push_of_some _ e,LG a _,⟨_,Heap.get?_push_size _ rfl,rfl,rfl⟩,fun b hb => ?_,q⟩
 have e:b = s1.heap.objs.size:=by simpa using hb
 subst e
 exact I1.fpOk (Nat.le_refl _) (I1.hok.fresh (Nat.le_refl _))
theorem Qr {l:Expr} {tl:TE} (hl:PE X l tl):PI X tg l (Uj X.K tl):=by
 intro pins s σ H R I h
 refine Ac (hl pins s σ H _ I h) fun v s1 ⟨x,H1,I1,r1,q1⟩ => ?_
 obtain ⟨a,e,⟨xs,hq⟩,q⟩:=q1
 subst e
 cases r1
 obtain ⟨its,rv,p,hz⟩:=I1.tuple hq
 refine wpAny_pyIter_tuple (show s1.heap.IsTuple a its.toArray from p) ?_
 refine ⟨s1.heap.objs.size,[s1.heap.objs.size],_,_,H1,rfl,I1.kept (t':=s1.toks) fun b o e => Heap.get?_push_of_some _ e,JD a _,⟨_,Heap.get?_push_size _ rfl,rfl,rfl⟩,fun b hb => ?_,q⟩
 have e:b = s1.heap.objs.size:=by simpa using hb
 subst e
 exact I1.fpOk (Nat.le_refl _) (I1.hok.fresh (Nat.le_refl _))
theorem Hx {pins:List (Addr × Obj)} {σ:St} {H:Hp} {s:Shared} {R:It→Hp→Prop} {E:Value→Shared→Prop} {lo hi:Int} {t u v:Tok} {tk:Nat} (I:Inv X pins σ H s) (h1 : -(2 ^ 62)≤lo) (h2:lo < 2 ^ 62) (h3 : -(2 ^ 62)≤hi) (h4:hi < 2 ^ 62)
  (q:R (Sj lo (hi - lo).toNat) H):wpAny (model X.prog X.w) X.A (pyIter (.ref s.heap.objs.size)) (VP X pins σ tg R) E { s with heap:=s.heap.push { cls:=.type "range",data:=.fields #[.int lo t,.int hi u,.int 1 v] },toks:=tk }:=by
 refine wpAny_pyIter_range (IsRange.new ..) (small_one h1 h2 h3 h4) ?_
 have I1:Inv X pins σ H { s with heap:=s.heap.push { cls:=.type "range",data:=.fields #[.int lo t,.int hi u,.int 1 v] },toks:=tk }:=I.kept fun b o e => Heap.get?_push_of_some _ e
 refine ⟨(s.heap.push { cls:=.type "range",data:=.fields #[.int lo t,.int hi u,.int 1 v] }).objs.size,[(s.heap.push { cls:=.type "range",data:=.fields #[.int lo t,.int hi u,.int 1 v] }).objs.size],_,_,H,rfl,
  I1.kept (t':=tk) fun b o e => Heap.get?_push_of_some _ e,JE _ lo (hi - lo).toNat,?_,fun b hb => ?_,q⟩
 ·have e1:lo + ((0:Nat):Int) * 1 = lo:=by simp
  have e2:(((hi - lo).toNat:Nat):Int) - ((0:Nat):Int) = Builtin.Range.rangeSize lo hi 1:=by rw [rangeSize_one]; split <;> omega
  show IsRangeIter _ _ (lo + ((0:Nat):Int) * 1) ((((hi - lo).toNat:Nat):Int) - ((0:Nat):Int)) 1
  rw [e1,e2]
  exact Heap.get?_push_size _ rfl
 ·have e:b = (s.heap.push { cls:=.type "range",data:=.fields #[.int lo t,.int hi u,.int 1 v] }).objs.size:=by simpa using hb
  subst e
  exact I1.fpOk (Nat.le_refl _) (I1.hok.fresh (Nat.le_refl _))
def Sl (ta:TA):TI:=fun σ H R => ta σ H fun vs H1 => ∃ j:Int,vs = [.int j]∧-(2 ^ 62)≤j∧j < 2 ^ 62∧R (Sj 0 j.toNat) H1
def Sm (ta:TA):TI:=fun σ H R => ta σ H fun vs H1 => ∃ i j:Int,vs = [.int i,.int j]∧(-(2 ^ 62)≤i∧i < 2 ^ 62∧-(2 ^ 62)≤j∧j < 2 ^ 62)∧R (Sj i (j - i).toNat) H1
theorem LH {a:Expr} {ta:TA} {p pos:Pos} (hg:Gl X "range") (hm:X.mg "range" = none) (ha:PA X [a] ta) (hs:starEach [a] X.env = [(false,eval a X.env)]:=by rfl):PI X tg (.Call (.Name "range" p) [a] [] pos) (Sl ta):=by
 intro pins s σ H R I h
 refine Call_ (Dm I hg hm boot_range (PyProof.Rows.callWith_type1 (Ac (ha pos pins s σ H _ I h) fun us s1 ⟨vs,H1,I1,r1,q1⟩ => ?_) hs rfl))
 obtain ⟨j,e,q1,q2,q⟩:=q1
 subst e
 cases r1 with
 | cons r rr =>
  cases rr
  obtain ⟨t,rfl⟩:=r
  exact call_range_1 (Hx I1 (by omega) (by omega) q1 q2 (by simpa using q))
theorem LI {a b:Expr} {ta:TA} {p pos:Pos} (hg:Gl X "range") (hm:X.mg "range" = none) (ha:PA X [a,b] ta) (hs:starEach [a,b] X.env = [(false,eval a X.env),(false,eval b X.env)]:=by rfl) (hs2:starEach [b] X.env = [(false,eval b X.env)]:=by rfl) :
  PI X tg (.Call (.Name "range" p) [a,b] [] pos) (Sm ta):=by
 intro pins s σ H R I h
 refine Call_ (Dm I hg hm boot_range (PyProof.Rows.callWith_type1 (Ac (ha pos pins s σ H _ I h) fun us s1 ⟨vs,H1,I1,r1,q1⟩ => ?_) (by rw [hs,hs2]) (by rw [hs2]; rfl)))
 obtain ⟨i,j,e,⟨q1,q2,q3,q4⟩,q⟩:=q1
 subst e
 cases r1 with
 | cons r rr =>
  cases rr with
  | cons r' rr =>
   cases rr
   obtain ⟨t,rfl⟩:=r
   obtain ⟨t',rfl⟩:=r'
   exact call_range_2 (Hx I1 q1 q2 q3 q4 q)
def Uk (wi:TI) (g:TG) (tb:TS):TS:=fun D σ H => wi σ H fun J H1 => ∃ W:Nat→Nat→St→Hp→Prop,(∃ m,W 0 m σ H1)∧∀ i m σ H,W i m σ H →
 (J.stop i H∧D.nx σ H)∨(J.go i H∧∃ N:St→Hp→Prop,(∀ σ' H',N σ' H'→∃ m',m' < m∧W (i + 1) m' σ' H')∧∀ x H',J.yld i H x H'→g x σ H' fun σ2 H2 => tb { D with nx:=N,ct:=N,bk:=D.nx } σ2 H2)
def Et (fp:List Addr) (h:Heap):List (Addr × Obj):=fp.filterMap fun b => (h.get? b).map fun o => (b,o)
theorem CB {fp:List Addr} {h:Heap} {b:Addr} {o:Obj} (hb:b∈fp) (e:h.get? b = some o):(b,o)∈Et fp h:=List.mem_filterMap.mpr ⟨b,hb,by rw [e]; rfl⟩
theorem LJ {fp:List Addr} {h:Heap} {p:Addr × Obj} (hp:p∈Et fp h):p.1∈fp∧h.get? p.1 = some p.2:=by
 obtain ⟨b,hb,e⟩:=List.mem_filterMap.mp hp
 cases q:h.get? b with
 | none => rw [q] at e; cases e
 | some o =>
  rw [q] at e
  have e':(b,o) = p:=Option.some.inj e
  subst e'
  exact ⟨hb,q⟩
theorem Inv.pinned {pins:List (Addr × Obj)} {σ:St} {H:Hp} {s:Shared} {fp:List Addr} (I:Inv X pins σ H s) (hf:∀ b∈fp,Er X pins H b) (ho:∀ b∈fp,∃ o,s.heap.get? b = some o∧∀ v,o.data≠.cell v):Inv X (pins ++ Et fp s.heap) σ H s :=
 I.pins_of fun p hp => (List.mem_append.mp hp).elim (fun z => I.pin p (List.mem_append_right _ z)) fun z => by
  obtain ⟨hb,e⟩:=LJ z
  obtain ⟨f0,f1,f2,_⟩:=hf p.1 hb
  obtain ⟨o,e',d⟩:=ho p.1 hb
  rw [e] at e'; cases e'
  exact ⟨e,f0,f1,f2,d⟩
theorem Inv.unpinned {pins pl:List (Addr × Obj)} {σ:St} {H:Hp} {s:Shared} (I:Inv X (pins ++ pl) σ H s):Inv X pins σ H s:=I.pins_of fun p hp => I.pin p (List.mem_append_right _ (List.mem_append_left _ hp))
theorem Qs {iter:Expr} {body:List Stmt} {wi:TI} {g:TG} {tb:TS} {pos:Pos} (hp:PassesOwn (model X.prog X.w) X.A X.env X.xe) (hc:X.calm = true) (hi:PI X tg iter wi) (hg:PG X tg g) (hb:PSs X body tb)
  (hs:∀ x,foldedSetIterable iter X.env x = pure x:=by intro _; rfl):PS X (.For tg iter body [] pos) (Uk wi g tb):=by
 intro pins s σ H D I h
 refine wpAny_For (Ac (hi pins s σ H _ I h) fun v s1 h1 => Ac h1 fun itv s2 h2 => ?_) hs
 obtain ⟨it,fp,tn,J,H2,e,I2,T,st2,f2,W,⟨m0,w0⟩,turn⟩:=h2
 subst e
 have stat:∀ {H':Hp},(∀ b∈fp,H' b = none)→∀ b∈fp,Er X pins H' b:=fun hn b hb => ⟨hn b hb,(f2 b hb).2⟩
 refine codeAny_forLoop_any (fun n s' => ∃ i σ' H',Inv X pins σ' H' s'∧tn i s'.heap∧(∀ b∈fp,H' b = none)∧W i n σ' H') ?_ m0 ⟨0,σ,H2,I2,st2,fun b hb => (f2 b hb).1,w0⟩
 rintro n s3 ⟨i,σ3,H3,I3,st3,fr3,w3⟩
 rcases turn i n σ3 H3 w3 with ⟨stop,qn⟩ | ⟨go,N,hN,step⟩
 ·refine wpAny_passesOwn hp (Ac (T.done X rfl rfl rfl hc i pins s3 σ3 H3 X.xe I3 (stat fr3) st3 stop) fun r s4 ⟨hr,I4⟩ => ?_)
  subst hr
  exact wpAny_execs_nil ⟨σ3,H3,I4,qn⟩
 ·refine wpAny_passesOwn hp (Ac (T.item X rfl rfl rfl hc i pins s3 σ3 H3 X.xe I3 (stat fr3) st3 go) fun r s4 ⟨u,hr,h4⟩ => ?_)
  subst hr
  refine wpAny_passesOwn hp (Ac h4 fun _ s5 ⟨x,H5,I5,r5,y5,st5,fr5⟩ => ?_)
  have I5':=I5.pinned (stat fr5) (T.obj _ _ st5)
  refine wpAny_passesOwn hp (Ac (hg _ s5 σ3 H5 x u _ I5' r5 (step x H5 y5)) fun _ s6 ⟨σ6,H6,I6,q6⟩ => ?_)
  refine wpAny_passesOwn hp (Ac (hb _ s6 σ6 H6 _ I6 q6) fun f s7 q7 => ?_)
  have again:∀ {σ7:St} {H7:Hp},Inv X (pins ++ Et fp s5.heap) σ7 H7 s7→N σ7 H7→∃ m,m < n∧∃ i σ' H',Inv X pins σ' H' s7∧tn i s7.heap∧(∀ b∈fp,H' b = none)∧W i m σ' H':=fun {σ7 H7} I7 n7 => by
   obtain ⟨m',hm,w7⟩:=hN σ7 H7 n7
   refine ⟨m',hm,i + 1,σ7,H7,I7.unpinned,T.keep _ _ _ st5 fun b hb o e => (I7.pin (b,o) (List.mem_append_right _ (List.mem_append_right _ (CB hb e)))).1,fun b hb => ?_,w7⟩
   obtain ⟨o,e,d⟩:=T.obj _ _ st5 b hb
   exact (I7.pin (b,o) (List.mem_append_right _ (List.mem_append_right _ (CB hb e)))).2.1
  cases f with
  | next => obtain ⟨σ7,H7,I7,n7⟩:=q7; exact again I7 n7
  | cont => obtain ⟨σ7,H7,I7,n7⟩:=q7; exact again I7 n7
  | brk => obtain ⟨σ7,H7,I7,q7⟩:=q7; exact ⟨σ7,H7,I7.unpinned,q7⟩
  | ret v => obtain ⟨x7,σ7,H7,I7,r7,q7⟩:=q7; exact ⟨x7,σ7,H7,I7.unpinned,r7,q7⟩
end
abbrev R2:=V→V→Hp→VK→Prop
def Cb (X:Cx) (f:Value→Value→Sem Value) (r:R2):Prop :=
 ∀ (pins:List (Addr × Obj)) (s:Shared) (σ:St) (H:Hp) (x y:V) (v u:Value) (Q:VK),Inv X pins σ H s→RelV x v→RelV y u→r x y H Q →
  wpAny (model X.prog X.w) X.A (f v u) (EP X pins σ Q) X.xe s
def UP (X:Cx) (f:Value→Sem Value) (r:V→Hp→VK→Prop):Prop :=
 ∀ (pins:List (Addr × Obj)) (s:Shared) (σ:St) (H:Hp) (x:V) (v:Value) (Q:VK),Inv X pins σ H s→RelV x v→r x H Q →
  wpAny (model X.prog X.w) X.A (f v) (EP X pins σ Q) X.xe s
def Ay (X:Cx) (f:Value) (r:List V→Hp→VK→Prop):Prop :=
 ∀ (pins:List (Addr × Obj)) (s:Shared) (σ:St) (H:Hp) (xs:List V) (us:List Value) (Q:VK),Inv X pins σ H s→Vals xs us→r xs H Q →
  wpAny (model X.prog X.w) X.A (call f us) (EP X pins σ Q) X.xe s
def Ul (X:Cx) (r:V→Hp→(Bool→Hp→Prop)→Prop):Prop :=
 ∀ (pins:List (Addr × Obj)) (s:Shared) (σ:St) (H:Hp) (x:V) (v:Value) (Q:Bool→Hp→Prop),Inv X pins σ H s→RelV x v→r x H Q →
  wpAny (model X.prog X.w) X.A (truthy v) (TP X pins σ Q) X.xe s
def Sn (r:R2) (ta tb:TE):TE:=fun σ H Q => ta σ H fun x H1 => tb σ H1 fun y H2 => r x y H2 Q
def Vc (r:V→Hp→VK→Prop) (ta:TE):TE:=fun σ H Q => ta σ H fun x H1 => r x H1 Q
def rI (C:Int→Int→Prop) (g:Int→Int→V):R2:=fun x y H Q => ∃ i j,x = .int i∧y = .int j∧C i j∧Q (g i j) H
def OQ (g:Int→Int→V):R2:=fun x y H Q => ∃ i j,x = .int i∧y = .int j∧Q (g i j) H
def rU (g:Int→V):V→Hp→VK→Prop:=fun x H Q => ∃ i,x = .int i∧Q (g i) H
section
variable {X:Cx} {a b c:Expr} {ta tb tc:TE} {pos:Pos}
theorem Qt (ha:PE X a ta) (hb:PE X b tb) {pins:List (Addr × Obj)} {s:Shared} {σ:St} {H:Hp} {R:V→V→Hp→Prop} (I:Inv X pins σ H s)
  (h:ta σ H fun x H1 => tb σ H1 fun y H2 => R x y H2) {Q:Value→Shared→Prop} {f:Value→Value→Sem Value}
  (hf:∀ v u s2 x y H2,Inv X pins σ H2 s2→RelV x v→RelV y u→R x y H2→wpAny (model X.prog X.w) X.A (f v u) Q X.xe s2) :
  wpAny (model X.prog X.w) X.A (eval a X.env) (fun v s₁ => wpAny (model X.prog X.w) X.A (eval b X.env) (fun u s₂ => wpAny (model X.prog X.w) X.A (f v u) Q X.xe s₂) X.xe s₁) X.xe s:=by
 refine Ac (ha pins s σ H _ I h) fun v s1 ⟨x,H1,I1,r1,q1⟩ => ?_
 refine Ac (hb pins s1 σ H1 _ I1 q1) fun u s2 ⟨y,H2,I2,r2,q2⟩ => ?_
 exact hf v u s2 x y H2 I2 r1 r2 q2
theorem QB {op:Operator} {r:R2} (ho:Cb X (binaryOp op) r) (ha:PE X a ta) (hb:PE X b tb):PE X (.BinOp a op b pos) (Sn r ta tb):=by
 intro pins s σ H Q I h
 exact wpAny_BinOp (Qt ha hb I h fun v u s2 x y H2 I2 rx ry q => ho pins s2 σ H2 x y v u Q I2 rx ry q)
theorem QC {op:UnaryOp} {r:V→Hp→VK→Prop} (ho:UP X (unaryOp op) r) (ha:PE X a ta):PE X (.UnaryOp op a pos) (Vc r ta):=by
 intro pins s σ H Q I h
 exact UnaryOp_ (Ac (ha pins s σ H _ I h) fun v s1 ⟨x,H1,I1,r1,q1⟩ => ho pins s1 σ H1 x v Q I1 r1 q1)
theorem UQ {f:Value→Value→Sem Value} {C:Int→Int→Prop} {g:Int→Int→Int}
  (rule:∀ (i j:Int) (t u:Tok) (s:Shared) (Q:Value→Shared→Prop) (E:Value→Shared→Prop),C i j→Q (.int (g i j) s.toks) { s with toks:=s.toks + 1 }→wpAny (model X.prog X.w) X.A (f (.int i t) (.int j u)) Q E s) :
  Cb X f (rI C fun i j => .int (g i j)):=by
 intro pins s σ H x y v u Q I rx ry h
 obtain ⟨i,j,rfl,rfl,hc,q⟩:=h
 obtain ⟨t,rfl⟩:=rx
 obtain ⟨t',rfl⟩:=ry
 exact rule i j t t' s _ _ hc ⟨.int (g i j),H,I.tok _,⟨_,rfl⟩,q⟩
theorem So {f:Value→Value→Sem Value} {g:Int→Int→Int}
  (rule:∀ (i j:Int) (t u:Tok) (s:Shared) (Q:Value→Shared→Prop) (E:Value→Shared→Prop),Q (.int (g i j) s.toks) { s with toks:=s.toks + 1 }→wpAny (model X.prog X.w) X.A (f (.int i t) (.int j u)) Q E s) :
  Cb X f (OQ fun i j => .int (g i j)):=by
 intro pins s σ H x y v u Q I rx ry h
 obtain ⟨i,j,rfl,rfl,q⟩:=h
 obtain ⟨t,rfl⟩:=rx
 obtain ⟨t',rfl⟩:=ry
 exact rule i j t t' s _ _ ⟨.int (g i j),H,I.tok _,⟨_,rfl⟩,q⟩
theorem OY {f:Value→Value→Sem Value} {g:Int→Int→Bool}
  (rule:∀ (i j:Int) (t u:Tok) (s:Shared) (Q:Value→Shared→Prop) (E:Value→Shared→Prop),Q (.bool (g i j)) s→wpAny (model X.prog X.w) X.A (f (.int i t) (.int j u)) Q E s) :
  Cb X f (OQ fun i j => .bl (g i j)):=by
 intro pins s σ H x y v u Q I rx ry h
 obtain ⟨i,j,rfl,rfl,q⟩:=h
 obtain ⟨t,rfl⟩:=rx
 obtain ⟨t',rfl⟩:=ry
 exact rule i j t t' s _ _ ⟨.bl (g i j),H,I,rfl,q⟩
def Sq (i j:Int):Prop:=0 < j∧j < 1073741824
def Sr (i j:Int):Prop:=0≤j∧j≤1000000∧i.natAbs < 2 ^ 64
def CMul (i j:Int):Prop:=(-(2 ^ 64) < i∧i < 2 ^ 64)∨(-(2 ^ 64) < j∧j < 2 ^ 64)
theorem CMul.ok {i j:Int} (h:CMul i j):IntMulOk i j:=by
 rcases h with ⟨h1,h2⟩ | ⟨h1,h2⟩
 ·exact .of_left (intBits_le_64 h1 h2)
 ·exact .of_right (intBits_le_64 h1 h2)
theorem Do:Cb X (binaryOp .Add) (OQ fun i j => .int (i + j)):=So fun _ _ _ _ _ _ _ q => add_int q
theorem Qu:Cb X (binaryOp .Sub) (OQ fun i j => .int (i - j)):=So fun _ _ _ _ _ _ _ q => sub_int q
theorem Qv:Cb X (binaryOp .Mult) (rI CMul fun i j => .int (i * j)):=UQ fun _ _ _ _ _ _ _ hc q => mul_int q hc.ok
theorem OZ:Cb X (binaryOp .FloorDiv) (rI Sq fun i j => .int (i / j)):=UQ fun i j _ _ _ _ _ hc q => by
 have h1:(0:Int) < j:=hc.1
 have h2:j < 1073741824:=hc.2
 exact floordiv_int (by omega) (by rw [Int.fdiv_eq_ediv_of_nonneg i (by omega)]; exact q) (.inl (PyProof.noPylong_small (by omega)))
theorem MM:Cb X (binaryOp .Mod) (rI (fun _ j => 0 < j) fun i j => .int (i % j)):=UQ fun i j _ _ _ _ _ hc q => by
 have h1:(0:Int) < j:=hc
 exact mod_int' (by omega) (by rw [Int.fmod_eq_emod_of_nonneg i (by omega)]; exact q)
theorem Qw:Cb X (binaryOp .Pow) (rI Sr fun i j => .int (i ^ j.toNat)):=UQ fun _ _ _ _ _ _ _ hc q => pow_int_small hc.1 hc.2.1 hc.2.2 q
theorem Vd {f:Value→Sem Value} {g:Int→Int}
  (rule:∀ (i:Int) (t:Tok) (s:Shared) (Q:Value→Shared→Prop) (E:Value→Shared→Prop),Q (.int (g i) s.toks) { s with toks:=s.toks + 1 }→wpAny (model X.prog X.w) X.A (f (.int i t)) Q E s) :
  UP X f (rU fun i => .int (g i)):=by
 intro pins s σ H x v Q I rx h
 obtain ⟨i,rfl,q⟩:=h
 obtain ⟨t,rfl⟩:=rx
 exact rule i t s _ _ ⟨.int (g i),H,I.tok _,⟨_,rfl⟩,q⟩
theorem MN:UP X (unaryOp .USub) (rU fun i => .int (-i)):=Vd fun _ _ _ _ _ q => neg_int q
end
def Ss:V→V→Bool
 | .non,.non => true | .non,.int _ => true | .int _,.non => true | .non,.bl _ => true | .bl _,.non => true | .non,.str _ => true | .str _,.non => true
 | .int _,.int _ => true | .bl _,.bl _ => true | .str _,.str _ => true | .byt _,.byt _ => true
 | .int _,.str _ => true | .str _,.int _ => true | .bl _,.str _ => true | .str _,.bl _ => true
 | _,_ => false
def Um:R2:=fun x y H Q => Ss x y = true∧Q (.bl (decide (x = y))) H
def UR:R2:=fun x y H Q => Ss x y = true∧Q (.bl (!decide (x = y))) H
theorem KE {i j:Int}:decide (V.int i = V.int j) = (i == j):=by
 rw [Bool.eq_iff_iff]
 simp
theorem JF {i j:Bool}:decide (V.bl i = V.bl j) = (i == j):=by
 rw [Bool.eq_iff_iff]
 simp
theorem Gv {i j:Str}:decide (V.str i = V.str j) = (i == j):=by
 rw [Bool.eq_iff_iff]
 simp
theorem KG {i j:Array UInt8}:decide (V.byt i = V.byt j) = (i.toList == j.toList):=by
 rw [Bool.eq_iff_iff]
 cases i
 cases j
 simp
section
variable {X:Cx} {a b c:Expr} {ta tb tc:TE} {pos:Pos}
theorem AR {pins:List (Addr × Obj)} {σ:St} {H:Hp} {s:Shared} {Q:VK} {k k':Bool} (I:Inv X pins σ H s) (q:Q (.bl k) H) (e:k = k'):EP X pins σ Q (.bool k') s:=by
 subst e
 exact ⟨.bl k,H,I,rfl,q⟩
theorem Fv:Cb X (compareOp .Eq) Um:=by
 intro pins s σ H x y v u Q I rx ry h
 obtain ⟨hs,q⟩:=h
 cases x with
 | non =>
  cases rx
  cases y with
  | non => cases ry; exact PySem.EqNone.eq_none_none (AR I q (by simp))
  | bl j => cases ry; exact PySem.EqNone.eq_none_bool (AR I q (by simp))
  | int j => obtain ⟨t',rfl⟩:=ry; exact PySem.EqNone.eq_none_int (AR I q (by simp))
  | str j => obtain ⟨t',rfl⟩:=ry; exact PySem.EqNone.eq_none_str (AR I q (by simp))
  | _ => exact absurd (show false = true from hs) Bool.false_ne_true
 | bl i =>
  cases rx
  cases y with
  | non => cases ry; exact PySem.EqNone.eq_bool_none (AR I q (by simp))
  | bl j => cases ry; exact eq_bool (AR I q JF)
  | str j => obtain ⟨t',rfl⟩:=ry; exact PySem.EqMixed.eq_bool_str (AR I q (by simp))
  | _ => exact absurd (show false = true from hs) Bool.false_ne_true
 | int i =>
  obtain ⟨t,rfl⟩:=rx
  cases y with
  | non => cases ry; exact PySem.EqNone.eq_int_none (AR I q (by simp))
  | int j => obtain ⟨t',rfl⟩:=ry; exact eq_int (AR I q KE)
  | str j => obtain ⟨t',rfl⟩:=ry; exact PySem.EqMixed.eq_int_str (AR I q (by simp))
  | _ => exact absurd (show false = true from hs) Bool.false_ne_true
 | str i =>
  obtain ⟨t,rfl⟩:=rx
  cases y with
  | non => cases ry; exact PySem.EqNone.eq_str_none (AR I q (by simp))
  | bl j => cases ry; exact PySem.EqMixed.eq_str_bool (AR I q (by simp))
  | int j => obtain ⟨t',rfl⟩:=ry; exact PySem.EqMixed.eq_str_int (AR I q (by simp))
  | str j => obtain ⟨t',rfl⟩:=ry; exact eq_str (AR I q Gv)
  | _ => exact absurd (show false = true from hs) Bool.false_ne_true
 | byt i =>
  obtain ⟨t,rfl⟩:=rx
  cases y with
  | byt j => obtain ⟨t',rfl⟩:=ry; exact PySem.W.eq_bytes (AR I q KG)
  | _ => exact absurd (show false = true from hs) Bool.false_ne_true
 | _ => cases y <;> exact absurd (show false = true from hs) Bool.false_ne_true
theorem Hy:Cb X (compareOp .NotEq) UR:=by
 intro pins s σ H x y v u Q I rx ry h
 obtain ⟨hs,q⟩:=h
 cases x with
 | non =>
  cases rx
  cases y with
  | non => cases ry; exact PySem.EqNone.ne_none_none (AR I q (by simp))
  | bl j => cases ry; exact PySem.EqNone.ne_none_bool (AR I q (by simp))
  | int j => obtain ⟨t',rfl⟩:=ry; exact PySem.EqNone.ne_none_int (AR I q (by simp))
  | str j => obtain ⟨t',rfl⟩:=ry; exact PySem.EqNone.ne_none_str (AR I q (by simp))
  | _ => exact absurd (show false = true from hs) Bool.false_ne_true
 | bl i =>
  cases rx
  cases y with
  | non => cases ry; exact PySem.EqNone.ne_bool_none (AR I q (by simp))
  | bl j => cases ry; exact ne_bool (AR I q (congrArg not JF))
  | str j => obtain ⟨t',rfl⟩:=ry; exact PySem.EqMixed.ne_bool_str (AR I q (by simp))
  | _ => exact absurd (show false = true from hs) Bool.false_ne_true
 | int i =>
  obtain ⟨t,rfl⟩:=rx
  cases y with
  | non => cases ry; exact PySem.EqNone.ne_int_none (AR I q (by simp))
  | int j => obtain ⟨t',rfl⟩:=ry; exact ne_int (AR I q (congrArg not KE))
  | str j => obtain ⟨t',rfl⟩:=ry; exact PySem.EqMixed.ne_int_str (AR I q (by simp))
  | _ => exact absurd (show false = true from hs) Bool.false_ne_true
 | str i =>
  obtain ⟨t,rfl⟩:=rx
  cases y with
  | non => cases ry; exact PySem.EqNone.ne_str_none (AR I q (by simp))
  | bl j => cases ry; exact PySem.EqMixed.ne_str_bool (AR I q (by simp))
  | int j => obtain ⟨t',rfl⟩:=ry; exact PySem.EqMixed.ne_str_int (AR I q (by simp))
  | str j => obtain ⟨t',rfl⟩:=ry; exact ne_str (AR I q (congrArg not Gv))
  | _ => exact absurd (show false = true from hs) Bool.false_ne_true
 | byt i =>
  obtain ⟨t,rfl⟩:=rx
  cases y with
  | byt j => obtain ⟨t',rfl⟩:=ry; exact PySem.W.ne_bytes (AR I q (congrArg not KG))
  | _ => exact absurd (show false = true from hs) Bool.false_ne_true
 | _ => cases y <;> exact absurd (show false = true from hs) Bool.false_ne_true
theorem KH:Cb X (compareOp .Lt) (OQ fun i j => .bl (decide (i < j))):=OY fun _ _ _ _ _ _ _ q => lt_int q
theorem MO:Cb X (compareOp .LtE) (OQ fun i j => .bl (decide (i≤j))):=OY fun _ _ _ _ _ _ _ q => le_int q
theorem Su:Cb X (compareOp .Gt) (OQ fun i j => .bl (decide (j < i))):=OY fun _ _ _ _ _ _ _ q => gt_int q
theorem Sv:Cb X (compareOp .GtE) (OQ fun i j => .bl (decide (j≤i))):=OY fun _ _ _ _ _ _ _ q => ge_int q
theorem Oa:Cb X (compareOp .IsNot) (fun x y H Q => y = .non∧Q (.bl (!decide (x = .non))) H):=by
 intro pins s σ H x y v u Q I rx ry h
 obtain ⟨rfl,q⟩:=h
 cases ry
 refine isnot_none_gen (AR I q ?_)
 cases x <;> first
  | (cases rx; rfl)
  | (obtain ⟨t,rfl⟩:=rx; rfl)
theorem Ak (b:Expr) {op:CmpOp} (h:op≠.In:=by decide) (h2:op≠.NotIn:=by decide):behindInMarks op b = false:=by
 have e1:(op == CmpOp.In) = false:=by cases op <;> first | rfl | exact absurd rfl h
 have e2:(op == CmpOp.NotIn) = false:=by cases op <;> first | rfl | exact absurd rfl h2
 cases b <;> simp [behindInMarks,e1,e2]
theorem Ob {op:CmpOp} {r:R2} (ho:Cb X (compareOp op) r) (ha:PE X a ta) (hb:PE X b tb) (hm:behindInMarks op b = false):PE X (.Compare a [op] [b] pos) (Sn r ta tb):=by
 intro pins s σ H Q I h
 exact wpAny_Compare1 (Qt ha hb I h fun v u s2 x y H2 I2 rx ry q => ho pins s2 σ H2 x y v u Q I2 rx ry q) hm
def QD (t:TE):TT:=fun σ H Q => t σ H fun x H' => ∃ k,x = .bl k∧Q k H'
theorem Gw {op:CmpOp} {r:R2} (ho:Cb X (compareOp op) r) (ha:PE X a ta) (hb:PE X b tb) (hm:behindInMarks op b = false):PT X (.Compare a [op] [b] pos) (QD (Sn r ta tb)):=by
 intro pins s σ H Q I h
 refine wpAny_isTrue_Compare1 (Ac (ha pins s σ H _ I h) fun v s1 ⟨x,H1,I1,r1,q1⟩ => Ac (hb pins s1 σ H1 _ I1 q1) fun u s2 ⟨y,H2,I2,r2,q2⟩ =>
  Ac (ho pins s2 σ H2 x y v u _ I2 r1 r2 q2) fun c s3 ⟨z,H3,I3,r3,k,e,q3⟩ => ?_) hm
 subst e
 cases r3
 exact wpAny_truthy_bool ⟨H3,I3,q3⟩
def MP (r r':R2) (ta tb tc:TE):TE:=fun σ H Q => ta σ H fun x H1 => tb σ H1 fun y H2 => r x y H2 fun z H3 => ∃ k,z = .bl k ∧
 (if k = true then tc σ H3 fun w' H4 => r' y w' H4 Q else Q (.bl false) H3)
theorem MQ {op op':CmpOp} {r r':R2} (ho:Cb X (compareOp op) r) (ho':Cb X (compareOp op') r') (ha:PE X a ta) (hb:PE X b tb) (hc:PE X c tc)
  (hm:lastMarks [op,op'] [b,c] = false:=by with_unfolding_all rfl):PE X (.Compare a [op,op'] [b,c] pos) (MP r r' ta tb tc):=by
 intro pins s σ H Q I h
 refine Compare_chain (Ac (ha pins s σ H _ I h) fun v s1 ⟨x,H1,I1,r1,q1⟩ => chain_link (Ac (hb pins s1 σ H1 _ I1 q1) fun u s2 ⟨y,H2,I2,r2,q2⟩ =>
  Ac (ho pins s2 σ H2 x y v u _ I2 r1 r2 q2) fun d s3 ⟨z,H3,I3,r3,k,e,q3⟩ => ?_)) hm
 subst e
 cases r3
 refine wpAny_truthy_bool ?_
 cases k with
 | false => exact ite_ff ⟨.bl false,H3,I3,rfl,q3⟩
 | true => exact ite_tt (chain_last (Ac (hc pins s3 σ H3 _ I3 q3) fun w' s4 ⟨z',H4,I4,r4,q4⟩ => ho' pins s4 σ H4 y z' u w' Q I4 r2 r4 q4))
theorem MR {op op':CmpOp} {r r':R2} (ho:Cb X (compareOp op) r) (ho':Cb X (compareOp op') r') (ha:PE X a ta) (hb:PE X b tb) (hc:PE X c tc)
  (hm:lastMarks [op,op'] [b,c] = false:=by with_unfolding_all rfl):PT X (.Compare a [op,op'] [b,c] pos) (QD (MP r r' ta tb tc)):=by
 intro pins s σ H Q I h
 refine isTrue_chain (Ac (ha pins s σ H _ I h) fun v s1 ⟨x,H1,I1,r1,q1⟩ => test_link (Ac (hb pins s1 σ H1 _ I1 q1) fun u s2 ⟨y,H2,I2,r2,q2⟩ =>
  Ac (ho pins s2 σ H2 x y v u _ I2 r1 r2 q2) fun d s3 ⟨z,H3,I3,r3,k,e,q3⟩ => ?_)) hm
 subst e
 cases r3
 refine wpAny_truthy_bool ?_
 cases k with
 | false =>
  obtain ⟨k',e',q'⟩:=q3
  cases e'
  exact ite_ff ⟨H3,I3,q'⟩
 | true =>
  refine ite_tt (test_last (Ac (hc pins s3 σ H3 _ I3 q3) fun w' s4 ⟨z',H4,I4,r4,q4⟩ => Ac (ho' pins s4 σ H4 y z' u w' _ I4 r2 r4 q4) fun d' s5 ⟨z2,H5,I5,r5,k2,e2,q5⟩ => ?_))
  subst e2
  cases r5
  exact wpAny_truthy_bool ⟨H5,I5,q5⟩
def Qx (K:PySem.W.Frag) (x:V) (H:Hp) (k:Bool):Prop :=
 match x with
 | .non => k = false
 | .bl b => k = b
 | .int i => k = (i != 0)
 | .str y => y.length≤sizeLine∧k = ((y.length:Int) != 0)
 | .byt y => y.size≤sizeLine∧k = ((y.size:Int) != 0)
 | .ref p => (∃ xs,SqL K H p xs∧k = !xs.isEmpty)∨(∃ xs,Hv K H p xs∧k = !xs.isEmpty)∨∃ kvs,H p = some (.dK kvs)∧k = !kvs.isEmpty
 | _ => False
theorem JG {κ:Type} {kvs:List (κ × V)} {vs:List (κ × Value)} (r:KV kvs vs):(!vs.isEmpty) = !kvs.isEmpty:=by
 cases r <;> rfl
theorem Eu {xs:List V} {its:List Value} (r:Vals xs its):(!its.toArray.isEmpty) = !xs.isEmpty:=by
 cases r <;> simp
theorem Dp:(sizeLine:Nat) < 2 ^ 63:=by rw [sizeLine_eq]; decide
theorem Qy:Ul X (fun x H Q => ∃ k,Qx X.K x H k∧Q k H):=by
 intro pins s σ H x v Q I rx h
 obtain ⟨k,e,q⟩:=h
 have hl:=Dp
 have hs:sizeLine = 16777216:=sizeLine_eq
 cases x with
 | non =>
  cases rx
  have e':k = false:=e
  subst e'
  exact truthy_none ⟨H,I,q⟩
 | bl b =>
  cases rx
  have e':k = b:=e
  subst e'
  exact wpAny_truthy_bool ⟨H,I,q⟩
 | int i =>
  obtain ⟨t,rfl⟩:=rx
  have e':k = (i != 0):=e
  subst e'
  exact PySem.P.truthy_int ⟨H,I,q⟩
 | str y =>
  obtain ⟨t,rfl⟩:=rx
  obtain ⟨hy,e'⟩:y.length≤sizeLine∧k = ((y.length:Int) != 0):=e
  subst e'
  exact PySem.P.truthy_str (by omega) ⟨H,I.tok _,q⟩
 | byt y =>
  obtain ⟨t,rfl⟩:=rx
  obtain ⟨hy,e'⟩:y.size≤sizeLine∧k = ((y.size:Int) != 0):=e
  subst e'
  exact PySem.W.truthy_bytes (by omega) ⟨H,I.tok _,q⟩
 | ref p =>
  cases rx
  have e':(∃ xs,SqL X.K H p xs∧k = !xs.isEmpty)∨(∃ xs,Hv X.K H p xs∧k = !xs.isEmpty)∨∃ kvs,H p = some (.dK kvs)∧k = !kvs.isEmpty:=e
  rcases e' with ⟨xs,hx,e'⟩ | ⟨xs,hx,e'⟩ | ⟨kvs,hx,e'⟩
  ·subst e'
   obtain ⟨its,r,pl,hz⟩:=I.list hx
   have hlen:=r.length
   exact wpAny_truthy_list pl.isList (by simp only [List.size_toArray]; omega) ⟨H,I.tok _,by rw [Eu r]; exact q⟩
  ·subst e'
   obtain ⟨its,r,pl,hz⟩:=I.tuple hx
   have hlen:=r.length
   exact truthy_tuple pl (by simp only [List.size_toArray]; omega) ⟨H,I.tok _,by rw [Eu r]; exact q⟩
  ·subst e'
   obtain ⟨hz,hS,vs,r,m⟩:kvs.length≤sizeLine∧(p == sysModules) = false∧∃ vs,KV kvs vs∧s.heap.DictOf (Go X.prog X.w) p vs:=I.hok p _ hx
   have hlen:kvs.length = vs.length:=Paired.length r
   exact wpAny_truthy_dict hS m (by omega) ⟨H,I.tok _,by rw [JG r]; exact q⟩
 | _ => exact (show False from e).elim
theorem Hz (ha:PE X a ta) (he:∀ whole,isTrue a X.env whole = (do let v ← whole; standAt a.pos; holding [v] (truthy v))) :
  PT X a (fun σ H Q => ta σ H fun x H' => ∃ k,Qx X.K x H' k∧Q k H'):=by
 intro pins s σ H Q I h
 exact isTrue_plain (Ac (ha pins s σ H _ I h) fun v s1 ⟨x,H1,I1,r1,q1⟩ => Qy pins s1 σ H1 x v Q I1 r1 q1) (he _)
theorem Cd {x:V} {us:List Value} (r:Vals [x] us):∃ u,us = [u]∧RelV x u:=by
 cases r with
 | cons r1 r2 => cases r2; exact ⟨_,rfl,r1⟩
theorem MS {x y:V} {us:List Value} (r:Vals [x,y] us):∃ u w',us = [u,w']∧RelV x u∧RelV y w':=by
 cases r with
 | cons r1 r2 =>
  cases r2 with
  | cons r3 r4 => cases r4; exact ⟨_,_,rfl,r1,r3⟩
theorem LK (hc:X.calm = true):Ay X (.builtin "max") (fun xs H Q => ∃ i j,xs = [.int i,.int j]∧Q (.int (if j > i then j else i)) H):=by
 intro pins s σ H xs us Q I r h
 obtain ⟨i,j,rfl,q⟩:=h
 obtain ⟨u,w',rfl,⟨t,rfl⟩,⟨t',rfl⟩⟩:=MS r
 refine max_two_ints (I.ok.hd hc) fun h' tk k => ⟨_,H,I.kept k,?_,q⟩
 by_cases hj:j > i
 ·rw [if_pos hj,if_pos hj]; exact ⟨_,rfl⟩
 ·rw [if_neg hj,if_neg hj]; exact ⟨_,rfl⟩
theorem LL (hc:X.calm = true):Ay X (.builtin "min") (fun xs H Q => ∃ i j,xs = [.int i,.int j]∧Q (.int (if j < i then j else i)) H):=by
 intro pins s σ H xs us Q I r h
 obtain ⟨i,j,rfl,q⟩:=h
 obtain ⟨u,w',rfl,⟨t,rfl⟩,⟨t',rfl⟩⟩:=MS r
 refine min_two_ints (I.ok.hd hc) fun h' tk k => ⟨_,H,I.kept k,?_,q⟩
 by_cases hj:j < i
 ·rw [if_pos hj,if_pos hj]; exact ⟨_,rfl⟩
 ·rw [if_neg hj,if_neg hj]; exact ⟨_,rfl⟩
theorem LM:Ay X (.type "int") (fun xs H Q => (∃ i,xs = [.int i]∧Q (.int i) H)∨∃ k,xs = [.bl k]∧Q (.int (if k then 1 else 0)) H):=by
 intro pins s σ H xs us Q I r h
 rcases h with ⟨i,rfl,q⟩ | ⟨k,rfl,q⟩
 ·obtain ⟨u,rfl,t,rfl⟩:=Cd r
  exact call_int_int ⟨.int i,H,I,⟨_,rfl⟩,q⟩
 ·obtain ⟨u,rfl,r1⟩:=Cd r
  cases r1
  exact call_int_bool ⟨.int (if k then 1 else 0),H,I.tok _,⟨_,rfl⟩,q⟩
end
structure ObjM (h:Heap) (x dx C:Addr) (mA:Str→Option Value):Prop where
 obj:h.get? x = some (PySem.W.instObj C dx)
 ns:h.Ns1 dx mA
 ne:dx≠x
theorem Fw {h:Heap} {dx:Addr} {mA:Str→Option Value} (n:h.Ns1 dx mA):∃ od,h.get? dx = some od∧∀ name,PySem.W.lookIn name od = some (mA name):=by
 obtain ⟨o,es,ep,ho,hd,hk,_,hm⟩:=n
 refine ⟨o,ho,fun name => ?_⟩
 have e:=hm name
 unfold nsFind findBy at e
 rw [← Array.find?_toList] at e
 unfold PySem.W.lookIn
 rw [hd]
 dsimp only
 split
 ·rename_i y q
  rw [q] at e
  exact congrArg some e
 ·rename_i q
  rw [q] at e
  have a:es.toList.any (·.refKey) = false:=by
   rw [List.any_eq_false]
   intro y hy
   obtain ⟨z,t,hkey⟩:=hk y (Array.mem_toList_iff.mp hy)
   simp [DictEntry.refKey,hkey]
  have a':¬ es.toList.any (·.refKey) = true:=by rw [a]; exact Bool.false_ne_true
  rw [if_neg a']
  exact congrArg some e
theorem ObjM.look {h:Heap} {x dx C:Addr} {mA:Str→Option Value} (I:ObjM h x dx C mA):∃ od,PySem.W.InstAt h x (PySem.W.instObj C dx) C (some od)∧∀ name,PySem.W.lookIn name od = some (mA name) :=
 let ⟨od,ho,hl⟩:=Fw I.ns
 ⟨od,⟨I.obj,rfl,rfl,ho⟩,hl⟩
section
variable {prog:Program} {w:World} {A:Around} {E:Value→Shared→Prop} {s:Shared} {K:PySem.W.Frag} {x dx C f:Addr} {mA:Str→Option Value} {name:Str} {v:Value}
end
section
variable {P:Program} {w:World} {H H':Hp} {h h':Heap} {a C dx:Addr} {fs fs':List (Str × V)}
theorem Oc (hok:HOk P w H h) (e:H a = some (.ins C dx fs)):∃ mA,ObjM h a dx C mA∧(∀ f,MC (fs.lookup f) (mA f))∧PySem.Within mA (fs.map (·.1))∧fs.length≤1000∧H dx = some (.own a):=by
 obtain ⟨d,z,ne,ob,mA,n,r,q⟩:=(show ObjOk P w H h a (.ins C dx fs) from hok a _ e)
 exact ⟨mA,⟨ob,n,ne⟩,r,q,z,d⟩
end
structure Cls (K:PySem.W.Frag) (C:Addr):Prop where
 pg:PySem.W.plainGet K C Str.empty = true
 hd:PySem.W.hasDictIn K C = true
 po:PySem.W.plainOver K C = true
 sa:PySem.W.findIn K (.ref C) "__setattr__" = some (some (.builtin "object.__setattr__"))
theorem Cls.get {K:PySem.W.Frag} {C:Addr} (c:Cls K C) (f:Str):PySem.W.plainGet K C f = true:=c.pg
structure Con (K:PySem.W.Frag) (C:Addr) (f:Str) (v:V) (u:Value):Prop where
 at_:PySem.W.findIn K (.ref C) f = some (some u)
 rel:RelV v u
 get:PySem.W.specialIn K u "__get__" = some none
 cp:PySem.W.copiedNames.contains f = false
structure Meth (K:PySem.W.Frag) (C:Addr) (m:Str) (f:Addr):Prop where
 at_:PySem.W.findIn K (.ref C) m = some (some (.ref f))
 fn:PySem.W.isFn K (.ref f) = true
 kp:PySem.W.keepIn K (.ref f) = true
section
variable {X:Cx} {pins:List (Addr × Obj)} {σ:St} {H:Hp} {s:Shared} {a C dx:Addr} {fs:List (Str × V)} {f:Str} {v:V} {A:Around} {E:Value→Shared→Prop}
theorem Od {prog:Program} {w:World} {env:Env} {e:Expr} {f:Str} {pos:Pos} {s:Shared} {Q:Value→Shared→Prop} (hb:attributeBase e f env (eval e env) = eval e env)
  (h:wpAny (model prog w) A (eval e env) (fun o s₁ => wpAny (model prog w) A (getAttr o f true) Q E s₁) E s):wpAny (model prog w) A (eval (.Attribute e f pos) env) Q E s :=
 Attribute_any_ h (by rw [arm_eval_Attribute,hb])
end
section
variable {X:Cx} {o e value:Expr} {f:Str} {pos pos' tpos:Pos} {ta tv:TE}
end
section
variable {X:Cx} {pins:List (Addr × Obj)} {σ:St} {H:Hp} {s:Shared} {A:Around} {E:Value→Shared→Prop} {Q:Value→Shared→Prop} {c:Value} {b:Bool}
inductive TyOf (K:PySem.W.Frag) (H:Hp):V→Value→Prop where
 | non:TyOf K H .non (.type "NoneType")
 | bl (x:Bool):TyOf K H (.bl x) (.type "bool")
 | int (i:Int):TyOf K H (.int i) (.type "int")
 | str (x:Str):TyOf K H (.str x) (.type "str")
 | flt (x:UInt64):TyOf K H (.flt x) (.type "float")
 | lst {a:Addr} {xs:List V} (e:H a = some (.lst xs)):TyOf K H (.ref a) (.type "list")
 | frz {a:Addr} {o:Obj} {xs:List V} (e:H a = some (.frz o (.lst xs))):TyOf K H (.ref a) (.type "list")
 | tup {a:Addr} {xs:List V} (e:H a = some (.tup xs)):TyOf K H (.ref a) (.type "tuple")
 | dK {a:Addr} {kvs:List (Hr × V)} (e:H a = some (.dK kvs)):TyOf K H (.ref a) (.type "dict")
 | dT {a:Addr} {kvs:List (List Hr × V)} (e:H a = some (.dT kvs)):TyOf K H (.ref a) (.type "dict")
 | ins {a C dx:Addr} {fs:List (Str × V)} (e:H a = some (.ins C dx fs)) (cl:Cls K C) (ha:PySem.W.findIn K (.ref C) "__class__" = some (some (.builtin "object.__class__")))
   (hn:PySem.W.specialIn K (.builtin "object.__class__") "__get__" = some (some (.builtin "getset_descriptor.__get__"))) (htk:PySem.W.takesIn K (.builtin "object.__class__") = some true)
   (hm:PySem.W.mroIn K C (.type "object") = some true):TyOf K H (.ref a) (.ref C)
theorem LN {x:V} {u t:Value} (I:Inv X pins σ H s) (rx:RelV x u) (ty:TyOf X.K H x t) (e:PySem.W.kitOne X.K t c = some b) (h:∀ tk,Q (.bool b) { s with toks:=tk }) :
  wpAny (model X.prog X.w) A (call (.builtin "isinstance") [u,c]) Q E s:=by
 cases ty with
 | non => cases (show u = Value.none from rx); exact PySem.W.kia_one PySem.W.kitx_none I.kIn True.intro e (fun z => nomatch z) h
 | bl y => cases (show u = Value.bool y from rx); exact PySem.W.kia_one PySem.W.kitx_bool I.kIn True.intro e (fun z => nomatch z) h
 | int i => obtain ⟨t,q⟩:=(show ∃ t,u = Value.int i t from rx); cases q; exact PySem.W.kia_one PySem.W.kitx_int I.kIn True.intro e (fun z => nomatch z) h
 | str y => obtain ⟨t,q⟩:=(show ∃ t,u = Value.str y t from rx); cases q; exact PySem.W.kia_one PySem.W.kitx_str I.kIn True.intro e (fun z => nomatch z) h
 | flt y => obtain ⟨t,q⟩:=(show ∃ t,u = Value.float y t from rx); cases q; exact PySem.W.kia_one PySem.W.kitx_float I.kIn True.intro e (fun z => nomatch z) h
 | @lst a xs ea =>
  cases (show u = Value.ref a from rx)
  obtain ⟨_,_,n,_,h1⟩:=(show ObjOk X.prog X.w H s.heap a (.lst xs) from I.hok a _ ea)
  exact PySem.W.kia_one PySem.W.kitx_list I.kIn ⟨_,h1,rfl⟩ e (fun z => nomatch z) h
 | @frz a ob xs ea =>
  cases (show u = Value.ref a from rx)
  obtain ⟨_,_,_,n,_,h1⟩:=(show ObjOk X.prog X.w H s.heap a (.frz ob (.lst xs)) from I.hok a _ ea)
  exact PySem.W.kia_one PySem.W.kitx_list I.kIn ⟨_,h1,rfl⟩ e (fun z => nomatch z) h
 | @tup a xs ea =>
  cases (show u = Value.ref a from rx)
  obtain ⟨_,_,_,p⟩:=(show ObjOk X.prog X.w H s.heap a (.tup xs) from I.hok a _ ea)
  obtain ⟨o,h1,h2,_⟩:=p
  exact PySem.W.kia_one PySem.W.kitx_tuple I.kIn ⟨o,h1,h2⟩ e (fun z => nomatch z) h
 | @dK a kvs ea =>
  cases (show u = Value.ref a from rx)
  obtain ⟨_,_,vs,_,p⟩:=(show ObjOk X.prog X.w H s.heap a (.dK kvs) from I.hok a _ ea)
  obtain ⟨o,es,ep,h1,h2,_⟩:=p
  exact PySem.W.kia_one PySem.W.kitx_dict I.kIn ⟨o,h1,h2.1⟩ e (fun z => nomatch z) h
 | @dT a kvs ea =>
  cases (show u = Value.ref a from rx)
  obtain ⟨_,_,xs,_,o,es,ep,h1,h2,_⟩:=(show ObjOk X.prog X.w H s.heap a (.dT kvs) from I.hok a _ ea)
  exact PySem.W.kia_one PySem.W.kitx_dict I.kIn ⟨o,h1,h2.1⟩ e (fun z => nomatch z) h
 | @ins a C dx fs ea cl ha hn htk hm =>
  cases (show u = Value.ref a from rx)
  obtain ⟨mA,O,_⟩:=Oc I.hok ea
  obtain ⟨od,J,_⟩:=O.look
  exact PySem.W.kia_one (PySem.W.kitx_own (cl.get _) cl.hd ha hn htk hm) I.kIn J e (fun z => nomatch z) h
end
structure Room (k:Nat) (A:Around):Prop where
 hd:A.handled = none
 dp:A.depth + 3 * k + 5 < recursionLimit
 un:A.units + 16 * k + 200 < cLine
 gd:A.guards = some []
theorem Room.mono {j k:Nat} {A:Around} (r:Room k A) (h:j≤k):Room j A:=⟨r.hd,by have:=r.dp; omega,by have:=r.un; omega,r.gd⟩
theorem Room.deeper {k:Nat} {A:Around} (r:Room (k + 1) A) (env:Env):Room k (A.deeper env) :=
 ⟨r.hd,by have:=r.dp; show A.depth + 1 + 3 * k + 5 < _; omega,by have:=r.un; show A.units + 3 + 16 * k + 200 < _; omega,r.gd⟩
theorem JH {A:Around} {C:Addr} {us:List Value} {kw:List (Str × Value)}:(A.under (.builtin "type.__call__" ⟨.ref C :: us,kw⟩)).depth = A.depth + 1:=by
 first | rfl | simp [Around.under,Code.weight,Code.isCreation,Code.isGuard,Code.isCaller,Code.frames,Code.isFrame,guardIds]
theorem JI {A:Around} {C:Addr} {us:List Value} {kw:List (Str × Value)}:(A.under (.builtin "type.__call__" ⟨.ref C :: us,kw⟩)).units = A.units + 1:=by
 first | rfl | simp [Around.under,Code.cUnits,Code.frames,Code.isFrame]
theorem IA {A:Around} {C:Addr} {us:List Value} {kw:List (Str × Value)}:(A.under (.builtin "type.__call__" ⟨.ref C :: us,kw⟩)).guards = A.guards:=by
 have h:(Code.builtin "type.__call__" ⟨.ref C :: us,kw⟩).isGuard = false:=by
  show guardIds.contains "type.__call__" = false
  decide +kernel
 simp only [Around.under,Code.guards,h]
 cases A.guards <;> rfl
theorem Room.make {k:Nat} {A:Around} (r:Room (k + 1) A) (C:Addr) (us:List Value) (kw:List (Str × Value)):Room k (A.under (.builtin "type.__call__" ⟨.ref C :: us,kw⟩)) :=
 ⟨r.hd,by have:=r.dp; rw [JH]; omega,by have:=r.un; rw [JI]; omega,by rw [IA]; exact r.gd⟩
theorem Room.depth {k:Nat} {A:Around} (r:Room k A):A.depth < recursionLimit:=by have:=r.dp; omega
def Uo:TA:=fun _ H Q => Q [] H
def Sw (ta:TE) (tr:TA):TA:=fun σ H Q => ta σ H fun x H1 => tr σ H1 fun xs H2 => Q (x :: xs) H2
section
variable {X:Cx} {e:Expr} {es:List Expr} {te:TE} {t:TA} {pos:Pos}
theorem Ao:PA X [] Uo:=fun _ _ _ _ H Q I h => Calls.spliced_nil ⟨[],H,I,.nil,h⟩
theorem AK (ha:PE X e te) (hr:PA X es t) (hs:starEach (e :: es) X.env = (false,eval e X.env) :: starEach es X.env:=by rfl):PA X (e :: es) (Sw te t):=by
 intro pos pins s σ H Q I h
 rw [hs]
 show wpAny _ _ (spliced ((false,eval e X.env) :: backTo pos (starEach es X.env))) _ _ s
 refine Calls.spliced_cons (Ac (ha pins s σ H _ I h) fun u s1 ⟨x,H1,I1,r1,q1⟩ => ?_)
 exact Ac (hr pos pins s1 σ H1 _ I1 q1) fun us s2 ⟨xs,H2,I2,r2,q2⟩ => ⟨x :: xs,H2,I2,.cons r1 r2,q2⟩
def Up (t:TA):TE:=fun σ H Q => t σ H fun xs H1 => xs.length≤sizeLine∧∀ p,H1 p = none→Q (.ref p) (upd H1 p (.tup xs))
def Uq (t:TA):TE:=fun σ H Q => t σ H fun xs H1 => xs.length≤sizeLine∧∀ p,H1 p = none→Q (.ref p) (upd H1 p (.lst xs))
theorem Qz {x1} (h:PA X es t):PE X (.Tuple es x1 pos) (Up t):=by
 intro pins s σ H Q I hq
 refine wpAny_Tuple_spliced (Ac (h pos pins s σ H _ I hq) fun us s1 ⟨xs,H1,I1,r,z,q⟩ => ⟨by rw [← r.length]; exact z,?_⟩)
 have hf:H1 s1.heap.objs.size = none:=I1.hok.fresh (Nat.le_refl _)
 refine ⟨.ref s1.heap.objs.size,upd H1 s1.heap.objs.size (.tup xs),I1.laid (t':=s1.toks) (fun b u e => Heap.get?_push_of_some _ e) (Nat.le_refl _) ?_,rfl,q _ hf⟩
 exact ⟨z,us,r,⟨_,Heap.get?_push_size _ rfl,rfl,_,rfl⟩⟩
theorem Ev (h:PA X es t):PE X (.List es pos) (Uq t):=by
 intro pins s σ H Q I hq
 refine wpAny_List_spliced (Ac (h pos pins s σ H _ I hq) fun us s1 ⟨xs,H1,I1,r,z,q⟩ => ⟨by rw [← r.length]; exact z,?_⟩)
 have hf:H1 s1.heap.objs.size = none:=I1.hok.fresh (Nat.le_refl _)
 refine ⟨.ref s1.heap.objs.size,upd H1 s1.heap.objs.size (.lst xs),I1.laid (t':=s1.toks) (fun b u e => Heap.get?_push_of_some _ e) (Nat.le_refl _) ?_,rfl,q _ hf⟩
 exact ⟨z,us,0,r,Heap.get?_push_size _ rfl⟩
end
abbrev Sp:=List V→Hp→VK→XK→Prop
abbrev MB:=List Env→Hp→Shared→XK→Value→Shared→Prop
structure Env0 (P:Program) (w:World) (K:PySem.W.Frag) (mg:Str→Option Value) (base:Heap) (A:Around) (outer:List Env) (s:Shared) (H:Hp):Prop where
 frames:A.frames = some outer
 mod:Mod K mg base
 bs:∀ b o,base.get? b = some o→s.heap.get? b = some o∧H b = none
 bsz:base.objs.size≤s.heap.objs.size
 funs:s.heap.FunFrames base outer
 frf:∀ b∈Dl outer,H b = none
 hok:HOk P w H s.heap
 bare:AllBare s.gens
def CE (outer:List Env) (P:Program) (w:World) (H:Hp) (s:Shared) (Q:VK) (u:Value) (s':Shared):Prop :=
 ∃ v H',s'.os = s.os∧AllBare s'.gens∧Un (Dl outer) [] H H' s.heap s'.heap∧HOk P w H' s'.heap∧RelV v u∧Q v H'
def CR (CX:MB) (outer:List Env) (P:Program) (w:World) (H:Hp) (s:Shared) (Q:VK) (E:XK) (r:Result) (s':Shared):Prop :=
 match r with
 | .ok (.ret u) => CE outer P w H s Q u s'
 | .ok _ => False
 | .error e => CX outer H s E e s'
structure FnOk (P:Program) (w:World) (K:PySem.W.Frag) (mg:Str→Option Value) (base:Heap) (CX:MB) (k:Nat) (f:Addr) (fd:FuncData) (ps:List Str) (sp:Sp):Prop where
 len:∀ vs H Q E,sp vs H Q E→vs.length = ps.length
 run:∀ (A:Around) (outer:List Env) (s:Shared) (H:Hp) (args:Args) (us:List Value) (vs:List V) (Q:VK) (E:XK),Room k A→Env0 P w K mg base A outer s H→BindsTo s fd args (ps.zip us)→Vals vs us→sp vs H Q E →
  codeAny (model P w) A (.call (.ref f) args) (CR CX outer P w H s Q E) s
theorem FnOk.mono {P:Program} {w:World} {K:PySem.W.Frag} {mg:Str→Option Value} {base:Heap} {CX:MB} {j k:Nat} {f:Addr} {fd:FuncData} {ps:List Str} {sp:Sp} (F:FnOk P w K mg base CX j f fd ps sp) (h:j≤k) :
  FnOk P w K mg base CX k f fd ps sp:=⟨F.len,fun A outer s H args us vs Q E hr => F.run A outer s H args us vs Q E (hr.mono h)⟩
theorem Env0.make {P:Program} {w:World} {K:PySem.W.Frag} {mg:Str→Option Value} {base:Heap} {A:Around} {outer:List Env} {s:Shared} {H:Hp} (e:Env0 P w K mg base A outer s H) (C:Addr) (us:List Value) (kw:List (Str × Value)) :
  Env0 P w K mg base (A.under (.builtin "type.__call__" ⟨.ref C :: us,kw⟩)) outer s H:=⟨by first | exact e.frames | (simpa [Around.under,Code.envs,Code.isFrame,pushEnvs] using e.frames),e.mod,e.bs,e.bsz,e.funs,e.frf,e.hok,e.bare⟩
section
variable {X:Cx} {pins:List (Addr × Obj)} {σ:St} {H:Hp} {s s':Shared}
theorem Inv.env0 (I:Inv X pins σ H s):Env0 X.prog X.w X.K X.mg X.base X.A X.stack s H :=
 ⟨I.ok.frames,I.ok.mod,I.bs,Nat.le_trans I.ok.bsz I.sz,I.stack,I.stkFree,I.hok,I.bare⟩
theorem Inv.after {Q:VK} {u:Value} (I:Inv X pins σ H s) (h:CE X.stack X.prog X.w H s Q u s'):EP X pins σ Q u s':=by
 obtain ⟨v,H',os,bare,un,hok,r,q⟩:=h
 obtain ⟨hh,g,d,t,os'⟩:=s'
 obtain rfl:os' = s.os:=os
 exact ⟨v,H',I.call (h':=hh) (g':=g) (d':=d) (t':=t) (ch:=[]) un hok bare (fun b z => absurd z (by simp)),r,q⟩
end
def Binds (K:PySem.W.Frag) (fd:FuncData) (ps:List Str) (ds:List Value):Prop :=
 ∀ (s:Shared) (us:List Value),K.In s.heap→(us ++ ds).length = ps.length→BindsTo s fd ⟨us,[]⟩ (ps.zip (us ++ ds))
theorem Binds.all {K:PySem.W.Frag} {fd:FuncData} {ps:List Str} (h:∀ us:List Value,us.length = ps.length→bindArgs fd ⟨us,[]⟩ = pure (ps.zip us)):Binds K fd ps []:=fun s us _ hl => by
 rw [List.append_nil] at hl ⊢
 exact .of_eq (h us hl)
section
variable {X:Cx} {CX:MB} {k:Nat} {f C:Addr} {fd:FuncData} {ps:List Str} {sp:Sp} {dvs:List V} {ds:List Value} {E:XK} {x m:Str} {p pos apos:Pos} {e o:Expr} {es:List Expr} {ta:TE} {t:TA}
structure Mk (K:PySem.W.Frag) (C f:Addr):Prop where
 makes:PySem.W.makesIn K C = true
 init:PySem.W.findIn K (.ref C) "__init__" = some (some (.ref f))
 fn:PySem.W.isFn K (.ref f) = true
 kp:PySem.W.keepIn K (.ref C) = true
end
section
variable {X:Cx} {CX:MB} {k:Nat} {f C:Addr} {fd:FuncData} {ps ks:List Str} {sp:Sp} {E:XK} {x m:Str} {p pos apos kpos:Pos} {e o:Expr} {es:List Expr} {kws:List Keyword} {te ta:TE} {t tk:TA} {nm:Option Str}
structure KBinds (K:PySem.W.Frag) (fd:FuncData) (ps ks:List Str) (g:List Value→List Value→List Value) (gV:List V→List V→List V):Prop where
 to:∀ (s:Shared) (us ws:List Value),K.In s.heap→(g us ws).length = ps.length→BindsTo s fd ⟨us,ks.zip ws⟩ (ps.zip (g us ws))
 rel:∀ {vs:List V} {us:List Value} {zs:List V} {ws:List Value},Vals vs us→Vals zs ws→Vals (gV vs zs) (g us ws)
variable {g:List Value→List Value→List Value} {gV:List V→List V→List V}
end
structure FnScope (N P:List Str) (sc:Scope):Prop where
 kind:sc.kind = .function
 co:sc.isCoroutine = false
 gen:sc.isGenerator = false
 nd:N.Nodup
 pre:N.take P.length = P
 par:∀ x∈P,sc.names.lookup x = some .local∨sc.names.lookup x = some .cell
 nofree:∀ y∈sc.names,y.2≠.free
theorem Fy {kindOf:Str→Option NameKind} {x:Str}:∀ {binds:List (Str × Value)} {m:Str→Option Value},(∀ v,(x,v) ∉ binds)→bindL kindOf binds m x = m x
 | [],_,_ => rfl
 | (n,v) :: r,m,h => by
  unfold bindL
  rw [Fy fun w hw => h w (List.mem_cons_of_mem _ hw)]
  split
  ·have:x≠n:=by rintro rfl; exact h v List.mem_cons_self
   simp [this]
  ·rfl
theorem Fz {kindOf:Str→Option NameKind} {x:Str}:∀ {binds:List (Str × Value)} {m:Str→Option Value},(∀ v,(x,v) ∉ binds)→bindC kindOf binds m x = m x
 | [],_,_ => rfl
 | (n,v) :: r,m,h => by
  unfold bindC
  rw [Fz fun w hw => h w (List.mem_cons_of_mem _ hw)]
  split
  ·rfl
  ·have:x≠n:=by rintro rfl; exact h v List.mem_cons_self
   simp [this]
theorem GA {kindOf:Str→Option NameKind} {x:Str} {v:Value}:∀ {P:List Str} {vs:List Value} {i:Nat} {m:Str→Option Value},P.Nodup→P[i]? = some x→vs[i]? = some v→kindOf x = some .local →
  bindL kindOf (P.zip vs) m x = some v
 | [],_,_,_,_,h,_,_ => by simp at h
 | _ :: _,[],_,_,_,_,h,_ => by simp at h
 | p :: P,w :: vs,0,m,nd,h1,h2,hk => by
  simp at h1 h2; subst h1; subst h2
  show bindL kindOf ((p,w) :: P.zip vs) m p = _
  unfold bindL
  rw [Fy fun v hv => (List.nodup_cons.mp nd).1 (List.of_mem_zip hv).1,if_pos hk]
  simp
 | p :: P,w :: vs,i + 1,m,nd,h1,h2,hk => by
  show bindL kindOf ((p,w) :: P.zip vs) m x = _
  unfold bindL
  exact GA (i:=i) (List.nodup_cons.mp nd).2 (by simpa using h1) (by simpa using h2) hk
theorem GB {kindOf:Str→Option NameKind} {x:Str} {v:Value}:∀ {P:List Str} {vs:List Value} {i:Nat} {m:Str→Option Value},P.Nodup→P[i]? = some x→vs[i]? = some v→kindOf x≠some .local →
  bindC kindOf (P.zip vs) m x = some v
 | [],_,_,_,_,h,_,_ => by simp at h
 | _ :: _,[],_,_,_,_,h,_ => by simp at h
 | p :: P,w :: vs,0,m,nd,h1,h2,hk => by
  simp at h1 h2; subst h1; subst h2
  show bindC kindOf ((p,w) :: P.zip vs) m p = _
  unfold bindC
  rw [Fz fun v hv => (List.nodup_cons.mp nd).1 (List.of_mem_zip hv).1,if_neg hk]
  simp
 | p :: P,w :: vs,i + 1,m,nd,h1,h2,hk => by
  show bindC kindOf ((p,w) :: P.zip vs) m x = _
  unfold bindC
  exact GB (i:=i) (List.nodup_cons.mp nd).2 (by simpa using h1) (by simpa using h2) hk
def start (N:List Str) (vs:List V):St:=vs.map some ++ List.replicate (N.length - vs.length) none
def BY (CX:MB) (P:Program) (w:World) (K:PySem.W.Frag) (mg:Str→Option Value) (base:Heap) (N:List Str) (qual:Str) (scope:Scope) (f:Addr) (cd:Value) (A:Around) (outer:List Env) (s:Shared) (H:Hp) (E:XK):Cx where
 prog:=P
 w:=w
 K:=K
 mg:=mg
 base:=base
 A:=A.deeper (envOfC qual scope s.heap.objs.size f cd)
 N:=N
 s₀:=s
 H₀:=H
 env:=envOfC qual scope s.heap.objs.size f cd
 outer:=outer
 stack:=envOfC qual scope s.heap.objs.size f cd :: outer
 ex:=[]
 calm:=true
 fn:=fun _ => true
 pn:=[]
 xe:=fun e s' => wpAny (model P w) (A.deeper (envOfC qual scope s.heap.objs.size f cd)) (leaving (envOfC qual scope s.heap.objs.size f cd) e) (fun _ s'' => CX outer H s E e s'') (fun e' s'' => CX outer H s E e' s'') s'
theorem IB {sc:Scope} {n:Nat} {x:Str} (h:sc.names.lookup x = some .cell):∃ c,(cellsFrom n sc.names []).lookup x = some c:=by
 have q:=PySem.W.cellsFrom_some sc.names n [] (.inl h)
 exact Option.isSome_iff_exists.mp q
theorem GC {CX:MB} {P:Program} {w:World} {K:PySem.W.Frag} {mg:Str→Option Value} {base:Heap} {N ps:List Str} {qual:Str} {scope:Scope} {f:Addr} {cd:Value} {A:Around} {outer:List Env} {s s1:Shared} {H:Hp} {E:XK} {us:List Value} {vs:List V}
  (S:FnScope N ps scope) (hd:A.handled = none) (e0:Env0 P w K mg base A outer s H) (hl:vs.length = ps.length) (r:Vals vs us)
  (x:InCallC s s.heap.objs.size (bindL (envOfC qual scope s.heap.objs.size f cd).kindOf (ps.zip us) fun _ => none) (cellsFrom (s.heap.objs.size + 1) scope.names []) (bindC (envOfC qual scope s.heap.objs.size f cd).kindOf (ps.zip us) fun _ => none) s1) :
  Inv (BY CX P w K mg base N qual scope f cd A outer s H E) [] (start N vs) H s1:=by
 have hpl:ps.length≤N.length:=by have:=congrArg List.length S.pre; rw [List.length_take] at this; omega
 obtain ⟨h1,tk,rfl,hk⟩:=x.done
 have noA:∀ b:Addr,b ∉ (BY CX P w K mg base N qual scope f cd A outer s H E).ex:=fun b z => absurd (show b∈([]:List Addr) from z) (by simp)
 refine ⟨⟨e0.mod,S.kind,rfl,rfl,Nat.le_refl _,fun y z c h1 h2 => ?_,fun y hy => ?_,fun y c _ h => ?_,fun _ => hd,Around.frames_deeper e0.frames,.inr ⟨rfl,rfl⟩,fun b z => absurd z (noA b),e0.bs,e0.bsz,fun b _ _ => noA b,fun b z => absurd z (noA b),e0.funs,e0.frf⟩,
  rfl,e0.bare,Un.kept hk,⟨_,x.toInCall.ns,fun i y v h1 h2 h3 => ?_⟩,fun y c h => ⟨_,x.cell y c h⟩,e0.hok.fresh (Nat.le_refl _),fun y c h => ?_,fun p hp => absurd (show p∈([]:List (Addr × Obj)) from hp) (by simp),e0.hok.kept hk,?_⟩
 ·exact name_of_addr x.apart (PySem.mem_of_lookup h1) (PySem.mem_of_lookup h2)
 ·have hy:scope.names.lookup y = some .cell∨scope.names.lookup y = some .free:=hy
  rcases hy with hy | hy
  ·exact IB hy
  ·exact absurd rfl (S.nofree _ (PySem.mem_of_lookup hy))
 ·exact Nat.le_of_lt (x.above y c (PySem.mem_of_lookup h))
 ·have hi:i < vs.length:=by
   unfold start at h2
   by_cases hi:i < vs.length
   ·exact hi
   ·rw [List.getElem?_append_right (by simpa using hi)] at h2
    rw [List.getElem?_replicate] at h2
    split at h2 <;> cases h2
  have ha:vs[i]? = some v:=by
   unfold start at h2
   rw [List.getElem?_append_left (by simpa using hi),List.getElem?_map] at h2
   cases e:vs[i]? with
   | none => rw [e] at h2; cases h2
   | some a => rw [e] at h2; cases h2; rfl
  obtain ⟨u,hu,rv⟩:=r.get ha
  have hp:ps[i]? = some y:=by
   rw [← S.pre,List.getElem?_take_of_lt (by omega)]; exact h1
  have ndP:ps.Nodup:=by rw [← S.pre]; exact S.nd.sublist (List.take_sublist _ _)
  refine ⟨u,rv,?_⟩
  rcases S.par y (List.mem_of_getElem? hp) with k | k
  ·exact .inl ⟨k,GA ndP hp hu k⟩
  ·obtain ⟨c,e⟩:=IB (n:=s.heap.objs.size + 1) k
   refine .inr ⟨.inl k,c,e,?_⟩
   have q:=x.cell y c e
   rw [GB ndP hp hu (by show scope.names.lookup y≠_; rw [k]; decide)] at q
   exact q
 ·exact e0.hok.fresh (Nat.le_of_lt (x.above y c (PySem.mem_of_lookup h)))
 ·unfold start
  show _ = N.length
  rw [List.length_append,List.length_map,List.length_replicate]
  omega
theorem Sx {CX:MB} {P:Program} {w:World} {K:PySem.W.Frag} {mg:Str→Option Value} {base:Heap} {k:Nat} {f:Addr} {name qual:Str} {params:Arguments} {body:List Stmt} {scope:Scope} {dV kV doc pm cdv ct oc:Value} {an od:Option Addr}
  {osl:Array (Option Value)} {N ps:List Str} {sp:Sp} (lk:K.lookup f = some ⟨oc,od,.func (PySem.W.fnOf name qual params body scope dV kV doc pm an cdv ct),osl⟩) (hcd:PySem.W.codeIn K cdv qual = true) (S:FnScope N ps scope)
  (len:∀ vs H Q E,sp vs H Q E→vs.length = ps.length)
  (hbody:∀ (A:Around) (outer:List Env) (s:Shared) (H:Hp) (vs:List V) (Q:VK) (E:XK),Room k (A.deeper (envOfC qual scope s.heap.objs.size f cdv))→sp vs H Q E →
   ∃ t,PSs (BY CX P w K mg base N qual scope f cdv A outer s H E) body t∧t { nx:=fun _ H' => Q .non H',rt:=Q } (start N vs) H) :
  FnOk P w K mg base CX (k + 1) f (PySem.W.fnOf name qual params body scope dV kV doc pm an cdv ct) ps sp:=by
 refine ⟨len,fun A outer s H args us vs Q E hr e0 hb r hsp => ?_⟩
 have hl:=len _ _ _ _ hsp
 have KX:K.In s.heap:=e0.mod.kin.keeps fun b o e => (e0.bs b o e).1
 have lim:s.heap.NoLimit:=e0.mod.nolimit.keeps fun b o e => (e0.bs b o e).1
 have hkind:∀ y∈ps.zip us,scope.names.lookup y.1 = some .local∨(scope.names.lookup y.1 = some .cell∧((cellsFrom (s.heap.objs.size + 1) scope.names []).lookup y.1).isSome = true):=fun ⟨n,v⟩ hy => by
  rcases S.par n (List.of_mem_zip hy).1 with q | q
  ·exact .inl q
  ·exact .inr ⟨q,PySem.W.cellsFrom_some _ _ _ (.inl q)⟩
 refine codeAny_call_function hr.depth (KX _ _ lk) rfl S.co S.gen rfl (PySem.W.codeRec_of KX hcd) (hb _ _ _ _ ?_)
 refine wpAny_newFunctionEnv_cells S.kind hkind fun env he s1 x => ?_
 subst he
 refine ⟨lim.keeps x.toInCall.keep,codeAny_func ?_⟩
 obtain ⟨t,ht,hq⟩:=hbody A outer s H vs Q E (hr.deeper _) hsp
 have I:Inv (BY CX P w K mg base N qual scope f cdv A outer s H E) [] (start N vs) H s1:=GC S hr.hd e0 hl r x
 refine wpAny_mono (ht [] s1 (start N vs) H _ I hq) (fun fl s' hs => ?_) fun e s' hs => hs
 have fin:∀ {σ':St} {H':Hp} {v:V} {u:Value},Inv (BY CX P w K mg base N qual scope f cdv A outer s H E) [] σ' H' s'→RelV v u→Q v H'→CE outer P w H s Q u s' :=
  fun {σ' H' v u} J rv q => ⟨v,H',J.os,J.bare,J.base,J.hok,rv,q⟩
 cases fl with
 | ret u =>
  obtain ⟨v,σ',H',J,rv,q⟩:=hs
  exact fin J rv q
 | next =>
  obtain ⟨σ',H',J,q⟩:=hs
  exact fin (v:=V.non) (u:=Value.none) J rfl q
 | brk =>
  obtain ⟨_,_,_,q⟩:=hs
  exact False.elim q
 | cont =>
  obtain ⟨_,_,_,q⟩:=hs
  exact False.elim q
section
variable {X:Cx} {x:Str} {p pos:Pos} {e:Expr} {es:List Expr} {t:TA} {id T:String} {r:List V→Hp→VK→Prop}
def VQ (r:List V→Hp→VK→Prop) (t:TA):TE:=fun σ H Q => t σ H fun vs H1 => r vs H1 Q
theorem An (hc:Ay X (.builtin id) r) (hg:Gl X x) (hm:X.mg x = none) (hv:bootBuiltins x = some (.builtin id)) (ha:PA X (e :: es) t) (hn:x≠"__name__":=by decide) (hdb:(x == ("__debug__" : Str)) = false:=by decide)
  (he:starEach (e :: es) X.env = (false,eval e X.env) :: starEach es X.env:=by rfl) (hpl:(backTo pos (starEach es X.env)).any (·.1) = false:=by rfl):PE X (.Call (.Name x p) (e :: es) [] pos) (VQ r t):=by
 intro pins s σ H Q I h
 refine wpAny_Call_Name_kw (Dm I hg hm hv ?_ hn hdb)
 exact PyProof.Rows.callWith_builtin1 (Ac (ha pos pins s σ H _ I h) fun us s1 ⟨vs,H1,I1,r1,q1⟩ => hc pins s1 σ H1 vs us Q I1 r1 q1) he hpl
theorem Cr (hc:Ay X (.type T) r) (hg:Gl X x) (hm:X.mg x = none) (hv:bootBuiltins x = some (.type T)) (ha:PA X (e :: es) t) (hn:x≠"__name__":=by decide) (hdb:(x == ("__debug__" : Str)) = false:=by decide)
  (he:starEach (e :: es) X.env = (false,eval e X.env) :: starEach es X.env:=by rfl) (hpl:(backTo pos (starEach es X.env)).any (·.1) = false:=by rfl):PE X (.Call (.Name x p) (e :: es) [] pos) (VQ r t):=by
 intro pins s σ H Q I h
 refine wpAny_Call_Name_kw (Dm I hg hm hv ?_ hn hdb)
 exact PyProof.Rows.callWith_type1 (Ac (ha pos pins s σ H _ I h) fun us s1 ⟨vs,H1,I1,r1,q1⟩ => hc pins s1 σ H1 vs us Q I1 r1 q1) he hpl
end
end L2
namespace HT
open PySem PyProof.Rows
section
open PySem.SeqAt
open PySem.AutoSeq1 (wpAny_loadPart')
open PySem.MeetsSeq PySem.MeetsSeq2 PySem.MeetsSeq3
end
section
variable {prog:Program} {w:World} {A:Around} {E:Value→Shared→Prop} {s:Shared}
def Ew (n d:Nat):Option Int→Nat
 | none => d
 | some v => if v < 0 then (v + (n:Int)).toNat else min v.toNat n
theorem IC (n d:Nat):Ew n d none = d:=rfl
theorem KI (n d k:Nat):Ew n d (some (k:Int)) = min k n:=by
 show (if (k:Int) < 0 then ((k:Int) + (n:Int)).toNat else min (k:Int).toNat n) = min k n
 rw [if_neg (by omega),Int.toNat_natCast]
end
end HT
namespace L2
open PySem PySem.Spec PyProof.Rows
abbrev TO:=St→Hp→(Option Int→Hp→Prop)→Prop
def PO (X:Cx) (e:Option Expr) (t:TO):Prop :=
 ∀ (pins:List (Addr × Obj)) (s:Shared) (σ:St) (H:Hp) (Q:Option Int→Hp→Prop),Inv X pins σ H s→t σ H Q →
  wpAny (model X.prog X.w) X.A (evalPart e X.env) (fun u s' => ∃ o H',Inv X pins σ H' s'∧IsPart u o∧Q o H') X.xe s
def Of:TO:=fun _ H Q => Q none H
def Sy (t:TE):TO:=fun σ H Q => t σ H fun x H1 => ∃ i,x = .int i∧Q (some i) H1
section
variable {X:Cx} {e:Expr} {te:TE} {lo hi:Option Expr} {tl th:TO} {pos p2:Pos}
theorem KJ:PO X none Of:=by
 intro pins s σ H Q I h
 rw [evalPart_none]
 exact wpAny_pure ⟨none,H,I,.none,h⟩
theorem Ea (h:PE X e te):PO X (some e) (Sy te):=by
 intro pins s σ H Q I hw
 rw [evalPart_some]
 refine Ac (h pins s σ H _ I hw) fun u s1 ⟨x,H1,I1,r1,q1⟩ => ?_
 obtain ⟨i,rfl,q⟩:=q1
 obtain ⟨t,rfl⟩:=r1
 exact ⟨some i,H1,I1,.int i t,q⟩
def VR (X:Cx) (r:V→Option Int→Option Int→Hp→VK→Prop):Prop :=
 ∀ (pins:List (Addr × Obj)) (s:Shared) (σ:St) (H:Hp) (x:V) (v vl vu:Value) (lo hi:Option Int) (sl:Addr) (Q:VK),Inv X pins σ H s→RelV x v→s.heap.IsSliceOf sl vl vu .none→IsPart vl lo→IsPart vu hi→r x lo hi H Q →
  ∃ T id,typeLookup (.type T) "__getitem__" = pure (some (.builtin id))∧s.TypeIs v T∧wpAny (model X.prog X.w) X.A (getItem v (.ref sl)) (EP X pins σ Q) X.xe s
def Ve (r:V→Option Int→Option Int→Hp→VK→Prop) (te:TE) (tl th:TO):TE:=fun σ H Q => te σ H fun x H1 => tl σ H1 fun l H2 => th σ H2 fun u H3 => r x l u H3 Q
theorem Ex {r:V→Option Int→Option Int→Hp→VK→Prop} (hr:VR X r) (he:PE X e te) (hl:PO X lo tl) (hu:PO X hi th):PE X (.Subscript e (.Slice lo hi none p2) pos) (Ve r te tl th):=by
 intro pins s σ H Q I h
 refine Subscript_ (Ac (he pins s σ H _ I h) fun v s1 ⟨x,H1,I1,r1,q1⟩ => ?_)
 refine wpAny_Slice (Ac (hl pins s1 σ H1 _ I1 q1) fun vl s2 ⟨l,H2,I2,pl,q2⟩ => Ac (hu pins s2 σ H2 _ I2 q2) fun vu s3 ⟨u,H3,I3,pu,q3⟩ => ?_)
 rw [evalPart_none]
 refine wpAny_pure ?_
 have I4:Inv X pins σ H3 { s3 with heap:=s3.heap.push { cls:=.type "slice",data:=.fields #[vl,vu,.none] } }:=I3.kept (t':=s3.toks) fun b ob q => Heap.get?_push_of_some _ q
 obtain ⟨T,id,hT,ht,hg⟩:=hr pins { s3 with heap:=s3.heap.push { cls:=.type "slice",data:=.fields #[vl,vu,.none] } } σ H3 x v vl vu l u s3.heap.objs.size Q I4 r1 (Heap.IsSliceOf.new ..) pl pu q3
 show wpAny (model X.prog X.w) X.A (subscriptTail e (.Slice lo hi none p2) v (.ref s3.heap.objs.size)) (EP X pins σ Q) X.xe { s3 with heap:=s3.heap.push { cls:=.type "slice",data:=.fields #[vl,vu,.none] } }
 exact tail_any (ops:=[.ref s3.heap.objs.size,v]) ht hT hg (by with_unfolding_all rfl)
def ID (xs:List V) (lo hi:Option Int):List V:=(xs.drop (HT.Ew xs.length 0 lo)).take (HT.Ew xs.length xs.length hi - HT.Ew xs.length 0 lo)
theorem IE (xs:List V) (lo hi:Option Int):(ID xs lo hi).length≤xs.length:=by
 unfold ID
 rw [List.length_take,List.length_drop]
 omega
end
def Og (n:Nat) (i:Int):Option Nat:=if 0≤i then (if i < n then some i.toNat else none) else if -(n:Int)≤i then some (i + n).toNat else none
def atI {α:Type} (xs:List α) (i:Int):Option α:=(Og xs.length i).bind fun j => xs[j]?
theorem KK {n:Nat} {i:Int} {j:Nat} (h:Og n i = some j):seqIndex? i n = some j∧j < n∧-(n:Int)≤i∧i < n:=by
 unfold Og at h
 by_cases h0:0≤i
 ·rw [if_pos h0] at h
  by_cases h1:i < n
  ·rw [if_pos h1] at h
   have e:i.toNat = j:=Option.some.inj h
   exact ⟨by rw [seqIndex_of h0 h1,e],by omega,by omega,h1⟩
  ·rw [if_neg h1] at h; cases h
 ·rw [if_neg h0] at h
  by_cases h1 : -(n:Int)≤i
  ·rw [if_pos h1] at h
   have e:(i + n).toNat = j:=Option.some.inj h
   exact ⟨by rw [seqIndex_neg (by omega) h1,e],by omega,h1,by omega⟩
  ·rw [if_neg h1] at h; cases h
theorem Eb {α:Type} {xs:List α} {i:Int} {v:α} (h:atI xs i = some v):∃ j,seqIndex? i xs.length = some j∧xs[j]? = some v∧j < xs.length∧-(xs.length:Int)≤i∧i < xs.length:=by
 unfold atI at h
 cases e:Og xs.length i with
 | none => rw [e] at h; cases h
 | some j =>
  rw [e] at h
  obtain ⟨h1,h2,h3,h4⟩:=KK e
  exact ⟨j,h1,h,h2,h3,h4⟩
theorem DO {α:Type} {xs:List α} {j:Nat} {v:α} (h:xs[j]? = some v):atI xs (j:Int) = some v:=by
 have hj:j < xs.length:=(List.getElem?_eq_some_iff.mp h).1
 have e:Og xs.length (j:Int) = some j:=by
  unfold Og
  rw [if_pos (by omega),if_pos (by omega)]; simp
 unfold atI; rw [e]; exact h
def Cu (b:Expr):Prop:=∀ o i,subscripted b false o i = operate [o,i] (getItem o i)
def Sz (X:Cx) (r:R2):Prop :=
 ∀ (value slice:Expr) (pins:List (Addr × Obj)) (s:Shared) (σ:St) (H:Hp) (x y:V) (v u:Value) (Q:VK),Inv X pins σ H s→RelV x v→RelV y u→r x y H Q →
  subscripted slice false v u = operate [v,u] (getItem v u)→wpAny (model X.prog X.w) X.A (subscriptTail value slice v u) (EP X pins σ Q) X.xe s
def VS (X:Cx) (id:String) (r:V→List V→Hp→VK→Prop):Prop :=
 ∀ (pins:List (Addr × Obj)) (s:Shared) (σ:St) (H:Hp) (x:V) (xs:List V) (v:Value) (us:List Value) (Q:VK),Inv X pins σ H s→RelV x v→Vals xs us→r x xs H Q →
  wpAny (model X.prog X.w) X.A (call (.builtin id) (v :: us)) (EP X pins σ Q) X.xe s
section
variable {X:Cx} {a b:Expr} {ta tb:TE} {pos:Pos}
theorem MU {r:R2} (hr:Sz X r) (ha:PE X a ta) (hb:PE X b tb) (hs:Cu b):PE X (.Subscript a b pos) (Sn r ta tb):=by
 intro pins s σ H Q I h
 exact Subscript_ (Qt ha hb I h fun v u s2 x y H2 I2 rx ry q => hr a b pins s2 σ H2 x y v u Q I2 rx ry q (hs _ _))
def RA (K:PySem.W.Frag):R2:=fun x y H Q => ∃ p xs i v,x = .ref p∧y = .int i∧SqL K H p xs∧atI xs i = some v∧Q v H
def TB (K:PySem.W.Frag):R2:=fun x y H Q => ∃ p xs i v,x = .ref p∧y = .int i∧Hv K H p xs∧atI xs i = some v∧Q v H
theorem Cv:Sz X (RA X.K):=by
 intro value slice pins s σ H x y v u Q I rx ry h hs
 obtain ⟨p,xs,i,z,rfl,rfl,hq,he,q⟩:=h
 cases rx
 obtain ⟨t,rfl⟩:=ry
 obtain ⟨its,r,pl,hz⟩:=I.list hq
 obtain ⟨j,h1,h2,h3,h4,h5⟩:=Eb he
 obtain ⟨w,ew,rw'⟩:=r.get h2
 have hl:=r.length
 have hn:=Dp
 have fin:EP X pins σ Q w s:=⟨z,H,I,rw',q⟩
 by_cases h0:0≤i
 ·have hj:i.toNat = j:=by
   rw [seqIndex_of h0 h5] at h1
   exact Option.some.inj h1
  exact item_listR pl.isList h0 (by omega) (by rw [hj]; simpa using ew) fin hs
 ·have hj:(i + (its.toArray.size:Int)).toNat = j:=by
   rw [seqIndex_neg (by omega) h4] at h1
   rw [List.size_toArray,← hl]
   exact Option.some.inj h1
  exact subscriptTail_builtinR (x:=w) pl.isList.typeIs slot_list_getitem.lookup
   (wpAny_getItem_list_neg (Q:=fun r s' => r = w∧EP X pins σ Q r s') pl.isList (by omega) (by rw [List.size_toArray] <;> omega) (by omega) (by rw [hj]; simpa using ew) ⟨rfl,fin⟩) hs
theorem RB:Sz X (TB X.K):=by
 intro value slice pins s σ H x y v u Q I rx ry h hs
 obtain ⟨p,xs,i,z,rfl,rfl,hq,he,q⟩:=h
 cases rx
 obtain ⟨t,rfl⟩:=ry
 obtain ⟨its,r,pl,hz⟩:=I.tuple hq
 obtain ⟨j,h1,h2,h3,h4,h5⟩:=Eb he
 obtain ⟨w,ew,rw'⟩:=r.get h2
 have hl:=r.length
 have hn:=Dp
 have fin:EP X pins σ Q w s:=⟨z,H,I,rw',q⟩
 exact subscriptTail_builtinR (x:=w) pl.typeIs slot_tuple_getitem.lookup
  (getItem_tuple (j:=j) (Q:=fun r s' => r = w∧EP X pins σ Q r s') pl (by omega) (by omega) (by rw [List.size_toArray,← hl]; exact h1) (by simpa using ew) ⟨rfl,fin⟩) hs
theorem JJ (its:List Value) (n j:Nat) (u:Value):Obj.mapSeq (·.setIfInBounds j u) { cls:=.type "list",data:=.seq its.toArray n } = { cls:=.type "list",data:=.seq (its.set j u).toArray n }:=by
 simp [Obj.mapSeq]
theorem Inv.lst {pins:List (Addr × Obj)} {σ:St} {H:Hp} {s:Shared} {p:Addr} {xs:List V} (I:Inv X pins σ H s) (h:H p = some (.lst xs)) :
  ∃ (its:List Value) (n:Nat),Vals xs its∧s.heap.get? p = some { cls:=.type "list",data:=.seq its.toArray n }∧xs.length≤sizeLine:=by
 obtain ⟨z,its,n,r,e⟩:=I.hok p _ h
 exact ⟨its,n,r,e,z⟩
theorem Inv.lstUpd {pins:List (Addr × Obj)} {σ:St} {H:Hp} {s:Shared} {p:Addr} {xs ys:List V} {its its':List Value} {n n':Nat} {f:Obj→Obj} (I:Inv X pins σ H s) (h:H p = some (.lst xs))
  (ho:s.heap.get? p = some { cls:=.type "list",data:=.seq its.toArray n }) (hf:f { cls:=.type "list",data:=.seq its.toArray n } = { cls:=.type "list",data:=.seq its'.toArray n' }) (r:Vals ys its') (hz:ys.length≤sizeLine) (t:Nat) :
  Inv X pins σ (upd H p (.lst ys)) { s with heap:=s.heap.update p f,toks:=t }:=by
 have e:(s.heap.update p f).get? p = some { cls:=.type "list",data:=.seq its'.toArray n' }:=by
  rw [Heap.get?_update_self f ho (by rw [hf] <;> rfl),hf]
 refine I.write (x:=p) (e:=p) (by rw [h]; trivial) (.inl rfl) (fun b u hb q => (Heap.get?_update_other _ _ (Ne.symm hb)).trans q) ⟨_,e⟩ ?_
 exact ⟨hz,its',n',r,e⟩
def TC:V→V→V→Hp→(Hp→Prop)→Prop:=fun o i v H Q => ∃ p xs k j,o = .ref p∧i = .int k∧H p = some (.lst xs)∧Og xs.length k = some j∧Q (upd H p (.lst (xs.set j v)))
theorem MV:Sg X TC:=by
 intro pins s σ H o i v ov iv u Q I ro ri rv h
 obtain ⟨p,xs,k,j,rfl,rfl,hp,hj,q⟩:=h
 cases ro
 obtain ⟨t,rfl⟩:=ri
 obtain ⟨its,n,r,ho,hz⟩:=I.lst hp
 obtain ⟨h1,h2,h3,h4⟩:=KK hj
 have hl:=r.length
 have hn:=Dp
 have I':Inv X pins σ (upd H p (.lst (xs.set j v))) { s with heap:=s.heap.update p (Obj.mapSeq (·.setIfInBounds j u)) } :=
  I.lstUpd hp ho (JJ its n j u) (r.set rv j) (by rw [List.length_set]; exact hz) s.toks
 by_cases h0:0≤k
 ·have hk:k.toNat = j:=by
   rw [seqIndex_of h0 h4] at h1
   exact Option.some.inj h1
  exact PySem.W.ki_setAt ho h0 (by omega) (by rw [List.size_toArray,← hl]; exact h4) (by rw [hk]; exact ⟨_,I',q⟩)
 ·have hk:(k + (its.toArray.size:Int)).toNat = j:=by
   rw [seqIndex_neg (by omega) h3] at h1
   rw [List.size_toArray,← hl]
   exact Option.some.inj h1
  exact PySem.W.ki_setBack ho (by omega) (by rw [List.size_toArray,← hl]; exact h3) (by omega) (by rw [hk]; exact ⟨_,I',q⟩)
theorem Gx (lo hi:Option Int) (n:Nat):(sliceBounds lo hi none n).1 = ((HT.Ew n 0 lo:Nat):Int)∧(sliceBounds lo hi none n).2.1 = ((HT.Ew n n hi:Nat):Int)∧(sliceBounds lo hi none n).2.2 = 1:=by
 refine ⟨?_,?_,rfl⟩
 ·cases lo with
  | none => simp [sliceBounds,HT.Ew]
  | some i =>
   simp only [sliceBounds,HT.Ew,Option.getD_none,show (1:Int) > 0 by decide,if_true]
   by_cases h:i < 0
   ·simp only [h,if_true] <;> omega
   ·simp only [h,if_false] <;> omega
 ·cases hi with
  | none => simp [sliceBounds,HT.Ew]
  | some i =>
   simp only [sliceBounds,HT.Ew,Option.getD_none,show (1:Int) > 0 by decide,if_true]
   by_cases h:i < 0
   ·simp only [h,if_true] <;> omega
   ·simp only [h,if_false] <;> omega
theorem Fq (its:List Value) (lo hi:Option Int):slicePick its.toArray lo hi none = ((its.drop (HT.Ew its.length 0 lo)).take (HT.Ew its.length its.length hi - HT.Ew its.length 0 lo)).toArray:=by
 obtain ⟨h1,h2,h3⟩:=Gx lo hi its.toArray.size
 unfold slicePick
 rw [h1,h2,h3]
 simp only [sliceRange_one,pick_run,List.size_toArray] <;> rfl
def Ur (K:PySem.W.Frag):V→Option Int→Option Int→Hp→VK→Prop:=fun x lo hi H Q => ∃ a xs,x = .ref a∧SqL K H a xs∧∀ p,H p = none→Q (.ref p) (upd H p (.lst (ID xs lo hi)))
theorem Gy:VR X (Ur X.K):=by
 intro pins s σ H x v vl vu lo hi sl Q I rx hs pl pu h
 obtain ⟨a,xs,rfl,hx,q⟩:=h
 cases rx
 obtain ⟨its,r,ht,hz⟩:=I.list hx
 have hlen:=r.length
 refine ⟨"list",_,slot_list_getitem.lookup,ht.isList.typeIs,?_⟩
 refine wpAny_getItem_list_slice ht.isList hs pl pu .none (by simp) ?_ (by rw [List.size_toArray] <;> omega)
 rw [Fq,← hlen]
 refine ⟨.ref s.heap.objs.size,_,I.laid (t':=s.toks) (o:=.lst (ID xs lo hi)) (fun b ob q => Heap.get?_push_of_some _ q) (Nat.le_refl _) ?_,rfl,q _ (I.hok.fresh (Nat.le_refl _))⟩
 exact ⟨Nat.le_trans (IE xs lo hi) hz,_,0,(r.drop (HT.Ew xs.length 0 lo)).take (HT.Ew xs.length xs.length hi - HT.Ew xs.length 0 lo),Heap.get?_push_size _ rfl⟩
def DA:V→Bool
 | .non => true
 | .bl _ => true
 | .int _ => true
 | .str _ => true
 | _ => false
def Iz:V→V→Bool
 | .non,.non => true
 | .bl a,.bl b => a == b
 | .bl a,.int b => (if a then 1 else 0) == b
 | .int a,.bl b => a == (if b then 1 else 0)
 | .int a,.int b => a == b
 | .str a,.str b => a == b
 | _,_ => false
theorem RC {A:Around} {s:Shared} {y x:V} {u v:Value} (ry:RelV y u) (rx:RelV x v) (fy:DA y = true) (fx:DA x = true):SeqAt.EqAt A s u v (Iz y x):=by
 cases y with
 | non =>
  cases ry
  cases x with
  | non => cases rx; exact SeqAt.EqAt.same _
  | bl b => cases rx; exact SeqAt.EqAt.none_bool b
  | int b => obtain ⟨t,rfl⟩:=rx; exact SeqAt.EqAt.none_int b t
  | str b => obtain ⟨t,rfl⟩:=rx; exact SeqAt.EqAt.none_str b t
  | _ => exact absurd (show false = true from fx) Bool.false_ne_true
 | bl a =>
  cases ry
  cases x with
  | non => cases rx; exact SeqAt.EqAt.bool_none a
  | bl b => cases rx; exact SeqAt.EqAt.bool_bool a b
  | int b => obtain ⟨t,rfl⟩:=rx; exact SeqAt.EqAt.bool_int a b t
  | str b => obtain ⟨t,rfl⟩:=rx; exact SeqAt.EqAt.bool_str a b t
  | _ => exact absurd (show false = true from fx) Bool.false_ne_true
 | int a =>
  obtain ⟨t',rfl⟩:=ry
  cases x with
  | non => cases rx; exact SeqAt.EqAt.int_none a t'
  | bl b => cases rx; exact SeqAt.EqAt.int_bool a t' b
  | int b => obtain ⟨t,rfl⟩:=rx; exact SeqAt.EqAt.int_int a t' b t
  | str b => obtain ⟨t,rfl⟩:=rx; exact SeqAt.EqAt.int_str a t' b t
  | _ => exact absurd (show false = true from fx) Bool.false_ne_true
 | str a =>
  obtain ⟨t',rfl⟩:=ry
  cases x with
  | non => cases rx; exact SeqAt.EqAt.str_none a t'
  | bl b => cases rx; exact SeqAt.EqAt.str_bool a t' b
  | int b => obtain ⟨t,rfl⟩:=rx; exact SeqAt.EqAt.str_int a t' b t
  | str b => obtain ⟨t,rfl⟩:=rx; exact SeqAt.EqAt.str_str a t' b t
  | _ => exact absurd (show false = true from fx) Bool.false_ne_true
 | _ => exact absurd (show false = true from fy) Bool.false_ne_true
def SX (x:V) (u:Value):Bool:=match u with
 | .none => Iz .non x
 | .bool b => Iz (.bl b) x
 | .int i _ => Iz (.int i) x
 | .str z _ => Iz (.str z) x
 | _ => false
theorem JK {x y:V} {u:Value} (r:RelV y u) (f:DA y = true):SX x u = Iz y x:=by
 cases y with
 | non => cases r; rfl
 | bl b => cases r; rfl
 | int i => obtain ⟨t,rfl⟩:=r; rfl
 | str z => obtain ⟨t,rfl⟩:=r; rfl
 | _ => exact absurd (show false = true from f) Bool.false_ne_true
theorem Ey {A:Around} {s:Shared} {x:V} {v:Value} (rx:RelV x v) (fx:DA x = true):∀ {xs:List V} {us:List Value},Vals xs us→xs.all DA = true→∀ u∈us,SeqAt.EqAt A s u v (SX x u)
 | _,_,.nil,_ => fun u hu => by cases hu
 | y :: xs,u :: us,.cons r t,f => fun u' hu => by
  rw [List.all_cons,Bool.and_eq_true] at f
  rcases List.mem_cons.mp hu with rfl | hu
  ·rw [JK r f.1]; exact RC r rx f.1 fx
  ·exact Ey rx fx t f.2 u' hu
theorem BU:Ay X (.builtin "len") (fun xs H Q => ∃ p ys,xs = [.ref p]∧(SqL X.K H p ys∨Hv X.K H p ys)∧Q (.int ys.length) H):=by
 intro pins s σ H xs us Q I r h
 obtain ⟨p,ys,rfl,hq,q⟩:=h
 obtain ⟨u,rfl,rx⟩:=Cd r
 cases rx
 have hn:=Dp
 rcases hq with hq | hq
 ·obtain ⟨its,r',pl,hz⟩:=I.list hq
  have hlen:=r'.length
  exact Calls.call_len_list pl.isList (by simp only [List.size_toArray] <;> omega) ⟨.int ys.length,H,I.tok _,⟨s.toks + 1,by rw [List.size_toArray,hlen]⟩,q⟩
 ·obtain ⟨its,r',pl,hz⟩:=I.tuple hq
  have hlen:=r'.length
  exact len_tuple pl (by simp only [List.size_toArray] <;> omega) ⟨.int ys.length,H,I.tok _,⟨s.toks + 1,by rw [List.size_toArray,hlen]⟩,q⟩
def Us (K:PySem.W.Frag) (T:String) (x:V) (H:Hp):Prop:=match x with
 | .str _ => T = "str"
 | .int _ => T = "int"
 | .ref p => (T = "list"∧∃ xs,SqL K H p xs)∨(T = "tuple"∧∃ o,K.lookup p = some o∧o.cls = .type "tuple"∧o.dict = none) ∨
   (T = "dict"∧((∃ kvs,H p = some (.dK kvs))∨∃ kvs,H p = some (.dT kvs)))∨(T = "set"∧∃ S n,H p = some (.set S n))
 | _ => False
theorem RD {pins:List (Addr × Obj)} {σ:St} {H:Hp} {s:Shared} {T:String} {x:V} {v:Value} (I:Inv X pins σ H s) (r:RelV x v) (ty:Us X.K T x H) :
  s.TypeIs v T∧∀ a,v = .ref a→∃ ob,s.heap.get? a = some ob∧ob.dict = none:=by
 cases x with
 | str z =>
  obtain ⟨t,rfl⟩:=r
  cases (show T = "str" from ty)
  exact ⟨typeIs_str s z t,fun _ e => nomatch e⟩
 | int i =>
  obtain ⟨t,rfl⟩:=r
  cases (show T = "int" from ty)
  exact ⟨typeIs_int s i t,fun _ e => nomatch e⟩
 | ref p =>
  cases r
  rcases ty with ⟨rfl,xs,hq⟩ | ⟨rfl,o,hk,hc,hd⟩ | ⟨rfl,hk⟩ | ⟨rfl,S,n,hk⟩
  ·obtain ⟨its,_,pl,_⟩:=I.list hq
   refine ⟨pl.isList.typeIs,fun a e => ?_⟩
   cases e
   obtain ⟨o,n,e,c,hd,_⟩:=pl
   exact ⟨o,e,hd⟩
  ·refine ⟨⟨o,I.kIn p o hk,hc⟩,fun a e => ?_⟩
   cases e
   exact ⟨o,I.kIn _ o hk,hd⟩
  ·have z:∃ o,s.heap.get? p = some o∧o.ExactDict:=by
    rcases hk with ⟨kvs,hk⟩ | ⟨kvs,hk⟩
    ·obtain ⟨_,_,_,_,o,_,_,e,ex,_⟩:=I.hok p _ hk
     exact ⟨o,e,ex⟩
    ·obtain ⟨_,_,_,_,o,_,_,e,ex,_⟩:=I.hok p _ hk
     exact ⟨o,e,ex⟩
   obtain ⟨o,e,ex⟩:=z
   refine ⟨⟨o,e,ex.1⟩,fun a e2 => ?_⟩
   cases e2
   exact ⟨o,e,ex.2.1⟩
  ·obtain ⟨o,_,_,_,e,ex,_⟩:=I.hok p _ hk
   refine ⟨⟨o,e,ex.1⟩,fun a e2 => ?_⟩
   cases e2
   exact ⟨o,e,ex.2.1⟩
 | _ => exact False.elim ty
def Vf (K:PySem.W.Frag) (T:String) (r:V→List V→Hp→VK→Prop) (to:TE) (t:TA):TE:=fun σ H Q => to σ H fun x H1 => Us K T x H1∧t σ H1 fun xs H2 => r x xs H2 Q
variable {o e:Expr} {es:List Expr} {to:TE} {t:TA} {name:Str} {apos cpos:Pos} {T id:String} {r:V→List V→Hp→VK→Prop}
theorem MW (pa:PlainAttrs T) (slot:Slot T name id) (hty:typeOf (.builtin id) = pure (.type "method_descriptor")) (hm:VS X id r) (ho:PE X o to) (ha:PA X (e :: es) t)
  (hbase:attributeBase o name X.env (eval o X.env) = eval o X.env:=by rfl)
  (hfew:((backTo cpos (starEach (e :: es) X.env)).all (fun x => !x.1) && (backToKw cpos (keywordEach [] X.env)).all (fun x => x.1.isSome)
   && decide ((e :: es).length + ([]:List Keyword).length + (if ([]:List Keyword).isEmpty then 0 else 1) < 30)) = true:=by rfl)
  (hline:(apos.endLine == cpos.line) = true:=by rfl) (hs:starEach (e :: es) X.env = (false,eval e X.env) :: starEach es X.env:=by rfl) (hplain:(backTo cpos (starEach es X.env)).any (·.1) = false:=by rfl) :
  PE X (.Call (.Attribute o name apos) (e :: es) [] cpos) (Vf X.K T r to t):=by
 intro pins s σ H Q I h
 refine wpAny_Call_method_late hbase hfew hline rfl (Ac (ho pins s σ H _ I h) fun v s1 ⟨x,H1,I1,r1,ty,q1⟩ => ?_)
 obtain ⟨h1,h2⟩:=RD I1 r1 ty
 refine ⟨T,id,pa,slot,hty,h1,h2,?_⟩
 have hA:=ha cpos pins s1 σ H1 _ I1 q1
 rw [hs] at hA ⊢
 refine Calls.callWith_builtin (by show (false || (backTo cpos (starEach es X.env)).any (·.1)) = false; rw [hplain] <;> rfl) (Calls.evalArgs_plain ?_)
 exact Ac hA fun us s2 ⟨vs,H2,I2,r2,q2⟩ => hm pins s2 σ H2 x vs v us Q I2 r1 r2 q2
end
def US (X:Cx) (id:String) (r:V→List V→Hp→VK→Prop):Prop :=
 ∀ (pins:List (Addr × Obj)) (s:Shared) (σ:St) (H:Hp) (x:V) (xs:List V) (v:Value) (us:List Value) (Q:VK),Inv X pins σ H s→RelV x v→Vals xs us→r x xs H Q →
  wpAny (model X.prog X.w) X.A (call (.builtin id) (v :: us)) (EP X pins σ Q) X.xe s
theorem Vals.one:∀ {x:V} {us:List Value},Vals [x] us→∃ u,us = [u]∧RelV x u
 | _,_,.cons r .nil => ⟨_,rfl,r⟩
theorem Vals.eraseIdx:∀ {xs:List V} {us:List Value} (i:Nat),Vals xs us→Vals (xs.eraseIdx i) (us.eraseIdx i)
 | _,_,_,.nil => .nil
 | _,_,0,.cons _ t => t
 | _,_,i + 1,.cons r t => .cons r (Vals.eraseIdx i t)
theorem GD {α:Type}:∀ (l:List α) (i:Nat),(l.eraseIdx i).length≤l.length
 | [],_ => Nat.le_refl _
 | _ :: _,0 => Nat.le_succ _
 | _ :: r,i + 1 => Nat.succ_le_succ (GD r i)
section
variable {X:Cx} {pins:List (Addr × Obj)} {σ:St} {H:Hp} {s:Shared} {l b:Addr} {xs ys zs:List V}
theorem Inv.lset {its its':List Value} {n:Nat} {f:Array Value→Array Value} {t':Nat} (I:Inv X pins σ H s) (hH:H l = some (.lst xs))
  (e:s.heap.get? l = some { cls:=.type "list",data:=.seq its.toArray n }) (hf:f its.toArray = its'.toArray) (hv:Vals ys its') (hz:ys.length≤sizeLine) :
  Inv X pins σ (upd H l (.lst ys)) { s with heap:=s.heap.update l (Obj.mapSeq f),toks:=t' }:=by
 have q:=PySem.IsL.update e f
 rw [hf] at q
 refine I.write (x:=l) (e:=l) (by rw [hH]; exact trivial) (.inl rfl) (fun b' u hb hu => (Heap.get?_update_other s.heap (Obj.mapSeq f) (Ne.symm hb)).trans hu) ⟨_,q⟩ ?_
 exact ⟨hz,its',_,hv,q⟩
theorem Inv.lnew {its:List Value} {t':Nat} (I:Inv X pins σ H s) (hv:Vals ys its) (hz:ys.length≤sizeLine) :
  Inv X pins σ (upd H s.heap.objs.size (.lst ys)) { s with heap:=s.heap.push { cls:=.type "list",data:=.seq its.toArray },toks:=t' } :=
 I.laid (fun _ _ q => Heap.get?_push_of_some _ q) (Nat.le_refl _) ⟨hz,its,0,hv,Heap.get?_push_size _ rfl⟩
theorem Inv.fresh (I:Inv X pins σ H s):H s.heap.objs.size = none:=I.hok.fresh (Nat.le_refl _)
theorem Inv.lstM (I:Inv X pins σ H s) (hH:H l = some (.lst xs)):xs.length≤sizeLine∧∃ (its:List Value) (n:Nat),Vals xs its∧xs.length = its.length∧s.heap.get? l = some { cls:=.type "list",data:=.seq its.toArray n }:=by
 obtain ⟨z,its,n,r,e⟩:=I.hok l _ hH
 exact ⟨z,its,n,r,r.length,e⟩
end
section
variable {X:Cx}
def KL:V→List V→Hp→VK→Prop:=fun x vs H Q => ∃ l xs y,x = .ref l∧vs = [y]∧H l = some (.lst xs)∧xs.length < sizeLine∧Q .non (upd H l (.lst (xs ++ [y])))
theorem GE:US X "list.append" KL:=by
 intro pins s σ H x vs v us Q I rx rv h
 obtain ⟨l,xs,y,rfl,rfl,hH,hz,q⟩:=h
 cases rx
 obtain ⟨u,rfl,ru⟩:=rv.one
 obtain ⟨z,its,n,r,hl,e⟩:=I.lstM hH
 refine call_meets F.slot_list_append ⟨_,e,rfl⟩ F.entry_list_append (F.args_list_append_2 _ _) (PySem.list_append l its.toArray n u (by rw [List.size_toArray]; omega)) ⟨e,?_⟩
 refine ⟨.non,_,I.lset (its':=its ++ [u]) hH e (by simp) (r.append (.cons ru .nil)) ?_,rfl,q⟩
 rw [List.length_append,List.length_singleton]
 omega
def RE:V→List V→Hp→VK→Prop:=fun x vs H Q => ∃ l xs i k y,x = .ref l∧vs = [.int i]∧H l = some (.lst xs)∧-(2 ^ 63)≤i∧i < 2 ^ 63∧seqIndex? i xs.length = some k∧xs[k]? = some y∧Q y (upd H l (.lst (xs.eraseIdx k)))
theorem MX:US X "list.pop" RE:=by
 intro pins s σ H x vs v us Q I rx rv h
 obtain ⟨l,xs,i,k,y,rfl,rfl,hH,h1,h2,hk,hy,q⟩:=h
 cases rx
 obtain ⟨u,rfl,ru⟩:=rv.one
 obtain ⟨t,rfl⟩:=ru
 obtain ⟨z,its,n,r,hl,e⟩:=I.lstM hH
 obtain ⟨w,hw,rw'⟩:=r.get hy
 refine call_meets F.slot_list_pop ⟨_,e,rfl⟩ F.entry_list_pop (F.args_list_pop_2 _ _)
  (MeetsSeq.list_pop_at l its.toArray n i t k w (fitsIndex_both h1 h2) (by rw [List.size_toArray,← hl]; exact hk) (by rw [← Array.getElem?_toList]; exact hw) (by rw [List.size_toArray]; omega)) ⟨e,?_⟩
 refine ⟨y,_,I.lset (its':=its.eraseIdx k) hH e ?_ (r.eraseIdx k) ?_,rw',q⟩
 ·show its.toArray.eraseIdxIfInBounds k = (its.eraseIdx k).toArray
  rw [List.eraseIdxIfInBounds_toArray]
 ·have:=GD xs k
  omega
def TD:R2:=fun x y H Q => ∃ l b xs zs,x = .ref l∧y = .ref b∧H l = some (.lst xs)∧H b = some (.lst zs)∧xs.length + zs.length≤sizeLine∧∀ p,H p = none→Q (.ref p) (upd H p (.lst (xs ++ zs)))
theorem Ez:Cb X (binaryOp .Add) TD:=by
 intro pins s σ H x y v u Q I rx ry h
 obtain ⟨l,b,xs,zs,rfl,rfl,hH,hB,hz,q⟩:=h
 cases rx
 cases ry
 obtain ⟨z,its,n,r,hl,e⟩:=I.lstM hH
 obtain ⟨z2,its2,n2,r2,hl2,e2⟩:=I.lstM hB
 refine PySem.P.add_list e e2 ?_ (by rw [List.size_toArray,List.size_toArray]; omega)
 have ea:its.toArray ++ its2.toArray = (its ++ its2).toArray:=by simp
 rw [ea]
 exact ⟨.ref _,_,I.lnew (t':=s.toks) (r.append r2) (by rw [List.length_append]; omega),rfl,q _ I.fresh⟩
end
section
variable {prog:Program} {w:World} {A:Around} {E:Value→Shared→Prop} {s:Shared}
end
section
variable {X:Cx}
end
end L2
namespace Att
open PySem PySem.W PySem.Calls PyProof.Rows
theorem ES {P:Params} {h:Heap}:∀ (ns:List Int) (vs:List Value),WellAll P h vs (ns.map WData.int)→IntsAre vs ns:=by
 intro ns
 induction ns with
 | nil =>
  intro vs w
  rw [List.map_nil] at w
  cases w
  exact .nil
 | cons n ns ih =>
  intro vs w
  rw [List.map_cons] at w
  cases w with
  | cons a b =>
   cases a
   exact .cons _ _ (ih _ b)
theorem LO {l:OpenLaw} {n:Nat} (hn:l.most = some n) {P:Params} {h:Heap} {args:List WData} {vals:List Value}
  (hpre:l.row.toRowW.claim.pre args = true) (hwl:WellAll P h vals args) :
  ∃ a vs ns,vals = [Value.ref a]∧args = [WData.list (ns.map WData.int)]∧h.get? a = some { cls:=.type "list",data:=.seq vs.toArray }∧IntsAre vs ns∧ns.length≤n:=by
 have hsh:WShape.hasAll [] args [.list .int] = true:=(pre_splitW hpre).1
 have hc:l.pre.holds [] { args:=args } = true:=(pre_splitW hpre).2
 obtain ⟨d,r,rfl,h1,h2⟩:=hasAllW_cons hsh
 obtain rfl:=hasAllW_nil h2
 obtain ⟨xs,rfl,h3⟩:=hasW_list h1
 obtain ⟨ns,rfl⟩:=items_int h3
 have hlen:ns.length≤n:=by
  unfold OpenLaw.pre at hc
  have h4:(WTm.not (.lt (.lit (.int (n:Int))) (.len (.arg 0)))).holds [] { args:=[.list (ns.map .int)] } = true:=by
   have h4:=(holds_andW hc).1
   rw [hn] at h4
   exact h4
  have h5:=condW_of h4 (w_not (w_lt w_lit (w_len_list (w_arg rfl))))
  rw [List.length_map] at h5
  refine Nat.le_of_not_lt fun q => ?_
  have q':(n:Int) < ((ns.length:Nat):Int):=by omega
  first
   | (rw [decide_eq_true q'] at h5; exact absurd h5 (by decide))
   | (simp at h5; omega)
 cases hwl with
 | cons w1 w2 =>
  cases w2
  cases w1 with
  | list ho hall => exact ⟨_,_,ns,rfl,rfl,ho,ES ns _ hall,hlen⟩
theorem LP (l:OpenLaw) (args:List WData):l.row.toRowW.claim.post args (.bool true) args = true :=
 postW_of (r:=l.row.toRowW) (X:=(true == true))
  (show WShape.has [] (.bool true) .bool = true by first | rfl | decide | simp [WShape.has,WShape.arms,WShape.armsAll])
  (show (WTm.eq .res (.lit (.bool true))).value [] { args:=args,res:=some (.bool true),after:=args } = some (.bool (true == true)) from w_eq_bool (w_res rfl) w_lit) rfl
theorem IF {l:OpenLaw} {n:Nat} {q:Program} {loose:List Str} {XP:(Str→Option Value)→Heap→Prop} {YP:World→Heap→Prop} {d:DefRec}
  (hn:l.most = some n) (hdf:d.params.defaults = [])
  (call:∀ (w:World) (s₀ s₁:Shared) (mg mb:Str→Option Value) (fa:Addr) (o:Obj) (pm cd doc:Value) (a:Addr) (vs:List Value) (ns:List Int),
   Ground q loose [] XP w s₀ mg mb s₁.heap→YP w s₁.heap →
   s₁.heap.get? fa = some o→o.data = .func (docDef d.name d.params d.body d.scope pm cd doc)→s₁.heap.CodeRec cd d.name→mg d.name = some (.ref fa) →
   s₁.heap.get? a = some { cls:=.type "list",data:=.seq vs.toArray }→IntsAre vs ns→ns.length≤n→s₁.gens = #[] →
   codeAny (model l.prog w) callerA (.call (.ref fa) ⟨[.ref a],[]⟩) (fun r s' => r = .ok (.ret (.bool true))∧OldK s₁.heap s'.heap∧s'.os = s₁.os∧AllBare s'.gens) s₁) :
  WalkO q loose XP YP l.row.toRowW d [] (fun f vs => PySem.call f vs):=by
 intro w s₀ s₁ mg mb G Y fa o pm cd doc dV kV ho hd hcd hD hmg hg args vals as hpre hlay hrd hwl hlo
 obtain rfl:dV = .none:=Dflts.none hD hdf
 obtain rfl:kV = .none:=Dflts.noKw hD
 obtain ⟨a,vs,ns,rfl,rfl,hobj,hints,hlen⟩:=LO hn hpre hwl
 refine enter_call (codeAny_mono (call w s₀ s₁ mg mb fa o pm cd doc a vs ns G Y ho (fd_plain hd) hcd hmg hobj hints hlen hg) fun r s' hq => ?_)
 obtain ⟨rfl,h2,h3,h4⟩:=hq
 exact ⟨.inl ⟨.bool true,.bool true,[],rfl,fun _ => rfl,.bool true,LP l _,fun _ => ⟨List.Pairwise.nil,fun _ hm => (nomatch hm)⟩⟩,h2,h3,h4⟩
section
variable {prog:Program} {w:World} {A:Around} {E:Value→Shared→Prop} {s:Shared} {K:Frag}
end
end Att
namespace L2
open PySem PySem.Spec PyProof.Rows
theorem GF:∀ {vs:List Value} {ns:List Int},IntsAre vs ns→Vals (ns.map V.int) vs
 | _,_,.nil => .nil
 | _,_,.cons n t h => .cons ⟨t,rfl⟩ (GF h)
def RF (H:Hp):Prop:=∀ b,H b = none∨∃ o xs,H b = some (.frz o (.lst xs))
theorem MY {P:Program} {w:World} {K:PySem.W.Frag} {mg mb:Str→Option Value} {CX:MB} {k:Nat} {fa a:Addr} {fd:FuncData} {x:Str} {sp:Sp} {s₁:Shared} {vs:List Value} {ns:List Int}
  (KX:K.In s₁.heap) (hns:s₁.heap.Ns mainGlobals mg) (hb:s₁.heap.Ns builtinsNs mb) (hbb:∀ x:Str,x≠"__name__"→mb x = bootBuiltins x) (hlim:s₁.heap.NoLimit) (hg:s₁.gens = #[])
  (ha:s₁.heap.get? a = some { cls:=.type "list",data:=.seq vs.toArray }) (hi:IntsAre vs ns) (hl:ns.length≤sizeLine) (hr:Room k callerA)
  (F:∀ base:Heap,K.In base→base.Ns mainGlobals mg→FnOk P w K mg base CX k fa fd [x] sp) (hbind:∀ (s:Shared) (u:Value),BindsTo s fd ⟨[u],[]⟩ [(x,u)])
  (hsp:∀ H:Hp,RF H→SqL K H a (ns.map V.int)→sp [.ref a] H (fun v _ => v = .bl true) fun _ _ _ => False)
  (hCX:∀ H e s',CX [] H s₁ (fun _ _ _ => False) e s'→False) :
  codeAny (model P w) callerA (.call (.ref fa) ⟨[.ref a],[]⟩) (fun r s' => r = .ok (.ret (.bool true))∧OldK s₁.heap s'.heap∧s'.os = s₁.os∧AllBare s'.gens) s₁:=by
 have rv:=GF hi
 have lenV:=hi.length
 have core:∀ H:Hp,RF H→SqL K H a (ns.map V.int)→HOk P w H s₁.heap→(∀ b,H b≠none→b = a)→(H a≠none→K.lookup a = none) →
   codeAny (model P w) callerA (.call (.ref fa) ⟨[.ref a],[]⟩) (fun r s' => r = .ok (.ret (.bool true))∧OldK s₁.heap s'.heap∧s'.os = s₁.os∧AllBare s'.gens) s₁:=by
  intro H hO hS hok hA hK
  have base_of:∀ {b:Addr} {o:Obj},s₁.heap.get? b = some o→H b = none→(Gp s₁.heap H).get? b = some o:=fun e n => MD e n
  have noA:∀ {b:Addr} {o:Obj} {es:Array DictEntry} {ep:Nat},s₁.heap.get? b = some o→o.data = .dict es ep→H b = none:=fun {b o es ep} e d => by
   cases q:H b with
   | none => rfl
   | some u =>
    have e':b = a:=hA b (by rw [q]; simp)
    subst e'
    rw [ha] at e; cases e
    have d':Data.seq vs.toArray _ = Data.dict es ep:=d
    cases d'
  have nsK:∀ {b:Addr} {m:Str→Option Value},s₁.heap.Ns b m→(Gp s₁.heap H).Ns b m:=fun {b m} ⟨o,es,ep,e,d,r⟩ => ⟨o,es,ep,base_of e (noA e d),d,r⟩
  have hKb:K.In (Gp s₁.heap H):=fun b o e => base_of (KX b o e) (by
   cases q:H b with
   | none => rfl
   | some u =>
    have e':b = a:=hA b (by rw [q]; simp)
    subst e'
    rw [hK (by rw [q]; simp)] at e; cases e)
  have hM:Mod K mg (Gp s₁.heap H):=⟨hKb,nsK hns,⟨mb,nsK hb,hbb⟩,let ⟨mc,h1,h2⟩:=hlim; ⟨mc,nsK h1,h2⟩⟩
  have e0:Env0 P w K mg (Gp s₁.heap H) callerA [] s₁ H:=⟨rfl,hM,fun b o e => OT e,Nat.le_of_eq (LF _ _),trivial,fun b hb => absurd (show b∈([]:List Addr) from hb) (by simp),hok,.of_eq hg⟩
  refine codeAny_mono ((F _ hKb (nsK hns)).run callerA [] s₁ H ⟨[.ref a],[]⟩ [.ref a] [.ref a] _ _ hr e0 (hbind s₁ (.ref a)) (.cons rfl .nil) (hsp H hO hS)) fun r s' h => ?_
  cases r with
  | error e => exact (hCX H e s' h).elim
  | ok fl =>
   cases fl with
   | next => exact False.elim h
   | brk => exact False.elim h
   | cont => exact False.elim h
   | ret u =>
    obtain ⟨v,H',os,bare,un,hok',r',q⟩:=h
    have q':v = .bl true:=q
    subst q'
    obtain rfl:u = Value.bool true:=r'
    refine ⟨rfl,OldK.of_keep fun b o e => ?_,os,bare⟩
    cases q:H b with
    | none => exact un.keep b o e q (by intro z; exact absurd (show b∈([]:List Addr) from z) (by simp)) (by simp)
    | some u =>
     rcases hO b with z | ⟨ob,xs,z⟩
     ·rw [q] at z; cases z
     ·have z2:=un.frzs b ob _ z
      obtain ⟨e1,_⟩:=hok b _ z
      obtain ⟨e2,_⟩:=hok' b _ z2
      rw [e] at e1; cases e1
      exact e2
 cases hk:K.lookup a with
 | some o =>
  have e:=KX a o hk
  rw [ha] at e
  cases e
  refine core (fun _ => none) (fun _ => .inl rfl) (.inr ⟨_,vs.toArray,_,hk,rfl,rfl,rfl,by rw [List.size_toArray,lenV]; exact hl,by simpa using rv⟩) (fun b u z => by have z':(none:Option HO) = some u:=z; cases z') (fun b z => absurd rfl z) fun z => absurd rfl z
 | none =>
  refine core (fun b => if b = a then some (.frz { cls:=.type "list",data:=.seq vs.toArray } (.lst (ns.map V.int))) else none) (fun b => ?_) (.inl (.inr ⟨{ cls:=.type "list",data:=.seq vs.toArray },if_pos rfl⟩)) (fun b u z => ?_) (fun b z => ?_) fun _ => hk
  ·by_cases hb:b = a
   ·exact .inr ⟨_,_,if_pos hb⟩
   ·exact .inl (if_neg hb)
  ·by_cases hb:b = a
   ·have z':=(if_pos hb).symm.trans z
    cases z'
    subst hb
    exact ⟨ha,by rw [List.length_map]; exact hl,vs,_,rv,ha⟩
   ·have z':=(if_neg hb).symm.trans z
    cases z'
  ·by_cases hb:b = a
   ·exact hb
   ·exact absurd (if_neg hb) z
theorem Oh {l:PySem.W.OpenLaw} {n k:Nat} {q:Program} {loose:List Str} {XP:(Str→Option Value)→Heap→Prop} {YP:World→Heap→Prop} {d:DefRec} {K:Params→PySem.W.Frag} {CX:World→MB} {sp:World→Sp} {x:Str}
  (hn:l.most = some n) (hn2:n≤sizeLine) (hdf:d.params.defaults = []) (hr:Room k callerA)
  (hY:∀ (w:World) (h:Heap),YP w h→(K w.params).In h)
  (F:∀ (w:World) (mg:Str→Option Value) (fa:Addr) (h:Heap),(K w.params).In h→h.Ns mainGlobals mg→mg d.name = some (.ref fa) →
   ∃ fd:FuncData,(∀ (s:Shared) (u:Value),BindsTo s fd ⟨[u],[]⟩ [(x,u)]) ∧
    ∀ base:Heap,(K w.params).In base→base.Ns mainGlobals mg→FnOk l.prog w (K w.params) mg base (CX w) k fa fd [x] (sp w))
  (hsp:∀ (w:World) (H:Hp) (a:Addr) (ns:List Int),ns.length≤n→RF H→SqL (K w.params) H a (ns.map V.int)→sp w [.ref a] H (fun v _ => v = .bl true) fun _ _ _ => False)
  (hCX:∀ (w:World) (H:Hp) (s:Shared) (e:Value) (s':Shared),CX w [] H s (fun _ _ _ => False) e s'→False) :
  PySem.W.WalkO q loose XP YP l.row.toRowW d [] (fun f vs => PySem.call f vs):=by
 refine Att.IF hn hdf fun w s₀ s₁ mg mb fa o pm cd doc a vs ns G Y ho hd hcd hmg hobj hints hlen hg => ?_
 have KX:=hY w _ Y
 obtain ⟨fd,hb,hF⟩:=F w mg fa _ KX G.T.g hmg
 exact MY KX G.T.g G.T.b G.T.builtins G.T.nolimit hg hobj hints (Nat.le_trans hlen hn2) hr hF hb (fun H hO hS => hsp w H a ns hlen hO hS) fun H e s' => hCX w H s₁ e s'
def Bl (s:Stmt):Arguments:=match s with
 | .FunctionDef _ a _ _ _ _ _ _ _ _ => a
 | _ => { posonlyargs:=[],args:=[],vararg:=none,kwonlyargs:=[],kw_defaults:=[],kwarg:=none,defaults:=[] }
def AT (s:Stmt):List Stmt:=match s with
 | .FunctionDef _ _ b _ _ _ _ _ _ _ => b
 | _ => []
def AA (s:Stmt):Scope:=match s with
 | .FunctionDef _ _ _ _ _ _ sc _ _ _ => sc
 | _ => { kind:=.function,names:=[],isGenerator:=false,isCoroutine:=false }
abbrev Ut:MB:=fun _ _ _ _ _ _ => False
abbrev E0:XK:=fun _ _ _ => False
structure Fun (K:PySem.W.Frag) (x qual:Str) (st:Stmt) (f:Addr) (fd:FuncData):Prop where
 ex:∃ (oc:Value) (od:Option Addr) (kV doc pm:Value) (an:Option Addr) (cdv ct:Value) (osl:Array (Option Value)),
  fd = PySem.W.fnOf x qual (Bl st) (AT st) (AA st) .none kV doc pm an cdv ct∧K.lookup f = some ⟨oc,od,.func fd,osl⟩∧PySem.W.codeIn K cdv qual = true
 kp:PySem.W.keepIn K (.ref f) = true
section
variable {P:Program} {w:World} {K:PySem.W.Frag} {mg:Str→Option Value} {base:Heap}
theorem Fun.binds {x qual:Str} {st:Stmt} {f:Addr} {fd:FuncData} {ps:List Str} (F:Fun K x qual st f fd)
  (h:∀ (kV doc pm:Value) (an:Option Addr) (cdv ct:Value) (us:List Value),us.length = ps.length→bindArgs (PySem.W.fnOf x qual (Bl st) (AT st) (AA st) .none kV doc pm an cdv ct) ⟨us,[]⟩ = pure (ps.zip us)):Binds K fd ps []:=by
 obtain ⟨oc,od,kV,doc,pm,an,cdv,ct,osl,rfl,lk,hcd⟩:=F.ex
 exact .all (h kV doc pm an cdv ct)
end
section
variable {X:Cx}
theorem pv (i:Nat) {x:Str} {pos:Pos} (hN:X.N[i]? = some x:=by rfl) (hv:SW X.env.scope x:=by first | exact Or.inl rfl | exact Or.inr (Or.inl rfl) | exact Or.inr (Or.inr rfl)) (hd:(x == ("__debug__" : Str)) = false:=by decide)
  (hcd:(x == ("__classdict__" : Str)) = false:=by decide):PE X (.Name x pos) (Sa i):=ME hN hv hd hcd
end
theorem JL {A B:Prop} (h:B):if false = true then A else B:=by
 rw [if_neg Bool.false_ne_true]
 exact h
theorem IG {A B:Prop} (h:A):if true = true then A else B:=by
 rw [if_pos rfl]
 exact h
theorem RG {c A B:Prop} [Decidable c] (h1:c→A) (h2:¬ c→B):if c then A else B:=by
 by_cases h:c
 ·rw [if_pos h]
  exact h1 h
 ·rw [if_neg h]
  exact h2 h
def Same (H H':Hp):Prop:=∀ b o,H b = some o→H' b = some o
theorem Same.refl (H:Hp):Same H H:=fun _ _ h => h
end L2
set_option maxHeartbeats 4000000
namespace L2
open PySem PySem.Spec PyProof.Rows
theorem Gz {env:Env}:∀ (l:List (Str × NameKind)) (acc:List (Str × Addr)),(∀ y∈l,y.2 = .free→∃ c,env.cells.lookup y.1 = some c) →
  (∀ x c,acc.lookup x = some c→env.cells.lookup x = some c) →
  ∃ cl,(forIn l acc (fun (x:Str × NameKind) (r:List (Str × Addr)) => (match x with
   | (name,kind) => if (kind == NameKind.free) = true then (do let a ← cellOf env name; pure (ForInStep.yield ((name,a) :: r))) else pure (ForInStep.yield r):Sem (ForInStep (List (Str × Addr)))))) = (pure cl:Sem _) ∧
   (∀ x c,cl.lookup x = some c→env.cells.lookup x = some c)∧(∀ x,(acc.lookup x).isSome = true→(cl.lookup x).isSome = true)∧∀ y∈l,y.2 = .free→(cl.lookup y.1).isSome = true
 | [],acc,_,ha => ⟨acc,rfl,ha,fun _ h => h,fun _ h => nomatch h⟩
 | (n,k) :: r,acc,h,ha => by
  have hr:∀ y∈r,y.2 = .free→∃ c,env.cells.lookup y.1 = some c:=fun y hy => h y (List.mem_cons_of_mem _ hy)
  by_cases hk:k = .free
  ·subst hk
   obtain ⟨c,hc⟩:=h (n,.free) List.mem_cons_self rfl
   have hc:env.cells.lookup n = some c:=hc
   have ha':∀ x c',((n,c) :: acc).lookup x = some c'→env.cells.lookup x = some c':=fun x c' e => by
    rw [List.lookup_cons] at e
    cases hx:x == n with
    | true => rw [hx] at e; cases e; rw [beq_iff_eq.mp hx]; exact hc
    | false => rw [hx] at e; exact ha x c' e
   obtain ⟨cl,e,h1,h2,h3⟩:=Gz r ((n,c) :: acc) hr ha'
   refine ⟨cl,?_,h1,fun x hx => h2 x ?_,fun y hy hf => ?_⟩
   ·rw [List.forIn_cons]
    simp only [cellOf,hc,beq_self_eq_true,if_true]
    exact e
   ·rw [List.lookup_cons]
    cases x == n with
    | true => rfl
    | false => exact hx
   ·rcases List.mem_cons.mp hy with rfl | hy
    ·exact h2 n (by rw [List.lookup_cons,beq_self_eq_true]; rfl)
    ·exact h3 y hy hf
  ·have hb:(k == NameKind.free) = false:=by simpa using hk
   obtain ⟨cl,e,h1,h2,h3⟩:=Gz r acc hr ha
   refine ⟨cl,?_,h1,h2,fun y hy hf => ?_⟩
   ·rw [List.forIn_cons]
    simp only [hb,Bool.false_eq_true,if_false]
    exact e
   ·rcases List.mem_cons.mp hy with rfl | hy
    ·exact absurd hf hk
    ·exact h3 y hy hf
theorem Oi {env:Env} {csc:Scope} (h:∀ y∈csc.names,y.2 = .free→∃ c,env.cells.lookup y.1 = some c) :
  ∃ cl,closureFor csc env = pure cl∧(∀ x c,cl.lookup x = some c→env.cells.lookup x = some c)∧∀ y∈csc.names,y.2 = .free→(cl.lookup y.1).isSome = true:=by
 obtain ⟨cl,e,h1,_,h3⟩:=Gz csc.names [] h (fun x c e => by cases e)
 refine ⟨cl,?_,h1,h3⟩
 unfold closureFor
 have e':=congrArg (fun m:Sem (List (Str × Addr)) => m >>= fun r => pure r) e
 exact e'
theorem DP {env:Env}:∀ {names:List (Str × NameKind)} {x:Str},names.lookup x = some .free →
  (names.map fun (n,k) => if (k == NameKind.free && env.scope.kind == .function && env.kindOf n == some .cell) then (n,NameKind.cell) else (n,k)).lookup x = some .cell ∨
  (names.map fun (n,k) => if (k == NameKind.free && env.scope.kind == .function && env.kindOf n == some .cell) then (n,NameKind.cell) else (n,k)).lookup x = some .free
 | [],_,h => by simp at h
 | (n,k) :: r,x,h => by
  have ih:=@DP env r x
  rw [List.map_cons]
  show List.lookup x ((if (k == NameKind.free && env.scope.kind == .function && env.kindOf n == some .cell) = true then (n,NameKind.cell) else (n,k)) :: _) = _∨List.lookup x ((if (k == NameKind.free && env.scope.kind == .function && env.kindOf n == some .cell) = true then (n,NameKind.cell) else (n,k)) :: _) = _
  cases hx:x == n with
  | true =>
   simp only [List.lookup_cons,hx] at h
   cases h
   split
   ·exact .inl (by rw [List.lookup_cons,hx])
   ·exact .inr (by rw [List.lookup_cons,hx])
  | false =>
   simp only [List.lookup_cons,hx] at h
   split
   ·simp only [List.lookup_cons,hx]; exact ih h
   ·simp only [List.lookup_cons,hx]; exact ih h
def KM:Option NameKind→Bool
 | some .cell => true
 | _ => false
theorem IH {k:Option NameKind} (h:KM k = true):k = some .cell:=by
 cases k with
 | none => cases h
 | some k => cases k <;> first | rfl | cases h
def Oj (X:Cx) (csc:Scope) (cl:List (Str × Addr)) (N':List Str) (s:Shared) (H:Hp) (fp:List Addr):Cx :=
 { X with N:=N',s₀:=s,H₀:=H,env:=compEnvC csc cl s.heap.objs.size X.env,outer:=X.stack,ex:=fp,fn:=fun x => KM (csc.names.lookup x),pn:=[],xe:=fun _ _ => False }
structure LcCx (X:Cx) (csc:Scope) (N':List Str) (X':Cx):Prop where
 is:∃ cl s H fp,X' = Oj X csc cl N' s H fp
def Bm (σ:St) (cap:List (Str × Nat)):St:=cap.map fun p => (σ[p.2]?).join
structure LcOk (X:Cx) (csc:Scope) (nc:List Str) (cap:List (Str × Nat)):Prop where
 kind:csc.kind = .function
 cells:∀ y∈csc.names,y.2 = .cell→csc.names.lookup y.1 = some .cell
 locals:∀ y∈csc.names,y.2 = .local→csc.names.lookup y.1 = some .local
 free:∀ y∈csc.names,y.2 = .free→X.env.scope.names.lookup y.1 = some .cell∨X.env.scope.names.lookup y.1 = some .free
 caps:∀ p∈cap,X.N[p.2]? = some p.1∧csc.names.lookup p.1 = some .free
abbrev As (nc:List Str) (cap:List (Str × Nat)):List Str:=nc ++ cap.map (·.1)
abbrev Fr (nc:List Str) (σ:St) (cap:List (Str × Nat)):St:=List.replicate nc.length none ++ Bm σ cap
theorem Ag {α:Type}:∀ {l:List (Str × α)} {x:Str} {v:α},l.lookup x = some v→(x,v)∈l
 | [],_,_,h => by simp at h
 | (n,k) :: r,x,v,h => by
  rw [List.lookup_cons] at h
  cases hx:x == n with
  | true => rw [hx] at h; cases h; rw [beq_iff_eq.mp hx]; exact List.mem_cons_self
  | false => rw [hx] at h; exact List.mem_cons_of_mem _ (Ag h)
theorem JM:∀ (names:List (Str × NameKind)) (L:Nat) (a acc:List (Str × Addr)),cellsFrom L names (a ++ acc) = cellsFrom L names a ++ acc
 | [],_,_,_ => rfl
 | (n,k) :: r,L,a,acc => by
  unfold cellsFrom
  split
  ·exact JM r (L + 1) ((n,L) :: a) acc
  ·exact JM r L a acc
theorem RH (names:List (Str × NameKind)) (L:Nat) (acc:List (Str × Addr)):cellsFrom L names acc = cellsFrom L names [] ++ acc:=JM names L [] acc
theorem JN:∀ (names:List (Str × NameKind)) (L:Nat) (acc:List (Str × Addr)) (x:Str) (c:Addr),(x,c)∈cellsFrom L names acc→(x,.cell)∈names∨(x,c)∈acc
 | [],_,_,_,_,h => .inr h
 | (n,k) :: r,L,acc,x,c,h => by
  unfold cellsFrom at h
  split at h
  ·rename_i hk
   rcases JN r (L + 1) _ x c h with h | h
   ·exact .inl (List.mem_cons_of_mem _ h)
   ·rcases List.mem_cons.mp h with h | h
    ·cases h
     rw [eq_of_beq hk]
     exact .inl List.mem_cons_self
    ·exact .inr h
  ·rcases JN r L _ x c h with h | h
   ·exact .inl (List.mem_cons_of_mem _ h)
   ·exact .inr h
theorem HA:∀ (names:List (Str × NameKind)) (L:Nat) (acc:List (Str × Addr)) (x:Str),((x,.cell)∈names∨(acc.lookup x).isSome = true)→((cellsFrom L names acc).lookup x).isSome = true
 | [],_,_,_,h => h.elim (fun z => by cases z) id
 | (n,k) :: r,L,acc,x,h => by
  unfold cellsFrom
  split
  ·refine HA r (L + 1) _ x ?_
   rcases h with h | h
   ·rcases List.mem_cons.mp h with h | h
    ·cases h
     exact .inr (by rw [List.lookup_cons,beq_self_eq_true]; rfl)
    ·exact .inl h
   ·refine .inr ?_
    rw [List.lookup_cons]
    cases x == n with
    | true => rfl
    | false => exact h
  ·rename_i hk
   refine HA r L acc x ?_
   rcases h with h | h
   ·rcases List.mem_cons.mp h with h | h
    ·cases h; exact absurd rfl hk
    ·exact .inl h
   ·exact .inr h
theorem DD {α:Type}:∀ {l m:List (Str × α)} {x:Str},(l ++ m).lookup x = match l.lookup x with | some v => some v | none => m.lookup x
 | [],_,_ => rfl
 | (n,k) :: r,m,x => by
  rw [List.cons_append,List.lookup_cons,List.lookup_cons]
  cases x == n with
  | true => rfl
  | false => exact DD
structure LcCells (X:Cx) (csc:Scope) (cs:List (Str × Addr)) (s:Shared) (h1:Heap):Prop where
 at_:∀ x c,cs.lookup x = some c→(csc.names.lookup x = some .cell∧s.heap.objs.size≤c∧h1.IsCell c none)∨(csc.names.lookup x≠some .cell∧X.env.cells.lookup x = some c)
 has:∀ x,csc.names.lookup x = some .free∨csc.names.lookup x = some .cell→∃ c,cs.lookup x = some c
 inj:∀ x y c,cs.lookup x = some c→cs.lookup y = some c→x = y
theorem Ol {X:Cx} {csc:Scope} {cl:List (Str × Addr)} {nc:List Str} {cap:List (Str × Nat)} {pins:List (Addr × Obj)} {σ:St} {H:Hp} {s:Shared} {o:Obj}
  (ok:LcOk X csc nc cap) (I:Inv X pins σ H s) (hc1:∀ x c,cl.lookup x = some c→X.env.cells.lookup x = some c) (hc2:∀ y∈csc.names,y.2 = .free→(cl.lookup y.1).isSome = true) :
  LcCells X csc (cellsFrom (s.heap.objs.size + 1) csc.names cl) s (pushCells (s.heap.push o) csc.names):=by
 have nk:=cellsFrom_ok csc.names (s.heap.push o) (s.heap.objs.size + 1) [] ⟨fun _ _ hm => (nomatch hm),List.Pairwise.nil⟩ (by rw [Heap.size_push]; exact Nat.le_refl _)
 rw [Heap.size_push] at nk
 rw [RH]
 have split:∀ x c,(cellsFrom (s.heap.objs.size + 1) csc.names [] ++ cl).lookup x = some c→((x,c)∈cellsFrom (s.heap.objs.size + 1) csc.names []∧csc.names.lookup x = some .cell)∨(csc.names.lookup x≠some .cell∧cl.lookup x = some c):=fun x c e => by
  rw [DD] at e
  cases hx:(cellsFrom (s.heap.objs.size + 1) csc.names []).lookup x with
  | some v =>
   rw [hx] at e
   cases e
   have m:=Ag hx
   refine .inl ⟨m,?_⟩
   rcases JN _ _ _ _ _ m with z | z
   ·exact ok.cells _ z rfl
   ·cases z
  | none =>
   rw [hx] at e
   refine .inr ⟨fun z => ?_,e⟩
   have:=HA csc.names (s.heap.objs.size + 1) [] x (.inl (Ag z))
   rw [hx] at this
   cases this
 refine ⟨fun x c e => ?_,fun x hx => ?_,fun x y c e1 e2 => ?_⟩
 ·rcases split x c e with ⟨m,k⟩ | ⟨k,e⟩
  ·exact .inl ⟨k,Nat.le_of_succ_le (nk.empty x c m).2,(nk.empty x c m).1⟩
  ·exact .inr ⟨k,hc1 x c e⟩
 ·refine Option.isSome_iff_exists.mp ?_
  rw [DD]
  cases hn:(cellsFrom (s.heap.objs.size + 1) csc.names []).lookup x with
  | some v => rfl
  | none =>
   rcases hx with hx | hx
   ·exact hc2 _ (Ag hx) rfl
   ·have:=HA csc.names (s.heap.objs.size + 1) [] x (.inl (Ag hx))
    rw [hn] at this
    cases this
 ·have old:∀ z,cl.lookup z = some c→c < s.heap.objs.size:=fun z e => by
   obtain ⟨v,hv⟩:=I.cell z c (hc1 z c e)
   exact hv.lt
  rcases split x c e1 with ⟨m1,_⟩ | ⟨_,g1⟩ <;> rcases split y c e2 with ⟨m2,_⟩ | ⟨_,g2⟩
  ·exact name_of_addr nk.apart m1 m2
  ·exact absurd (Nat.lt_of_lt_of_le (old y g2) (Nat.le_of_succ_le (nk.empty x c m1).2)) (Nat.lt_irrefl _)
  ·exact absurd (Nat.lt_of_lt_of_le (old x g1) (Nat.le_of_succ_le (nk.empty y c m2).2)) (Nat.lt_irrefl _)
  ·exact I.ok.inj x y c (hc1 x c g1) (hc1 y c g2)
section
variable {M:Model} {A:Around} {E:Value→Shared→Prop} {s:Shared}
theorem MZ {scope:Scope} {globals:Addr} {closure:List (Str × Addr)} {qual:Str} {env:Env} {Q:Env→Shared→Prop}
  (hQ:Q (newEnv scope s.heap.objs.size globals (cellsFrom (s.heap.objs.size + 1) scope.names closure) qual none .none (some env) builtinsNs) { s with heap:=pushCells (s.heap.push { cls:=.type "dict",data:=.dict #[] }) scope.names }) :
  wpAny M A (newFunctionEnv scope globals closure [] qual none .none (some env)) Q E s:=by
 simp only [newFunctionEnv,Option.isSome_some,if_true]
 refine wpAny_bind (wpAny_alloc ?_)
 refine wpAny_bind (wpAny_layCells _ (fun name kind cells => by cases hkc:kind == NameKind.cell <;> simp [hkc]) _ _ _ _ ?_)
 rw [show ({ s with heap:=s.heap.push { cls:=.type "dict",data:=.dict #[] } }:Shared).heap.objs.size = s.heap.objs.size + 1 from Heap.size_push ..]
 refine wpAny_bind ?_
 rw [List.forIn_nil]
 exact wpAny_pure (wpAny_pure hQ)
end
theorem RI {X:Cx} {csc:Scope} {cl:List (Str × Addr)} {nc:List Str} {cap:List (Str × Nat)} {pins:List (Addr × Obj)} {σ:St} {H:Hp} {s:Shared} {h1:Heap} {fp:List Addr}
  (ok:LcOk X csc nc cap) (I:Inv X pins σ H s) (C:LcCells X csc cl s h1)
  (hf:∀ b∈fp,Er X pins H b) (ho:∀ b∈fp,∃ o,s.heap.get? b = some o)
  (hn:h1.Ns s.heap.objs.size (fun _ => none)) (kept:∀ b o,s.heap.get? b = some o→h1.get? b = some o) :
  Inv (Oj X csc cl (As nc cap) s H fp) [] (Fr nc σ cap) H { s with heap:=h1 }:=by
 have frel:∀ x,csc.names.lookup x = some .free→(compEnvC csc cl s.heap.objs.size X.env).kindOf x = some .cell∨(compEnvC csc cl s.heap.objs.size X.env).kindOf x = some .free:=fun x h => DP h
 have back:∀ {names:List (Str × NameKind)} {x:Str},((names.map fun (n,k) => if (k == NameKind.free && X.env.scope.kind == .function && X.env.kindOf n == some .cell) then (n,NameKind.cell) else (n,k)).lookup x = some .cell ∨
   (names.map fun (n,k) => if (k == NameKind.free && X.env.scope.kind == .function && X.env.kindOf n == some .cell) then (n,NameKind.cell) else (n,k)).lookup x = some .free) →
   names.lookup x = some .free∨names.lookup x = some .cell:=by
  intro names
  induction names with
  | nil => intro x h; simp at h
  | cons p r ih =>
   obtain ⟨n,k⟩:=p
   intro x h
   rw [List.map_cons] at h
   cases hx:x == n with
   | true =>
    rw [List.lookup_cons,hx]
    have e:∀ (kk:NameKind) (l:List (Str × NameKind)),((n,kk) :: l).lookup x = some kk:=fun kk l => by rw [List.lookup_cons,hx]
    by_cases hcnd:(k == NameKind.free && X.env.scope.kind == .function && X.env.kindOf n == some .cell) = true
    ·left
     have:(k == NameKind.free) = true:=by
      revert hcnd; cases (k == NameKind.free) <;> simp
     show some k = some .free
     rw [eq_of_beq this]
    ·simp only [if_neg hcnd] at h
     rw [e,] at h
     exact h.symm
   | false =>
    have e:∀ (kk:NameKind) (l:List (Str × NameKind)),((n,kk) :: l).lookup x = l.lookup x:=fun kk l => by rw [List.lookup_cons,hx]
    by_cases hcnd:(k == NameKind.free && X.env.scope.kind == .function && X.env.kindOf n == some .cell) = true
    ·simp only [if_pos hcnd] at h
     rw [e] at h
     rw [e]
     exact ih h
    ·simp only [if_neg hcnd] at h
     rw [e] at h
     rw [e]
     exact ih h
 refine ⟨⟨I.ok.mod,ok.kind,I.ok.glob,I.ok.blt,Nat.le_refl _,C.inj,fun x hx => C.has x (back hx),fun x c e1 e2 => ?_,I.ok.hd,I.ok.frames,.inl rfl,fun b hb => ⟨?_,fun x c e => ?_⟩,
  I.bs,Nat.le_trans I.ok.bsz I.sz,fun b o e hb => ?_,fun b hb z => ?_,I.stack,I.stkFree⟩,rfl,I.bare,⟨fun b o e _ _ _ => kept b o e,fun b o e _ _ _ => ⟨o.slots,kept b o e⟩,fun b o e n _ => n,fun b o e _ => ⟨o,kept b o e⟩,fun _ _ e => e,fun _ _ _ e => e,fun b ps e => ⟨#[],by rw [show H b = some (HO.tbl ps) from e]; simp⟩⟩,
  ⟨_,hn,fun i x v e1 e2 e3 => ?_⟩,fun x c e => ?_,I.hok.fresh (Nat.le_refl _),fun x c e => (C.at_ x c e).elim (fun z => I.hok.fresh z.2.1) (fun z => I.freeC x c z.2),fun p hp => absurd (show p∈([]:List (Addr × Obj)) from hp) (by simp),I.hok.kept kept,?_⟩
 ·rcases C.at_ x c e2 with z | z
  ·exact z.2.1
  ·exact absurd (IH e1) z.1
 ·obtain ⟨o,e⟩:=ho b hb
  exact Nat.ne_of_lt (Heap.lt_size e)
 ·rcases C.at_ x c e with z | z
  ·obtain ⟨o,e⟩:=ho b hb
   exact Nat.ne_of_gt (Nat.lt_of_lt_of_le (Heap.lt_size e) z.2.1)
  ·exact (hf b hb).2.2.2.2.1 x c z.2
 ·have h1:=(hf b hb).2.2.2.1
  rcases h1 with z | z
  ·exact I.ok.noex b o e z
  ·exact absurd (Nat.lt_of_lt_of_le (Heap.lt_size e) (Nat.le_trans I.ok.bsz z)) (Nat.lt_irrefl _)
 ·have h1:=(hf b hb).2.1
  have h2:=(hf b hb).2.2.1
  exact (List.mem_cons.mp (I.stkSub b z)).elim h1 h2
 ·-- the names
  have hlen:nc.length≤i:=by
   by_cases hi:i < nc.length
   ·have e2':(List.replicate nc.length (none:Option V) ++ Bm σ cap)[i]? = some (some v):=e2
    rw [List.getElem?_append_left (by simpa using hi),List.getElem?_replicate] at e2'
    split at e2' <;> cases e2'
   ·omega
  have e1':(nc ++ cap.map (·.1))[i]? = some x:=e1
  have e2':(List.replicate nc.length (none:Option V) ++ Bm σ cap)[i]? = some (some v):=e2
  rw [List.getElem?_append_right hlen,List.getElem?_map] at e1'
  rw [List.getElem?_append_right (by simpa using hlen)] at e2'
  simp only [List.length_replicate] at e2'
  unfold Bm at e2'
  rw [List.getElem?_map] at e2'
  cases hp:cap[i - nc.length]? with
  | none => rw [hp] at e1'; cases e1'
  | some p =>
   rw [hp] at e1' e2'
   have e1'':p.1 = x:=Option.some.inj e1'
   have e2'':(σ[p.2]?).join = some v:=Option.some.inj e2'
   subst e1''
   obtain ⟨c1,c2⟩:=ok.caps p (List.mem_of_getElem? hp)
   have hσ:σ[p.2]? = some (some v):=by
    cases q:σ[p.2]? with
    | none => rw [q] at e2''; cases e2''
    | some w' => rw [q] at e2''; exact congrArg some e2''
   have vis:X.env.scope.names.lookup p.1 = some .cell∨X.env.scope.names.lookup p.1 = some .free:=ok.free _ (Ag c2) rfl
   obtain ⟨m,_,hl⟩:=I.loc
   obtain ⟨u,r,l⟩:=hl p.2 p.1 v c1 hσ (vis.elim (fun z => .inr (.inl z)) fun z => .inr (.inr z))
   refine ⟨u,r,.inr ⟨frel p.1 c2,?_⟩⟩
   rcases l with ⟨k,_⟩ | ⟨_,c,e,z⟩
   ·have k:X.env.scope.names.lookup p.1 = some .local:=k
    rcases vis with q | q <;> (rw [q] at k; cases k)
   ·obtain ⟨c',e''⟩:=C.has p.1 (.inl c2)
    have q:X.env.cells.lookup p.1 = some c':=by
     rcases C.at_ _ _ e'' with z | z
     ·rw [c2] at z; cases z.1
     ·exact z.2
    rw [e] at q; cases q
    obtain ⟨o,z1,z2⟩:=z
    exact ⟨c,e'',o,kept c o z1,z2⟩
 ·rcases C.at_ x c e with z | z
  ·exact ⟨none,z.2.2⟩
  ·obtain ⟨v,o,z1,z2⟩:=I.cell x c z.2
   exact ⟨v,o,kept c o z1,z2⟩
 ·show (List.replicate nc.length (none:Option V) ++ Bm σ cap).length = (nc ++ cap.map (·.1)).length
  unfold Bm
  simp
section
variable {prog:Program} {w:World} {A:Around} {R:Result→Shared→Prop} {s:Shared}
abbrev Om:Value→Shared→Prop:=fun _ _ => False
theorem Ce {elt target iter:Expr} {ifs:List Expr} {scope:Scope} {pos:Pos} {it acc:Value} {env:Env} (I:Nat→Shared→Prop)
  (turn:∀ n s,I n s→wpAny (model prog w) A (pyNext it) (fun r s₁ => match r with
   | none => R (.ok .next) s₁
   | some v => wpAny (model prog w) A (letOwnedTupleGo target it v) (fun _ s₂ => wpAny (model prog w) A (assign target env v) (fun _ s₃ =>
     wpAny (model prog w) A (forIn ifs true fun c r => if r = true then do let ok ← isTrue c env (eval c env); pure (ForInStep.yield ok) else pure (ForInStep.yield r)) (fun ok s₄ =>
      if ok = true then wpAny (model prog w) A (eval elt env) (fun x s₅ =>
       wpAny (model prog w) A (call (.builtin "list.append") [acc,x]) (fun _ s₆ => ∃ m,m < n∧I m s₆) Om s₅) Om s₄
      else ∃ m,m < n∧I m s₄) Om s₃) Om s₂) Om s₁) Om s)
  (n:Nat) (h:I n s) :
  codeAny (model prog w) A (.compLoop (.ListComp elt [⟨target,iter,ifs,0⟩] scope pos) 0 it acc env) R s:=by
 refine codeAny_loop rfl I (fun n s hI => ?_) n h
 show wpAny _ A ((compTurn (.ListComp elt [⟨target,iter,ifs,0⟩] scope pos) 0 it acc env).onRaise (fun x => do noteFrame x env; theTreesLotGoes x)) _ _ s
 refine wpAny_noted (wpAny_noRaise ?_)
 rw [compTurn_list]
 refine wpAny_bind (wpAny_standAt (wpAny_bind (Ac (turn n s hI) fun r s₁ h₁ => ?_)))
 cases r with
 | none => exact wpAny_pure h₁
 | some v =>
  refine wpAny_bind (Ac h₁ fun _ s₂ h₂ => wpAny_bind (Ac h₂ fun _ s₃ h₃ => wpAny_bind (Ac h₃ fun ok s₄ h₄ => ?_)))
  cases ok with
  | true =>
   rw [if_pos rfl] at h₄ ⊢
   exact wpAny_bind (wpAny_bind (Ac h₄ fun x s₅ h₅ => wpAny_bind (Ac h₅ fun _ s₆ h₆ => wpAny_pure (wpAny_pure ⟨rfl,h₆⟩))))
  | false =>
   rw [if_neg Bool.false_ne_true] at h₄ ⊢
   exact wpAny_bind (wpAny_pure (wpAny_pure ⟨rfl,h₄⟩))
end
def RJ (X:Cx) (ifs:List Expr) (t:TT):Prop :=
 ∀ (pins:List (Addr × Obj)) (s:Shared) (σ:St) (H:Hp) (Q:Bool→Hp→Prop),Inv X pins σ H s→t σ H Q →
  wpAny (model X.prog X.w) X.A (forIn ifs true fun c r => if r = true then do let ok ← isTrue c X.env (eval c X.env); pure (ForInStep.yield ok) else pure (ForInStep.yield r)) (TP X pins σ Q) X.xe s
def TF:TT:=fun _ H Q => Q true H
theorem On {X:Cx}:RJ X [] TF:=fun _ _ _ H _ I h => wpAny_tests_nil ⟨H,I,h⟩
theorem Oo {X:Cx} {c:Expr} {t:TT} (h:PT X c t):RJ X [c] t:=fun pins s σ H Q I q => wpAny_tests_one (h pins s σ H Q I q)
def QE (nc:List Str) (cap:List (Str × Nat)) (g:TG) (tt:TT) (te:TE) (σ:St) (J:It) (p:Addr) (H:Hp) (Q:Hp→Prop):Prop :=
 ∃ W:Nat→Nat→Hp→Prop,(∃ m,W 0 m (upd H p (.lst [])))∧∀ i m H2,W i m H2 →
  (J.stop i H2∧Q H2)∨(J.go i H2∧∃ N:Hp→Prop,(∀ H',N H'→∃ m',m' < m∧W (i + 1) m' H')∧∀ x H3,J.yld i H2 x H3→g x (Fr nc σ cap) H3 fun σ4 H4 => (∃ pre:St,pre.length = nc.length∧σ4 = pre ++ Bm σ cap)∧tt σ4 H4 fun b H5 =>
   if b = true then te σ4 H5 fun y H6 => ∃ ys,H6 p = some (.lst ys)∧ys.length < sizeLine∧N (upd H6 p (.lst (ys ++ [y])))
   else N H5)
def UT (wi:TI) (nc:List Str) (cap:List (Str × Nat)) (g:TG) (tt:TT) (te:TE):TE:=fun σ H Q => wi σ H fun J H1 => ∀ p,H1 p = none→QE nc cap g tt te σ J p H1 (Q (.ref p))
section
variable {X:Cx} {elt tg iter:Expr} {ifs:List Expr} {csc:Scope} {nc:List Str} {cap:List (Str × Nat)} {wi:TI} {g:TG} {tt:TT} {te:TE} {pos:Pos}
theorem II {pins:List (Addr × Obj)} {σ:St} {s2:Shared} {H2:Hp} {it:Addr} {fp:List Addr} {tn:Nat→Heap→Prop} {J:It} {cl:List (Str × Addr)} {Q:Hp→Prop} {RR:Value→Addr→Result→Shared→Prop} {E:Value→Shared→Prop}
  (hc:X.calm = true) (ok:LcOk X csc nc cap) (hg:∀ X',LcCx X csc (As nc cap) X'→PG X' tg g) (ht:∀ X',LcCx X csc (As nc cap) X'→RJ X' ifs tt) (he:∀ X',LcCx X csc (As nc cap) X'→PE X' elt te)
  (hc1:∀ x c,cl.lookup x = some c→X.env.cells.lookup x = some c) (hc2:∀ y∈csc.names,y.2 = .free→(cl.lookup y.1).isSome = true)
  (I2:Inv X pins σ H2 s2) (T:Turn X.prog X.w X.K tg J fp it tn) (st2:tn 0 s2.heap) (f2:∀ b∈fp,Er X pins H2 b) (run:QE nc cap g tt te σ J s2.heap.objs.size H2 Q)
  (out:∀ (C:Addr) (H':Hp) (s':Shared),Inv X pins σ H' s'→(∃ m,s'.heap.Ns C m)→H' C = none→C≠X.env.locals→X.s₀.heap.objs.size≤C→(∀ x c,X.env.cells.lookup x = some c→c≠C)→(∀ p∈X.pn ++ pins,p.1≠C)→Q H'→RR (.ref s2.heap.objs.size) C (.ok .next) s') :
  wpAny (model X.prog X.w) X.A (newList []) (fun acc s₃ => wpAny (model X.prog X.w) X.A (newFunctionEnv csc X.env.globals cl [] X.env.qual none .none (some X.env)) (fun cenv s₄ =>
   codeAny (model X.prog X.w) X.A (.compStart (.ListComp elt [⟨tg,iter,ifs,0⟩] csc pos) 0 (.ref it) acc { cenv with scope:=relabel csc X.env }) (RR acc cenv.locals) s₄) E s₃) E s2:=by
 refine wpAny_newObj_type ?_
 have hp:H2 s2.heap.objs.size = none:=I2.hok.fresh (Nat.le_refl _)
 have I3:Inv X pins σ (upd H2 s2.heap.objs.size (.lst [])) { s2 with heap:=s2.heap.push { cls:=.type "list",dict:=none,data:=.seq ([]:List Value).toArray } } :=
  I2.laid (t':=s2.toks) (fun b u e => Heap.get?_push_of_some _ e) (Nat.le_refl _) ⟨Nat.zero_le _,[],0,.nil,Heap.get?_push_size _ rfl⟩
 generalize hs3:({ s2 with heap:=s2.heap.push { cls:=.type "list",dict:=none,data:=.seq ([]:List Value).toArray } }:Shared) = s3 at I3
 have hk3:∀ b o,s2.heap.get? b = some o→s3.heap.get? b = some o:=fun b o e => by rw [← hs3]; exact Heap.get?_push_of_some _ e
 generalize hp0:s2.heap.objs.size = p at *
 have hlt:∀ b∈fp,b < p:=fun b hb => by
  obtain ⟨o,e,_⟩:=T.obj 0 _ st2 b hb
  rw [← hp0]; exact Heap.lt_size e
 have f3:∀ b∈fp,Er X pins (upd H2 p (.lst [])) b:=fun b hb => ⟨by rw [AD (Nat.ne_of_lt (hlt b hb))]; exact (f2 b hb).1,(f2 b hb).2⟩
 have st3:tn 0 s3.heap:=T.keep 0 _ _ st2 fun b _ o e => hk3 b o e
 refine MZ ?_
 have LC:=Ol (o:={ cls:=.type "dict",data:=.dict #[] }) ok I3 hc1 hc2
 have hns:(pushCells (s3.heap.push { cls:=.type "dict",data:=.dict #[] }) csc.names).Ns s3.heap.objs.size (fun _ => none):=(Heap.Ns.new s3.heap (.type "dict")).keeps (pushCells_keeps _ _)
 have kept4:∀ b o,s3.heap.get? b = some o→(pushCells (s3.heap.push { cls:=.type "dict",data:=.dict #[] }) csc.names).get? b = some o:=fun b o e => pushCells_keeps _ _ b o (Heap.get?_push_of_some _ e)
 generalize hcs:cellsFrom (s3.heap.objs.size + 1) csc.names cl = cs at LC ⊢
 generalize hh1:pushCells (s3.heap.push { cls:=.type "dict",data:=.dict #[] }) csc.names = h₁ at LC hns kept4 ⊢
 have hcc:∀ x c,cs.lookup x = some c→X.env.cells.lookup x = some c∨s3.heap.objs.size≤c:=fun x c e => (LC.at_ x c e).elim (fun z => .inr z.2.1) (fun z => .inl z.2)
 have I4:Inv (Oj X csc cs (As nc cap) s3 (upd H2 p (.lst [])) fp) [] (Fr nc σ cap) (upd H2 p (.lst [])) { s3 with heap:=h₁ } :=
  RI ok I3 LC f3 (fun b hb => (T.obj 0 _ st3 b hb).imp fun o q => q.1) hns kept4
 have st4:tn 0 h₁:=T.keep 0 _ _ st3 fun b _ o e => kept4 b o e
 generalize hX':Oj X csc cs (As nc cap) s3 (upd H2 p (.lst [])) fp = X' at I4
 have is':LcCx X csc (As nc cap) X':=⟨_,_,_,_,hX'.symm⟩
 have hP:X'.prog = X.prog:=by rw [← hX']; rfl
 have hw:X'.w = X.w:=by rw [← hX']; rfl
 have hK:X'.K = X.K:=by rw [← hX']; rfl
 have hA:X'.A = X.A:=by rw [← hX']; rfl
 have hcal:X'.calm = true:=by rw [← hX']; exact hc
 have hE:X'.env = compEnvC csc cs s3.heap.objs.size X.env:=by rw [← hX']; rfl
 have hxe:X'.xe = Om:=by rw [← hX']; rfl
 have hfs:X'.fs = Dl X.stack:=by rw [← hX']; rfl
 have hex:X'.ex = fp:=by rw [← hX']; rfl
 have hs0:X'.s₀ = s3:=by rw [← hX']; rfl
 have hH0:X'.H₀ = upd H2 p (.lst []):=by rw [← hX']; rfl
 have hpn:X'.pn = []:=by rw [← hX']; rfl
 have stat:∀ {H':Hp},(∀ b∈fp,H' b = none)→∀ b∈fp,Er X' [] H' b:=fun {H'} hn b hb => by
  obtain ⟨_,q2,q3,q4,q5,q6⟩:=f3 b hb
  obtain ⟨o,e,_⟩:=T.obj 0 _ st3 b hb
  refine ⟨hn b hb,?_,?_,?_,?_,?_⟩
  ·rw [hE]; exact Nat.ne_of_lt (Heap.lt_size e)
  ·rw [hfs]; exact fun z => (List.mem_cons.mp (I3.stkSub b z)).elim q2 q3
  ·rw [hex]; exact .inl hb
  ·rw [hE]; exact fun x c e' => (hcc x c e').elim (fun z => q5 x c z) fun z => Nat.ne_of_gt (Nat.lt_of_lt_of_le (Heap.lt_size e) z)
  ·rw [hpn]; intro p hp; simp at hp
 obtain ⟨W,⟨m0,w0⟩,turn⟩:=run
 have loop:∀ s4:Shared,s4 = { s3 with heap:=h₁ }→codeAny (model X.prog X.w) X.A (.compLoop (.ListComp elt [⟨tg,iter,ifs,0⟩] csc pos) 0 (.ref it) (.ref p) (compEnvC csc cs s3.heap.objs.size X.env)) (RR (.ref p) s3.heap.objs.size) s4:=by
  rintro s4 rfl
  refine Ce (fun n s' => ∃ i H',Inv X' [] (Fr nc σ cap) H' s'∧tn i s'.heap∧(∀ b∈fp,H' b = none)∧W i n H') ?_ m0 ⟨0,_,I4,st4,fun b hb => (f3 b hb).1,w0⟩
  rintro n s5 ⟨i,H5,I5,st5,fr5,w5⟩
  rcases turn i n H5 w5 with ⟨stop,qn⟩ | ⟨go,N,hN,step⟩
  ·have q:=T.done X' hP hw hK hcal i [] s5 (Fr nc σ cap) H5 Om I5 (stat fr5) st5 stop
   rw [hA] at q
   refine Ac q fun r s6 ⟨hr,I6⟩ => ?_
   subst hr
   have B:=I6.base
   rw [hfs,hex,hs0,hH0] at B
   have I7:Inv X pins σ H5 s6:=by
    refine I3.call' (ch:=fp) (by rw [I6.os,hs0]) B (by have:=I6.hok; rw [hP,hw] at this; exact this) I6.bare fun b hb => ?_
    obtain ⟨_,q2,q3,q4,q5,q6⟩:=f3 b hb
    exact ⟨q4,q2,q5,q6⟩
   obtain ⟨m,hm,_⟩:=I6.loc
   have hCf:=I6.free
   rw [hE] at hm hCf
   refine out _ H5 s6 I7 ⟨m,hm⟩ hCf (Nat.ne_of_gt I3.lt) I3.sz (fun x c e z => ?_) (fun p hp z => ?_) qn
   ·obtain ⟨v,hv⟩:=I3.cell x c e
    exact absurd hv.lt (by rw [z]; exact Nat.lt_irrefl _)
   ·exact absurd (Heap.lt_size (I3.pin p hp).1) (by rw [z]; exact Nat.lt_irrefl _)
  ·have q:=T.item X' hP hw hK hcal i [] s5 (Fr nc σ cap) H5 Om I5 (stat fr5) st5 go
   rw [hA] at q
   refine Ac q fun r s6 ⟨u,hr,h6⟩ => ?_
   subst hr
   refine Ac h6 fun _ s7 ⟨x,H7,I7,r7,y7,st7,fr7⟩ => ?_
   have I7':=I7.pinned (stat fr7) (T.obj _ _ st7)
   have q8:=hg X' is' _ s7 _ H7 x u _ I7' r7 (step x H7 y7)
   rw [hP,hw,hA,hE,hxe] at q8
   refine Ac q8 fun _ s8 ⟨σ8,H8,I8,⟨pre,hpl,hσ8⟩,q8⟩ => ?_
   have q9:=ht X' is' _ s8 σ8 H8 _ I8 q8
   rw [hP,hw,hA,hE,hxe] at q9
   have wk:∀ {s':Shared} {H':Hp} {pl:List (Addr × Obj)},Inv X' pl σ8 H' s'→Inv X' pl (Fr nc σ cap) H' s':=fun {s' H' pl} J' => by
    refine J'.weak (by rw [J'.len,I4.len]) fun j v e => ?_
    rw [hσ8]
    by_cases hj:j < nc.length
    ·have e:(List.replicate nc.length (none:Option V) ++ Bm σ cap)[j]? = some (some v):=e
     rw [List.getElem?_append_left (by simpa using hj),List.getElem?_replicate] at e
     split at e <;> cases e
    ·have e:(List.replicate nc.length (none:Option V) ++ Bm σ cap)[j]? = some (some v):=e
     rw [List.getElem?_append_right (by simpa using hj)] at e
     rw [List.getElem?_append_right (by omega),hpl]
     simpa using e
   have again:∀ {s':Shared} {H':Hp} {m':Nat},Inv X' ([] ++ Et fp s7.heap) σ8 H' s'→m' < n→W (i + 1) m' H' →
     ∃ m,m < n∧∃ i H',Inv X' [] (Fr nc σ cap) H' s'∧tn i s'.heap∧(∀ b∈fp,H' b = none)∧W i m H':=fun {s' H' m'} J' hm hW => by
    refine ⟨m',hm,i + 1,H',wk J'.unpinned,T.keep _ _ _ st7 fun b hb o e => (J'.pin (b,o) (List.mem_append_right _ (List.mem_append_right _ (CB hb e)))).1,fun b hb => ?_,hW⟩
    obtain ⟨o,e,d⟩:=T.obj _ _ st7 b hb
    exact (J'.pin (b,o) (List.mem_append_right _ (List.mem_append_right _ (CB hb e)))).2.1
   refine Ac q9 fun b s9 ⟨H9,I9,q9⟩ => ?_
   cases b with
   | false =>
    rw [if_neg Bool.false_ne_true] at q9 ⊢
    obtain ⟨m',hm,hW⟩:=hN _ q9
    exact again I9 hm hW
   | true =>
    rw [if_pos rfl] at q9 ⊢
    have qe:=he X' is' _ s9 σ8 H9 _ I9 q9
    rw [hP,hw,hA,hE,hxe] at qe
    refine Ac qe fun u s10 ⟨y,H10,I10,ry,ys,hys,hlen,hNn⟩ => ?_
    obtain ⟨m',hm,hW⟩:=hN _ hNn
    have qa:=GE (X:=X') _ s10 σ8 H10 (.ref p) [y] (.ref p) [u] (fun _ H' => H' = upd H10 p (.lst (ys ++ [y]))) I10 rfl (.cons ry .nil) ⟨p,ys,y,rfl,rfl,hys,hlen,rfl⟩
    rw [hP,hw,hA,hxe] at qa
    refine Ac qa fun _ s11 ⟨_,H11,I11,_,e11⟩ => ?_
    subst e11
    exact again I11 hm hW
 have st5:=loop _ rfl
 exact codeAny_compStart_list (loop _ rfl) (T.self X.A 0 _ _ _ st4 (loop _ rfl))
end
section
variable {X:Cx} {elt tg iter:Expr} {ifs:List Expr} {csc:Scope} {nc:List Str} {cap:List (Str × Nat)} {wi:TI} {g:TG} {tt:TT} {te:TE} {pos:Pos}
theorem LcOk.clos {pins:List (Addr × Obj)} {σ:St} {H:Hp} {s:Shared} (ok:LcOk X csc nc cap) (I:Inv X pins σ H s) :
  ∃ cl,closureFor csc X.env = pure cl∧(∀ x c,cl.lookup x = some c→X.env.cells.lookup x = some c)∧∀ y∈csc.names,y.2 = .free→(cl.lookup y.1).isSome = true :=
 Oi fun y hy hf => I.ok.has y.1 (ok.free y hy hf)
theorem TH (hc:X.calm = true) (ok:LcOk X csc nc cap) (hi:PI X tg iter wi) (hg:∀ X',LcCx X csc (As nc cap) X'→PG X' tg g) (ht:∀ X',LcCx X csc (As nc cap) X'→RJ X' ifs tt) (he:∀ X',LcCx X csc (As nc cap) X'→PE X' elt te)
  (hs:∀ x,foldedSetIterable iter X.env x = pure x:=by intro _; rfl):PE X (.ListComp elt [⟨tg,iter,ifs,0⟩] csc pos) (UT wi nc cap g tt te):=by
 intro pins s σ H Q I h
 obtain ⟨cl,hcl,hc1,hc2⟩:=ok.clos I
 rw [eval_ListComp]
 refine wpAny_comprehension_free (use:=none) rfl hs hcl ok.kind ok.locals (Ac (hi pins s σ H _ I h) fun v s1 h1 => Ac h1 fun itv s2 h2 => ?_)
 obtain ⟨it,fp,tn,J,H2,e,I2,T,st2,f2,run⟩:=h2
 subst e
 refine II (RR:=fun acc C => compPost (model X.prog X.w) X.A X.xe none (EP X pins σ Q) acc C) hc ok hg ht he hc1 hc2 I2 T st2 f2 (run _ (I2.hok.fresh (Nat.le_refl _))) ?_
 intro C H' s' I' hn h1 h2 h3 h4 h5 q
 obtain ⟨m,hn⟩:=hn
 refine ⟨m,hn,fun h' sb => ⟨.ref s2.heap.objs.size,H',?_,rfl,q⟩⟩
 exact I'.turned (t':=s'.toks) (fun b o hb e => (sb.2 b hb).trans e) h1 h2 (.inr h3) h4 h5
def RL (i:Nat) (te:TE):TS:=fun D σ H => te σ H fun v H1 => D.nx (σ.set i (some v)) H1
theorem Ma {i:Nat} {x:Str} {px spos:Pos} (hN:X.N.Nodup) (hx:X.N[i]? = some x) (hk:X.env.scope.names.lookup x = some .local) (hsw:swapsWith (.ListComp elt [⟨tg,iter,ifs,0⟩] csc pos) (some (.Name x px)) spos.line X.env = pure true)
  (hc:X.calm = true) (ok:LcOk X csc nc cap) (hi:PI X tg iter wi) (hg:∀ X',LcCx X csc (As nc cap) X'→PG X' tg g) (ht:∀ X',LcCx X csc (As nc cap) X'→RJ X' ifs tt) (he:∀ X',LcCx X csc (As nc cap) X'→PE X' elt te)
  (hs:∀ x,foldedSetIterable iter X.env x = pure x:=by intro _; rfl):PS X (.Assign [.Name x px] (.ListComp elt [⟨tg,iter,ifs,0⟩] csc pos) spos) (RL i (UT wi nc cap g tt te)):=by
 intro pins s σ H D I h
 obtain ⟨cl,hcl,hc1,hc2⟩:=ok.clos I
 rw [exec_Assign_Name_used _ _ _ _ hsw]
 refine wpAny_bind (wpAny_standAt (wpAny_bind ?_))
 show wpAny _ X.A (do let _ ← comprehension (.ListComp elt [⟨tg,iter,ifs,0⟩] csc pos) csc X.env _ (newList []) false (eval iter X.env) (some (assign (.Name x px) X.env))) _ _ s
 refine wpAny_bind (Ac (wpAny_comprehension_free (use:=some (assign (.Name x px) X.env)) (Q:=fun _ s' => SP X pins D .next s') rfl hs hcl ok.kind ok.locals
  (Ac (hi pins s σ H _ I h) fun v s1 h1 => Ac h1 fun itv s2 h2 => ?_)) fun _ s' hq => wpAny_pure (wpAny_pure hq))
 obtain ⟨it,fp,tn,J,H2,e,I2,T,st2,f2,run⟩:=h2
 subst e
 refine II (RR:=fun acc C => compPost (model X.prog X.w) X.A X.xe (some (assign (.Name x px) X.env)) (fun _ s' => SP X pins D .next s') acc C) hc ok hg ht he hc1 hc2 I2 T st2 f2 (run _ (I2.hok.fresh (Nat.le_refl _))) ?_
 intro C H' s' I' hn h1 h2 h3 h4 h5 q
 obtain ⟨m,hn⟩:=hn
 show wpAny _ X.A (assign (.Name x px) X.env (.ref s2.heap.objs.size)) _ _ _
 refine wpAny_assign_Name (Fu I' hN hx (.inl hk) (v:=.ref s2.heap.objs.size) rfl (fun s'' I'' ha => ?_) (.inr hk))
 obtain ⟨a,sb,ha⟩:=ha
 have hCa:C≠a:=by
  rcases ha with ha | ha
  ·rw [ha]; exact h2
  ·exact fun z => h4 x a ha z.symm
 refine ⟨m,hn.sameBut sb hCa,fun h' sb' => ⟨_,H',?_,q⟩⟩
 exact I''.turned (t':=s''.toks) (fun b o hb e => (sb'.2 b hb).trans e) h1 h2 (.inr h3) h4 h5
end
section
variable {K:PySem.W.Frag} {nc:List Str} {cap:List (Str × Nat)} {g:TG} {tt:TT} {te:TE} {σ:St} {p a:Addr} {H:Hp} {Q:Hp→Prop}
end
def DK (h h':Heap):Prop:=h.objs.size≤h'.objs.size∧∀ e,e < h.objs.size→(h'.objs[e]?).map (·.dict) = (h.objs[e]?).map (·.dict)
theorem DK.refl (h:Heap):DK h h:=⟨Nat.le_refl _,fun _ _ => rfl⟩
theorem DK.trans {a b c:Heap} (x:DK a b) (y:DK b c):DK a c:=⟨Nat.le_trans x.1 y.1,fun e he => (y.2 e (Nat.lt_of_lt_of_le he x.1)).trans (x.2 e he)⟩
theorem DK.push {h:Heap} {o:Obj}:DK h (h.push o):=by
 refine ⟨by rw [Heap.size_push]; omega,fun e he => ?_⟩
 show ((h.objs.push o)[e]?).map _ = _
 rw [Array.getElem?_push,if_neg (by omega)]
theorem DK.upd {h:Heap} {a:Addr} {f:Obj→Obj} (hf:∀ o,(f o).dict = o.dict):DK h (h.update a f):=by
 obtain ⟨objs,l⟩:=h
 refine ⟨by show objs.size≤(objs.modify a f).size; simp,fun e he => ?_⟩
 show ((objs.modify a f)[e]?).map _ = _
 rw [Array.getElem?_modify]
 split
 ·cases objs[e]? with
  | none => rfl
  | some o => exact congrArg some (hf o)
 ·rfl
theorem KN {h:Heap} {e:Addr} {o:Obj} (q:h.get? e = some o):h.objs[e]? = some o:=by
 unfold Heap.get? at q
 split at q
 ·cases q
 ·exact q
theorem DK.at_ {h h':Heap} {e:Addr} {o o':Obj} (x:DK h h') (q:h.get? e = some o) (q':h'.get? e = some o'):o'.dict = o.dict:=by
 have z:=x.2 e (Heap.lt_size q)
 rw [KN q,KN q'] at z
 exact Option.some.inj z
inductive KD {α:Type}:Sem α→Prop
 | pure (a:α):KD (.pure a)
 | raise (e:Value):KD (.raise e)
 | unsup (x:String):KD (.unsupported x)
 | load {a:Addr} {p:Option Value} {k:Obj→Sem α}:(∀ o,KD (k o))→KD (.load a p k)
 | upd {a:Addr} {p:Option Value} {f:Obj→Obj} {k:Unit→Sem α}:(∀ o,(f o).dict = o.dict)→KD (k ())→KD (.update a p f k)
 | alloc {o:Obj} {k:Addr→Sem α}:(∀ a,KD (k a))→KD (.alloc o k)
 | stack {k:List (Code × Pos)→Sem α}:(∀ l,KD (k l))→KD (.stack k)
theorem KD.bind {α β:Type} {m:Sem α} {f:α→Sem β} (h:KD m) (hf:∀ a,KD (f a)):KD (m >>= f):=by
 show KD (Sem.bind m f)
 induction h with
 | pure a => exact hf a
 | raise e => exact .raise e
 | unsup x => exact .unsup x
 | load _ ih => exact .load ih
 | upd q _ ih => exact .upd q ih
 | alloc _ ih => exact .alloc ih
 | stack _ ih => exact .stack ih
theorem KD.wp {α:Type} {M:Model} {Γ:PySem.Ctx} {Q:α→Pos→Shared→Prop} {E:Value→Pos→Shared→Prop} {h0:Heap} {t:Sem α} (h:KD t):∀ {p:Pos} {s:Shared},DK h0 s.heap→Sem.wp M Γ t Q E p s→Sem.wp M Γ t (fun a p' s' => Q a p' s'∧DK h0 s'.heap) E p s:=by
 induction h with
 | pure a => intro p s d q; exact ⟨q,d⟩
 | raise e => intro p s d q; exact q
 | unsup x => intro p s d q; exact q
 | load _ ih => intro p s d q; obtain ⟨o,e,q⟩:=q; exact ⟨o,e,ih o d q⟩
 | upd hf _ ih => intro p s d q; exact ⟨q.1,ih (d.trans (.upd hf)) q.2⟩
 | alloc _ ih => intro p s d q; exact ih _ (d.trans .push) q
 | stack _ ih => intro p s d q; exact ih _ d q
theorem KD.any {α:Type} {M:Model} {A:Around} {Q:α→Shared→Prop} {E:Value→Shared→Prop} {s:Shared} {t:Sem α} (h:KD t) (q:wpAny M A t Q E s):wpAny M A t (fun a s' => Q a s'∧DK s.heap s'.heap) E s :=
 fun Γ p g => h.wp (.refl _) (q Γ p g)
theorem KD.ite {α:Type} {c:Prop} [Decidable c] {a b:Sem α} (ha:KD a) (hb:KD b):KD (if c then a else b):=by split <;> assumption
theorem IJ (v:Value):KD (fieldsOf v):=by
 unfold fieldsOf
 split
 ·refine KD.bind (.load fun o => .pure o) fun o => ?_
  split
  ·exact .pure _
  ·exact .unsup _
 ·exact .unsup _
theorem DQ (v:Value) (i:Nat):KD (field v i):=by
 unfold field
 refine (IJ v).bind fun vs => ?_
 split
 ·exact .pure _
 ·exact .unsup _
theorem FA (f:Array Value→Array Value) (o:Obj):(Obj.mapFields f o).dict = o.dict:=by
 unfold Obj.mapFields; split <;> rfl
theorem Cf (v:Value) (i:Nat) (x:Value):KD (setField v i x):=by
 unfold setField
 split
 ·unfold updateField
  refine KD.bind (.load fun o => .pure o) fun o => ?_
  split
  ·exact .ite (.upd (FA _) (.pure _)) (.unsup _)
  ·exact .unsup _
 ·exact .unsup _
theorem CC (e:Value) (f:Option Addr):KD (setFlight e f):=by
 unfold setFlight
 exact (DQ e 1).bind fun tb => .ite (Cf _ _ _) (.pure _)
theorem IL:∀ (l:List Env),KD (readyFrames l)
 | [] => .pure _
 | env :: outer => by
  unfold readyFrames
  split
  ·refine KD.bind (.load fun o => .pure o) fun o => ?_
   refine .ite (.pure _) ?_
   refine KD.bind ?_ fun im => ?_
   ·unfold behindIsImport
    exact .ite (.pure _) (.ite (.pure _) ((DQ _ _).bind fun _ => .pure _))
   refine KD.bind ?_ fun bk => ?_
   ·unfold keptBack
    split
    ·refine .ite (.pure _) (KD.bind ?_ fun _ => .pure _)
     unfold underTheClaimsCaller
     exact KD.bind (.stack fun _ => .pure _) fun _ => .pure _
    ·exact .pure _
   exact KD.bind (.upd (fun _ => rfl) (.pure _)) fun _ => IL outer
  ·exact .unsup _
theorem JO (env:Env):KD (PySem.frameOf env):=by
 unfold PySem.frameOf
 refine KD.bind ?_ fun es => ?_
 ·unfold frameEnvs
  exact KD.bind (.stack fun _ => .pure _) fun _ => .pure _
 refine KD.bind ?_ fun r => ?_
 ·cases es.dropWhile (·.frame != env.frame) with
  | nil => exact .pure _
  | cons a b => unfold frameObject; exact (IL _).bind fun _ => .pure _
 split
 ·exact .pure _
 ·exact .unsup _
theorem Mb (f:Addr) (b:Bool):KD (entryPlaceOf f b):=by
 unfold entryPlaceOf
 refine KD.bind (.stack fun _ => .pure _) fun _ => ?_
 split <;> exact .pure _
theorem Mc (h a l f i:Value) (pl:List Value):KD (EntryCells.newEntry h a l f i pl):=by
 have z:∀ d,KD (newObjAsIs (.type "traceback") d):=fun d => .alloc fun a => .pure _
 unfold EntryCells.newEntry newFields newObj
 dsimp only
 exact .ite (KD.bind (.unsup _) fun _ => z _) (z _)
theorem KO (e:Value) (env:Env):KD (noteFrame e env):=by
 unfold noteFrame
 split
 ·rename_i f hf
  refine (DQ e 1).bind fun head => ?_
  have fin:KD (do setField e 1 (← EntryCells.newEntry head (← PySem.frameOf env) .none (rawInt f) .none (← entryPlaceOf f (head != .none)))) :=
   (JO env).bind fun a => (Mb _ _).bind fun pl => (Mc _ _ _ _ _ _).bind fun b => Cf _ _ _
  refine .ite ?_ fin
  exact (DQ _ _).bind fun x => .ite (.pure _) ((Cf _ _ _).bind fun _ => fin)
 ·exact .unsup _
theorem FB (env:Env) (e:Value):KD (leaving env e):=(KO e env).bind fun _ => CC e none
theorem ObjOk.obj {P:Program} {w:World} {H:Hp} {h:Heap} {a:Addr} {o:HO} (x:ObjOk P w H h a o):∃ ob,h.get? a = some ob:=by
 cases o with
 | lst xs => obtain ⟨_,_,_,_,e⟩:=x; exact ⟨_,e⟩
 | tup xs => obtain ⟨_,_,_,o,e,_⟩:=x; exact ⟨_,e⟩
 | dK kvs => obtain ⟨_,_,_,_,o,_,_,e,_⟩:=x; exact ⟨_,e⟩
 | dT kvs => obtain ⟨_,_,_,_,o,_,_,e,_⟩:=x; exact ⟨_,e⟩
 | set S n => obtain ⟨o,_,_,_,e,_⟩:=x; exact ⟨_,e⟩
 | ins C dx fs => obtain ⟨_,_,_,e,_⟩:=x; exact ⟨_,e⟩
 | own y => obtain ⟨_,e⟩:=x; exact ⟨_,e⟩
 | xd fs => obtain ⟨_,⟨_,_,_,e,_⟩,_⟩:=x; exact ⟨_,e⟩
 | rng lo hi => obtain ⟨_,_,_,e⟩:=x; exact ⟨_,e⟩
 | frz ob u => obtain ⟨e,_⟩:=x; exact ⟨_,e⟩
 | tbl ps => exact ⟨_,(show h.get? a = some _ from x)⟩
 | met f y => exact ⟨_,(show h.get? a = some _ from x)⟩
 | ext φ => obtain ⟨_,⟨_,e⟩,_⟩:=x; exact ⟨_,e⟩
theorem HOk.none_of {P:Program} {w:World} {H:Hp} {h:Heap} {a:Addr} (x:HOk P w H h) (e:h.get? a = none):H a = none:=by
 cases q:H a with
 | none => rfl
 | some u =>
  obtain ⟨ob,e'⟩:=(x a u q).obj
  rw [e] at e'; cases e'
def TJ (i:Int):Nat:=if 0≤i then 2 * i.toNat else 2 * (-i).toNat + 1
def RM (n:Nat):Int:=if n % 2 = 0 then ((n / 2:Nat):Int) else -((n / 2:Nat):Int)
theorem Op (i:Int):RM (TJ i) = i:=by unfold RM TJ; split <;> split <;> omega
def Vg:List Nat→List (Str × V)
 | 0 :: n :: _ => [("number",.int (RM n))]
 | 1 :: n :: _ => [("row",.int (RM n))]
 | 2 :: n :: m :: _ => [("many",.int (RM n)),("most",.int (RM m))]
 | _ => []
def QF (x:Str):List (Str × V):=Vg x.cps.toList
def GG:Value→Value
 | .str _ C => .ref C
 | v => v
def RN (dx:Addr) (fs:List (Str × V)) (h:Heap):Prop:=∃ mA,h.Ns1 dx mA∧(∀ f,MC (fs.lookup f) (mA f))∧PySem.Within mA (fs.map (·.1))
def Hs (dx:Addr) (fs:List (Str × V)):HO:=.ext (RN dx fs)
theorem RO {P:Program} {w:World} {H:Hp} {h:Heap} {dx:Addr} {fs:List (Str × V)} (q:RN dx fs h):ObjOk P w H h dx (Hs dx fs):=by
 refine ⟨q,?_,fun h1 h2 r k => ?_⟩
 ·obtain ⟨_,⟨o,_,_,e,_⟩,_⟩:=q
  exact ⟨o,e⟩
 ·obtain ⟨mA,⟨o,es,ep,e,c⟩,z⟩:=r
  exact ⟨mA,⟨o,es,ep,k o e,c⟩,z⟩
def DicX (cls:Value) (x:Addr) (H:Hp) (h:Heap):Prop:=∀ fs C,cls = .str fs C→∃ ox dx,h.get? x = some ox∧ox.dict = some dx∧H dx = some (Hs dx (QF fs))
theorem DicX.ref {C x:Addr} {H:Hp} {h:Heap}:DicX (.ref C) x H h:=fun _ _ e => nomatch e
theorem DicX.dk {cls:Value} {x:Addr} {H:Hp} {h h':Heap} (q:DicX cls x H h) (d:DK h h') (e:∃ o',h'.get? x = some o'):DicX cls x H h':=fun fs C z => by
 obtain ⟨ox,dx,e1,e2,e3⟩:=q fs C z
 obtain ⟨o',e'⟩:=e
 exact ⟨o',dx,e',(d.at_ e1 e').trans e2,e3⟩
structure Fly (P:Program) (w:World) (outer:List Env) (H:Hp) (s:Shared) (H':Hp) (x:Addr) (cls:Value) (s':Shared):Prop where
 os:s'.os = s.os
 bare:AllBare s'.gens
 un:Un (Dl outer) [] H H' s.heap s'.heap
 hok:HOk P w H' s'.heap
 fr:H' x = none
 fly:∃ B t,(∀ b,H' b≠none→∃ o,B.get? b = some o)∧(∀ b o,s.heap.get? b = some o→b ∉ Dl outer→∃ o',B.get? b = some o')∧Heap.FlyingW B outer x (GG cls) (.ref t) s'.heap
 dic:DicX cls x H' s'.heap
def CXe (P:Program) (w:World):MB:=fun outer H s E e s' => ∃ x cls H',e = .ref x∧Fly P w outer H s H' x cls s'∧E cls none H'
theorem CXe.never {P:Program} {w:World} {outer:List Env} {H:Hp} {s s':Shared} {e:Value} (h:CXe P w outer H s E0 e s'):False:=by
 obtain ⟨_,_,_,_,_,q⟩:=h
 exact q
structure XFly (X:Cx) (W:St→XK):Prop where
 fly:∀ (pins:List (Addr × Obj)) (σ:St) (H:Hp) (s:Shared) (e:Value) (s':Shared),Inv X pins σ H s→CXe X.prog X.w X.stack H s (W σ) e s'→X.xe e s'
structure XOk (X:Cx) (W:St→XK):Prop where
 made:∀ (pins:List (Addr × Obj)) (σ:St) (H:Hp) (s:Shared) (h':Heap) (x C:Addr),Inv X pins σ H s→Heap.MadeExcOf s.heap h' x (.ref C) []→W σ (.ref C) none H→X.xe (.ref x) { s with heap:=h' }
 fly:∀ (pins:List (Addr × Obj)) (σ:St) (H:Hp) (s:Shared) (e:Value) (s':Shared),Inv X pins σ H s→CXe X.prog X.w X.stack H s (W σ) e s'→X.xe e s'
 own:PassesOwn (model X.prog X.w) X.A X.env X.xe
 madeF:∀ (pins:List (Addr × Obj)) (σ:St) (H:Hp) (s:Shared) (x C t dx:Addr) (fs:Str),Inv X pins σ H s→H x = none→X.s₀.heap.get? x = none→s.heap.get? x = some ⟨.ref C,some dx,.fields #[.ref t,.none,.none,.none,.bool false,.none],#[]⟩→H dx = some (Hs dx (QF fs))→W σ (.str fs C) none H→X.xe (.ref x) s
theorem HOk.by_keep {P:Program} {w:World} {H:Hp} {h h':Heap} (x:HOk P w H h) (k:∀ b o,H b≠none→h.get? b = some o→h'.get? b = some o):HOk P w H h':=fun a o e =>
 (x a o e).stay (fun b u hb q => k b u (by
  rcases hb with rfl | hb
  ·rw [e]; exact fun z => nomatch z
  ·rw [hb]; exact fun z => nomatch z) q) (fun _ q => q) fun _ _ q => q
section
variable {P:Program} {w:World} {K:PySem.W.Frag} {mg:Str→Option Value} {base:Heap} {N:List Str} {qual:Str} {scope:Scope} {f:Addr} {cd:Value} {A:Around} {outer:List Env} {s:Shared} {H:Hp} {E:XK}
theorem HB {X:Cx} {pins:List (Addr × Obj)} {σ:St} {H1:Hp} {s2:Shared} {h':Heap} {x:Addr} {cls:Value} {B:Heap} {t:Addr} (hst:X.stack = X.env :: X.outer) (hex:X.ex = []) (hfr:X.env.frame = some X.env.locals) (I:Inv X pins σ H1 s2)
  (hB1:∀ b,H1 b≠none→∃ o,B.get? b = some o) (hB2:∀ b o,X.s₀.heap.get? b = some o→b ∉ Dl X.outer→∃ o',B.get? b = some o') (hx:H1 x = none) (hs2:B.StaysIn s2.heap) (fl:Heap.FlyingW B X.outer x (GG cls) (.ref t) h') (up:s2.heap.UpToSlots h') (dq:DicX cls x H1 h') :
  Fly X.prog X.w X.outer X.H₀ X.s₀ H1 x cls { s2 with heap:=h' }:=by
 have fsm:∀ b o,b∈X.fs→s2.heap.get? b = some o→∃ sl,h'.get? b = some { o with slots:=sl }:=fun b o hb e => by
  obtain ⟨_,o',e',hd⟩:=I.funs.mem hb
  rw [e] at e'; cases e'
  exact up b o e hd
 have same:∀ b o o',B.get? b = some o'→s2.heap.get? b = some o→h'.get? b = some o:=fun b o o' e1 e2 => by
  have q:=hs2 b o' e1
  rw [e2] at q; cases q
  exact fl.1 b o e1
 refine ⟨I.os,I.bare,⟨fun b o e n hb _ => ?_,fun b o e n hb _ => ?_,fun b o e n _ => ?_,fun b o e _ => ?_,I.base.tups,I.base.frzs,I.base.tbls⟩,I.hok.by_keep fun b o hb e => ?_,hx,⟨B,t,hB1,hB2,fl⟩,dq⟩
 ·obtain ⟨o',e'⟩:=hB2 b o e hb
  exact same b o o' e' (I.base.keep b o e n hb (by rw [hex]; simp))
 ·obtain ⟨sl,e1⟩:=I.base.slot b o e n hb (by rw [hex]; simp)
  obtain ⟨sl',e2⟩:=fsm b _ hb e1
  exact ⟨sl',e2⟩
 ·exact I.base.free b o e n (by rw [hex]; simp)
 ·obtain ⟨o1,e1⟩:=I.base.there b o e (by rw [hex]; simp)
  by_cases hb:b∈X.fs
  ·obtain ⟨sl,e2⟩:=fsm b o1 hb e1
   exact ⟨_,e2⟩
  ·obtain ⟨o',e'⟩:=hB2 b o e hb
   exact ⟨o',fl.1 b o' e'⟩
 ·obtain ⟨o',e'⟩:=hB1 b hb
  exact same b o o' e' e
theorem BB:XOk (BY (CXe P w) P w K mg base N qual scope f cd A outer s H E) (fun _ => E) where
 made:=by
  intro pins σ H1 s1 h' x C I hx q
  have hin:∀ env∈(BY (CXe P w) P w K mg base N qual scope f cd A outer s H E).stack,∀ b,env.frame = some b→b∈Dl (BY (CXe P w) P w K mg base N qual scope f cd A outer s H E).stack:=fun env he b hb => List.mem_filterMap.mpr ⟨env,he,hb⟩
  have hxn:H1 x = none:=I.hok.none_of hx.new
  have I':Inv (BY (CXe P w) P w K mg base N qual scope f cd A outer s H E) pins σ H1 { s1 with heap:=h' }:=I.kept (t':=s1.toks) hx.keeps
  refine wpAny_leaves_madeW (base:=PySem.W.hideAll s1.heap (Dl (BY (CXe P w) P w K mg base N qual scope f cd A outer s H E).stack)) (h:=s1.heap) I.ok.frames rfl (fun b o q => PySem.W.of_hideAll _ q) (PySem.W.funFrames_hide I.stack hin) hx fun h2 t x1 x2 x3 x4 => ?_
  refine ⟨x,.ref C,H1,rfl,?_,q⟩
  refine HB (X:=BY (CXe P w) P w K mg base N qual scope f cd A outer s H E) rfl rfl rfl I' (fun b hb => ?_) (fun b o e hb => ?_) hxn (fun b o e => hx.keeps b o (PySem.W.of_hideAll _ e)) x1 x4 .ref
  ·cases e:H1 b with
   | none => exact absurd e hb
   | some u =>
    obtain ⟨o,eo⟩:=(I.hok b u e).obj
    exact ⟨o,PySem.W.hideAll_get _ eo fun z => hb (I.stkFree b z)⟩
  ·obtain ⟨o1,e1⟩:=I.base.there b o e (fun z => nomatch z)
   refine ⟨o1,PySem.W.hideAll_get _ e1 fun z => ?_⟩
   rcases List.mem_cons.mp (I.stkSub b z) with z | z
   ·exact absurd z (Nat.ne_of_lt (Nat.lt_of_lt_of_le (Heap.lt_size e) I.ok.above))
   ·exact hb z
 fly:=by
  rintro pins σ H1 s1 e s2 I ⟨x,cls,H2,rfl,F,q⟩
  obtain ⟨B,t,b1,b2,fl⟩:=F.fly
  have I2:Inv (BY (CXe P w) P w K mg base N qual scope f cd A outer s H E) pins σ H2 s2:=I.call' (ch:=[]) F.os F.un F.hok F.bare (fun b z => absurd z (by simp))
  refine wpAny_mono (KD.any (FB _ _) (wpAny_leaves_onW (E:=fun _ _ => False) (Q:=fun _ s3 => Heap.FlyingW B outer x (GG cls) (.ref t) s3.heap∧s2.heap.UpToSlots s3.heap∧s3 = { s2 with heap:=s3.heap }) I.ok.frames rfl fl fun h' x1 x2 => ⟨x1,x2,rfl⟩)) ?_ fun _ _ z => False.elim z
  rintro _ s3 ⟨⟨x1,x2,e3⟩,dk⟩
  refine ⟨x,cls,H2,rfl,?_,q⟩
  rw [e3]
  refine HB (X:=BY (CXe P w) P w K mg base N qual scope f cd A outer s H E) rfl rfl rfl I2 b1 (fun b o e hb => ?_) F.fr fl.1 x1 x2 (F.dic.dk dk (let ⟨o,e,_⟩:=x1.there; ⟨o,e⟩))
  obtain ⟨o1,e1⟩:=I.base.there b o e (fun z => nomatch z)
  refine b2 b o1 e1 fun z => ?_
  rcases List.mem_cons.mp (I.stkSub b z) with z | z
  ·exact absurd z (Nat.ne_of_lt (Nat.lt_of_lt_of_le (Heap.lt_size e) I.ok.above))
  ·exact hb z
 own:=PassesOwn.leaving
 madeF:=by
  intro pins σ H1 s1 x C t dx fs I hxn hs0 ex hdx q
  have hin:∀ env∈(BY (CXe P w) P w K mg base N qual scope f cd A outer s H E).stack,∀ b,env.frame = some b→b∈x :: Dl (BY (CXe P w) P w K mg base N qual scope f cd A outer s H E).stack:=fun env he b hb => List.mem_cons_of_mem _ (List.mem_filterMap.mpr ⟨env,he,hb⟩)
  have hkb:Heap.StaysIn (PySem.W.hideAll s1.heap (x :: Dl (BY (CXe P w) P w K mg base N qual scope f cd A outer s H E).stack)) s1.heap:=fun b o q => PySem.W.of_hideAll _ q
  have hen:(PySem.W.hideAll s1.heap (x :: Dl (BY (CXe P w) P w K mg base N qual scope f cd A outer s H E).stack)).get? x = none:=by
   exact PySem.W.hideAll_none _ (List.mem_cons_self ..)
  refine wpAny_mono (KD.any (FB _ _) (wpAny_leaving_firstW (E:=fun _ _ => False) (Q:=fun _ s3 => Heap.LeftW (PySem.W.hideAll s1.heap (x :: Dl (BY (CXe P w) P w K mg base N qual scope f cd A outer s H E).stack)) _ x (.ref C) (.ref t) s1.heap s3.heap∧s3 = { s1 with heap:=s3.heap }) I.ok.frames (PySem.W.funFrames_hide I.stack hin) rfl ex hkb hen rfl rfl rfl fun h' hL => ⟨hL,rfl⟩)) ?_ fun _ _ z => False.elim z
  rintro _ s3 ⟨⟨⟨x1,⟨_,_,x2⟩,x3,x4⟩,e3⟩,dk⟩
  refine ⟨x,.str fs C,H1,rfl,?_,q⟩
  rw [e3]
  have hth:∃ o,s3.heap.get? x = some o:=by
   obtain ⟨oe,_,_,_,_,he,_⟩:=x3
   exact ⟨oe,he⟩
  refine HB (X:=BY (CXe P w) P w K mg base N qual scope f cd A outer s H E) rfl rfl rfl I (fun b hb => ?_) (fun b o e hb => ?_) hxn hkb ⟨x1,hen,x2,x3⟩ x4 ?_
  ·cases e:H1 b with
   | none => exact absurd e hb
   | some u =>
    obtain ⟨o,eo⟩:=(I.hok b u e).obj
    refine ⟨o,PySem.W.hideAll_get _ eo fun z => ?_⟩
    rcases List.mem_cons.mp z with z | z
    ·rw [z] at e; rw [hxn] at e; cases e
    ·exact hb (I.stkFree b z)
  ·obtain ⟨o1,e1⟩:=I.base.there b o e (fun z => nomatch z)
   refine ⟨o1,PySem.W.hideAll_get _ e1 fun z => ?_⟩
   rcases List.mem_cons.mp z with z | z
   ·rw [z] at e; rw [hs0] at e; cases e
   rcases List.mem_cons.mp (I.stkSub b z) with z | z
   ·exact absurd z (Nat.ne_of_lt (Nat.lt_of_lt_of_le (Heap.lt_size e) I.ok.above))
   ·exact hb z
  ·exact DicX.dk (h:=s1.heap) (fun fs' C' z => by cases z; exact ⟨_,dx,ex,rfl,hdx⟩) dk hth
end
section
variable {X:Cx} {W:St→XK}
def Md (sp:Sp) (W:St→XK) (t:TA):TE:=fun σ H Q => t σ H fun vs H1 => sp vs H1 Q (W σ)
theorem XOk.f (x:XOk X W):XFly X W:=⟨x.fly⟩
theorem DR {k:Nat} {f:Addr} {fd:FuncData} {ps:List Str} {sp:Sp} {x:Str} {p pos:Pos} {e:Expr} {es:List Expr} {t:TA} (xo:XFly X W) (F:FnOk X.prog X.w X.K X.mg X.base (CXe X.prog X.w) k f fd ps sp) (hr:Room k X.A) (hg:Gl X x) (hm:X.mg x = some (.ref f)) (hk:PySem.W.keepIn X.K (.ref f) = true) (hb:Binds X.K fd ps [])
  (ha:PA X (e :: es) t) (hdb:(x == ("__debug__" : Str)) = false:=by decide) (he:starEach (e :: es) X.env = (false,eval e X.env) :: starEach es X.env:=by rfl) (hpl:(backTo pos (starEach es X.env)).any (·.1) = false:=by rfl) :
  PE X (.Call (.Name x p) (e :: es) [] pos) (Md sp W t):=by
 intro pins s σ H Q I h
 refine wpAny_Call_Name_kw (DN I hg hm ?_ hdb)
 refine PySem.W.callWith_K (h₀:=X.base) I.ok.mod.kin hk (Ac (ha pos pins s σ H _ I h) fun us s1 ⟨vs,H1,I1,r,q⟩ => ⟨I1.kIn,?_⟩) he hpl
 have r2:Vals vs (us ++ []):=by rw [List.append_nil]; exact r
 have hl:(us ++ []).length = ps.length:=by rw [← r2.length]; exact F.len _ _ _ _ q
 refine wpAny_call (codeAny_mono (F.run X.A X.stack s1 H1 ⟨us,[]⟩ (us ++ []) vs Q (W σ) hr I1.env0 (hb s1 us I1.kIn hl) r2 q) fun r s' hq => ?_)
 cases r with
 | error e => exact xo.fly pins σ H1 s1 e s' I1 hq
 | ok fl =>
  cases fl with
  | ret u => exact I1.after hq
  | next => exact False.elim hq
  | brk => exact False.elim hq
  | cont => exact False.elim hq
end
open PySem.Calls
section
variable {prog:Program} {w:World} {A:Around} {E:Value→Shared→Prop} {s:Shared} {K:PySem.W.Frag} {x D:Addr} {ox:Obj} {od:Option Obj} {name:Str}
structure ExcCls (K:PySem.W.Frag) (D:Addr):Prop where
 ga:PySem.W.findIn K (.ref D) "__getattribute__" = some (some (.builtin "BaseException.__getattribute__"))
 gn:PySem.W.findIn K (.ref D) "__getattr__" = some none
 be:PySem.W.mroIn K D (.type "BaseException") = some true
 ob:PySem.W.mroIn K D (.type "object") = some true
 cl:PySem.W.findIn K (.ref D) "__class__" = some (some (.builtin "object.__class__"))
 gt:PySem.W.specialIn K (.builtin "object.__class__") "__get__" = some (some (.builtin "getset_descriptor.__get__"))
 tk:PySem.W.takesIn K (.builtin "object.__class__") = some true
def TyAt (D x:Addr) (h:Heap):Prop:=∃ ox,h.get? x = some ox∧ox.cls = .ref D
theorem TyAt.looks {M:Model} {h:Heap} (p:TyAt D x h):PySem.W.Looks M h (typeOf (.ref x)) (.ref D):=by
 obtain ⟨o,h1,h2⟩:=p
 exact h2 ▸ (PySem.W.Looks.ld h1).andThen .now
open PySem.W Builtin Builtin.ObjectAttr Builtin.Getset_descriptor in
theorem JP {R:Result→Shared→Prop} {tp:Value} (X:K.In s.heap) (I:TyAt D x s.heap) (hm:PySem.W.mroIn K D (.type "object") = some true) (h:R (.ok (.ret (.ref D))) s) :
  codeAny (model prog w) A (.call (.builtin "getset_descriptor.__get__") ⟨[.builtin "object.__class__",.ref x,tp],[]⟩) R s:=by
 obtain ⟨hh,gg,dd,tt,oo⟩:=s
 have L0:=I.looks (M:=model prog w)
 have L1:=PySem.W.looks_mroIn (M:=model prog w) X hm
 refine codeAny_call_builtin
  KF.slot_gs.plain KF.entry_gs (KF.slot_gs.check _ _ _ _ _ _ _ _
   KF.type_class (KF.args_gs _ _ _) ?_)
 unfold Builtin.«getset_descriptor.__get__»
  descrGet
 rw [dga_obj]
 refine wpAny_bind (wpAny_pure ?_)
 unfold descrGetter descrCheckInstance
  descrNameAndClass isInstance
 simp only [KF.owner_class]
 repeat lk
 refine ⟨Code.quiet_builtin _
  (by decide +kernel),codeAny_builtin KF.entry_class ?_⟩
 unfold Builtin.«object.__class__» shownTypeOf
 repeat lk
 exact h
theorem ExcCls.find {M:Model} {h:Heap} (c:ExcCls K D) (X:K.In h):PySem.W.Looks M h (Builtin.ObjectAttr.find (.ref x) (.ref D) "__class__") (.bind (.builtin "getset_descriptor.__get__") (.builtin "object.__class__")):=by
 have L1:=PySem.W.looks_findIn (M:=M) X c.cl
 have L2:PySem.W.Looks M h (Builtin.ObjectAttr.getOf (some (.builtin "object.__class__"))) (some (.builtin "getset_descriptor.__get__")):=PySem.W.looks_specialIn X c.gt
 have L3:=PySem.W.looks_takesIn (M:=M) X c.tk
 refine L1.andThen (L2.andThen ?_)
 exact (show PySem.W.Looks M h (Builtin.ObjectAttr.dataDescriptor? (some (.builtin "object.__class__")) (some (.builtin "getset_descriptor.__get__"))) (some (.builtin "getset_descriptor.__get__",.builtin "object.__class__"))
  from L3.andThen .now).andThen (PySem.W.Looks.tag .now)
theorem LQ {Q:Option Value→Shared→Prop} (c:ExcCls K D) (X:K.In s.heap) (I:TyAt D x s.heap) (h:Q (some (.ref D)) { s with toks:=s.toks + 1 }):wpAny (model prog w) A (getAttr? (.ref x) "__class__") Q E s:=by
 obtain ⟨hh,g,d,t,os⟩:=s
 have L0:=I.looks (M:=model prog w)
 have L1:=PySem.W.looks_findIn (M:=model prog w) X c.ga
 have L2:=PySem.W.looks_findIn (M:=model prog w) X c.gn
 have L3:=PySem.W.looks_mroIn (M:=model prog w) X c.be
 have L4:=c.find (x:=x) (M:=model prog w) X
 have hb:bindSpecial (.builtin "BaseException.__getattribute__") (.ref x) = pure (.builtin "BaseException.__getattribute__",[.ref x]):=PySem.F.excAttr_ValueError.ga.bind _
 have hk:builtinKind "BaseException.__getattribute__" = some .slot:=by decide +kernel
 have hsplit:splitId "BaseException.__getattribute__" = some ("BaseException","__getattribute__"):=by decide +kernel
 have hx2:(Value.builtin "BaseException.__getattribute__" == Value.builtin "object.__getattribute__") = false:=by decide +kernel
 unfold getAttr? getAttrBy? getAttrBy
 refine wpAny_bind (wpAny_mkText (wpAny_bind (wpAny_attempt (wpAny_holding (wpAny_bind (L0.at (wpAny_bind (L1.at ?_))))))))
 dsimp only
 rw [hx2,Bool.and_false,if_neg Bool.false_ne_true]
 unfold getAttrByItsOwn hookBefore
 refine wpAny_bind (L2.at ?_)
 refine wpAny_bind (wpAny_attempt (wpAny_holding ?_))
 unfold callGetattribute boundAndCalled
 rw [hb]
 show wpAny _ _ (call (.builtin "BaseException.__getattribute__") [.ref x,.str "__class__" t]) _ _ _
 refine wpAny_call (codeAny_call_builtin PySem.F.excAttr_ValueError.ga.plain PySem.F.entry_bexc_ga ?_)
 have ha:=PySem.F.args_bexc_ga (.ref x) (.str "__class__" t)
 simp only [checkBuiltinCall,hk,hsplit]
 refine wpAny_bind ?_
 unfold isInstance
 refine wpAny_bind (L0.at (L3.at ?_))
 rw [if_neg (by decide)]
 refine wpAny_of_eq ha ?_
 show wpAny _ _ (typeOf (.ref x) >>= fun tp => Builtin.ObjectAttr.find (.ref x) tp "__class__" >>= _) _ _ _
 refine wpAny_bind (L0.at (wpAny_bind (L4.at ?_)))
 show wpAny _ _ ((holding [.builtin "object.__class__"] (call (.builtin "getset_descriptor.__get__") [.builtin "object.__class__",.ref x,.ref D])) >>= ret) _ _ _
 refine wpAny_bind (wpAny_holding (wpAny_call (JP (s:=⟨hh,g,d,t + 1,os⟩) X I c.ob ?_)))
 exact wpAny_pure (wpAny_pure (wpAny_pure h))
theorem ExcCls.isTy {M:Model} {h:Heap} (c:ExcCls K D) (X:K.In h):PySem.W.Looks M h (isType (.ref D)) true:=by
 obtain ⟨cd,hc,_⟩:=Option.bind_eq_some_iff.mp (show (PySem.W.clsIn K D).bind _ = some true from c.be)
 unfold PySem.W.clsIn at hc
 split at hc
 ·rename_i c' d' cd' sl' ho
  intro A' Q' E' s' k q
  unfold isType loadHead
  exact wpAny_bind (wpAny_loadPart (k _ _ (X _ _ ho)) (wpAny_pure q))
 ·cases hc
theorem Me (c:ExcCls K D):PySem.W.KitX K (.ref x) (.ref D) (TyAt D x) where
 ty:=fun _ _ _ I => I.looks
 it:=fun _ _ X _ => c.isTy X
 ne:=fun h tp dd its n sl X htp => by
  refine Bool.eq_false_iff.mpr fun q => ?_
  have e:D = tp:=Value.ref.inj (beq_iff_eq.mp q)
  subst e
  obtain ⟨cd,hc,_⟩:=Option.bind_eq_some_iff.mp (show (PySem.W.clsIn K D).bind _ = some true from c.be)
  unfold PySem.W.clsIn at hc
  split at hc
  ·rename_i c' d' cd' sl' ho
   have z:=(X _ _ ho).symm.trans htp
   cases z
  ·cases hc
 ca:=fun X I k => LQ c X I k
end
def DE (D x:Addr):HO:=.ext (TyAt D x)
theorem KP {P:Program} {w:World} {H:Hp} {h:Heap} {D x:Addr} (p:TyAt D x h):ObjOk P w H h x (DE D x):=by
 refine ⟨p,?_,fun h1 h2 q k => ?_⟩
 ·obtain ⟨o,e,_⟩:=p
  exact ⟨o,e⟩
 ·obtain ⟨o,e,c⟩:=q
  exact ⟨o,k o e,c⟩
theorem JQ {X:Cx} {pins:List (Addr × Obj)} {σ:St} {H:Hp} {s:Shared} {A:Around} {E:Value→Shared→Prop} {Q:Value→Shared→Prop} {c:Value} {b:Bool} {D x:Addr} (I:Inv X pins σ H s) (hx:Rd H x (DE D x)) (k:ExcCls X.K D)
  (e:PySem.W.kitOne X.K (.ref D) c = some b) (h:∀ tk,Q (.bool b) { s with toks:=tk }):wpAny (model X.prog X.w) A (call (.builtin "isinstance") [.ref x,c]) Q E s:=by
 obtain ⟨p,_,_⟩:=(show ObjOk X.prog X.w H s.heap x (DE D x) from hx.ok I.hok)
 exact PySem.W.kia_one (Me k) I.kIn p e (fun z => nomatch z) h
abbrev EU:List Value:=[.type "ValueError",.type "Exception",.type "BaseException",.type "object"]
theorem Oq {K:PySem.W.Frag} {h:Heap} {C:Addr} {bmB:List Value} {newId:String} (X:K.In h) (q:PySem.W.excIn K C bmB newId = true) :
  ∃ bm N nm qn bs hdct sn sub ab col dd k0 k1 k2 k3 k5 mN,h.get? C = some (excClassObj nm qn C N bs bm hdct sn sub ab col dd k0 k1 k2 k3 k5 newId)∧h.Ns N mN∧mN "__init__" = none∧OwnTail h bmB bm:=by
 unfold PySem.W.excIn at q
 split at q
 ·rename_i dd cd sl ho
  split at q
  ·rename_i C' bm k0 k1 k2 k3 n k5 hm hs
   simp only [Bool.and_eq_true,beq_iff_eq,
    Bool.not_eq_true'] at q
   obtain ⟨⟨⟨⟨⟨e1,e2⟩,hdel⟩,ht⟩,hok⟩,hni⟩:=q
   subst e1 e2
   obtain ⟨nm,bs,mro,ns,qn,hd,sn,sub,ab,col,del⟩:=cd
   dsimp only at hm hdel hok hni
   subst hm hdel
   have hsl:sl = #[k0,k1,k2,k3,some (.builtin n),k5]:=by
    obtain ⟨l⟩:=sl
    simp only at hs
    rw [hs]
   subst hsl
   exact ⟨bm,ns,nm,qn,bs,hd,sn,sub,ab,col,dd,k0,k1,k2,k3,k5,_,X _ _ ho,
    .of_isNs (PySem.W.isNs_of_in X hok),PySem.W.nsMap_none_of_in X hok hni,PySem.W.tail_of_in X ht⟩
  ·cases q
 ·cases q
theorem IM {M:Model} {A:Around} {E:Value→Shared→Prop} {s:Shared} {K:PySem.W.Frag} {C B x:Addr} {b:Bool} {Q:Bool→Shared→Prop} (X:K.In s.heap) (p:TyAt C x s.heap) (k:PySem.W.kitCls K (.ref C) (.ref B) = some b)
  (hb:PySem.W.mroIn K B (.type "BaseException") = some true) (h:Q b s):wpAny M A (excMatches (.ref x) (.ref B)) Q E s:=by
 obtain ⟨L1,L2,L3⟩:=PySem.W.kit_cls (M:=M) X k
 have L4:=PySem.W.looks_mroIn (M:=M) X hb
 have L0:=p.looks (M:=M)
 have f:=tc_notTuple
 obtain ⟨hh,g,d,t,os⟩:=s
 unfold excMatches isInstance isExcClass
 refine wpAny_bind (wpAny_bind (L1.at ?_))
 rw [f]
 refine wpAny_pure ?_
 rw [if_neg Bool.false_ne_true]
 refine wpAny_bind (wpAny_pure ?_)
 simp only [List.forIn_cons,List.forIn_nil]
 refine wpAny_bind (wpAny_bind (wpAny_bind (wpAny_bind (L2.at ?_))))
 rw [if_pos rfl]
 refine L4.at ?_
 rw [if_neg (by decide)]
 refine wpAny_pure (wpAny_pure (wpAny_bind (L0.at (wpAny_bind (wpAny_bind (wpAny_bind (L3.at ?_)))))))
 cases b with
 | true =>
  rw [if_pos rfl]
  exact wpAny_pure (wpAny_pure (wpAny_pure h))
 | false =>
  rw [if_neg Bool.false_ne_true]
  exact wpAny_pure (wpAny_pure (wpAny_pure h))
section
variable {X:Cx} {pins:List (Addr × Obj)} {σ:St} {H:Hp} {s:Shared}
theorem Inv.track {x:Addr} {o:HO} {vs:Array Value} (I:Inv X pins σ H s) (hx:H x = none) (hf:∃ ob,s.heap.get? x = some ob∧ob.data = .fields vs) (hs0:X.s₀.heap.get? x = none) (hp:∀ p∈X.pn ++ pins,p.1≠x)
  (ok:ObjOk X.prog X.w (upd H x o) s.heap x o):Inv X pins σ (upd H x o) s:=by
 obtain ⟨ob,eob,dob⟩:=hf
 have ne:∀ b u,H b = some u→b≠x:=fun b u e z => by rw [z,hx] at e; cases e
 have hL:X.env.locals≠x:=fun z => by
  obtain ⟨m,⟨o',es,ep,ho',hd',_⟩,_⟩:=I.loc
  rw [z,eob] at ho'; cases ho'; rw [dob] at hd'; cases hd'
 have hC:∀ y c,X.env.cells.lookup y = some c→c≠x:=fun y c e z => by
  obtain ⟨v,o',ho',hd'⟩:=I.cell y c e
  rw [z,eob] at ho'; cases ho'; rw [dob] at hd'; cases hd'
 refine ⟨I.ok,I.os,I.bare,⟨I.base.keep,I.base.slot,fun b o e n hb => ?_,I.base.there,fun b xs e => ?_,fun b o u e => ?_,fun b ps e => ?_⟩,I.loc,I.cell,?_,fun y c e => ?_,fun p hp' => ?_,fun b u e => ?_,I.len⟩
 ·have nb:b≠x:=fun z => by rw [z,hs0] at e; cases e
  rw [AD nb]
  exact I.base.free b o e n hb
 ·have q:=I.base.tups b xs e
  rw [AD (ne b _ q)]
  exact q
 ·have q:=I.base.frzs b o u e
  rw [AD (ne b _ q)]
  exact q
 ·obtain ⟨more,q⟩:=I.base.tbls b ps e
  exact ⟨more,by rw [AD (ne b _ q)]; exact q⟩
 ·rw [AD hL]; exact I.free
 ·rw [AD (hC y c e)]; exact I.freeC y c e
 ·obtain ⟨e,n,r⟩:=I.pin p hp'
  exact ⟨e,by rw [AD (hp p hp')]; exact n,r⟩
 ·by_cases hb:b = x
  ·subst hb
   rw [AG] at e; cases e
   exact ok
  ·rw [AD hb] at e
   exact (I.hok b u e).stay (fun _ _ _ q => q) (fun c q => by rw [AD (ne c _ q)]; exact q) fun c xs q => by rw [AD (ne c _ q)]; exact q
theorem Inv.gone {i:Nat} {n:Str} {pos:Pos} {M:Model} {A:Around} {E:Value→Shared→Prop} {Q:Unit→Shared→Prop} (I:Inv X pins σ H s) (hN:X.N.Nodup) (hi:X.N[i]? = some n) (hk:X.env.scope.names.lookup n = some .local)
  (h:∀ s',Inv X pins (σ.set i none) H s'→Q () s'):wpAny M A (do bindName X.env n .none; unbindBehindTheSuite X.env n pos) Q E s:=by
 obtain ⟨m,hn,hl⟩:=id I.loc
 have hcls:(X.env.scope.kind == .class || (X.env.scope.kind == .module && X.env.locals != X.env.globals)) = false:=by rw [I.ok.kind]; rfl
 have cne:=I.cne
 refine wpAny_nameGoes_keeps hk hn hcls fun h' v hn' hs => ?_
 obtain ⟨oL,_,_,hoL,_⟩:=id hn
 have old:∀ b o,X.s₀.heap.get? b = some o→b≠X.env.locals:=fun b o e => Nat.ne_of_lt (Nat.lt_of_lt_of_le (Heap.lt_size e) I.ok.above)
 refine h _ ⟨I.ok,I.os,I.bare,⟨fun b o e n hb hx => ?_,fun b o e n hb hx => ?_,I.base.free,fun b o e hx => ?_,I.base.tups,I.base.frzs,I.base.tbls⟩,⟨_,hn',fun j y v' e1 e2 e3 => ?_⟩,fun y c e => ?_,I.free,I.freeC,fun p hp => ?_,fun b u e => ?_,by simpa using I.len⟩
 ·exact (hs.2 b (old b o e)).trans (I.base.keep b o e n hb hx)
 ·obtain ⟨sl,e1⟩:=I.base.slot b o e n hb hx
  exact ⟨sl,(hs.2 b (old b o e)).trans e1⟩
 ·obtain ⟨o',e1⟩:=I.base.there b o e hx
  exact ⟨o',(hs.2 b (old b o e)).trans e1⟩
 ·by_cases hj:j = i
  ·subst hj
   have hiσ:j < σ.length:=by rw [I.len]; exact (List.getElem?_eq_some_iff.mp hi).1
   rw [List.getElem?_set_self hiσ] at e2
   cases e2
  ·rw [List.getElem?_set_ne (Ne.symm hj)] at e2
   obtain ⟨u',r',q⟩:=hl j y v' e1 e2 e3
   refine ⟨u',r',?_⟩
   rcases q with ⟨k,e⟩ | ⟨k,c,e,z⟩
   ·refine .inl ⟨k,?_⟩
    have:y≠n:=fun e => hj (Eo hN e1 (e ▸ hi))
    simp [this,e]
   ·exact .inr ⟨k,c,e,z.sameBut hs (cne y c e)⟩
 ·obtain ⟨w',z⟩:=I.cell y c e
  exact ⟨w',z.sameBut hs (cne y c e)⟩
 ·obtain ⟨e,n,ne,nf,d⟩:=I.pin p hp
  exact ⟨(hs.2 p.1 ne).trans e,n,ne,nf,d⟩
 ·refine (I.hok b u e).stay (fun c w' hc q => (hs.2 c ?_).trans q) (fun _ q => q) fun _ _ q => q
  rintro rfl
  rcases hc with rfl | hc
  ·rw [I.free] at e; cases e
  ·rw [I.free] at hc; cases hc
end
theorem Fly.un' {P:Program} {w:World} {outer:List Env} {H H':Hp} {s s':Shared} {x t:Addr} {cls:Value} {B h':Heap} (F:Fly P w outer H s H' x cls s') (b1:∀ b,H' b≠none→∃ o,B.get? b = some o) (b2:∀ b o,s.heap.get? b = some o→b ∉ Dl outer→∃ o',B.get? b = some o')
  (fl:Heap.FlyingW B outer x (GG cls) (.ref t) s'.heap) (st:B.StaysIn h') (up:s'.heap.UpToSlots h'):Un (Dl outer) [] H H' s.heap h'∧HOk P w H' h':=by
 have same:∀ b o o',B.get? b = some o'→s'.heap.get? b = some o→h'.get? b = some o:=fun b o o' e1 e2 => by
  have q:=fl.1 b o' e1
  rw [e2] at q; cases q
  exact st b o e1
 have fsm:∀ b o,b∈Dl outer→s'.heap.get? b = some o→∃ sl,h'.get? b = some { o with slots:=sl }:=fun b o hb e => by
  obtain ⟨_,o',e',hd⟩:=fl.2.2.1.mem hb
  rw [e] at e'; cases e'
  exact up b o e hd
 refine ⟨⟨fun b o e n hb hx => ?_,fun b o e n hb hx => ?_,F.un.free,fun b o e hx => ?_,F.un.tups,F.un.frzs,F.un.tbls⟩,F.hok.by_keep fun b o hb e => ?_⟩
 ·obtain ⟨o',e'⟩:=b2 b o e hb
  exact same b o o' e' (F.un.keep b o e n hb hx)
 ·obtain ⟨sl,e1⟩:=F.un.slot b o e n hb hx
  obtain ⟨sl',e2⟩:=fsm b _ hb e1
  exact ⟨sl',e2⟩
 ·obtain ⟨o1,e1⟩:=F.un.there b o e hx
  by_cases hb:b∈Dl outer
  ·obtain ⟨sl,e2⟩:=fsm b o1 hb e1
   exact ⟨_,e2⟩
  ·obtain ⟨o',e'⟩:=b2 b o e hb
   exact ⟨o',st b o' e'⟩
 ·obtain ⟨o',e'⟩:=b1 b hb
  exact same b o o' e' e
def Bn (X:Cx) (pins:List (Addr × Obj)) (E':Value→Shared→Prop):Cx:={ X with pn:=X.pn ++ pins,xe:=E' }
structure TryIs (X X':Cx):Prop where
 is:∃ pins E',X' = Bn X pins E'
def QG (X:Cx) (x:Addr):Cx:={ X with A:=X.A.mark (some (.ref x)),calm:=false,xe:=fun _ _ => False }
section
variable {X:Cx} {pins pins':List (Addr × Obj)} {σ:St} {H:Hp} {s:Shared} {E':Value→Shared→Prop} {x:Addr}
theorem Cx.Ok.toTry (ok:X.Ok):(Bn X pins E').Ok :=
 ⟨ok.mod,ok.kind,ok.glob,ok.blt,ok.above,ok.inj,ok.has,ok.cab,ok.hd,ok.frames,ok.stk,ok.exf,ok.bs,ok.bsz,ok.noex,ok.exfs,ok.funs,ok.frf⟩
theorem Cx.Ok.ofTry (ok:(Bn X pins E').Ok):X.Ok :=
 ⟨ok.mod,ok.kind,ok.glob,ok.blt,ok.above,ok.inj,ok.has,ok.cab,ok.hd,ok.frames,ok.stk,ok.exf,ok.bs,ok.bsz,ok.noex,ok.exfs,ok.funs,ok.frf⟩
theorem Cx.Ok.toH (ok:X.Ok):(QG X x).Ok :=
 ⟨ok.mod,ok.kind,ok.glob,ok.blt,ok.above,ok.inj,ok.has,ok.cab,fun (e:false = true) => (Bool.false_ne_true e).elim,ok.frames,ok.stk,ok.exf,ok.bs,ok.bsz,ok.noex,ok.exfs,ok.funs,ok.frf⟩
theorem Inv.toTry (I:Inv X pins σ H s):Inv (Bn X pins E') [] σ H s :=
 ⟨I.ok.toTry,I.os,I.bare,I.base,I.loc,I.cell,I.free,I.freeC,fun p hp => I.pin p (by rw [List.append_nil] at hp; exact hp),I.hok,I.len⟩
theorem Inv.ofTry (I:Inv (Bn X pins E') pins' σ H s):Inv X pins σ H s :=
 ⟨I.ok.ofTry,I.os,I.bare,I.base,I.loc,I.cell,I.free,I.freeC,fun p hp => I.pin p (List.mem_append_left _ hp),I.hok,I.len⟩
theorem Inv.toH (I:Inv X pins σ H s):Inv (QG X x) pins σ H s:=⟨I.ok.toH,I.os,I.bare,I.base,I.loc,I.cell,I.free,I.freeC,I.pin,I.hok,I.len⟩
theorem Inv.ofH (ok:X.Ok) (I:Inv (QG X x) pins σ H s):Inv X pins σ H s:=⟨ok,I.os,I.bare,I.base,I.loc,I.cell,I.free,I.freeC,I.pin,I.hok,I.len⟩
theorem SP.ofTry {D:Ends} {f:Flow} {s':Shared} (h:SP (Bn X pins E') [] D f s'):SP X pins D f s':=by
 cases f with
 | next => obtain ⟨σ',H',I,q⟩:=h; exact ⟨σ',H',I.ofTry,q⟩
 | brk => obtain ⟨σ',H',I,q⟩:=h; exact ⟨σ',H',I.ofTry,q⟩
 | cont => obtain ⟨σ',H',I,q⟩:=h; exact ⟨σ',H',I.ofTry,q⟩
 | ret u => obtain ⟨v,σ',H',I,r,q⟩:=h; exact ⟨v,σ',H',I.ofTry,r,q⟩
end
def QH (i:Nat) (D:Ends):Ends:={ nx:=fun σ H => D.nx (σ.set i none) H,rt:=D.rt,bk:=fun σ H => D.bk (σ.set i none) H,ct:=fun σ H => D.ct (σ.set i none) H }
theorem KD.heap {M:Model} {A:Around} {Q:Unit→Shared→Prop} {E:Value→Shared→Prop} {s:Shared} {t:Sem Unit} {R:Heap→Prop} (h:KD t) (q:wpAny M A t (fun _ s' => R s'.heap∧s' = { s with heap:=s'.heap }) E s) (k:∀ h',R h'→DK s.heap h'→Q () { s with heap:=h' }):wpAny M A t Q E s :=
 wpAny_mono (h.any q) (fun _ s' ⟨⟨r,e⟩,d⟩ => by rw [e]; exact k _ r d) fun _ _ z => z
def HK (cls:Value) (C x:Addr) (H:Hp) (o:HO):Prop:=(cls = .ref C∧o = DE C x)∨∃ fs ox dx vs,cls = .str fs C∧o = .frz ox (DE C x)∧ox = ⟨.ref C,some dx,.fields vs,ox.slots⟩∧H dx = some (Hs dx (QF fs))
def WT (K:PySem.W.Frag) (B:Addr) (i:Nat) (th:TS) (D:Ends):St→XK:=fun σ cls _ H => ∃ C,(cls = .ref C∨∃ fs,cls = .str fs C)∧PySem.W.kitCls K (.ref C) (.ref B) = some true∧∀ x o,H x = none→HK cls C x H o→th (QH i D) (σ.set i (some (.ref x))) (upd H x o)
def Uu (tb:(St→XK)→TS) (K:PySem.W.Frag) (B:Addr) (i:Nat) (th:TS):TS:=fun D σ H => tb (WT K B i th D) D σ H
theorem Mf {X:Cx} {body suite:List Stmt} {b₀:Stmt} {n x:Str} {i:Nat} {B:Addr} {np hpos pos:Pos} {tb:(St→XK)→TS} {th:TS} (hst:X.stack = X.env :: X.outer) (hex:X.ex = []) (hfr:X.env.frame = some X.env.locals) (hN:X.N.Nodup) (hi:X.N[i]? = some n)
  (hk:X.env.scope.names.lookup n = some .local) (hg:Gl X x) (hm:X.mg x = some (.ref B)) (hbe:PySem.W.mroIn X.K B (.type "BaseException") = some true)
  (hb:∀ (W:St→XK) (X':Cx),TryIs X X'→XFly X' W→PSs X' body (tb W)) (hh:∀ y,PSs (QG X y) (b₀ :: suite) th) (hd:(x == ("__debug__" : Str)) = false:=by decide) :
  PS X (.Try body [.ExceptHandler (some (.Name x np)) (some n) (b₀ :: suite) hpos] [] [] pos) (Uu tb X.K B i th):=by
 intro pins s σ H D I h
 refine wpAny_Try_except ?_
 generalize hXE:(fun (e:Value) (s₁:Shared) => wpAny (model X.prog X.w) X.A (noteFrame e X.env) (fun _ s₂ => wpAny (model X.prog X.w) X.A (setFlight e none) (fun _ s₃ => wpAny (model X.prog X.w) X.A (handleBy e X.env [.ExceptHandler (some (.Name x np)) (some n) (b₀ :: suite) hpos]) (SP X pins D) X.xe s₃) X.xe s₂) X.xe s₁) = XE
 have xf:XFly (Bn X pins XE) (WT X.K B i th D):=by
  refine ⟨fun pins' σ1 H1 s1 e s2 I1 c => ?_⟩
  obtain ⟨y,cls,H2,rfl,F,C,hcls,kc,hq⟩:=c
  have hco:GG cls = .ref C:=by rcases hcls with rfl | ⟨fs,rfl⟩ <;> rfl
  obtain ⟨B',t,b1,b2,fl⟩:=F.fly
  rw [hco] at fl
  have flx:Heap.FlyingW B' (Bn X pins XE).stack y (GG cls) (.ref t) s2.heap:=by rw [hco]; exact fl
  have fl':Heap.FlyingW B' (X.env :: X.outer) y (.ref C) (.ref t) s2.heap:=hst ▸ (show Heap.FlyingW B' X.stack y (.ref C) (.ref t) s2.heap from fl)
  have frA:X.A.frames = some (X.env :: X.outer):=hst ▸ I.ok.frames
  have inv_at:∀ hp:Heap,B'.StaysIn hp→s2.heap.UpToSlots hp→Inv X pins σ1 H2 { s2 with heap:=hp }:=fun hp st up => by
   obtain ⟨u,ho⟩:=F.un' b1 b2 flx st up
   exact Inv.ofTry (I1.call' (s':={ s2 with heap:=hp }) (ch:=[]) F.os u ho F.bare fun b z => absurd z (by simp))
  show XE (.ref y) s2
  rw [← hXE]
  refine KD.heap (KO _ _) (R:=fun h4 => Heap.HeldW B' (X.env :: X.outer) y (.ref C) (.ref t) X.env.locals h4∧s2.heap.UpToSlots h4) (wpAny_looks_onW frA hfr fl' fun h4 a b => ⟨⟨a,b⟩,rfl⟩) fun h4 ⟨held4,up4⟩ dk4 => ?_
  refine KD.heap (CC _ _) (R:=fun h5 => Heap.FlyingW B' (X.env :: X.outer) y (.ref C) (.ref t) h5∧h4.UpToSlots h5) (wpAny_landsW held4 fun h5 a b => ⟨⟨a,b⟩,rfl⟩) fun h5 ⟨fl5,up5⟩ dk5 => ?_
  have up5':=up4.trans up5
  have I5:=inv_at h5 fl5.1 up5'
  refine wpAny_handleBy_cons (codeAny_handlers_test ?_) (by intro q; cases q)
  refine DN (X:=QG X y) I5.toH hg hm ?_ hd
  refine IM (K:=X.K) I5.kIn fl5.there kc hbe ?_
  refine codeAny_handlers_suite_as ?_
  refine KD.heap (CC _ _) (R:=fun h6 => Heap.FlyingW B' (X.env :: X.outer) y (.ref C) (.ref t) h6∧h5.UpToSlots h6) (lands_againW fl5 fun h6 a b => ⟨⟨a,b⟩,rfl⟩) fun h6 ⟨fl6,up6⟩ dk6 => ?_
  have I6:=inv_at h6 fl6.1 (up5'.trans up6)
  have hyB:B'.get? y = none:=fl.2.1
  have nofr:∀ b o,s1.heap.get? b = some o→b ∉ Dl X.stack→b≠y:=fun b o e hb z => by
   obtain ⟨o',e'⟩:=b2 b o e hb
   rw [z,hyB] at e'; cases e'
  obtain ⟨oe,vs,eoe,_,doe,_⟩:=fl.first
  have yfr:y ∉ Dl X.stack:=fun z => by
   obtain ⟨_,o',e',hd'⟩:=fl.2.2.1.mem (show y∈(Bn X pins XE).stack.filterMap (·.frame) from z)
   rw [eoe] at e'; cases e'
   exact hd' vs doe
  have hs0:X.s₀.heap.get? y = none:=by
   cases e:X.s₀.heap.get? y with
   | none => rfl
   | some o =>
    have exf:y ∉ X.ex:=by rw [hex]; simp
    obtain ⟨o1,e1⟩:=I1.base.there y o e exf
    exact absurd rfl (nofr y o1 e1 yfr)
  obtain ⟨oe6,vs6,eoe6,coe6,doe6,_⟩:=fl6.first
  have hk:∃ o,HK cls C y H2 o∧ObjOk X.prog X.w (upd H2 y o) h6 y o:=by
   rcases hcls with rfl | ⟨fs,rfl⟩
   ·exact ⟨_,.inl ⟨rfl,rfl⟩,KP fl6.there⟩
   ·obtain ⟨ox,dx,e1,e2,e3⟩:=F.dic fs C rfl
    have z:=(DK.trans dk4 (DK.trans dk5 dk6)).at_ e1 eoe6
    refine ⟨.frz oe6 (DE C y),.inr ⟨fs,oe6,dx,vs6,rfl,rfl,?_,e3⟩,eoe6,KP fl6.there⟩
    obtain ⟨c6,d6,da6,sl6⟩:=oe6
    rw [show d6 = some dx from z.trans e2,show c6 = .ref C from coe6,show da6 = .fields vs6 from doe6]
  obtain ⟨o,hk1,hk2⟩:=hk
  have I7:Inv X pins σ1 (upd H2 y o) { s2 with heap:=h6 }:=I6.track F.fr ⟨oe6,eoe6,doe6⟩ hs0 (fun p hp => by
   obtain ⟨e,_,nl,nf,_⟩:=I1.pin p (List.mem_append_left _ hp)
   exact nofr p.1 p.2 e fun z => (List.mem_cons.mp (I1.stkSub p.1 z)).elim nl nf) hk2
  refine Ep (X:=QG X y) I7.toH hN hi (.inl hk) (v:=.ref y) rfl (fun s8 I8 => ?_) (.inr hk)
  refine wpAny_mono (hh y _ s8 _ _ (QH i D) I8 (hq y o F.fr hk1)) (fun f s9 hf => ?_) fun _ _ z => False.elim z
  cases f with
  | next => obtain ⟨σ9,H9,I9,q9⟩:=hf; exact (I9.ofH I.ok).gone hN hi hk fun s10 I10 => ⟨_,_,I10,q9⟩
  | brk => obtain ⟨σ9,H9,I9,q9⟩:=hf; exact (I9.ofH I.ok).gone hN hi hk fun s10 I10 => ⟨_,_,I10,q9⟩
  | cont => obtain ⟨σ9,H9,I9,q9⟩:=hf; exact (I9.ofH I.ok).gone hN hi hk fun s10 I10 => ⟨_,_,I10,q9⟩
  | ret u => obtain ⟨v,σ9,H9,I9,r,q9⟩:=hf; exact (I9.ofH I.ok).gone hN hi hk fun s10 I10 => ⟨v,_,_,I10,r,q9⟩
 have q:=hb _ (Bn X pins XE) ⟨_,_,rfl⟩ xf [] s σ H D I.toTry h
 refine wpAny_mono q (fun f s1 hf => ?_) fun e s1 he => he
 cases f with
 | next => exact wpAny_execs_nil (SP.ofTry (f:=.next) hf)
 | brk => exact SP.ofTry (f:=.brk) hf
 | cont => exact SP.ofTry (f:=.cont) hf
 | ret u => exact SP.ofTry (f:=.ret u) hf
structure RoomH (k:Nat) (A:Around):Prop where
 dp:A.depth + 3 * k + 5 < recursionLimit
 un:A.units + 16 * k + 200 < cLine
theorem Room.toH {k:Nat} {A:Around} {x:Value} (r:Room k A):RoomH k (A.mark (some x)):=⟨r.dp,r.un⟩
structure FnH (P:Program) (w:World) (K:PySem.W.Frag) (mg:Str→Option Value) (base:Heap) (k:Nat) (f:Addr) (fd:FuncData) (ps:List Str) (sp:Sp):Prop where
 len:∀ vs H Q E,sp vs H Q E→vs.length = ps.length
 run:∀ (A:Around) (outer:List Env) (s:Shared) (H:Hp) (args:Args) (us:List Value) (vs:List V) (Q:VK),RoomH k A→Env0 P w K mg base A outer s H→BindsTo s fd args (ps.zip us)→Vals vs us→sp vs H Q E0 →
  codeAny (model P w) A (.call (.ref f) args) (CR Ut outer P w H s Q E0) s
def Os (P:Program) (w:World) (K:PySem.W.Frag) (mg:Str→Option Value) (base:Heap) (N:List Str) (qual:Str) (scope:Scope) (f:Addr) (cd:Value) (A:Around) (outer:List Env) (s:Shared) (H:Hp):Cx :=
 { BY Ut P w K mg base N qual scope f cd A outer s H E0 with calm:=false,xe:=fun _ _ => False }
theorem Fun.okH {P:Program} {w:World} {K:PySem.W.Frag} {mg:Str→Option Value} {base:Heap} {x qual:Str} {st:Stmt} {f:Addr} {fd:FuncData} {N ps:List Str} {k:Nat} {sp:Sp} (F:Fun K x qual st f fd) (S:FnScope N ps (AA st))
  (len:∀ vs H Q E,sp vs H Q E→vs.length = ps.length)
  (hbody:∀ (cdv:Value) (A:Around) (outer:List Env) (s:Shared) (H:Hp) (vs:List V) (Q:VK),RoomH k (A.deeper (envOfC qual (AA st) s.heap.objs.size f cdv))→sp vs H Q E0 →
   ∃ t,PSs (Os P w K mg base N qual (AA st) f cdv A outer s H) (AT st) t∧t { nx:=fun _ H' => Q .non H',rt:=Q } (start N vs) H):FnH P w K mg base (k + 1) f fd ps sp:=by
 obtain ⟨oc,od,kV,doc,pm,an,cdv,ct,osl,rfl,lk,hcd⟩:=F.ex
 refine ⟨len,fun A outer s H args us vs Q hr e0 hb r hsp => ?_⟩
 have hl:=len _ _ _ _ hsp
 have KX:K.In s.heap:=e0.mod.kin.keeps fun b o e => (e0.bs b o e).1
 have lim:s.heap.NoLimit:=e0.mod.nolimit.keeps fun b o e => (e0.bs b o e).1
 have hkind:∀ y∈ps.zip us,(AA st).names.lookup y.1 = some .local∨((AA st).names.lookup y.1 = some .cell∧((cellsFrom (s.heap.objs.size + 1) (AA st).names []).lookup y.1).isSome = true):=fun ⟨n,v⟩ hy => by
  rcases S.par n (List.of_mem_zip hy).1 with q | q
  ·exact .inl q
  ·exact .inr ⟨q,PySem.W.cellsFrom_some _ _ _ (.inl q)⟩
 refine codeAny_call_function (by have:=hr.dp; omega) (KX _ _ lk) rfl S.co S.gen rfl (PySem.W.codeRec_of KX hcd) (hb _ _ _ _ ?_)
 refine wpAny_newFunctionEnv_cells S.kind hkind fun env he s1 x => ?_
 subst he
 refine ⟨lim.keeps x.toInCall.keep,codeAny_func ?_⟩
 obtain ⟨t,ht,hq⟩:=hbody cdv A outer s H vs Q ⟨by have:=hr.dp; show A.depth + 1 + 3 * k + 5 < _; omega,by have:=hr.un; show A.units + 3 + 16 * k + 200 < _; omega⟩ hsp
 have I0:Inv (BY Ut P w K mg base N qual (AA st) f cdv { A with handled:=none } outer s H E0) [] (start N vs) H s1 :=
  GC S rfl (⟨e0.frames,e0.mod,e0.bs,e0.bsz,e0.funs,e0.frf,e0.hok,e0.bare⟩:Env0 P w K mg base { A with handled:=none } outer s H) hl r x
 have I:Inv (Os P w K mg base N qual (AA st) f cdv A outer s H) [] (start N vs) H s1:=by
  have ok:=I0.ok
  exact ⟨⟨ok.mod,ok.kind,ok.glob,ok.blt,ok.above,ok.inj,ok.has,ok.cab,fun (e:false = true) => (Bool.false_ne_true e).elim,ok.frames,ok.stk,ok.exf,ok.bs,ok.bsz,ok.noex,ok.exfs,ok.funs,ok.frf⟩,I0.os,I0.bare,I0.base,I0.loc,I0.cell,I0.free,I0.freeC,I0.pin,I0.hok,I0.len⟩
 refine wpAny_mono (ht [] s1 (start N vs) H _ I hq) (fun fl s' hs => ?_) fun e s' hs => False.elim hs
 have fin:∀ {σ':St} {H':Hp} {v:V} {u:Value},Inv (Os P w K mg base N qual (AA st) f cdv A outer s H) [] σ' H' s'→RelV v u→Q v H'→CE outer P w H s Q u s' :=
  fun {σ' H' v u} J rv q => ⟨v,H',J.os,J.bare,J.base,J.hok,rv,q⟩
 cases fl with
 | ret u =>
  obtain ⟨v,σ',H',J,rv,q⟩:=hs
  exact fin J rv q
 | next =>
  obtain ⟨σ',H',J,q⟩:=hs
  exact fin (v:=V.non) (u:=Value.none) J rfl q
 | brk =>
  obtain ⟨_,_,_,q⟩:=hs
  exact False.elim q
 | cont =>
  obtain ⟨_,_,_,q⟩:=hs
  exact False.elim q
theorem Mh {X:Cx} {k:Nat} {f:Addr} {fd:FuncData} {ps:List Str} {sp:Sp} {x:Str} {p pos:Pos} {e:Expr} {es:List Expr} {t:TA} (F:FnH X.prog X.w X.K X.mg X.base k f fd ps sp) (hr:RoomH k X.A) (hg:Gl X x) (hm:X.mg x = some (.ref f)) (hk:PySem.W.keepIn X.K (.ref f) = true) (hb:Binds X.K fd ps [])
  (ha:PA X (e :: es) t) (hdb:(x == ("__debug__" : Str)) = false:=by decide) (he:starEach (e :: es) X.env = (false,eval e X.env) :: starEach es X.env:=by rfl) (hpl:(backTo pos (starEach es X.env)).any (·.1) = false:=by rfl) :
  PE X (.Call (.Name x p) (e :: es) [] pos) (Md sp (fun _ => E0) t):=by
 intro pins s σ H Q I h
 refine wpAny_Call_Name_kw (DN I hg hm ?_ hdb)
 refine PySem.W.callWith_K (h₀:=X.base) I.ok.mod.kin hk (Ac (ha pos pins s σ H _ I h) fun us s1 ⟨vs,H1,I1,r,q⟩ => ⟨I1.kIn,?_⟩) he hpl
 have r2:Vals vs (us ++ []):=by rw [List.append_nil]; exact r
 have hl:(us ++ []).length = ps.length:=by rw [← r2.length]; exact F.len _ _ _ _ q
 refine wpAny_call (codeAny_mono (F.run X.A X.stack s1 H1 ⟨us,[]⟩ (us ++ []) vs Q hr I1.env0 (hb s1 us I1.kIn hl) r2 q) fun r s' hq => ?_)
 cases r with
 | error e => exact False.elim hq
 | ok fl =>
  cases fl with
  | ret u => exact I1.after hq
  | next => exact False.elim hq
  | brk => exact False.elim hq
  | cont => exact False.elim hq
theorem Fun.okX {P:Program} {w:World} {K:PySem.W.Frag} {mg:Str→Option Value} {base:Heap} {x qual:Str} {st:Stmt} {f:Addr} {fd:FuncData} {N ps:List Str} {k:Nat} {sp:Sp} (F:Fun K x qual st f fd) (S:FnScope N ps (AA st)) (len:∀ vs H Q E,sp vs H Q E→vs.length = ps.length)
  (hbody:∀ (cdv:Value) (A:Around) (outer:List Env) (s:Shared) (H:Hp) (vs:List V) (Q:VK) (E:XK),Room k (A.deeper (envOfC qual (AA st) s.heap.objs.size f cdv))→sp vs H Q E →
   ∃ t,PSs (BY (CXe P w) P w K mg base N qual (AA st) f cdv A outer s H E) (AT st) t∧t { nx:=fun _ H' => Q .non H',rt:=Q } (start N vs) H):FnOk P w K mg base (CXe P w) (k + 1) f fd ps sp:=by
 obtain ⟨oc,od,kV,doc,pm,an,cdv,ct,osl,rfl,lk,hcd⟩:=F.ex
 exact Sx lk hcd S len fun A outer s H vs Q E hr hsp => hbody cdv A outer s H vs Q E hr hsp
section
variable {X:Cx}
def Vh (K:PySem.W.Frag) (H:Hp) (x:V) (t:Value):Prop:=TyOf K H x t∨∃ a D,x = .ref a∧t = .ref D∧Rd H a (DE D a)∧ExcCls K D
def TK (K:PySem.W.Frag):List V→Hp→VK→Prop:=fun vs H Q => ∃ x c t cv b,vs = [x,c]∧RelV c cv∧Vh K H x t∧PySem.W.kitOne K t cv = some b∧Q (.bl b) H
theorem Az:Ay X (.builtin "isinstance") (TK X.K):=by
 intro pins s σ H xs us Q I r h
 obtain ⟨x,c,t,cv,b,rfl,rc,ty,e,q⟩:=h
 obtain ⟨u,w',rfl,rx,rw'⟩:=MS r
 have e2:w' = cv:=by
  cases c with
  | ty n => exact (show w' = Value.type n from rw').trans (show cv = Value.type n from rc).symm
  | ref a => exact (show w' = Value.ref a from rw').trans (show cv = Value.ref a from rc).symm
  | non => exact (show w' = Value.none from rw').trans (show cv = Value.none from rc).symm
  | bl b => exact (show w' = Value.bool b from rw').trans (show cv = Value.bool b from rc).symm
  | int i => exact absurd e (by obtain ⟨k,rfl⟩:=rc; unfold PySem.W.kitOne; rcases ty with ty | ⟨_,_,_,rfl,_⟩ <;> first | (cases ty <;> (intro z; simp [PySem.W.kitCls] at z)) | (intro z; simp [PySem.W.kitCls] at z))
  | str i => exact absurd e (by obtain ⟨k,rfl⟩:=rc; unfold PySem.W.kitOne; rcases ty with ty | ⟨_,_,_,rfl,_⟩ <;> first | (cases ty <;> (intro z; simp [PySem.W.kitCls] at z)) | (intro z; simp [PySem.W.kitCls] at z))
  | byt i => exact absurd e (by obtain ⟨k,rfl⟩:=rc; unfold PySem.W.kitOne; rcases ty with ty | ⟨_,_,_,rfl,_⟩ <;> first | (cases ty <;> (intro z; simp [PySem.W.kitCls] at z)) | (intro z; simp [PySem.W.kitCls] at z))
  | flt i => exact absurd e (by obtain ⟨k,rfl⟩:=rc; unfold PySem.W.kitOne; rcases ty with ty | ⟨_,_,_,rfl,_⟩ <;> first | (cases ty <;> (intro z; simp [PySem.W.kitCls] at z)) | (intro z; simp [PySem.W.kitCls] at z))
 subst e2
 rcases ty with ty | ⟨a,D,rfl,rfl,hx,k⟩
 ·exact LN I rx ty e fun tk => ⟨.bl b,H,I.tok tk,rfl,q⟩
 ·cases (show u = Value.ref a from rx)
  exact JQ I hx k e fun tk => ⟨.bl b,H,I.tok tk,rfl,q⟩
def RQ (K:PySem.W.Frag):V→List V→Hp→VK→Prop:=fun x vs H Q => ∃ l xs y,x = .ref l∧vs = [y]∧SqL K H l xs∧DA y = true∧xs.all DA = true∧Q (.int (xs.countP fun z => Iz z y)) H
theorem FD {x:V}:∀ {xs:List V} {us:List Value},Vals xs us→xs.all DA = true→us.countP (SX x) = xs.countP fun y => Iz y x
 | _,_,.nil,_ => rfl
 | y :: xs,u :: us,.cons r t,f => by
  rw [List.all_cons,Bool.and_eq_true] at f
  rw [List.countP_cons,List.countP_cons,JK r f.1,FD t f.2]
theorem Mi:US X "list.count" (RQ X.K):=by
 intro pins s σ H x vs v us Q I rx rv h
 obtain ⟨l,xs,y,rfl,rfl,hl,fy,fx,q⟩:=h
 cases rx
 obtain ⟨u,rfl,ru⟩:=rv.one
 obtain ⟨its,r,p,hz⟩:=I.list hl
 obtain ⟨⟨cls,dd,data,sl⟩,n,ho,hc,hdd,hd⟩:=id p
 simp only at hc hd
 subst hc hd
 refine call_meets F.slot_list_count ⟨_,ho,rfl⟩ F.entry_list_count (F.args_list_count_2 _ _) (SeqAt.list_countAt l its.toArray n dd sl u (SX y)) ⟨ho,fun z hz => Ey ru fy r fx z (by simpa using hz),?_⟩
 rw [show its.toArray.toList = its from rfl,FD r fx]
 exact ⟨.int _,H,I.tok _,⟨_,rfl⟩,q⟩
def RS (K:PySem.W.Frag):V→List V→Hp→VK→Prop:=fun x vs H Q => ∃ l xs y j,x = .ref l∧vs = [y]∧SqL K H l xs∧DA y = true∧xs.all DA = true∧(∃ z,xs[j]? = some z∧Iz z y = true)∧(∀ m z,m < j→xs[m]? = some z→Iz z y = false)∧Q (.int (j:Nat)) H
theorem Mj:US X "list.index" (RS X.K):=by
 intro pins s σ H x vs v us Q I rx rv h
 obtain ⟨l,xs,y,j,rfl,rfl,hl,fy,fx,⟨z,ez,hit⟩,hno,q⟩:=h
 cases rx
 obtain ⟨u,rfl,ru⟩:=rv.one
 obtain ⟨its,r,p,hz⟩:=I.list hl
 obtain ⟨⟨cls,dd,data,sl⟩,n,ho,hc,hdd,hd⟩:=id p
 simp only at hc hd
 subst hc hd
 have hlen:=r.length
 have hj:j < xs.length:=(List.getElem?_eq_some_iff.mp ez).1
 have at_:∀ m (hm:m < its.toArray.size) z,xs[m]? = some z→SX y its.toArray[m] = Iz z y:=fun m hm z e => by
  obtain ⟨w',e',rw'⟩:=r.get e
  have:its.toArray[m] = w':=by
   have:its[m]'(by simpa using hm) = w':=Option.some.inj (by rw [← e']; simp)
   simpa using this
  rw [this]
  exact JK rw' (List.all_eq_true.mp fx z (List.mem_of_getElem? e))
 refine call_meets F.slot_list_index ⟨_,ho,rfl⟩ F.entry_list_index (F.args_list_index_2 _ _)
  (SeqAt.list_indexAt l its.toArray n dd sl u (SX y) j (by simpa [← hlen] using hj) (by have:=Dp; omega) ?_ ?_) ⟨ho,fun z hz => Ey ru fy r fx z (by simpa using hz),⟨.int _,H,I.tok _,⟨_,rfl⟩,q⟩⟩
 ·rw [at_ j _ z ez]; exact hit
 ·intro m hm hlt
  have hmx:m < xs.length:=by omega
  rw [at_ m hm xs[m] (by simp [hmx])]
  exact hno m _ hlt (by simp [hmx])
end
end L2
namespace StT
local macro_rules | `(tactic| omega) => `(tactic| first | lia | omega)
open PySem PySem.SetTable
theorem JR:∀ (m:Nat) (l:List Nat),(∀ e,e < m→e∈l)→m≤l.length
 | 0,_,_ => Nat.zero_le _
 | m + 1,l,h => by
  have hm:m∈l:=h m (Nat.lt_succ_self m)
  have ih:=JR m (l.erase m) fun e he => by
   rw [List.mem_erase_of_ne (Nat.ne_of_lt he)]
   exact h e (Nat.lt_succ_of_lt he)
  rw [List.length_erase_of_mem hm] at ih
  have:0 < l.length:=List.length_pos_of_mem hm
  omega
theorem Dq:∀ (n:Nat) (l:List Nat),l.Nodup→(∀ x∈l,x < n)→l.length≤n
 | 0,[],_,_ => Nat.le_refl _
 | 0,x :: _,_,h => absurd (h x List.mem_cons_self) (Nat.not_lt_zero _)
 | n + 1,l,nd,h => by
  have ih:=Dq n (l.erase n) (nd.erase n) fun x hx => by
   have h1:=h x (List.mem_of_mem_erase hx)
   have h2:x≠n:=fun e => by
    subst e
    exact absurd hx (List.Nodup.not_mem_erase nd)
   omega
  by_cases hn:n∈l
  ·rw [List.length_erase_of_mem hn] at ih
   omega
  ·rw [List.erase_of_not_mem hn] at ih
   omega
def Ml (xs:Array Nat):Prop:=xs.toList.Pairwise (· < ·)
theorem FE {xs:Array Nat} (r:Ml xs) {i j:Nat} {x y:Nat} (hi:xs[i]? = some x) (hj:xs[j]? = some y) (h:i < j):x < y:=by
 obtain ⟨h1,rfl⟩:=Array.getElem?_eq_some_iff.mp hi
 obtain ⟨h2,rfl⟩:=Array.getElem?_eq_some_iff.mp hj
 have:=List.pairwise_iff_getElem.mp r i j (by simpa using h1) (by simpa using h2) h
 simpa using this
theorem HC {xs:Array Nat} {j:Nat}:∀ (fuel lo hi:Nat),hi - lo≤fuel→lo≤hi→hi≤xs.size→(∀ i x,i < lo→xs[i]? = some x→x < j)→(∀ i x,hi≤i→xs[i]? = some x→j≤x)→Ml xs →
  (below.go xs j fuel lo hi≤xs.size)∧(∀ i x,i < below.go xs j fuel lo hi→xs[i]? = some x→x < j)∧∀ i x,below.go xs j fuel lo hi≤i→xs[i]? = some x→j≤x
 | 0,lo,hi,hf,hlo,hhi,h1,h2,r => by
  have:lo = hi:=by omega
  subst this
  exact ⟨hhi,h1,h2⟩
 | fuel + 1,lo,hi,hf,hlo,hhi,h1,h2,r => by
  unfold below.go
  by_cases hl:lo < hi
  ·rw [if_pos hl]
   have hm:(lo + hi) / 2 < xs.size:=by omega
   have em:xs[(lo + hi) / 2]? = some xs[(lo + hi) / 2]:=by simp [hm]
   have eg:xs.getD ((lo + hi) / 2) j = xs[(lo + hi) / 2]:=by simp [Array.getD,hm]
   dsimp only
   rw [eg]
   by_cases hc:xs[(lo + hi) / 2] < j
   ·rw [if_pos hc]
    refine HC fuel _ _ (by omega) (by omega) hhi (fun i x hi' e => ?_) h2 r
    by_cases hx:i = (lo + hi) / 2
    ·subst hx
     rw [em] at e; cases e
     exact hc
    ·exact Nat.lt_trans (FE r e em (by omega)) hc
   ·rw [if_neg hc]
    refine HC fuel _ _ (by omega) (by omega) (by omega) h1 (fun i x hi' e => ?_) r
    by_cases hx:i = (lo + hi) / 2
    ·subst hx
     rw [em] at e; cases e
     omega
    ·have:=FE r em e (by omega)
     omega
  ·rw [if_neg hl]
   have:lo = hi:=by omega
   subst this
   exact ⟨hhi,h1,h2⟩
theorem CD {xs:Array Nat} {j:Nat} (r:Ml xs):(below xs j≤xs.size)∧(∀ i x,i < below xs j→xs[i]? = some x→x < j)∧∀ i x,below xs j≤i→xs[i]? = some x→j≤x :=
 HC _ _ _ (by omega) (by omega) (Nat.le_refl _) (fun i x h => absurd h (Nat.not_lt_zero _)) (fun i x h e => by
  have:=(Array.getElem?_eq_some_iff.mp e).1
  omega) r
theorem BZ {xs:Array Nat} {i j:Nat} (r:Ml xs) (h:xs[i]? = some j):below xs j = i:=by
 obtain ⟨b1,b2,b3⟩:=CD (j:=j) r
 have hi:i < xs.size:=(Array.getElem?_eq_some_iff.mp h).1
 apply Nat.le_antisymm
 ·apply Nat.le_of_not_lt
  intro hc
  exact absurd (b2 i j hc h) (Nat.lt_irrefl _)
 ·apply Nat.le_of_not_lt
  intro hc
  have e:xs[below xs j]? = some xs[below xs j]:=by simp [Nat.lt_trans hc hi]
  have h1:=b3 _ _ (Nat.le_refl _) e
  have h2:=FE r e h hc
  omega
theorem BC {α:Type} (xs:Array α) (p:Nat) (x:α):(insertAt xs p x).toList = xs.toList.take p ++ x :: xs.toList.drop p:=by
 unfold insertAt
 simp
 rw [List.take_of_length_le (by simp)]
theorem getElem?_insertAt {α:Type} (xs:Array α) (p:Nat) (x:α) (hp:p≤xs.size) (i:Nat):(insertAt xs p x)[i]? = if i < p then xs[i]? else if i = p then some x else xs[i - 1]?:=by
 have e:(insertAt xs p x)[i]? = (insertAt xs p x).toList[i]?:=by simp
 rw [e,BC]
 have hl:(xs.toList.take p).length = p:=by simp [hp]
 by_cases h1:i < p
 ·rw [if_pos h1,List.getElem?_append_left (by omega),List.getElem?_take_of_lt h1]
  simp
 ·rw [if_neg h1,List.getElem?_append_right (by omega),hl]
  by_cases h2:i = p
  ·subst h2
   simp
  ·rw [if_neg h2]
   have:i - p = (i - p - 1) + 1:=by omega
   rw [this,List.getElem?_cons_succ,List.getElem?_drop]
   have:p + (i - p - 1) = i - 1:=by omega
   rw [this]
   simp
theorem DB {α:Type} (xs:Array α) (p:Nat) (x:α) (hp:p≤xs.size):(insertAt xs p x).size = xs.size + 1:=by
 rw [← Array.length_toList,BC]
 simp
 omega
theorem JS {xs:Array Nat} {j:Nat} (r:Ml xs) (hj:∀ i:Nat,xs[i]?≠some j):Ml (insertAt xs (below xs j) j):=by
 obtain ⟨b1,b2,b3⟩:=CD (j:=j) r
 unfold Ml
 rw [BC]
 have lt:∀ y∈xs.toList.take (below xs j),y < j:=fun y hy => by
  obtain ⟨i,hi⟩:=List.getElem?_of_mem hy
  have hlt:i < below xs j:=by
   have:=(List.getElem?_eq_some_iff.mp hi).1
   simp at this; omega
  rw [List.getElem?_take_of_lt hlt] at hi
  exact b2 i y hlt (by simpa using hi)
 have gt:∀ y∈xs.toList.drop (below xs j),j < y:=fun y hy => by
  obtain ⟨i,hi⟩:=List.getElem?_of_mem hy
  rw [List.getElem?_drop] at hi
  have hi':xs[below xs j + i]? = some y:=by simpa using hi
  have h1:=b3 _ y (Nat.le_add_right _ _) hi'
  have h2:y≠j:=fun e => hj _ (e ▸ hi')
  omega
 refine List.pairwise_append.mpr ⟨List.Pairwise.sublist (List.take_sublist _ _) r,List.pairwise_cons.mpr ⟨gt,List.Pairwise.sublist (List.drop_sublist _ _) r⟩,fun a ha b hb => ?_⟩
 rcases List.mem_cons.mp hb with rfl | hb
 ·exact lt a ha
 ·exact Nat.lt_trans (lt a ha) (gt b hb)
def adv (m:Nat) (p:Probe):Probe:=(SetTable.mk m #[] #[] 0 false 0 false).advance p
theorem FF (t:SetTable) (p:Probe):t.advance p = adv t.mask p:=rfl
theorem FG {m:Nat} {p:Probe} (h:0 < p.more):adv m p = ⟨p.j + 1,p.more - 1,p.i,p.perturb,p.dummy⟩:=by
 unfold adv advance
 exact if_pos h
theorem FH {m:Nat} {p:Probe} (h:¬ 0 < p.more):adv m p = ⟨(leap m p.i p.perturb).1,runEnd m (leap m p.i p.perturb).1 - (leap m p.i p.perturb).1,(leap m p.i p.perturb).1,(leap m p.i p.perturb).2,p.dummy⟩:=by
 unfold adv advance
 exact if_neg h
def advN (m:Nat):Nat→Probe→Probe
 | 0,p => p
 | n + 1,p => advN m n (adv m p)
theorem Ba (m:Nat):∀ (a b:Nat) (p:Probe),advN m (a + b) p = advN m b (advN m a p)
 | 0,b,p => by rw [Nat.zero_add]; rfl
 | a + 1,b,p => by
  rw [Nat.succ_add]
  exact Ba m a b (adv m p)
theorem GH (m n:Nat) (p:Probe):advN m (n + 1) p = adv m (advN m n p):=Ba m n 1 p
def st (m:Nat) (x:Nat × Nat) (d:Option Nat):Probe:={ j:=x.1,more:=runEnd m x.1 - x.1,i:=x.1,perturb:=x.2,dummy:=d }
theorem Mm (t:SetTable) (h:Int):t.probeStart h = st t.mask (bits h % (t.mask + 1),bits h) none:=rfl
def JT (m:Nat):Nat→Nat × Nat→Nat × Nat
 | 0,x => x
 | n + 1,x => JT m n (leap m x.1 x.2)
theorem Dr (m i:Nat) (h:i≤m):i + (runEnd m i - i)≤m∧runEnd m i - i≤9:=by
 unfold runEnd
 split <;> omega
theorem HD (m:Nat):∀ (k:Nat) (p:Probe),k≤p.more→advN m k p = { p with j:=p.j + k,more:=p.more - k }
 | 0,p,_ => rfl
 | k + 1,p,h => by
  show advN m k (adv m p) = _
  have e:adv m p = { p with j:=p.j + 1,more:=p.more - 1 }:=FG (by omega)
  rw [e,HD m k _ (by show k≤p.more - 1; omega)]
  show ({ p with j:=p.j + 1 + k,more:=p.more - 1 - k }:Probe) = { p with j:=p.j + (k + 1),more:=p.more - (k + 1) }
  rw [show p.j + 1 + k = p.j + (k + 1) by omega,show p.more - 1 - k = p.more - (k + 1) by omega]
theorem FI (m:Nat) (p:Probe):advN m (p.more + 1) p = st m (leap m p.i p.perturb) p.dummy:=by
 rw [GH,HD m p.more p (Nat.le_refl _)]
 rw [FH (by show ¬ 0 < p.more - p.more; omega)]
 rfl
theorem FJ (m:Nat):∀ (L:Nat) (x:Nat × Nat),x.1≤m→(JT m L x).1≤m
 | 0,_,h => h
 | L + 1,x,_ => FJ m L _ (by show (x.1 * 5 + 1 + x.2 / 32) % (m + 1)≤m; have:=Nat.mod_lt (x.1 * 5 + 1 + x.2 / 32) (show 0 < m + 1 by omega); omega)
theorem Mn (m:Nat):∀ (L:Nat) (x:Nat × Nat) (d:Option Nat),x.1≤m→∃ n,n≤10 * L∧advN m n (st m x d) = st m (JT m L x) d
 | 0,x,d,_ => ⟨0,by omega,rfl⟩
 | L + 1,x,d,h => by
  have hl:(leap m x.1 x.2).1≤m:=FJ m 1 x h
  obtain ⟨n,hn,e⟩:=Mn m L (leap m x.1 x.2) d hl
  have h9:=(Dr m x.1 h).2
  refine ⟨(st m x d).more + 1 + n,?_,?_⟩
  ·show runEnd m x.1 - x.1 + 1 + n≤_; omega
  ·rw [Ba,FI]
   exact e
theorem KQ (m:Nat):∀ (a b:Nat) (x:Nat × Nat),JT m (a + b) x = JT m b (JT m a x)
 | 0,b,x => by rw [Nat.zero_add]; rfl
 | a + 1,b,x => by rw [Nat.succ_add]; exact KQ m a b _
theorem KR (m:Nat):∀ (L:Nat) (x:Nat × Nat),(JT m L x).2 = x.2 / 32 ^ L
 | 0,x => by simp [JT]
 | L + 1,x => by
  show (JT m L (leap m x.1 x.2)).2 = _
  rw [KR m L]
  show x.2 / 32 / 32 ^ L = x.2 / 32 ^ (L + 1)
  rw [Nat.div_div_eq_div_mul,Nat.pow_succ,Nat.mul_comm]
def SY (m:Nat):Nat→Nat→List Nat
 | 0,_ => []
 | n + 1,i => i :: SY m n ((i * 5 + 1) % (m + 1))
def fN (m:Nat):Nat→Nat→Nat
 | 0,i => i
 | n + 1,i => fN m n ((i * 5 + 1) % (m + 1))
theorem TM (m:Nat):∀ (L i:Nat),JT m L (i,0) = (fN m L i,0)
 | 0,_ => rfl
 | L + 1,i => by
  show JT m L ((i * 5 + 1 + 0 / 32) % (m + 1),0 / 32) = _
  rw [Nat.zero_div,Nat.add_zero]
  exact TM m L _
theorem HE (m:Nat):∀ (a b x:Nat),fN m (a + b) x = fN m b (fN m a x)
 | 0,b,x => by rw [Nat.zero_add]; rfl
 | a + 1,b,x => by rw [Nat.succ_add]; exact HE m a b _
theorem HF (m:Nat):∀ (n i e:Nat),e∈SY m n i→∃ k,k < n∧fN m k i = e
 | 0,_,_,h => by simp [SY] at h
 | n + 1,i,e,h => by
  rcases List.mem_cons.mp h with rfl | h
  ·exact ⟨0,Nat.succ_pos _,rfl⟩
  ·obtain ⟨k,hk,hf⟩:=HF m n _ e h
   exact ⟨k + 1,by omega,hf⟩
def Bb (m:Nat):Prop:=m = 7∨m = 31∨m = 127∨m = 511
theorem Uv {m:Nat} (h:Bb m):fN m (m + 1) 0 = 0∧∀ e,e≤m→e∈SY m (m + 1) 0:=by
 have all:∀ k,((List.range (k + 1)).all fun e => (SY k (k + 1) 0).contains e) = true→∀ e,e≤k→e∈SY k (k + 1) 0:=fun k hk e he => by
  have:=List.all_eq_true.mp hk e (List.mem_range.mpr (Nat.lt_succ_of_le he))
  exact List.contains_iff_mem.mp this
 rcases h with rfl | rfl | rfl | rfl
 ·exact ⟨by decide +kernel,all 7 (by decide +kernel)⟩
 ·exact ⟨by decide +kernel,all 31 (by decide +kernel)⟩
 ·exact ⟨by decide +kernel,all 127 (by decide +kernel)⟩
 ·exact ⟨by decide +kernel,all 511 (by decide +kernel)⟩
theorem Vi {m:Nat} (h:Bb m) {i e:Nat} (hi:i≤m) (he:e≤m):∃ k,k≤m∧fN m k i = e:=by
 obtain ⟨c0,call⟩:=Uv h
 obtain ⟨a,ha,ea⟩:=HF m _ _ _ (call i hi)
 obtain ⟨b,hb,eb⟩:=HF m _ _ _ (call e he)
 by_cases hab:a≤b
 ·refine ⟨b - a,by omega,?_⟩
  rw [← ea,← HE,show a + (b - a) = b by omega]
  exact eb
 ·refine ⟨m + 1 - a + b,by omega,?_⟩
  rw [← ea,← HE,show a + (m + 1 - a + b) = (m + 1) + b by omega,HE,c0]
  exact eb
structure Pr (m:Nat) (p:Probe):Prop where
 ij:p.j + p.more≤m
 more:p.more≤9
 i:p.i≤m
 pert:p.perturb < 2 ^ 64
theorem Pr.st {m:Nat} {x:Nat × Nat} {d:Option Nat} (h1:x.1≤m) (h2:x.2 < 2 ^ 64):Pr m (st m x d):=⟨(Dr m x.1 h1).1,(Dr m x.1 h1).2,h1,h2⟩
theorem Pr.adv {m:Nat} {p:Probe} (h:Pr m p):Pr m (adv m p):=by
 by_cases hm:0 < p.more
 ·rw [FG hm]
  exact ⟨by have:=h.ij; show p.j + 1 + (p.more - 1)≤m; omega,by have:=h.more; show p.more - 1≤9; omega,h.i,h.pert⟩
 ·rw [FH hm]
  have hl:(leap m p.i p.perturb).1≤m:=FJ m 1 (p.i,p.perturb) h.i
  exact ⟨(Dr m _ hl).1,(Dr m _ hl).2,hl,Nat.lt_of_le_of_lt (Nat.div_le_self _ _) h.pert⟩
theorem Pr.advN {m:Nat}:∀ {n:Nat} {p:Probe},Pr m p→Pr m (advN m n p)
 | 0,_,h => h
 | n + 1,_,h => Pr.advN (n:=n) h.adv
theorem Pr.j {m:Nat} {p:Probe} (h:Pr m p):p.j≤m:=by have:=h.ij; omega
theorem KS (h:Int):bits h < 2 ^ 64:=by
 unfold bits
 have h1:=Int.emod_nonneg h (show (2 ^ 64:Int)≠0 by decide)
 have h2:=Int.emod_lt_of_pos h (show (0:Int) < 2 ^ 64 by decide)
 have h3:((2:Nat) ^ 64:Nat) = 18446744073709551616:=by decide
 omega
def start (m:Nat) (h:Int):Probe:=st m (bits h % (m + 1),bits h) none
theorem Pr.start (m:Nat) (h:Int):Pr m (start m h):=Pr.st (by show bits h % (m + 1)≤m; have:=Nat.mod_lt (bits h) (show 0 < m + 1 by omega); omega) (KS h)
theorem TN {q:Nat} (h:q < 2 ^ 64):q / 32 ^ 13 = 0:=Nat.div_eq_of_lt (Nat.lt_of_lt_of_le h (by decide))
theorem QI {m:Nat} (hm:Bb m) {x:Nat × Nat} (h1:x.1≤m) (h2:x.2 < 2 ^ 64) {e:Nat} (he:e≤m):∃ L,L≤m + 13∧(JT m L x).1 = e:=by
 have e13:JT m 13 x = ((JT m 13 x).1,0):=by
  have:=KR m 13 x
  rw [TN h2] at this
  rw [← this]
 obtain ⟨k,hk,ek⟩:=Vi hm (FJ m 13 x h1) he
 refine ⟨13 + k,by omega,?_⟩
 rw [KQ,e13,TM]
 exact ek
theorem QJ {m:Nat} (hm:Bb m) {p:Probe} (h:Pr m p) {e:Nat} (he:e≤m):∃ n,n < 10 * (m + 15)∧(advN m n p).j = e:=by
 have hl:(leap m p.i p.perturb).1≤m:=FJ m 1 (p.i,p.perturb) h.i
 obtain ⟨L,hL,eL⟩:=QI hm (x:=leap m p.i p.perturb) hl (Nat.lt_of_le_of_lt (Nat.div_le_self _ _) h.pert) he
 obtain ⟨n,hn,en⟩:=Mn m L (leap m p.i p.perturb) p.dummy hl
 refine ⟨p.more + 1 + n,by have:=h.more; omega,?_⟩
 rw [Ba,FI,en]
 exact eL
theorem LR (m:Nat) (p:Probe):(adv m p).dummy = p.dummy:=by
 by_cases h:0 < p.more
 ·rw [FG h]
 ·rw [FH h]
theorem DF (m:Nat):∀ (n:Nat) (p:Probe),(advN m n p).dummy = p.dummy
 | 0,_ => rfl
 | n + 1,p => (DF m n _).trans (LR m p)
end StT
namespace StT
local macro_rules | `(tactic| omega) => `(tactic| first | lia | omega)
open PySem PySem.SetTable
def IN (t:SetTable) (j:Nat):Prop:=∃ i:Nat,t.place[i]? = some j
structure Tb (t:SetTable) (hs:List Int):Prop where
 mask:Bb t.mask
 dum:t.dummies = #[]
 ris:Ml t.place
 le:∀ i j:Nat,t.place[i]? = some j→j≤t.mask
 size:t.place.size = hs.length
 fnd:∀ (i j:Nat) (h:Int),t.place[i]? = some j→hs[i]? = some h→∃ n,(advN t.mask n (start t.mask h)).j = j∧∀ k,k < n→IN t (advN t.mask k (start t.mask h)).j
section
variable {t:SetTable} {hs:List Int}
theorem Tb.odd (T:Tb t hs):t.mask % 2 = 1:=by rcases T.mask with h | h | h | h <;> rw [h]
theorem Tb.low (T:Tb t hs):7≤t.mask:=by rcases T.mask with h | h | h | h <;> omega
theorem Tb.live (T:Tb t hs) {i j:Nat} (h:t.place[i]? = some j):t.slot j = .live i:=by
 unfold slot
 rw [BZ T.ris h]
 simp only [h,beq_self_eq_true,if_true]
theorem Tb.empty (T:Tb t hs) {j:Nat} (h:¬ IN t j):t.slot j = .empty:=by
 unfold slot
 have h1:(t.place[below t.place j]? == some j) = false:=by
  rw [beq_eq_false_iff_ne]
  exact fun e => h ⟨_,e⟩
 have h2:has t.dummies j = false:=by
  unfold has
  rw [T.dum]
  rfl
 simp only [h1,h2,Bool.false_eq_true,if_false]
theorem Tb.room (T:Tb t hs) (h:hs.length≤t.mask):∃ e,e≤t.mask∧¬ IN t e:=by
 apply Classical.byContradiction
 intro hn
 have:=JR (t.mask + 1) t.place.toList fun e he => by
  have:IN t e:=Classical.byContradiction fun hc => hn ⟨e,by omega,hc⟩
  obtain ⟨i,hi⟩:=this
  exact List.mem_of_getElem? (i:=i) (by simpa using hi)
 rw [Array.length_toList,T.size] at this
 omega
theorem Ot (T:Tb t hs) {hashAt:Nat→Int} {h:Int} {p:Probe} {i:Nat} (fuel:Nat) (h1:t.place[i]? = some p.j) (h2:hashAt i≠h):probe.go t hashAt h (fuel + 1) p = probe.go t hashAt h fuel (adv t.mask p):=by
 rw [probe.go,T.live h1]
 simp only [beq_iff_eq,if_neg h2,FF]
theorem IO (T:Tb t hs) {hashAt:Nat→Int} {h:Int}:∀ (n fuel:Nat) (p:Probe),(∀ k,k < n→∃ i,t.place[i]? = some (advN t.mask k p).j∧hashAt i≠h)→probe.go t hashAt h (fuel + n) p = probe.go t hashAt h fuel (advN t.mask n p)
 | 0,_,_,_ => rfl
 | n + 1,fuel,p,hk => by
  obtain ⟨i,h1,h2⟩:=hk 0 (Nat.succ_pos _)
  have h1:t.place[i]? = some p.j:=h1
  rw [← Nat.add_assoc,Ot T _ h1 h2]
  exact IO T n fuel _ fun k hk' => hk (k + 1) (Nat.succ_lt_succ hk')
theorem Mo (T:Tb t hs) {hashAt:Nat→Int} {h:Int} {p:Probe} {fuel:Nat} (h1:¬ IN t p.j):probe.go t hashAt h (fuel + 1) p = some (.empty p.j p.dummy):=by
 rw [probe.go,T.empty h1]
theorem RU (T:Tb t hs) {hashAt:Nat→Int} {h:Int} {p:Probe} {fuel i:Nat} (h1:t.place[i]? = some p.j) (h2:hashAt i = h):probe.go t hashAt h (fuel + 1) p = some (.candidate p.j i (adv t.mask p)):=by
 rw [probe.go,T.live h1]
 simp only [beq_iff_eq,if_pos h2,FF]
theorem TQ {S:Nat→Prop}:∀ (n:Nat),S n→∃ m,m≤n∧S m∧∀ k,k < m→¬ S k:=by
 intro n
 induction n using Nat.strongRecOn with
 | ind n ih =>
  intro hn
  by_cases h:∃ k,k < n∧S k
  ·obtain ⟨k,hk,sk⟩:=h
   obtain ⟨m,h1,h2,h3⟩:=ih k hk sk
   exact ⟨m,by omega,h2,h3⟩
  ·exact ⟨n,Nat.le_refl _,hn,fun k hk sk => h ⟨k,hk,sk⟩⟩
theorem IP (T:Tb t hs) (hl:hs.length≤t.mask) {p:Probe} (pr:Pr t.mask p) (hashAt:Nat→Int) (h:Int):∃ n,(∀ k,k < n→∃ i,t.place[i]? = some (advN t.mask k p).j∧hashAt i≠h) ∧
  ((¬ IN t (advN t.mask n p).j∧t.probe hashAt h p = some (.empty (advN t.mask n p).j p.dummy))∨∃ i,t.place[i]? = some (advN t.mask n p).j∧hashAt i = h∧t.probe hashAt h p = some (.candidate (advN t.mask n p).j i (advN t.mask (n + 1) p))):=by
 obtain ⟨e,he,hne⟩:=T.room hl
 obtain ⟨n0,hn0,en0⟩:=QJ T.mask pr he
 obtain ⟨n,hn,sn,ln⟩:=TQ (S:=fun n => ¬ IN t (advN t.mask n p).j∨∃ i,t.place[i]? = some (advN t.mask n p).j∧hashAt i = h) n0 (.inl (by rw [en0]; exact hne))
 have pre:∀ k,k < n→∃ i,t.place[i]? = some (advN t.mask k p).j∧hashAt i≠h:=fun k hk => by
  have:=ln k hk
  have ho:IN t (advN t.mask k p).j:=Classical.byContradiction fun hc => this (.inl hc)
  obtain ⟨i,hi⟩:=ho
  exact ⟨i,hi,fun z => this (.inr ⟨i,hi,z⟩)⟩
 have hfuel:10 * turns t.mask = (10 * (t.mask + 15) - n - 1 + 1) + n:=by unfold turns; omega
 refine ⟨n,pre,?_⟩
 unfold probe
 rw [hfuel,IO T n _ p pre]
 rcases sn with sn | ⟨i,h1,h2⟩
 ·exact .inl ⟨sn,by rw [Mo T sn,DF]⟩
 ·exact .inr ⟨i,h1,h2,by rw [RU T h1 h2,GH]⟩
theorem Tb.put (T:Tb t hs) {h:Int} {n:Nat} (hfree:¬ IN t (advN t.mask n (start t.mask h)).j) (hway:∀ k,k < n→IN t (advN t.mask k (start t.mask h)).j) :
  Tb (t.put (advN t.mask n (start t.mask h)).j).1 (hs.take (t.put (advN t.mask n (start t.mask h)).j).2 ++ h :: hs.drop (t.put (advN t.mask n (start t.mask h)).j).2)∧(t.put (advN t.mask n (start t.mask h)).j).2≤hs.length ∧
   (t.put (advN t.mask n (start t.mask h)).j).1.mask = t.mask∧(t.put (advN t.mask n (start t.mask h)).j).1.plain = t.plain∧(t.put (advN t.mask n (start t.mask h)).j).1.led = t.led∧(t.put (advN t.mask n (start t.mask h)).j).1.moves = t.moves:=by
 have hj:(advN t.mask n (start t.mask h)).j≤t.mask:=(Pr.start t.mask h).advN.j
 generalize hJ:(advN t.mask n (start t.mask h)).j = J at *
 have hd:has t.dummies J = false:=by
  unfold has
  rw [T.dum]
  rfl
 have hnot:∀ i:Nat,t.place[i]?≠some J:=fun i e => hfree ⟨i,e⟩
 have hb:=(CD (j:=J) T.ris).1
 have e1:(t.put J).1 = { t with place:=insertAt t.place (below t.place J) J }:=by
  unfold SetTable.put
  simp only [hd,Bool.false_eq_true,if_false]
 have e2:(t.put J).2 = below t.place J:=rfl
 rw [e1,e2]
 have ix:=getElem?_insertAt t.place (below t.place J) J hb
 have hl:(hs.take (below t.place J)).length = below t.place J:=by rw [List.length_take,← T.size]; omega
 have ih:∀ i:Nat,(hs.take (below t.place J) ++ h :: hs.drop (below t.place J))[i]? = if i < below t.place J then hs[i]? else if i = below t.place J then some h else hs[i - 1]?:=fun i => by
  by_cases h1:i < below t.place J
  ·rw [if_pos h1,List.getElem?_append_left (by omega),List.getElem?_take_of_lt h1]
  ·rw [if_neg h1,List.getElem?_append_right (by omega),hl]
   by_cases h2:i = below t.place J
   ·subst h2; simp
   ·rw [if_neg h2,show i - below t.place J = (i - below t.place J - 1) + 1 by omega,List.getElem?_cons_succ,List.getElem?_drop]
    rw [show below t.place J + (i - below t.place J - 1) = i - 1 by omega]
 have occ:∀ x,IN t x→IN { t with place:=insertAt t.place (below t.place J) J } x:=fun x ⟨i,hi⟩ => by
  by_cases h1:i < below t.place J
  ·exact ⟨i,by show (insertAt t.place (below t.place J) J)[i]? = some x; rw [ix,if_pos h1]; exact hi⟩
  ·exact ⟨i + 1,by show (insertAt t.place (below t.place J) J)[i + 1]? = some x; rw [ix,if_neg (by omega),if_neg (by omega)]; exact hi⟩
 refine ⟨⟨T.mask,T.dum,JS T.ris hnot,fun i j e => ?_,?_,fun i j h' e eh => ?_⟩,by rw [← T.size]; exact hb,rfl,rfl,rfl,rfl⟩
 ·have e:(insertAt t.place (below t.place J) J)[i]? = some j:=e
  rw [ix] at e
  by_cases h1:i < below t.place J
  ·rw [if_pos h1] at e; exact T.le i j e
  ·rw [if_neg h1] at e
   by_cases h2:i = below t.place J
   ·rw [if_pos h2] at e; cases e; exact hj
   ·rw [if_neg h2] at e; exact T.le _ j e
 ·show (insertAt t.place (below t.place J) J).size = _
  rw [DB _ _ _ hb,T.size]
  have hb':below t.place J≤hs.length:=by rw [← T.size]; exact hb
  rw [List.length_append,hl,List.length_cons,List.length_drop]
  omega
 ·have e:(insertAt t.place (below t.place J) J)[i]? = some j:=e
  rw [ix] at e
  rw [ih] at eh
  by_cases h1:i < below t.place J
  ·rw [if_pos h1] at e eh
   obtain ⟨k,ek,wk⟩:=T.fnd i j h' e eh
   exact ⟨k,ek,fun k' hk => occ _ (wk k' hk)⟩
  ·rw [if_neg h1] at e eh
   by_cases h2:i = below t.place J
   ·rw [if_pos h2] at e eh
    cases e; cases eh
    exact ⟨n,hJ,fun k hk => occ _ (hway k hk)⟩
   ·rw [if_neg h2] at e eh
    obtain ⟨k,ek,wk⟩:=T.fnd _ j h' e eh
    exact ⟨k,ek,fun k' hk => occ _ (wk k' hk)⟩
theorem Tb.fresh (f mv:Nat) (led:Bool):Tb (SetTable.fresh f mv led) []:=by
 refine ⟨.inl rfl,rfl,List.Pairwise.nil,fun i j e => ?_,rfl,fun i j h e => ?_⟩
 ·have e:(#[]:Array Nat)[i]? = some j:=e
  simp at e
 ·have e:(#[]:Array Nat)[i]? = some j:=e
  simp at e
end
end StT
namespace StT
local macro_rules | `(tactic| omega) => `(tactic| first | lia | omega)
open PySem PySem.SetTable
structure LC (m:Nat) (owner:Array (Option Nat)) (hs:List Int):Prop where
 size:owner.size = m + 1
 put:∀ (r:Nat) (h:Int),hs[r]? = some h→∃ j,j≤m∧owner[j]? = some (some r)∧∃ n,(advN m n (start m h)).j = j∧∀ k,k < n→∃ r',owner[(advN m k (start m h)).j]? = some (some r')
 lt:∀ j r:Nat,owner[j]? = some (some r)→r < hs.length
 inj:∀ j j' r:Nat,owner[j]? = some (some r)→owner[j']? = some (some r)→j = j'
section
variable {m:Nat} {owner:Array (Option Nat)} {hs:List Int}
theorem HG (hz:owner.size = m + 1) {x:Nat} (hx:x≤m):owner.getD x (some 0) = owner[x]'(by omega)∧owner[x]? = some (owner[x]'(by omega)):=by
 have hx':x < owner.size:=by omega
 exact ⟨by simp [Array.getD,hx'],by simp [hx']⟩
theorem QK (hz:owner.size = m + 1) {x:Nat} (hx:x≤m) (h:(owner.getD x (some 0)).isNone = false):∃ r,owner[x]? = some (some r):=by
 obtain ⟨h1,h2⟩:=HG hz hx
 rw [h1] at h
 cases e:owner[x]'(by omega) with
 | none => rw [e] at h; cases h
 | some r => exact ⟨r,by rw [h2,e]⟩
theorem Ou (hz:owner.size = m + 1) {x:Nat} (hx:x≤m) (h:(owner.getD x (some 0)).isNone = true):owner[x]? = some none:=by
 obtain ⟨h1,h2⟩:=HG hz hx
 rw [h1] at h
 cases e:owner[x]'(by omega) with
 | none => rw [h2,e]
 | some r => rw [e] at h; cases h
theorem JU {i q k:Nat} (hk:k≤runEnd m i - i):(advN m k (st m (i,q) none)).j = i + k:=by
 rw [HD m k _ hk]
 rfl
theorem GI (m i:Nat):i≤runEnd m i:=by
 unfold runEnd
 split <;> omega
theorem GJ (hz:owner.size = m + 1) {j:Nat}:∀ (fuel i q:Nat),i≤m→layClean.free m owner fuel i q = some j →
  ∃ n,(advN m n (st m (i,q) none)).j = j∧(∀ k,k < n→∃ r,owner[(advN m k (st m (i,q) none)).j]? = some (some r))∧owner[j]? = some none∧j≤m
 | 0,i,q,_,e => by simp [layClean.free] at e
 | fuel + 1,i,q,hi,e => by
  have hr:=Dr m i hi
  have hge:=GI m i
  rw [layClean.free] at e
  cases hf:(List.range (runEnd m i + 1 - i)).find? fun k => (owner.getD (i + k) (some 0)).isNone with
  | some k =>
   rw [hf] at e
   cases e
   have hk1:(owner.getD (i + k) (some 0)).isNone = true:=by simpa using List.find?_some hf
   have hkm:k < runEnd m i + 1 - i:=List.mem_range.mp (List.mem_of_find?_eq_some hf)
   refine ⟨k,JU (by omega),fun k' hk' => ?_,Ou hz (by omega) hk1,by omega⟩
   rw [JU (by omega)]
   refine QK hz (by omega) ?_
   have:=List.find?_range_eq_some.mp hf
   have h3:=this.2.2 k' hk'
   simpa using h3
  | none =>
   rw [hf] at e
   have hl:(leap m i q).1≤m:=FJ m 1 (i,q) hi
   obtain ⟨n,h1,h2,h3⟩:=GJ hz fuel _ _ hl e
   have all:∀ k,k≤runEnd m i - i→∃ r,owner[(advN m k (st m (i,q) none)).j]? = some (some r):=fun k hk => by
    rw [JU hk]
    refine QK hz (by omega) ?_
    have:=List.find?_eq_none.mp hf k (List.mem_range.mpr (by omega))
    exact Bool.eq_false_iff.mpr this
   have hleap:advN m (runEnd m i - i + 1) (st m (i,q) none) = st m (leap m i q) none:=FI m (st m (i,q) none)
   refine ⟨(runEnd m i - i + 1) + n,?_,fun k hk => ?_,h3⟩
   ·rw [Ba,hleap]
    exact h1
   ·by_cases hk':k≤runEnd m i - i
    ·exact all k hk'
    ·have e2:k = (runEnd m i - i + 1) + (k - (runEnd m i - i + 1)):=by omega
     rw [e2,Ba,hleap]
     exact h2 _ (by omega)
theorem GK (hz:owner.size = m + 1) {e:Nat} (he:owner[e]? = some none) (hem:e≤m):∀ (fuel L i q:Nat),i≤m→L < fuel→(JT m L (i,q)).1 = e→layClean.free m owner fuel i q≠none
 | 0,L,_,_,_,h,_ => absurd h (Nat.not_lt_zero _)
 | fuel + 1,L,i,q,hi,hL,eL => by
  rw [layClean.free]
  have hge:=GI m i
  cases hf:(List.range (runEnd m i + 1 - i)).find? fun k => (owner.getD (i + k) (some 0)).isNone with
  | some k => simp
  | none =>
   cases L with
   | zero =>
    have eL:i = e:=eL
    subst eL
    have:=List.find?_eq_none.mp hf 0 (List.mem_range.mpr (by omega))
    obtain ⟨h1,h2⟩:=HG hz hem
    rw [he] at h2
    have h2:=Option.some.inj h2
    rw [Nat.add_zero,h1,← h2] at this
    exact absurd rfl this
   | succ L =>
    exact GK hz he hem fuel L _ _ (FJ m 1 (i,q) hi) (by omega) eL
def DS (m:Nat) (acc:Option (Array (Option Nat) × Nat)) (h:Int):Option (Array (Option Nat) × Nat):=do
 let (owner,k) ← acc
 let j ← layClean.free m owner (turns m) (bits h % (m + 1)) (bits h)
 pure (owner.setIfInBounds j (some k),k + 1)
theorem IQ (m:Nat) (hs:Array Int):layClean m hs = (hs.toList.foldl (DS m) (some (Array.replicate (m + 1) none,0))).map (·.1):=by
 unfold layClean
 rw [Array.foldl_toList]
 rfl
theorem LC.room (c:LC m owner hs) (h:hs.length≤m):∃ e,e≤m∧owner[e]? = some none:=by
 apply Classical.byContradiction
 intro hn
 have all:∀ e,e≤m→∃ r,owner[e]? = some (some r):=fun e he => by
  have hz:=c.size
  cases q:owner[e]'(by omega) with
  | none => exact absurd ⟨e,he,by rw [← q]; simp [show e < owner.size by omega]⟩ hn
  | some r => exact ⟨r,by rw [← q]; simp [show e < owner.size by omega]⟩
 have hf:∀ e,∃ r,e≤m→owner[e]? = some (some r):=fun e => by
  by_cases he:e≤m
  ·obtain ⟨r,hr⟩:=all e he; exact ⟨r,fun _ => hr⟩
  ·exact ⟨0,fun z => absurd z he⟩
 obtain ⟨f,hf⟩:=Classical.axiomOfChoice hf
 have hl:=Dq hs.length ((List.range (m + 1)).map f) (by
  refine List.Pairwise.map f (R:=fun a b => a≠b∧a≤m∧b≤m) (fun a b hab e => ?_) ?_
  ·have h1:=hf a hab.2.1
   have h2:=hf b hab.2.2
   rw [e] at h1
   exact hab.1 (c.inj a b _ h1 h2)
  ·refine List.Pairwise.imp_of_mem (fun {a b} ha hb h => ⟨Nat.ne_of_lt h,?_,?_⟩) (List.pairwise_lt_range (n:=m + 1))
   ·have:=List.mem_range.mp ha; omega
   ·have:=List.mem_range.mp hb; omega) (fun x hx => by
  obtain ⟨e,he,rfl⟩:=List.mem_map.mp hx
  exact c.lt e _ (hf e (by have:=List.mem_range.mp he; omega)))
 rw [List.length_map,List.length_range] at hl
 omega
theorem LC.step (hm:Bb m) (c:LC m owner hs) (hl:hs.length≤m) (h:Int):∃ o',DS m (some (owner,hs.length)) h = some (o',hs.length + 1)∧LC m o' (hs ++ [h]):=by
 obtain ⟨e,he,hne⟩:=c.room hl
 have hb:bits h % (m + 1)≤m:=by have:=Nat.mod_lt (bits h) (show 0 < m + 1 by omega); omega
 obtain ⟨L,hL,eL⟩:=QI hm (x:=(bits h % (m + 1),bits h)) hb (KS h) he
 have hs':=GK c.size hne he (turns m) L _ _ hb (by unfold turns; omega) eL
 cases hf:layClean.free m owner (turns m) (bits h % (m + 1)) (bits h) with
 | none => exact absurd hf hs'
 | some j =>
  obtain ⟨n,h1,h2,h3,h4⟩:=GJ c.size _ _ _ hb hf
  have hj:j < owner.size:=by rw [c.size]; omega
  refine ⟨owner.setIfInBounds j (some hs.length),?_,?_⟩
  ·unfold DS
   show (layClean.free m owner (turns m) (bits h % (m + 1)) (bits h) >>= _) = _
   rw [hf]
   rfl
  ·have at_:∀ x:Nat,(owner.setIfInBounds j (some hs.length))[x]? = if x = j then some (some hs.length) else owner[x]?:=fun x => by
    rw [Array.getElem?_setIfInBounds]
    by_cases hx:x = j
    ·subst hx; simp [hj]
    ·rw [if_neg (Ne.symm hx),if_neg hx]
   have occ:∀ x r:Nat,owner[x]? = some (some r)→∃ r',(owner.setIfInBounds j (some hs.length))[x]? = some (some r'):=fun x r hr => by
    rw [at_]
    by_cases hx:x = j
    ·exact ⟨_,if_pos hx⟩
    ·exact ⟨r,by rw [if_neg hx]; exact hr⟩
   refine ⟨by simpa using c.size,fun r h' e' => ?_,fun x r hr => ?_,fun x y r hx hy => ?_⟩
   ·by_cases hr:r < hs.length
    ·rw [List.getElem?_append_left hr] at e'
     obtain ⟨x,q1,q2,n',q3,q4⟩:=c.put r h' e'
     refine ⟨x,q1,?_,n',q3,fun k hk => ?_⟩
     ·rw [at_,if_neg]; exact q2
      rintro rfl
      rw [h3] at q2; cases q2
     ·obtain ⟨r',hr'⟩:=q4 k hk
      exact occ _ r' hr'
    ·rw [List.getElem?_append_right (by omega)] at e'
     have hr0:r - hs.length = 0:=by
      have:=(List.getElem?_eq_some_iff.mp e').1
      simp at this; omega
     rw [hr0] at e'
     cases e'
     have:r = hs.length:=by omega
     subst this
     refine ⟨j,h4,by rw [at_,if_pos rfl],n,h1,fun k hk => ?_⟩
     obtain ⟨r',hr'⟩:=h2 k hk
     exact occ _ r' hr'
   ·rw [at_] at hr
    rw [List.length_append]
    by_cases hx:x = j
    ·rw [if_pos hx] at hr; cases hr; simp
    ·rw [if_neg hx] at hr
     have:=c.lt x r hr
     omega
   ·rw [at_] at hx hy
    by_cases h1:x = j
    ·rw [if_pos h1] at hx
     cases hx
     by_cases h2:y = j
     ·rw [h1,h2]
     ·rw [if_neg h2] at hy
      exact absurd (c.lt y _ hy) (Nat.lt_irrefl _)
    ·rw [if_neg h1] at hx
     by_cases h2:y = j
     ·rw [if_pos h2] at hy
      cases hy
      exact absurd (c.lt x _ hx) (Nat.lt_irrefl _)
     ·rw [if_neg h2] at hy
      exact c.inj x y r hx hy
theorem LC.steps (hm:Bb m):∀ (rest hs:List Int) (owner:Array (Option Nat)),LC m owner hs→hs.length + rest.length≤m + 1→∃ o',rest.foldl (DS m) (some (owner,hs.length)) = some (o',hs.length + rest.length)∧LC m o' (hs ++ rest)
 | [],hs,owner,c,_ => ⟨owner,rfl,by rw [List.append_nil]; exact c⟩
 | h :: rest,hs,owner,c,hl => by
  simp only [List.length_cons] at hl
  obtain ⟨o1,e1,c1⟩:=c.step hm (by omega) h
  obtain ⟨o2,e2,c2⟩:=LC.steps hm rest (hs ++ [h]) o1 c1 (by rw [List.length_append]; simp; omega)
  refine ⟨o2,?_,by rw [List.append_assoc] at c2; exact c2⟩
  rw [List.foldl_cons,e1]
  have:(hs ++ [h]).length = hs.length + 1:=by simp
  rw [this] at e2
  rw [e2]
  simp only [List.length_cons]
  congr 2
  omega
theorem IR (hm:Bb m) (hs:Array Int) (hl:hs.size≤m + 1):∃ owner,layClean m hs = some owner∧LC m owner hs.toList:=by
 have c0:LC m (Array.replicate (m + 1) none) []:=⟨by simp,fun r h e => by simp at e,fun j r e => by
  rw [Array.getElem?_replicate] at e; split at e <;> simp at e,fun j j' r e => by
  rw [Array.getElem?_replicate] at e; split at e <;> simp at e⟩
 obtain ⟨o,e,c⟩:=LC.steps hm hs.toList [] _ c0 (by simpa using hl)
 refine ⟨o,?_,by simpa using c⟩
 rw [IQ]
 have e':hs.toList.foldl (DS m) (some (Array.replicate (m + 1) none,0)) = _:=e
 rw [e']
 rfl
end
end StT
namespace StT
open PySem PySem.SetTable
section
variable {m:Nat}
theorem Ov (hm:Bb m) (hs:Array Int) (hl:hs.size≤m + 1) (f mv:Nat) (led plain:Bool):∃ t' order,laid m f mv led plain hs = some (t',order)∧t'.mask = m∧t'.led = led∧t'.plain = plain∧t'.moves = mv∧order.size = hs.size ∧
  (∀ i r:Nat,order[i]? = some r→r < hs.size)∧(∀ i i' r:Nat,order[i]? = some r→order[i']? = some r→i = i')∧(∀ r,r < hs.size→∃ i:Nat,order[i]? = some r)∧Tb t' (order.toList.map fun r => hs.getD r 0):=by
 obtain ⟨owner,e,c⟩:=IR hm hs hl
 generalize hlive:(List.range (m + 1)).filterMap (fun j => (owner.getD j none).map (j,·)) = live
 have mem:∀ j r,(j,r)∈live↔j≤m∧owner[j]? = some (some r):=fun j r => by
  rw [← hlive,List.mem_filterMap]
  constructor
  ·rintro ⟨x,hx,ex⟩
   have hx:=List.mem_range.mp hx
   have hxo:x < owner.size:=by rw [c.size]; exact hx
   have eg:owner.getD x none = owner[x]:=by simp [Array.getD,hxo]
   rw [eg] at ex
   cases q:owner[x] with
   | none => rw [q] at ex; cases ex
   | some r' =>
    rw [q] at ex
    cases ex
    exact ⟨by omega,by rw [← q]; simp [hxo]⟩
  ·rintro ⟨h1,h2⟩
   obtain ⟨hxo,q⟩:=Array.getElem?_eq_some_iff.mp h2
   refine ⟨j,List.mem_range.mpr (by omega),?_⟩
   have eg:owner.getD j none = owner[j]:=by simp [Array.getD,hxo]
   rw [eg,q]
   rfl
 have pw:live.Pairwise fun a b => a.1 < b.1:=by
  rw [← hlive,List.pairwise_filterMap]
  refine List.Pairwise.imp (fun {a b} h x hx y hy => ?_) (List.pairwise_lt_range (n:=m + 1))
  cases q1:owner.getD a none with
  | none => rw [q1] at hx; cases hx
  | some r1 =>
   cases q2:owner.getD b none with
   | none => rw [q2] at hy; cases hy
   | some r2 =>
    rw [q1] at hx; rw [q2] at hy
    cases hx; cases hy
    exact h
 have lt:∀ j r,(j,r)∈live→r < hs.size:=fun j r h => by have:=c.lt j r ((mem j r).mp h).2; simpa using this
 have pwr:live.Pairwise fun a b => a.2≠b.2:=by
  refine List.Pairwise.imp_of_mem (fun {a b} ha hb h e => ?_) pw
  obtain ⟨a1,a2⟩:=a
  obtain ⟨b1,b2⟩:=b
  have h1:=(mem _ _).mp ha
  have h2:=(mem _ _).mp hb
  have e:a2 = b2:=e
  subst e
  have:=c.inj _ _ _ h1.2 h2.2
  have h:a1 < b1:=h
  omega
 have nd:(live.map (·.2)).Nodup:=List.Pairwise.map _ (fun _ _ h => h) pwr
 have all:∀ r,r < hs.size→∃ j,(j,r)∈live:=fun r hr => by
  obtain ⟨j,h1,h2,_⟩:=c.put r (hs[r]) (by simp [hr])
  exact ⟨j,(mem j r).mpr ⟨h1,h2⟩⟩
 have len:live.length = hs.size:=by
  apply Nat.le_antisymm
  ·have:=Dq hs.size (live.map (·.2)) nd fun x hx => by
    obtain ⟨⟨j,r⟩,h1,rfl⟩:=List.mem_map.mp hx
    exact lt j r h1
   simpa using this
  ·have:=JR hs.size (live.map (·.2)) fun r hr => by
    obtain ⟨j,hj⟩:=all r hr
    exact List.mem_map.mpr ⟨_,hj,rfl⟩
   simpa using this
 refine ⟨{ mask:=m,place:=(live.map (·.1)).toArray,dummies:=#[],finger:=f,led:=led,moves:=mv,plain:=plain },(live.map (·.2)).toArray,?_,rfl,rfl,rfl,rfl,by simpa using len,fun i r h => ?_,fun i i' r h h' => ?_,fun r hr => ?_,?_⟩
 ·unfold laid
  rw [e]
  show some _ = some _
  rw [hlive]
 ·have h:(live.map (·.2))[i]? = some r:=by simpa using h
  rw [List.getElem?_map] at h
  cases q:live[i]? with
  | none => rw [q] at h; cases h
  | some x => rw [q] at h; cases h; exact lt x.1 x.2 (List.mem_of_getElem? q)
 ·have h:(live.map (·.2))[i]? = some r:=by simpa using h
  have h':(live.map (·.2))[i']? = some r:=by simpa using h'
  obtain ⟨l1,e1⟩:=List.getElem?_eq_some_iff.mp h
  obtain ⟨l2,e2⟩:=List.getElem?_eq_some_iff.mp h'
  rcases Nat.lt_trichotomy i i' with hlt | heq | hgt
  ·exact absurd (e1.trans e2.symm) (List.pairwise_iff_getElem.mp nd i i' l1 l2 hlt)
  ·exact heq
  ·exact absurd (e2.trans e1.symm) (List.pairwise_iff_getElem.mp nd i' i l2 l1 hgt)
 ·obtain ⟨j,hj⟩:=all r hr
  obtain ⟨i,hi⟩:=List.getElem?_of_mem hj
  exact ⟨i,by simp [hi]⟩
 ·have at_:∀ i j:Nat,(live.map (·.1)).toArray[i]? = some j→∃ r,live[i]? = some (j,r):=fun i j h => by
   have h:(live.map (·.1))[i]? = some j:=by simpa using h
   rw [List.getElem?_map] at h
   cases q:live[i]? with
   | none => rw [q] at h; cases h
   | some x =>
    rw [q] at h
    cases h
    exact ⟨x.2,rfl⟩
  refine ⟨hm,rfl,?_,fun i j h => ?_,by simp,fun i j h e1 e2 => ?_⟩
  ·show (live.map (·.1)).toArray.toList.Pairwise (· < ·)
   exact List.Pairwise.map _ (fun _ _ h => h) pw
  ·obtain ⟨r,hr⟩:=at_ i j h
   exact ((mem j r).mp (List.mem_of_getElem? hr)).1
  ·obtain ⟨r,hr⟩:=at_ i j e1
   have hrlt:=lt j r (List.mem_of_getElem? hr)
   have e2:((live.map (·.2)).map fun r => hs.getD r 0)[i]? = some h:=by simpa using e2
   rw [List.getElem?_map,List.getElem?_map,hr] at e2
   have e2:hs.getD r 0 = h:=Option.some.inj e2
   have eh:hs.toList[r]? = some h:=by
    rw [← e2]
    simp [Array.getD,hrlt]
   obtain ⟨j2,q1,q2,n,q3,q4⟩:=c.put r h eh
   have ej:=c.inj j2 j r q2 ((mem j r).mp (List.mem_of_getElem? hr)).2
   subst ej
   refine ⟨n,q3,fun k hk => ?_⟩
   obtain ⟨r',hr'⟩:=q4 k hk
   have hk':(advN m k (start m h)).j≤m:=(Pr.start m h).advN.j
   obtain ⟨i',hi'⟩:=List.getElem?_of_mem ((mem _ r').mpr ⟨hk',hr'⟩)
   refine ⟨i',?_⟩
   show (live.map (·.1)).toArray[i']? = _
   simp [hi']
theorem LS {n:Nat} (h:Bb m) (h1:n * 5 < m * 3) (h2:m * 3≤(n + 1) * 5) (h3:n < 300):Bb (sizeAbove (grown (n + 1)) - 1)∧n + 1≤sizeAbove (grown (n + 1)) - 1∧(n + 1) * 5 < (sizeAbove (grown (n + 1)) - 1) * 3∧sizeAbove (grown (n + 1))≤512:=by
 rcases h with rfl | rfl | rfl | rfl
 ·have:n = 4:=by omega
  subst this
  refine ⟨.inr (.inl (by decide)),by decide,by decide,by decide⟩
 ·have:n = 18:=by omega
  subst this
  refine ⟨.inr (.inr (.inl (by decide))),by decide,by decide,by decide⟩
 ·have:n = 76:=by omega
  subst this
  refine ⟨.inr (.inr (.inr (by decide))),by decide,by decide,by decide⟩
 ·omega
theorem CF {α:Type} (es:Array α):∀ (l:List Nat),(∀ r∈l,r < es.size)→∀ i:Nat,(l.filterMap fun r => es[r]?)[i]? = (l[i]?).bind fun r => es[r]?
 | [],_,i => by simp
 | r :: l,h,i => by
  have hr:=h r List.mem_cons_self
  have e:es[r]? = some es[r]:=by simp [hr]
  rw [List.filterMap_cons,e]
  cases i with
  | zero => simp
  | succ i =>
   simp only [List.getElem?_cons_succ]
   exact CF es l (fun x hx => h x (List.mem_cons_of_mem _ hx)) i
theorem Bt {α:Type} (es:Array α):∀ (l:List Nat),(∀ r∈l,r < es.size)→(l.filterMap fun r => es[r]?).length = l.length
 | [],_ => rfl
 | r :: l,h => by
  have hr:=h r List.mem_cons_self
  have e:es[r]? = some es[r]:=by simp [hr]
  rw [List.filterMap_cons,e]
  simp [Bt es l (fun x hx => h x (List.mem_cons_of_mem _ hx))]
end
open PyProof.Rows
section
variable {prog:Program} {w:World} {A:Around} {E:Value→Shared→Prop} {s:Shared}
abbrev IK (prog:Program) (w:World) (h:Heap) (k:List Int) (a:Addr):Prop:=IsTupleKey (intKind prog w) h k a
abbrev tk (prog:Program) (w:World):HeapKind prog w (List Int):=tupleKind (intKind prog w)
theorem Ds {n:Int} {v:Value} (h:(intKind prog w).is n v = true):∃ t,v = .int n t:=by
 cases v with
 | int m t =>
  have h2:(intKind prog w).is m (.int m t) = true:=intKind_is _ _ _ _
  have e:=(intKind prog w).inj _ _ _ h h2
  subst e
  exact ⟨t,rfl⟩
 | _ => exact absurd h (by simp [intKind,Value.isInt])
theorem FK {ks:List Int} {vs:List Value} (h:ItemsAre (intKind prog w) ks vs):∀ v∈vs,∃ n t,v = .int n t:=by
 induction h with
 | nil => intro v hv; simp at hv
 | cons h1 _ ih =>
  intro v hv
  rcases List.mem_cons.mp hv with rfl | hv
  ·obtain ⟨t,e⟩:=Ds h1
   exact ⟨_,t,e⟩
  ·exact ih v hv
theorem TR {k:List Int} {a:Addr} {Q:Bool→Shared→Prop} (hk:IK prog w s.heap k a) (h:Q true s):wpAny (model prog w) A (hashByValue 8 (.ref a)) Q E s:=by
 have hT:=hk.typeIs
 obtain ⟨o,items,n,ho,_,hd,hi⟩:=hk
 have hints:=FK hi
 unfold hashByValue
 refine wpAny_bind (wpAny_specialOf hT PySem.F.slot_tuple_hash.lookup ?_)
 dsimp only
 refine wpAny_bind (wpAny_seqItems ho hd ?_)
 show wpAny _ _ ((forIn items _ _) >>= _) _ _ s
 rw [← Array.forIn_toList]
 refine wpAny_bind (wpAny_forIn_list _ (fun rest r s' => r.1 = none∧s' = s∧∀ v∈rest,∃ n t,v = Value.int n t) _ ?_ ?_ _ _ ⟨rfl,rfl,hints⟩)
 ·rintro v rest r s' ⟨hr,rfl,hall⟩
  obtain ⟨n,t,rfl⟩:=hall v List.mem_cons_self
  refine wpAny_bind (wpAny_pure ?_)
  simp only [Bool.not_true,Bool.false_eq_true,if_false]
  exact wpAny_pure ⟨rfl,rfl,fun u hu' => hall u (List.mem_cons_of_mem _ hu')⟩
 ·rintro ⟨r1,r2⟩ s' ⟨hr,rfl,_⟩
  simp only at hr
  subst hr
  exact wpAny_pure h
theorem KT {k:List Int} {a:Addr} {Q:Bool→Shared→Prop} (hk:IK prog w s.heap k a) (h:Q false s):wpAny (model prog w) A (ofAClassStatement 8 (.ref a)) Q E s:=by
 have hT:=hk.typeIs
 obtain ⟨o,items,n,ho,hc,hd,hi⟩:=hk
 have hints:=FK hi
 unfold ofAClassStatement
 refine wpAny_bind (wpAny_typeOf hT ?_)
 dsimp only
 rw [if_pos (by decide)]
 refine wpAny_bind (wpAny_pure ?_)
 simp only [Bool.not_true,Bool.false_eq_true,if_false]
 refine wpAny_bind (wpAny_seqItems ho hd ?_)
 show wpAny _ _ ((forIn items _ _) >>= _) _ _ s
 rw [← Array.forIn_toList]
 refine wpAny_bind (wpAny_forIn_list _ (fun rest r s' => r.1 = none∧s' = s∧∀ v∈rest,∃ n t,v = Value.int n t) _ ?_ ?_ _ _ ⟨rfl,rfl,hints⟩)
 ·rintro v rest r s' ⟨hr,rfl,hall⟩
  obtain ⟨n,t,rfl⟩:=hall v List.mem_cons_self
  unfold ofAClassStatement
  refine wpAny_bind (wpAny_pure ?_)
  simp only [Bool.false_eq_true,if_false]
  exact wpAny_pure ⟨rfl,rfl,fun u hu' => hall u (List.mem_cons_of_mem _ hu')⟩
 ·rintro ⟨r1,r2⟩ s' ⟨hr,rfl,_⟩
  simp only at hr
  subst hr
  exact wpAny_pure h
theorem Ow {k:List Int} {a:Addr} {Q:Bool→Shared→Prop} {l:List Value} (hk:IK prog w s.heap k a) (hl:∀ v∈l,∃ k' b,v = .ref b∧IK prog w s.heap k' b) (h:Q false s):wpAny (model prog w) A (searchCouldBeSeen (.ref a) l) Q E s:=by
 unfold searchCouldBeSeen
 refine wpAny_bind (wpAny_forIn_list _ (fun rest r s' => r.1 = none∧s' = s∧∀ v∈rest,∃ k' b,v = Value.ref b∧IK prog w s.heap k' b) _ ?_ ?_ _ _ ⟨rfl,rfl,hl⟩)
 ·rintro v rest r s' ⟨hr,rfl,hall⟩
  obtain ⟨k',b,rfl,hb⟩:=hall v List.mem_cons_self
  have go:∀ u∈rest,∃ k' b,u = Value.ref b∧IK prog w s'.heap k' b:=fun u hu' => hall u (List.mem_cons_of_mem _ hu')
  dsimp only
  split
  ·exact wpAny_pure ⟨rfl,rfl,go⟩
  ·refine wpAny_bind (wpAny_eqIsQuiet_tuple hk ?_)
   simp only [Bool.not_true,Bool.false_eq_true,if_false]
   refine wpAny_bind (wpAny_eqIsQuiet_tuple hb ?_)
   simp only [Bool.not_true,Bool.false_eq_true,if_false]
   refine wpAny_bind (KT hk ?_)
   simp only [Bool.false_eq_true,if_false]
   refine wpAny_bind (KT hb ?_)
   simp only [Bool.false_eq_true,if_false]
   exact wpAny_pure ⟨rfl,rfl,go⟩
 ·rintro ⟨r1,r2⟩ s' ⟨hr,rfl,_⟩
  simp only at hr
  subst hr
  exact wpAny_pure h
end
local macro_rules | `(tactic| omega) => `(tactic| first | lia | omega)
open PySem PySem.SetTable PyProof.Rows
section
variable {prog:Program} {w:World} {A:Around} {E:Value→Shared→Prop} {s:Shared}
def LT (xs:List (List Int × Addr)) (prog:Program) (w:World):List (Int × Value):=xs.map fun p => ((tk prog w).hash p.1,Value.ref p.2)
structure SetD (prog:Program) (w:World) (h:Heap) (a:Addr) (xs:List (List Int × Addr)) (o:Obj) (es:Array (Int × Value)) (ep:Nat) (t:SetTable):Prop where
 get:h.get? a = some o
 ex:o.ExactSet
 dat:o.data = .set es ep t
 es:es.toList = LT xs prog w
 key:∀ (i:Nat) (k:List Int) (x:Addr),xs[i]? = some (k,x)→IK prog w h k x
 nd:(xs.map (·.1)).Nodup
 tb:Tb t (xs.map fun p => (tk prog w).hash p.1)
 pl:t.plain = true
 room:xs.length * 5 < t.mask * 3
 led:t.led = !w.params.followText "set-order"
variable {a:Addr} {xs:List (List Int × Addr)} {o:Obj} {es:Array (Int × Value)} {ep:Nat} {t:SetTable}
theorem SetD.size (S:SetD prog w s.heap a xs o es ep t):es.size = xs.length:=by
 rw [← Array.length_toList,S.es]; simp [LT]
theorem SetD.fits (S:SetD prog w s.heap a xs o es ep t):t.fits es.size = true:=by
 have h1:=S.tb.size
 have h2:=S.room
 have h3:t.fill = t.place.size:=by unfold SetTable.fill; rw [S.tb.dum]; rfl
 rw [List.length_map] at h1
 unfold SetTable.fits
 rw [h3,S.size,h1]
 simp only [beq_self_eq_true,Bool.true_and,decide_eq_true_eq]
 omega
theorem SetD.len (S:SetD prog w s.heap a xs o es ep t):(xs.map fun p => (tk prog w).hash p.1).length≤t.mask:=by
 have:=S.room
 rw [List.length_map]; omega
theorem SetD.at (S:SetD prog w s.heap a xs o es ep t) {i:Nat} {k:List Int} {x:Addr} (h:xs[i]? = some (k,x)):es[i]? = some ((tk prog w).hash k,.ref x):=by
 have:es[i]? = es.toList[i]?:=by simp
 rw [this,S.es,LT,List.getElem?_map,h]
 rfl
theorem SetD.of_at (S:SetD prog w s.heap a xs o es ep t) {i:Nat} (h:i < xs.length):∃ k x,xs[i]? = some (k,x):=⟨_,_,by simp [h]; rfl⟩
abbrev Ec:Array (Int × Value)→Nat→Int:=PySem.W.hashAt
theorem SetD.hash (S:SetD prog w s.heap a xs o es ep t) {i:Nat} {k:List Int} {x:Addr} (h:xs[i]? = some (k,x)):Ec es i = (tk prog w).hash k:=by
 show ((es[i]?).map Prod.fst).getD 0 = _
 rw [S.at h]
 rfl
theorem IS (S:SetD prog w s.heap a xs o es ep t) (hu:A.units < cLine) {k:List Int} {x:Addr} (hk:IK prog w s.heap k x) {Q:SetFound→Shared→Prop}
  (hT:∀ (i:Nat) (y:Addr),xs[i]? = some (k,y)→Q (.there none) s)
  (hF:(∀ (i:Nat) (y:Addr),xs[i]?≠some (k,y))→∀ n,¬ IN t (advN t.mask n (start t.mask ((tk prog w).hash k))).j→(∀ c,c < n→IN t (advN t.mask c (start t.mask ((tk prog w).hash k))).j)→Q (.free (advN t.mask n (start t.mask ((tk prog w).hash k))).j false) s) :
  ∀ (fuel c:Nat) (stand:Option Probe),stand.getD (t.probeStart ((tk prog w).hash k)) = advN t.mask c (start t.mask ((tk prog w).hash k)) →
   (∀ c',c' < c→IN t (advN t.mask c' (start t.mask ((tk prog w).hash k))).j∧∀ (i:Nat) (y:Addr),t.place[i]? = some (advN t.mask c' (start t.mask ((tk prog w).hash k))).j→xs[i]?≠some (k,y)) →
   (∃ N,c≤N∧¬ IN t (advN t.mask N (start t.mask ((tk prog w).hash k))).j∧N - c < fuel) →
   wpAny (model prog w) A (setSearchFrom a (.ref x) ((tk prog w).hash k) true fuel stand) Q E s:=by
 intro fuel
 induction fuel with
 | zero => rintro c stand _ _ ⟨N,_,_,h⟩; exact absurd h (Nat.not_lt_zero _)
 | succ fuel ih =>
  rintro c stand hst hpre ⟨N,hcN,hN,hfu⟩
  have hsz:t.place.size = xs.length:=by have:=S.tb.size; rwa [List.length_map] at this
  unfold setSearchFrom
  refine wpAny_bind (wpAny_setState_of S.get S.dat S.fits ?_)
  dsimp only
  have hgw:t.gaveWay = false:=by unfold SetTable.gaveWay; rw [S.tb.odd]; rfl
  rw [hgw]
  simp only [Bool.false_eq_true,if_false]
  obtain ⟨n,hn,hstop⟩:=IP S.tb S.len (p:=advN t.mask c (start t.mask ((tk prog w).hash k))) (Pr.start _ _).advN (Ec es) ((tk prog w).hash k)
  rw [hst]
  have hadd:∀ m,advN t.mask m (advN t.mask c (start t.mask ((tk prog w).hash k))) = advN t.mask (c + m) (start t.mask ((tk prog w).hash k)):=fun m => (Ba _ _ _ _).symm
  have pre2:∀ c',c' < c + n→IN t (advN t.mask c' (start t.mask ((tk prog w).hash k))).j∧∀ (i:Nat) (y:Addr),t.place[i]? = some (advN t.mask c' (start t.mask ((tk prog w).hash k))).j→xs[i]?≠some (k,y):=fun c' hc' => by
   by_cases hlt:c' < c
   ·exact hpre c' hlt
   ·obtain ⟨i,h1,h2⟩:=hn (c' - c) (by omega)
    rw [hadd,show c + (c' - c) = c' by omega] at h1
    refine ⟨⟨i,h1⟩,fun i' y h1' e => ?_⟩
    have:i' = i:=by
     rw [← BZ S.tb.ris h1',← BZ S.tb.ris h1]
    subst this
    exact h2 (S.hash e)
  obtain ⟨met,hmet⟩:∃ met,t.probe (Ec es) ((tk prog w).hash k) (advN t.mask c (start t.mask ((tk prog w).hash k))) = some met:=by
   rcases hstop with ⟨_,hp⟩ | ⟨_,_,_,hp⟩ <;> exact ⟨_,hp⟩
  split
  case h_2 heq => exact absurd hmet (heq met)
  rename_i met' heq
  have heq:t.probe (Ec es) ((tk prog w).hash k) (advN t.mask c (start t.mask ((tk prog w).hash k))) = some met':=heq
  rcases hstop with ⟨hf,hp⟩ | ⟨i,h1,h2,hp⟩
  ·rw [hp] at heq
   cases heq
   dsimp only
   rw [DF]
   show wpAny _ _ (pure _) _ _ s
   rw [hadd] at hf ⊢
   refine wpAny_pure (hF (fun i y e => ?_) (c + n) hf fun c' hc' => (pre2 c' hc').1)
   have hi:i < xs.length:=(List.getElem?_eq_some_iff.mp e).1
   have hpl:t.place[i]? = some (t.place[i]'(by omega)):=by simp [show i < t.place.size by omega]
   obtain ⟨n',e1,w1⟩:=S.tb.fnd i _ ((tk prog w).hash k) hpl (by rw [List.getElem?_map,e]; rfl)
   by_cases hlt:n' < c + n
   ·exact (pre2 n' hlt).2 i y (by rw [e1]; exact hpl) e
   ·by_cases heq:n' = c + n
    ·subst heq
     exact hf ⟨i,by rw [e1]; exact hpl⟩
    ·exact hf (w1 (c + n) (by omega))
  ·rw [hp] at heq
   cases heq
   dsimp only
   rw [hadd] at h1
   have hi:i < xs.length:=by rw [← hsz]; exact (Array.getElem?_eq_some_iff.mp h1).1
   obtain ⟨k',y,ek⟩:=S.of_at hi
   have hky:=S.key i k' y ek
   have seen:∀ v,v∈(es.filter fun e => e.1 == (tk prog w).hash k).toList.map (·.2)→∃ k' b,v = Value.ref b∧IK prog w s.heap k' b:=fun v hv => by
    obtain ⟨⟨h',v'⟩,hm,rfl⟩:=List.mem_map.mp hv
    have hm:(h',v')∈es.toList:=by
     have:=hm
     simp only [Array.toList_filter] at this
     exact (List.mem_filter.mp this).1
    rw [S.es,LT] at hm
    obtain ⟨⟨k2,b⟩,hb,eb⟩:=List.mem_map.mp hm
    cases eb
    obtain ⟨j,hj⟩:=List.getElem?_of_mem hb
    exact ⟨k2,b,rfl,S.key j k2 b hj⟩
   cases hled:t.led with
   | true =>
    simp only [Bool.not_true,Bool.false_eq_true,if_false]
    rw [S.at ek]
    dsimp only
    refine wpAny_bind (wpAny_holding (wpAny_eqBool_tuple hu hky hk ?_))
    refine wpAny_bind (wpAny_setState_of S.get S.dat S.fits ?_)
    dsimp only
    by_cases hkk:k' = k
    ·subst hkk
     rw [decide_eq_true rfl]
     exact wpAny_pure (hT i y ek)
    ·rw [decide_eq_false hkk]
     have hsm:t.sameMemory t.moves t.mask = some true:=by unfold SetTable.sameMemory; rw [if_pos (by simp)]
     rw [hsm]
     simp only [Bool.and_false,Bool.false_eq_true,if_false,if_true]
     rw [hadd,S.tb.live h1]
     dsimp only
     rw [S.at ek]
     dsimp only
     have hss:isSame (Value.ref y) (Value.ref y) = pure true:=by
      show (if (y == y) = true then _ else _) = _
      rw [if_pos (beq_self_eq_true y)]
     rw [hss]
     refine wpAny_bind (wpAny_pure ?_)
     simp only [if_true]
     refine wpAny_bind (wpAny_pure ?_)
     dsimp only
     rw [hadd]
     refine ih (c + n + 1) _ rfl (fun c' hc' => ?_) ?_
     ·by_cases hlt:c' < c + n
      ·exact pre2 c' hlt
      ·have:c' = c + n:=by omega
       subst this
       refine ⟨⟨i,h1⟩,fun i' y' h1' e => ?_⟩
       have:i' = i:=by
        rw [← BZ S.tb.ris h1',← BZ S.tb.ris h1]
       subst this
       rw [ek] at e
       exact hkk (congrArg Prod.fst (Option.some.inj e))
     ·have hle:c + n < N:=by
       rcases Nat.lt_trichotomy (c + n) N with hlt | heq | hgt
       ·exact hlt
       ·exact absurd ⟨i,by rw [← heq]; exact h1⟩ hN
       ·exact absurd (pre2 N hgt).1 hN
      exact ⟨N,by omega,hN,by omega⟩
   | false =>
    simp only [Bool.not_false,if_true]
    refine wpAny_bind (Ow hk seen ?_)
    simp only [Bool.false_eq_true,if_false]
    rw [S.at ek]
    dsimp only
    refine wpAny_bind (wpAny_holding (wpAny_eqBool_tuple hu hky hk ?_))
    refine wpAny_bind (wpAny_setState_of S.get S.dat S.fits ?_)
    dsimp only
    by_cases hkk:k' = k
    ·subst hkk
     rw [decide_eq_true rfl]
     exact wpAny_pure (hT i y ek)
    ·rw [decide_eq_false hkk]
     have hsm:t.sameMemory t.moves t.mask = some true:=by unfold SetTable.sameMemory; rw [if_pos (by simp)]
     rw [hsm]
     simp only [Bool.and_false,Bool.false_eq_true,if_false,if_true]
     rw [hadd,S.tb.live h1]
     dsimp only
     rw [S.at ek]
     dsimp only
     have hss:isSame (Value.ref y) (Value.ref y) = pure true:=by
      show (if (y == y) = true then _ else _) = _
      rw [if_pos (beq_self_eq_true y)]
     rw [hss]
     refine wpAny_bind (wpAny_pure ?_)
     simp only [if_true]
     refine wpAny_bind (wpAny_pure ?_)
     dsimp only
     rw [hadd]
     refine ih (c + n + 1) _ rfl (fun c' hc' => ?_) ?_
     ·by_cases hlt:c' < c + n
      ·exact pre2 c' hlt
      ·have:c' = c + n:=by omega
       subst this
       refine ⟨⟨i,h1⟩,fun i' y' h1' e => ?_⟩
       have:i' = i:=by
        rw [← BZ S.tb.ris h1',← BZ S.tb.ris h1]
       subst this
       rw [ek] at e
       exact hkk (congrArg Prod.fst (Option.some.inj e))
     ·have hle:c + n < N:=by
       rcases Nat.lt_trichotomy (c + n) N with hlt | heq | hgt
       ·exact hlt
       ·exact absurd ⟨i,by rw [← heq]; exact h1⟩ hN
       ·exact absurd (pre2 N hgt).1 hN
      exact ⟨N,by omega,hN,by omega⟩
end
end StT
namespace StT
local macro_rules | `(tactic| omega) => `(tactic| first | lia | omega)
open PySem PySem.SetTable PyProof.Rows
section
variable {prog:Program} {w:World} {A:Around} {E:Value→Shared→Prop} {s:Shared}
variable {a:Addr} {xs:List (List Int × Addr)} {o:Obj} {es:Array (Int × Value)} {ep:Nat} {t:SetTable}
def SetX (prog:Program) (w:World) (h:Heap) (a:Addr) (xs:List (List Int × Addr)):Prop:=∃ o es ep t,SetD prog w h a xs o es ep t
theorem Mp {h:Heap} {k:List Int} {x:Addr} (hk:IK prog w h k x) (hg:h.get? a = some o) (he:o.ExactSet):x≠a:=by
 rintro rfl
 obtain ⟨o',items,n,ho,hc,_⟩:=hk
 rw [hg] at ho
 cases ho
 rw [he.1] at hc
 exact absurd hc (by decide)
theorem CG {h h':Heap} {k:List Int} {x:Addr} (hk:IK prog w h k x) (hs:∀ u,h.get? x = some u→h'.get? x = some u):IK prog w h' k x:=by
 obtain ⟨o',items,n,ho,hc,hd,hi⟩:=hk
 exact ⟨o',items,n,hs _ ho,hc,hd,hi⟩
theorem GL (hg:s.heap.get? a = some o) (hd:o.data = .set es ep t) (es':Array (Int × Value)) (t':SetTable):(s.heap.update a (Obj.putSet es' t')).get? a = some { o with data:=.set es' (ep + 1) t' }:=by
 have:=Heap.get?_update_self (Obj.putSet es' t') hg (by rw [putSet_of es' t' hd]; rfl)
 rw [putSet_of es' t' hd] at this; exact this
theorem JV:(LT xs prog w).length = xs.length:=by simp [LT]
theorem Mq {n:Nat} (hg:s.heap.get? a = some o) (he:o.ExactSet) (hd:o.data = .set es ep t) (hes:es.toList = LT xs prog w) (hkey:∀ (i:Nat) (k:List Int) (x:Addr),xs[i]? = some (k,x)→IK prog w s.heap k x)
  (hnd:(xs.map (·.1)).Nodup) (htb:Tb t (xs.map fun p => (tk prog w).hash p.1)) (hpl:t.plain = true) (hled:t.led = !w.params.followText "set-order") (hn:xs.length = n + 1) (h1:n * 5 < t.mask * 3) (h2:t.mask * 3≤(n + 1) * 5) (h3:n < 300) {Q:Unit→Shared→Prop}
  (h:∀ h' xs',Heap.SameBut a s.heap h'→SetX prog w h' a xs'→(∀ p,p∈xs'↔p∈xs)→xs'.length = xs.length→Q () { s with heap:=h' }):wpAny (model prog w) A (setRelay a (grown (n + 1))) Q E s:=by
 obtain ⟨m1,m2,m3,m4⟩:=LS htb.mask h1 h2 h3
 have hsz:es.size = n + 1:=by rw [← Array.length_toList,hes,JV,hn]
 have hfill:t.fill = t.place.size:=by unfold SetTable.fill; rw [htb.dum]; rfl
 have hps:t.place.size = n + 1:=by have:=htb.size; rw [List.length_map,hn] at this; exact this
 have hlow:=htb.low
 have hfit:t.fits es.size = true:=by
  unfold SetTable.fits
  rw [hfill,hsz,hps]
  simp only [beq_self_eq_true,Bool.true_and,decide_eq_true_eq]
  omega
 unfold setRelay
 refine wpAny_bind (wpAny_setState_of hg hd hfit ?_)
 dsimp only
 rw [if_neg (by rw [sizeLine_eq]; omega)]
 refine wpAny_bind ?_
 obtain ⟨t',order,el,q1,q2,q3,q4,q5,q6,q7,q8,q9⟩:=Ov m1 (es.map (·.1)) (by rw [Array.size_map,hsz]; omega) t.finger (t.movedTo (sizeAbove (grown (n + 1)) - 1)) t.led t.plain
 rw [Array.size_map] at q5 q6 q8
 have el':t.relaid (es.map (·.1)) (grown (n + 1)) = some (t',order):=el
 rw [el']
 have hfm:(order.filterMap (es[·]?)).toList = order.toList.filterMap fun r => es[r]?:=by simp
 have hmem:∀ r∈order.toList,r < es.size:=fun r hr => by
  obtain ⟨i,hi⟩:=List.getElem?_of_mem hr
  exact q6 i r (by simpa using hi)
 have hes':(order.filterMap (es[·]?)).size = es.size:=by
  rw [← Array.length_toList,hfm,Bt es _ hmem,Array.length_toList,q5]
 show wpAny _ _ (if ((order.filterMap fun r => es[r]?).size != es.size) = true then _ else pure (order.filterMap fun r => es[r]?,t')) _ _ s
 rw [if_neg (by rw [hes']; simp)]
 refine wpAny_pure ?_
 dsimp only
 refine wpAny_storeSet_of hg hd ?_ (by rw [hes',hsz,sizeLine_eq]; omega)
 generalize hE:order.filterMap (es[·]?) = es' at *
 have hxs:∀ r,r < es.size→∃ p,xs[r]? = some p:=fun r hr => ⟨_,by simp [show r < xs.length by rw [hn]; omega]; rfl⟩
 have hfx:(order.toList.filterMap fun r => xs[r]?).length = es.size:=by
  have:=Bt xs.toArray order.toList (fun r hr => by rw [List.size_toArray,hn]; have:=hmem r hr; omega)
  simp only [List.getElem?_toArray] at this
  rw [this,Array.length_toList,q5]
 have at_:∀ i:Nat,(order.toList.filterMap fun r => xs[r]?)[i]? = (order.toList[i]?).bind fun r => xs[r]?:=fun i => by
  have:=CF xs.toArray order.toList (fun r hr => by rw [List.size_toArray,hn]; have:=hmem r hr; omega) i
  simpa only [List.getElem?_toArray] using this
 have mem:∀ p,p∈(order.toList.filterMap fun r => xs[r]?)↔p∈xs:=fun p => by
  rw [List.mem_filterMap]
  constructor
  ·rintro ⟨r,_,e⟩; exact List.mem_of_getElem? e
  ·intro hp
   obtain ⟨r,hr⟩:=List.getElem?_of_mem hp
   have hrl:r < es.size:=by rw [hsz,← hn]; exact (List.getElem?_eq_some_iff.mp hr).1
   obtain ⟨i,hi⟩:=q8 r hrl
   exact ⟨r,List.mem_of_getElem? (i:=i) (by simpa using hi),hr⟩
 have hesx:∀ i:Nat,es[i]? = (xs[i]?).map fun p => ((tk prog w).hash p.1,Value.ref p.2):=fun i => by
  have:es[i]? = es.toList[i]?:=by simp
  rw [this,hes,LT,List.getElem?_map]
 refine h _ (order.toList.filterMap fun r => xs[r]?) (Heap.SameBut.update ..) ⟨_,es',ep + 1,t',⟨GL hg hd es' t',he,rfl,?_,fun i k x e => ?_,?_,?_,?_,?_,?_⟩⟩ mem (by rw [hfx,hsz,hn])
 ·apply List.ext_getElem?
  intro i
  rw [hfm,CF es _ hmem,LT,List.getElem?_map,at_]
  cases order.toList[i]? with
  | none => rfl
  | some r => exact hesx r
 ·have hp:(k,x)∈xs:=(mem _).mp (List.mem_of_getElem? e)
  obtain ⟨r,hr⟩:=List.getElem?_of_mem hp
  have ik:=hkey r k x hr
  exact CG ik fun u hu => ((Heap.SameBut.update s.heap a (Obj.putSet es' t')).2 x (Mp ik hg he)).trans hu
 ·rw [List.nodup_iff_pairwise_ne]
  refine List.pairwise_iff_getElem.mpr fun i j hi hj hij e => ?_
  rw [List.length_map] at hi hj
  have e1:=at_ i
  have e2:=at_ j
  rw [List.getElem?_eq_getElem hi] at e1
  rw [List.getElem?_eq_getElem hj] at e2
  rw [List.getElem_map,List.getElem_map] at e
  cases r1:order.toList[i]? with
  | none => rw [r1] at e1; cases e1
  | some r =>
   cases r2:order.toList[j]? with
   | none => rw [r2] at e2; cases e2
   | some r' =>
    rw [r1] at e1
    rw [r2] at e2
    have e1:xs[r]? = some _:=e1.symm
    have e2:xs[r']? = some _:=e2.symm
    obtain ⟨l1,g1⟩:=List.getElem?_eq_some_iff.mp e1
    obtain ⟨l2,g2⟩:=List.getElem?_eq_some_iff.mp e2
    have ee:(xs.map (·.1))[r]'(by simpa using l1) = (xs.map (·.1))[r']'(by simpa using l2):=by rw [List.getElem_map,List.getElem_map,g1,g2]; exact e
    have nd:=List.nodup_iff_pairwise_ne.mp hnd
    have:r = r':=by
     rcases Nat.lt_trichotomy r r' with hlt | heq | hgt
     ·exact absurd ee (List.pairwise_iff_getElem.mp nd r r' _ _ hlt)
     ·exact heq
     ·exact absurd ee.symm (List.pairwise_iff_getElem.mp nd r' r _ _ hgt)
    subst this
    have:=q7 i j r (by simpa using r1) (by simpa using r2)
    omega
 ·have:(order.toList.filterMap fun r => xs[r]?).map (fun p => (tk prog w).hash p.1) = order.toList.map fun r => (es.map (·.1)).getD r 0:=by
   apply List.ext_getElem?
   intro i
   rw [List.getElem?_map,at_,List.getElem?_map]
   cases hr:order.toList[i]? with
   | none => rfl
   | some r =>
    have hrl:=hmem r (List.mem_of_getElem? hr)
    obtain ⟨p,hp⟩:=hxs r hrl
    show (xs[r]?).map _ = some ((es.map (·.1)).getD r 0)
    rw [hp]
    have e3:=hesx r
    rw [hp] at e3
    obtain ⟨l,g⟩:=Array.getElem?_eq_some_iff.mp e3
    simp [Array.getD,hrl,g]
  rw [this]
  exact q9
 ·rw [q3]; exact hpl
 ·rw [hfx,hsz,q1]; exact m3
 ·rw [q2]; exact hled
end
end StT
namespace StT
local macro_rules | `(tactic| omega) => `(tactic| first | lia | omega)
open PySem PySem.SetTable PyProof.Rows
section
variable {prog:Program} {w:World} {A:Around} {E:Value→Shared→Prop} {s:Shared}
variable {a:Addr} {xs:List (List Int × Addr)} {o:Obj} {es:Array (Int × Value)} {ep:Nat} {t:SetTable}
theorem RV (S:SetX prog w s.heap a xs) (hu:A.units < cLine) {k:List Int} {x:Addr} (hk:IK prog w s.heap k x) (hl:xs.length < 300) {Q:Bool→Shared→Prop}
  (hT:∀ y,(k,y)∈xs→Q false s)
  (hF:(∀ y,(k,y) ∉ xs)→∀ h' xs',Heap.SameBut a s.heap h'→SetX prog w h' a xs'→(∀ p,p∈xs'↔p∈xs∨p = (k,x))→xs'.length = xs.length + 1→Q true { s with heap:=h' }) :
  wpAny (model prog w) A (setAddHashed a (.ref x) ((tk prog w).hash k)) Q E s:=by
 obtain ⟨o,es,ep,t,S⟩:=S
 unfold setAddHashed setAddHashedIn
 refine wpAny_holding (wpAny_bind (wpAny_setState_of S.get S.dat S.fits ?_))
 dsimp only
 have hbs:byScan (.ref x) es = false:=rfl
 rw [hbs]
 simp only [Bool.false_eq_true,if_false]
 obtain ⟨e,he,hne⟩:=S.tb.room S.len
 obtain ⟨N,hN,eN⟩:=QJ S.tb.mask (Pr.start t.mask ((tk prog w).hash k)) he
 have hm511:t.mask≤511:=by rcases S.tb.mask with h | h | h | h <;> omega
 refine wpAny_bind (IS S hu hk (fun i y e => ?_) (fun hno n hf hw => ?_) 100000 0 none (Mm t _) (fun c hc => absurd hc (Nat.not_lt_zero _)) ⟨N,Nat.zero_le _,by rw [eN]; exact hne,by omega⟩)
 ·dsimp only
  exact wpAny_pure (hT y (List.mem_of_getElem? e))
 ·dsimp only
  refine wpAny_bind (wpAny_setState_of S.get S.dat S.fits ?_)
  dsimp only
  obtain ⟨p1,p2,p3,p4,p5,p6⟩:=S.tb.put hf hw
  generalize hJ:(advN t.mask n (start t.mask ((tk prog w).hash k))).j = J at *
  generalize hput:t.put J = tp at *
  obtain ⟨t1,q⟩:=tp
  dsimp only at p1 p2 p3 p4 p5 p6 ⊢
  rw [List.length_map] at p2
  rw [p4,S.pl]
  simp only [if_true]
  refine wpAny_bind (TR hk ?_)
  simp only [if_true]
  refine wpAny_bind (wpAny_storeSet_of S.get S.dat ?_ (by
   rw [DB _ _ _ (by rw [S.size]; exact p2),S.size,sizeLine_eq]; omega))
  have hes1:(insertAt es q ((tk prog w).hash k,.ref x)).toList = LT (xs.take q ++ (k,x) :: xs.drop q) prog w:=by
   rw [BC,S.es]
   simp [LT]
  have hmem:∀ p,p∈xs.take q ++ (k,x) :: xs.drop q↔p∈xs∨p = (k,x):=fun p => by
   rw [List.mem_append,List.mem_cons]
   constructor
   ·rintro (h | h | h)
    ·exact .inl (List.mem_of_mem_take h)
    ·exact .inr h
    ·exact .inl (List.mem_of_mem_drop h)
   ·rintro (h | h)
    ·rw [← List.take_append_drop q xs] at h
     rcases List.mem_append.mp h with h | h
     ·exact .inl h
     ·exact .inr (.inr h)
    ·exact .inr (.inl h)
  have hlen:(xs.take q ++ (k,x) :: xs.drop q).length = xs.length + 1:=by
   rw [List.length_append,List.length_cons,List.length_take,List.length_drop]; omega
  have hnod:((xs.take q ++ (k,x) :: xs.drop q).map (·.1)).Nodup:=by
   have hxs:(xs.take q).map (·.1) ++ (xs.drop q).map (·.1) = xs.map (·.1):=by rw [← List.map_append,List.take_append_drop]
   have nd:=S.nd
   rw [← hxs] at nd
   rw [List.map_append,List.map_cons]
   have hkn:k ∉ (xs.take q).map (·.1) ++ (xs.drop q).map (·.1):=by
    rw [hxs]
    intro hm
    obtain ⟨⟨k',y⟩,hp,rfl⟩:=List.mem_map.mp hm
    obtain ⟨i,hi⟩:=List.getElem?_of_mem hp
    exact hno i y hi
   rw [List.mem_append,not_or] at hkn
   obtain ⟨n1,n2,n3⟩:=List.nodup_append.mp nd
   refine List.nodup_append.mpr ⟨n1,List.nodup_cons.mpr ⟨hkn.2,n2⟩,fun b hb c hc => ?_⟩
   rcases List.mem_cons.mp hc with rfl | hc
   ·rintro rfl; exact hkn.1 hb
   ·exact n3 b hb c hc
  have hsb:=Heap.SameBut.update s.heap a (Obj.putSet (insertAt es q ((tk prog w).hash k,.ref x)) t1)
  have hg1:=GL (s:=s) S.get S.dat (insertAt es q ((tk prog w).hash k,.ref x)) t1
  have hkey1:∀ (i:Nat) (k':List Int) (x':Addr),(xs.take q ++ (k,x) :: xs.drop q)[i]? = some (k',x')→IK prog w (s.heap.update a (Obj.putSet (insertAt es q ((tk prog w).hash k,.ref x)) t1)) k' x':=fun i k' x' e => by
   have ik:IK prog w s.heap k' x':=by
    rcases (hmem _).mp (List.mem_of_getElem? e) with h | h
    ·obtain ⟨j,hj⟩:=List.getElem?_of_mem h
     exact S.key j k' x' hj
    ·cases h; exact hk
   exact CG ik fun u hu => (hsb.2 x' (Mp ik S.get S.ex)).trans hu
  have htb1:Tb t1 ((xs.take q ++ (k,x) :: xs.drop q).map fun p => (tk prog w).hash p.1):=by
   simpa using p1
  have hno':∀ y,(k,y) ∉ xs:=fun y hy => by
   obtain ⟨i,hi⟩:=List.getElem?_of_mem hy
   exact hno i y hi
  have hfill:t1.fill = xs.length + 1:=by
   unfold SetTable.fill
   rw [htb1.dum]
   have:=htb1.size
   rw [List.length_map,hlen] at this
   rw [this]; rfl
  have hroom:=S.room
  simp only [Bool.not_false,Bool.true_and]
  cases htf:t1.tooFull with
  | true =>
   simp only [if_true]
   have htf':t1.mask * 3≤(xs.length + 1) * 5:=by
    unfold SetTable.tooFull at htf
    rw [hfill] at htf
    simpa using htf
   rw [S.size]
   refine wpAny_bind (Mq (s:={ s with heap:=s.heap.update a (Obj.putSet (insertAt es q ((tk prog w).hash k,.ref x)) t1) }) hg1 S.ex rfl hes1 hkey1 hnod htb1 (by rw [p4]; exact S.pl) (by rw [p5]; exact S.led) hlen (by rw [p3]; exact hroom) htf' hl fun h' xs' sb sx mm ll => ?_)
   refine wpAny_pure (hF hno' h' xs' (hsb.trans sb) sx (fun p => (mm p).trans (hmem p)) (ll.trans hlen))
  | false =>
   simp only [Bool.false_eq_true,if_false]
   refine wpAny_pure (hF hno' _ _ hsb ⟨_,_,_,t1,hg1,S.ex,rfl,hes1,hkey1,hnod,htb1,by rw [p4]; exact S.pl,?_,by rw [p5]; exact S.led⟩ hmem hlen)
   unfold SetTable.tooFull at htf
   rw [hfill] at htf
   rw [hlen]
   simpa using htf
def HH (ks:List (List Int × Addr)) (xs:List (List Int × Addr)):Prop:=(∀ p,p∈xs→p∈ks)∧(∀ k y,(k,y)∈ks→∃ y',(k,y')∈xs)∧xs.length≤ks.length
theorem SetX.keep' {h h':Heap} (S:SetX prog w h a xs) (ha:∀ u,h.get? a = some u→h'.get? a = some u) (hk:∀ k x,(k,x)∈xs→∀ u,h.get? x = some u→h'.get? x = some u):SetX prog w h' a xs:=by
 obtain ⟨o,es,ep,t,S⟩:=S
 exact ⟨o,es,ep,t,ha _ S.get,S.ex,S.dat,S.es,fun i k x e => CG (S.key i k x e) (hk k x (List.mem_of_getElem? e)),S.nd,S.tb,S.pl,S.room,S.led⟩
theorem Ox {I l:Addr} {items:Array Value} {ps:List (List Int × Addr)} (hh:A.in1.handled = none) (hne:l≠I) (hI:a≠I) (hla:a≠l) (hps:items.toList = ps.map fun p => Value.ref p.2) (hz:ps.length≤300) (hu:A.units + 1 < cLine)
  {R:Result→Shared→Prop}:∀ (n i:Nat) (s:Shared) (xs:List (List Int × Addr)),n = ps.length - i→i≤ps.length→s.heap.IsListIter I l i→s.heap.IsList l items→(∀ k x,(k,x)∈ps→IK prog w s.heap k x∧x≠I)→SetX prog w s.heap a xs→HH (ps.take i) xs →
   (∀ h' tk' xs',(∀ b u,b≠a→b≠I→s.heap.get? b = some u→h'.get? b = some u)→SetX prog w h' a xs'→HH ps xs'→R (.ok (.ret .none)) { s with heap:=h',toks:=tk' }) →
   codeAny (model prog w) A (.builtin "set.update.loop" ⟨[.ref a,.ref I],[]⟩) R s:=by
 have W:=Walks.list (A:=A.in1) (prog:=prog) (w:=w) hh I l hne items
 have hsz:items.size = ps.length:=by rw [← Array.length_toList,hps,List.length_map]
 intro n
 induction n with
 | zero =>
  intro i s xs hn hi hit hl hp hX hS hR
  have:i = ps.length:=by omega
  subst this
  rw [List.take_length] at hS
  refine codeAny_builtin PyProof.Rows.F.entry_set_update_loop ?_
  rw [Around.under_plainId PyProof.Rows.F.plain_set_update_loop _]
  show wpAny _ A.in1 (pyNext (.ref I) >>= _) _ _ s
  refine wpAny_bind (wpAny_pyNext_list_end hh hit hl (by simp [hsz]) fun h' hk => ?_)
  show wpAny _ A.in1 (ret Value.none) _ _ _
  refine wpAny_pure (hR h' s.toks xs (fun b u _ hb e => hk b u hb e) (hX.keep' (fun u e => hk a u hI e) fun k x hx u e => hk x u (hp k x (hS.1 _ hx)).2 e) hS)
 | succ n ih =>
  intro i s xs hn hi hit hl hp hX hS hR
  have hlt:i < ps.length:=by omega
  obtain ⟨⟨k,x⟩,hkx⟩:∃ p,ps[i]? = some p:=⟨_,by simp [hlt]; rfl⟩
  have hitem:items[i]? = some (.ref x):=by
   have:items[i]? = items.toList[i]?:=by simp
   rw [this,hps,List.getElem?_map,hkx]; rfl
  refine codeAny_builtin PyProof.Rows.F.entry_set_update_loop ?_
  rw [Around.under_plainId PyProof.Rows.F.plain_set_update_loop _]
  show wpAny _ A.in1 (pyNext (.ref I) >>= _) _ _ s
  refine wpAny_bind (wpAny_pyNext_list_item hit hl hitem fun h1 hit1 sb1 => ?_)
  have hk1:∀ b u,b≠I→s.heap.get? b = some u→h1.get? b = some u:=fun b u hb e => (sb1.2 b hb).trans e
  have kx:=hp k x (List.mem_of_getElem? hkx)
  have hX1:SetX prog w h1 a xs:=hX.keep' (fun u e => hk1 a u hI e) fun k x hx u e => hk1 x u (hp k x (List.mem_of_mem_take (hS.1 _ hx))).2 e
  have ik1:∀ k x,(k,x)∈ps→IK prog w h1 k x∧x≠I:=fun k x hx => ⟨CG (hp k x hx).1 fun u e => hk1 x u (hp k x hx).2 e,(hp k x hx).2⟩
  have hl1:h1.IsList l items:=hl.at fun o e => hk1 l o hne e
  show wpAny _ A.in1 (holding [Value.ref x] (setAdd a (.ref x)) >>= _) _ _ _
  refine wpAny_bind (wpAny_holding ?_)
  unfold setAdd
  refine wpAny_holding ?_
  refine wpAny_bind ((tk prog w).pyHash (s:={ s with heap:=h1 }) hu (ik1 k x (List.mem_of_getElem? hkx)).1 ?_)
  have htake:ps.take (i + 1) = ps.take i ++ [(k,x)]:=by rw [List.take_add_one,hkx]; rfl
  have hlen:xs.length≤i:=by have:=hS.2.2; rw [List.length_take] at this; omega
  refine RV (s:={ s with heap:=h1,toks:=s.toks + (tk prog w).draws k }) hX1 hu (ik1 k x (List.mem_of_getElem? hkx)).1 (by omega) (fun y hy => ?_) (fun hno h2 xs' sb sx mm ll => ?_)
  ·refine wpAny_pure ⟨plainId_quiet PyProof.Rows.F.plain_set_update_loop _,ih (i + 1) _ xs (by omega) (by omega) hit1 hl1 ik1 hX1 ⟨fun p hp' => by rw [htake]; exact List.mem_append_left _ (hS.1 p hp'),fun k' y' hm => ?_,by rw [htake,List.length_append]; have:=hS.2.2; omega⟩ fun h' tk' xs' kp sx so => hR h' tk' xs' (fun b u h1' h2' e => kp b u h1' h2' (hk1 b u h2' e)) sx so⟩
   rw [htake] at hm
   rcases List.mem_append.mp hm with hm | hm
   ·exact hS.2.1 k' y' hm
   ·cases List.mem_singleton.mp hm
    exact ⟨y,hy⟩
  ·have keep2:∀ b u,b≠a→h1.get? b = some u→h2.get? b = some u:=fun b u hb e => (sb.2 b hb).trans e
   have nea:∀ k x,(k,x)∈ps→x≠a:=fun k x hx => by
    obtain ⟨o,es,ep,t,S⟩:=hX1
    exact Mp (ik1 k x hx).1 S.get S.ex
   refine wpAny_pure ⟨plainId_quiet PyProof.Rows.F.plain_set_update_loop _,ih (i + 1) { s with heap:=h2,toks:=s.toks + (tk prog w).draws k } xs' (by omega) (by omega) (hit1.at fun o e => keep2 I o (Ne.symm hI) e) (hl1.at fun o e => keep2 l o (Ne.symm hla) e)
    (fun k x hx => ⟨CG (ik1 k x hx).1 fun u e => keep2 x u (nea k x hx) e,(hp k x hx).2⟩) sx ⟨fun p hp' => ?_,fun k' y' hm => ?_,by rw [htake,List.length_append,ll]; have:=hS.2.2; simp; omega⟩ fun h' tk' xs2 kp sx so => hR h' tk' xs2 (fun b u h1' h2' e => kp b u h1' h2' (keep2 b u h1' (hk1 b u h2' e))) sx so⟩
   ·rw [htake]
    rcases (mm p).mp hp' with h | h
    ·exact List.mem_append_left _ (hS.1 p h)
    ·exact List.mem_append_right _ (List.mem_singleton.mpr h)
   ·rw [htake] at hm
    rcases List.mem_append.mp hm with hm | hm
    ·obtain ⟨y2,hy2⟩:=hS.2.1 k' y' hm
     exact ⟨y2,(mm _).mpr (.inl hy2)⟩
    ·cases List.mem_singleton.mp hm
     exact ⟨x,(mm _).mpr (.inr rfl)⟩
end
end StT
namespace StT
open PySem PySem.SetTable PyProof.Rows
theorem AZ:Slot "set_iterator" "__next__" "set_iterator.__next__" :=
 .of (owner:="set_iterator") (n:="__next__") (by rw [typeLookup_type,builtinLookup_eq_fast]; kernel_rfl) (by decide +kernel) (by decide +kernel) (by decide +kernel)
  (by first | exact .inl (by decide +kernel) | exact .inr (by decide +kernel)) (by rw [isSubtype_type]; kernel_rfl)
theorem CV:Slot "set_iterator" "__iter__" "set_iterator.__iter__" :=
 .of (owner:="set_iterator") (n:="__iter__") (by rw [typeLookup_type,builtinLookup_eq_fast]; kernel_rfl) (by decide +kernel) (by decide +kernel) (by decide +kernel)
  (by first | exact .inl (by decide +kernel) | exact .inr (by decide +kernel)) (by rw [isSubtype_type]; kernel_rfl)
theorem Bz:entryFor table "set_iterator.__next__" = some Builtin.«set_iterator.__next__»:=entryFor_of_tree (by kernel_rfl)
theorem Dt:entryFor table "set_iterator.__iter__" = some Builtin.«dict_keyiterator.__iter__» :=
 entryFor_alias (id':="dict_keyiterator.__iter__") (by kernel_rfl) (by first | rfl | decide +kernel | (unfold String.splitOn; simp +decide [String.splitOnAux])) (by decide +kernel) (by kernel_rfl)
theorem FL:entryFor table "set.__iter__" = some Builtin.«frozenset.__iter__» :=
 entryFor_alias (id':="frozenset.__iter__") (by kernel_rfl) (by first | rfl | decide +kernel | (unfold String.splitOn; simp +decide [String.splitOnAux])) (by decide +kernel) (by kernel_rfl)
theorem EM:Manifest.owners.lookup (String.ofList ['r','o','t','a','r','e','t','i','_','t','e','s'].reverse) = some Manifest.sig_set_iterator:=by kernel_rfl
theorem CY (a:Value):argsOk "set_iterator.__next__" ⟨[a],[]⟩:=by
 unfold argsOk; rw [signature?_of (id:="set_iterator.__next__") (n:=['_','_','t','x','e','n','_','_']) (o:=['r','o','t','a','r','e','t','i','_','t','e','s']) (by kernel_rfl) EM]; kernel_rfl
theorem EV (a:Value):argsOk "set_iterator.__iter__" ⟨[a],[]⟩:=by
 unfold argsOk; rw [signature?_of (id:="set_iterator.__iter__") (n:=['_','_','r','e','t','i','_','_']) (o:=['r','o','t','a','r','e','t','i','_','t','e','s']) (by kernel_rfl) EM]; kernel_rfl
theorem KU {α:Type}:∀ (l:List α) (i:Nat) (h:i < l.length),(l[i] :: l.eraseIdx i).Perm l
 | x :: l,0,_ => List.Perm.refl _
 | x :: l,i + 1,h => by
  have ih:=KU l i (by simpa using h)
  simp only [List.getElem_cons_succ,List.eraseIdx_cons_succ]
  exact (List.Perm.swap _ _ _).trans (ih.cons x)
theorem KW {α:Type} (next:Nat→Nat):∀ (n k:Nat) (left:List α) (out:Array α),left.length = n→(pickOrder.go next n k left out).toList.Perm (out.toList ++ left)
 | 0,k,left,out,h => by
  have:left = []:=List.length_eq_zero_iff.mp h
  subst this
  simp [pickOrder.go]
 | n + 1,k,left,out,h => by
  have hlt:next k % left.length < left.length:=Nat.mod_lt _ (by omega)
  have e:left[next k % left.length]? = some left[next k % left.length]:=by simp [hlt]
  rw [pickOrder.go,e]
  have ih:=KW next n (k + 1) (left.eraseIdx (next k % left.length)) (out.push left[next k % left.length]) (by rw [List.length_eraseIdx_of_lt hlt]; omega)
  refine ih.trans ?_
  rw [Array.toList_push,List.append_assoc]
  exact List.Perm.append_left _ (KU left _ hlt)
theorem LU {α:Type} (next:Nat→Nat) (xs:Array α):(pickOrder next xs).toList.Perm xs.toList:=by
 have:=KW next xs.size 0 xs.toList #[] (by simp)
 simp only [List.nil_append] at this
 exact this
def DG (w:World) (a:Addr) (ep:Nat) (es:Array (Int × Value)):Array (Int × Value):=if w.params.followText "set-order" = true then pickOrder (w.params.setOrder a ep) es else es
theorem GM (w:World) (a:Addr) (ep:Nat) (es:Array (Int × Value)):(DG w a ep es).toList.Perm es.toList:=by
 unfold DG
 split
 ·exact LU _ _
 ·exact List.Perm.refl _
theorem Du (w:World) (a:Addr) (ep:Nat) (es:Array (Int × Value)):(DG w a ep es).size = es.size:=by
 rw [← Array.length_toList,← Array.length_toList]; exact (GM w a ep es).length_eq
theorem JW {xs:Array Nat} (r:Ml xs) {i:Nat} (hi:i≤xs.size) {slot:Nat} (hs:(i = 0∧slot = 0)∨(0 < i∧∃ j,xs[i - 1]? = some j∧slot = j + 1)):below xs slot = i:=by
 obtain ⟨b1,b2,b3⟩:=CD (j:=slot) r
 rcases hs with ⟨rfl,rfl⟩ | ⟨h0,j,hj,rfl⟩
 ·apply Classical.byContradiction
  intro hne
  have h0:0 < xs.size:=by omega
  have:=b2 0 xs[0] (by omega) (by simp [h0])
  omega
 ·have hlt:i - 1 < xs.size:=(Array.getElem?_eq_some_iff.mp hj).1
  rcases Nat.lt_trichotomy (below xs (j + 1)) i with hl | he | hg
  ·have hx:xs[below xs (j + 1)]? = some xs[below xs (j + 1)]:=by simp [show below xs (j + 1) < xs.size by omega]
   have h1:=b3 _ _ (Nat.le_refl _) hx
   by_cases hq:below xs (j + 1) = i - 1
   ·have hx2:xs[below xs (j + 1)]? = some j:=by rw [hq]; exact hj
    have:=Option.some.inj (hx.symm.trans hx2)
    omega
   ·have:=FE r hx hj (by omega)
    omega
  ·exact he
  ·have hx:xs[i]? = some xs[i]:=by simp [show i < xs.size by omega]
   have h1:=b2 i _ hg hx
   have:=FE r hj hx (by omega)
   omega
section
variable {prog:Program} {w:World} {A:Around} {E:Value→Shared→Prop} {s:Shared}
variable {a:Addr} {xs:List (List Int × Addr)} {o:Obj} {es:Array (Int × Value)} {ep:Nat} {t:SetTable}
def CA (w:World) (h:Heap) (I a:Addr) (t:SetTable) (ep n i:Nat):Prop:=∃ slot:Nat,h.get? I = some { cls:=.type "set_iterator",dict:=none,data:=.fields #[rawInt slot,rawInt i,.ref a,rawInt n,rawInt ep],slots:=#[] } ∧
 (w.params.followText "set-order" = false→(i = 0∧slot = 0)∨(0 < i∧∃ j,t.place[i - 1]? = some j∧slot = j + 1))
theorem FM (hg:s.heap.get? a = some o) (hd:o.data = .set es ep t) (hf:t.fits es.size = true) (hr:Ml t.place) (hpl:t.plain = true) (hled:t.led = !w.params.followText "set-order") {i slot:Nat} (hi:i≤es.size)
  (hs:w.params.followText "set-order" = false→(i = 0∧slot = 0)∨(0 < i∧∃ j,t.place[i - 1]? = some j∧slot = j + 1)) {Q:Option (Value × Nat)→Shared→Prop}
  (hsome:∀ e slot',(DG w a ep es)[i]? = some e→(w.params.followText "set-order" = false→∃ j,t.place[i]? = some j∧slot' = j + 1)→Q (some (e.2,slot')) s) (hnone:i = es.size→Q none s):wpAny (model prog w) A (setNext a slot i ep) Q E s:=by
 have hps:t.place.size = es.size:=by
  simp only [SetTable.fits,Bool.and_eq_true,beq_iff_eq] at hf
  exact hf.1
 have ask:∀ {R:Bool→Shared→Prop},R (w.params.followText "set-order") s→wpAny (model prog w) A setsByText R E s:=fun h => wpAny_bind (wpAny_askSetting (wpAny_pure h))
 unfold setNext
 refine wpAny_bind (wpAny_setState_of hg hd hf ?_)
 dsimp only
 refine wpAny_bind (ask ?_)
 cases hb:w.params.followText "set-order" with
 | true =>
  simp only [if_true]
  rw [if_neg (by simp)]
  refine wpAny_bind ?_
  unfold setWalk
  refine wpAny_bind (wpAny_setState_of hg hd hf ?_)
  dsimp only
  refine wpAny_bind (ask ?_)
  rw [hb]
  simp only [if_true]
  refine wpAny_bind (wpAny_askSetting (wpAny_pure ?_))
  refine wpAny_pure ?_
  have ho:DG w a ep es = pickOrder (w.params.setOrder a ep) es:=by unfold DG; rw [if_pos hb]
  show Q (((pickOrder (w.params.setOrder a ep) es)[i]?).map fun e => (e.2,slot)) s
  rw [← ho]
  cases he:(DG w a ep es)[i]? with
  | some e => exact hsome e slot he fun z => by rw [hb] at z; cases z
  | none =>
   refine hnone ?_
   have:=Array.getElem?_eq_none_iff.mp he
   rw [Du] at this
   omega
 | false =>
  rw [hb] at hled
  simp only [Bool.false_eq_true,if_false]
  have hdr:(!t.plain && decide (es.size > 1)) = false:=by rw [hpl]; rfl
  show wpAny _ _ (if (!t.plain && decide (es.size > 1)) = true then _ else _) _ _ s
  rw [hdr]
  simp only [Bool.false_eq_true,if_false]
  refine wpAny_bind ?_
  show wpAny _ _ (if (!t.led && !es.isEmpty) = true then _ else pure ()) _ _ s
  rw [hled]
  simp only [Bool.not_false,Bool.not_true,Bool.false_and,Bool.false_eq_true,if_false]
  refine wpAny_pure ?_
  rw [JW hr (by omega) (hs hb)]
  have ho:DG w a ep es = es:=by unfold DG; rw [if_neg (by rw [hb]; decide)]
  by_cases hlt:i < es.size
  ·have e1:es[i]? = some es[i]:=by simp [hlt]
   have e2:t.place[i]? = some (t.place[i]'(by omega)):=by simp [show i < t.place.size by omega]
   rw [e1,e2]
   exact wpAny_pure (hsome es[i] _ (by rw [ho]; exact e1) fun _ => ⟨_,e2,rfl⟩)
  ·have e1:es[i]? = none:=by simp; omega
   rw [e1]
   exact wpAny_pure (hnone (by omega))
end
section
variable {prog:Program} {w:World} {A:Around} {E:Value→Shared→Prop} {s:Shared}
variable {a I:Addr} {xs:List (List Int × Addr)} {o:Obj} {es:Array (Int × Value)} {ep:Nat} {t:SetTable}
structure Wk (w:World) (o:Obj) (es:Array (Int × Value)) (ep:Nat) (t:SetTable):Prop where
 cls:o.cls = .type "set"
 dat:o.data = .set es ep t
 fits:t.fits es.size = true
 ris:Ml t.place
 pl:t.plain = true
 led:t.led = !w.params.followText "set-order"
theorem SetD.wk (S:SetD prog w s.heap a xs o es ep t):Wk w o es ep t:=⟨S.ex.1,S.dat,S.fits,S.tb.ris,S.pl,S.led⟩
theorem Bu (K:Wk w o es ep t) (hg:s.heap.get? a = some o) {Q:Array (Int × Value)→Shared→Prop} (h:Q es s):wpAny (model prog w) A (setEntries a) Q E s:=by
 unfold setEntries
 exact wpAny_bind (wpAny_setState_of hg K.dat K.fits (wpAny_pure h))
theorem LV (K:Wk w o es ep t) (hg:s.heap.get? a = some o) (hne:a≠I) {i:Nat} (hi:i < es.size) (it:CA w s.heap I a t ep es.size i) {Q:Option Value→Shared→Prop}
  (hQ:∀ e h',(DG w a ep es)[i]? = some e→CA w h' I a t ep es.size (i + 1)→Heap.SameBut I s.heap h'→Q (some e.2) { s with heap:=h' }):wpAny (model prog w) A (pyNext (.ref I)) Q E s:=by
 obtain ⟨slot,ho,hsl⟩:=it
 have hT:s.TypeIs (.ref I) "set_iterator":=⟨_,ho,rfl⟩
 unfold pyNext
 refine wpAny_bind (wpAny_attempt (wpAny_callSpecial?_slot (name:=Str.ofString "__next__") hT AZ (wpAny_call_entry AZ hT Bz ?_ (CY _))))
 refine wpAny_bind (wpAny_pure ?_)
 refine wpAny_bind (wpAny_fieldsOf ho rfl ?_)
 show wpAny _ _ (setEntries a >>= _) _ _ s
 refine wpAny_bind (Bu K hg ?_)
 rw [if_neg (by simp)]
 show wpAny _ _ (setNext a ((slot:Int).toNat) ((i:Int).toNat) ((ep:Int).toNat) >>= _) _ _ s
 simp only [Int.toNat_natCast]
 refine wpAny_bind (FM hg K.dat K.fits K.ris K.pl K.led (Nat.le_of_lt hi) hsl (fun e slot' he hs' => ?_) fun z => by omega)
 dsimp only
 refine wpAny_bind (wpAny_setField_rec ho (by simp) fun h1 ho1 hs1 => ?_)
 refine wpAny_bind (wpAny_setField_rec (s:={ s with heap:=h1 }) ho1 (by simp) fun h2 ho2 hs2 => ?_)
 refine wpAny_pure ⟨_,rfl,wpAny_pure (hQ e h2 he ⟨slot',?_,fun hb => .inr ⟨Nat.succ_pos _,?_⟩⟩ (hs1.trans hs2))⟩
 ·simpa using ho2
 ·simpa using hs' hb
theorem Mr (K:Wk w o es ep t) (hh:A.handled = none) (hg:s.heap.get? a = some o) (hne:a≠I) (it:CA w s.heap I a t ep es.size es.size) {Q:Option Value→Shared→Prop}
  (hQ:∀ h',Heap.ExtBut I s.heap h'→Q none { s with heap:=h' }):wpAny (model prog w) A (pyNext (.ref I)) Q E s:=by
 obtain ⟨slot,ho,hsl⟩:=it
 have hT:s.TypeIs (.ref I) "set_iterator":=⟨_,ho,rfl⟩
 unfold pyNext
 refine wpAny_bind (wpAny_attempt (wpAny_callSpecial?_slot (name:=Str.ofString "__next__") hT AZ (wpAny_call_entry AZ hT Bz ?_ (CY _))))
 refine wpAny_bind (wpAny_pure ?_)
 refine wpAny_bind (wpAny_fieldsOf ho rfl ?_)
 show wpAny _ _ (setEntries a >>= _) _ _ s
 refine wpAny_bind (Bu K hg ?_)
 rw [if_neg (by simp)]
 show wpAny _ _ (setNext a ((slot:Int).toNat) ((es.size:Int).toNat) ((ep:Int).toNat) >>= _) _ _ s
 simp only [Int.toNat_natCast]
 refine wpAny_bind (FM hg K.dat K.fits K.ris K.pl K.led (Nat.le_refl _) hsl (fun e slot' he hs' => ?_) fun z => ?_)
 ·have:=(Array.getElem?_eq_some_iff.mp he).1
  rw [Du] at this
  omega
 dsimp only
 refine wpAny_bind (wpAny_setField_rec ho (by simp) fun h1 ho1 hs1 => ?_)
 show wpAny _ _ (newExc (.type "StopIteration") [] >>= _) _ _ _
 refine wpAny_bind ?_
 simp only [newExc,newTuple]
 refine wpAny_bind (wpAny_newObj_type ?_ (by size_fits))
 refine wpAny_bind (m:=firstArgMember _ _) (wpAny_of_eq (a:=Value.none) (by first | rfl | (simp only [firstArgMember]; rfl)) ?_)
 refine wpAny_newObj_type ?_ (by size_fits)
 simp only [raiseNew]
 refine wpAny_bind (wpAny_handled ?_)
 rw [show A.in1.handled = none from hh]
 refine wpAny_bind (wpAny_pure (wpAny_throw ?_))
 refine wpAny_bind (wpAny_isInstance (T:="StopIteration") (b:=true) ⟨_,Heap.get?_push_size _ rfl,rfl⟩ isSubtype_stop ?_)
 exact wpAny_pure (hQ _ ((hs1.extBut.push _).push _))
theorem LW {n i:Nat} (it:CA w s.heap I a t ep n i) {Q:Value→Shared→Prop} (h:Q (.ref I) s):wpAny (model prog w) A (pyIter (.ref I)) Q E s:=by
 obtain ⟨slot,ho,_⟩:=it
 have hT:s.TypeIs (.ref I) "set_iterator":=⟨_,ho,rfl⟩
 refine wpAny_pyIter_slot hT CV (wpAny_call_entry CV hT Dt ?_ (EV _))
 show wpAny _ _ (ret (.ref I)) _ _ s
 exact wpAny_pure ⟨_,rfl,"set_iterator",_,hT,AZ.lookup,h⟩
theorem Ms (K:Wk w o es ep t) (hg:s.heap.get? a = some o) {Q:Value→Shared→Prop}
  (h:Q (.ref s.heap.objs.size) { s with heap:=s.heap.push { cls:=.type "set_iterator",data:=.fields #[rawInt 0,rawInt 0,.ref a,rawInt es.size,rawInt ep] } }):wpAny (model prog w) A (pyIter (.ref a)) Q E s:=by
 have hT:s.TypeIs (.ref a) "set":=⟨_,hg,K.cls⟩
 have ask:∀ {A:Around} {E:Value→Shared→Prop} {R:Bool→Shared→Prop},R (w.params.followText "set-order") s→wpAny (model prog w) A setsByText R E s:=fun h => wpAny_bind (wpAny_askSetting (wpAny_pure h))
 refine wpAny_pyIter_slot hT PySem.F.slot_set_iter (wpAny_call_entry PySem.F.slot_set_iter hT FL ?_ (PySem.F.args_set_iter_1 _))
 unfold Builtin.«frozenset.__iter__»
 refine wpAny_bind (wpAny_bind (wpAny_pure (wpAny_pure ?_)))
 refine wpAny_bind (wpAny_bind (Bu K hg (wpAny_pure ?_)))
 refine wpAny_bind ?_
 unfold setDrawn
 refine wpAny_bind (wpAny_setState_of hg K.dat K.fits ?_)
 dsimp only
 refine wpAny_bind (ask (wpAny_pure ?_))
 have hdr:(!w.params.followText "set-order" && (!t.plain && decide (es.size > 1))) = false:=by rw [K.pl]; simp
 show wpAny _ _ (if (!w.params.followText "set-order" && (!t.plain && decide (es.size > 1))) = true then _ else _) _ _ s
 rw [hdr]
 simp only [Bool.false_eq_true,if_false]
 refine wpAny_bind (wpAny_pure ?_)
 refine wpAny_bind (wpAny_setEpoch_of hg K.dat K.fits ?_)
 refine wpAny_bind ?_
 unfold newFields
 refine wpAny_newObj_type ?_
 refine wpAny_pure ⟨_,rfl,"set_iterator",_,⟨_,Heap.get?_push_size _ rfl,rfl⟩,AZ.lookup,h⟩
theorem LX (K:Wk w o es ep t) (hh:A.handled = none) (hne:a≠I):Walks prog w A I [I,a] [I] es.size (fun i v => ∃ h,(DG w a ep es)[i]? = some (h,v)) (fun i h => CA w h I a t ep es.size i∧h.get? a = some o) where
 sub:=fun b hb => by simp at hb; simp [hb]
 frame:=fun i h h' st hk => by
  obtain ⟨⟨slot,h1,h2⟩,h3⟩:=st
  exact ⟨⟨slot,hk I (by simp) _ h1,h2⟩,hk a (by simp) _ h3⟩
 item:=fun i s Q E hi st hQ => LV K st.2 hne hi st.1 fun e h' he it' sb => hQ e.2 h' s.toks ⟨e.1,he⟩ ⟨it',(sb.2 a hne).trans st.2⟩ fun b o hb e => (sb.2 b (fun z => hb (by simp [z]))).trans e
 done:=fun s Q E st hQ => Mr K hh st.2 hne st.1 fun h' he => hQ h' s.toks fun b o hb e => he b o (fun z => hb (by simp [z])) e
 self:=fun i s Q E st hQ => LW st.1 hQ
theorem Mt {r:Addr} {Q:Bool→Shared→Prop} (hT:s.TypeIs (.ref r) "set") (h:Q false s):wpAny (model prog w) A (Builtin.List.listLengthHint (.ref r)) Q E s:=by
 unfold Builtin.List.listLengthHint
 refine wpAny_bind (wpAny_specialOf hT PySem.F.slot_set_len.lookup ?_)
 generalize hid:("set.__len__" : String) = id0
 wp_delta
 rw [show splitId id0 = some ("set","__len__") from by subst hid; decide +kernel]
 subst hid
 refine wpAny_bind (wpAny_isInstance (T:="set") (b:=true) hT (by rw [isSubtype_type]; kernel_rfl) ?_)
 refine wpAny_ite_split (fun hab => absurd hab (by decide)) (fun _ => ?_)
 refine wpAny_ite_split (fun _ => ?_) (fun hab => absurd (by decide +kernel) hab)
 refine wpAny_bind (wpAny_typeOf hT ?_)
 exact wpAny_pure h
theorem Oy (K:Wk w o es ep t):PySem.W.KdlSrc prog w "set" a a es.size (fun i v => ∃ h,(DG w a ep es)[i]? = some (h,v)) (fun h => h.get? a = some o) where
 type:=fun _ hm => ⟨_,hm,K.cls⟩
 there:=fun _ hm => ⟨Heap.lt_size hm,Heap.lt_size hm⟩
 keep:=fun _ _ hm hk => hk a (.inl rfl) _ hm
 notList:=by decide
 notTuple:=by decide
 hint:=fun _ _ _ _ hm hq => Mt ⟨_,hm,K.cls⟩ hq
 iter:=fun A s hh hm => ⟨_,_,(fun _ _ hq => Ms K hm hq),LX K hh (Nat.ne_of_lt (Heap.lt_size hm)),⟨⟨0,Heap.get?_push_size _ rfl,fun _ => .inl ⟨rfl,rfl⟩⟩,Heap.get?_push_of_some _ hm⟩⟩
end
end StT
namespace SrtG
open PySem PyProof.Rows
def KY:Bool→Keyed→Array Keyed→Nat→Nat→Nat→StateT SortSt Sem (Option Nat):=sortPriv% PySem.Builtin.gallop
def Uw (left:Bool) (key:Keyed) (arr:Array Keyed) (base i:Nat):StateT SortSt Sem (Option Bool):=do
 let x ← elem' arr (base + i)
 if left then lt' x key else return (← lt' key x).map (!·)
section
variable {prog:Program} {w:World} {A:Around} {E:Value→Shared→Prop} {s:Shared}
def Mu (prog:Program) (w:World) (A:Around) (E:Value→Shared→Prop) (s:Shared) (kd:SortKind) (U:Keyed→Prop) (rk:Keyed→Int):Prop :=
 ∀ (st:SortSt) (x y:Keyed) (Q:Option Bool→SortSt→Prop),kindOf st = kd→U x→U y→Q (some (decide (rk x < rk y))) st→wpS (model prog w) A E s (lt' x y) Q st
variable {kd:SortKind} {U:Keyed→Prop} {rk:Keyed→Int}
def RK (rk:Keyed→Int) (xs:Array Keyed) (i:Nat):Int:=match xs[i]? with
 | some p => rk p
 | none => 0
def AllU (U:Keyed→Prop) (xs:Array Keyed):Prop:=∀ (i:Nat) (p:Keyed),xs[i]? = some p→U p
def bt (left:Bool) (rk:Keyed→Int) (key:Keyed) (arr:Array Keyed) (base i:Nat):Bool:=if left then decide (RK rk arr (base + i) < rk key) else !decide (rk key < RK rk arr (base + i))
theorem Oz {left:Bool} {key:Keyed} {arr:Array Keyed} {base i:Nat} {st:SortSt} {Q:Option Bool→SortSt→Prop} (C:Mu prog w A E s kd U rk) (hk:kindOf st = kd) (hK:U key) (hU:AllU U arr) (hi:base + i < arr.size)
  (h:Q (some (bt left rk key arr base i)) st):wpS (model prog w) A E s (Uw left key arr base i) Q st:=by
 unfold Uw
 have e:arr[base + i]? = some arr[base + i]:=getElem?_pos arr (base + i) hi
 rw [elem'_eq,e]
 refine wpS_bind (wpS_pure ?_)
 have eR:RK rk arr (base + i) = rk arr[base + i]:=by unfold RK; rw [e]
 unfold bt at h
 rw [eR] at h
 cases left with
 | true =>
  rw [if_pos rfl] at h ⊢
  exact C st _ _ _ hk (hU _ _ e) hK h
 | false =>
  rw [if_neg Bool.false_ne_true] at h ⊢
  exact wpS_bind (C st _ _ _ hk hK (hU _ _ e) (wpS_pure h))
def QL (P:Nat→Bool) (n r:Nat):Prop:=r≤n∧(∀ i,i < r→P i = true)∧∀ i,r≤i→i < n→P i = false
theorem Mv {α:Type} {P:Nat→Bool} {b:Nat→StateT SortSt Sem (Option Bool)} {n l h:Nat} {st:SortSt} (hb:∀ i (Q:Option Bool→SortSt→Prop),i < n→Q (some (P i)) st→wpS (model prog w) A E s (b i) Q st)
  (mono:∀ i j,i≤j→j < n→P j = true→P i = true) (hl:l≤h) (hn:h≤n) (h1:∀ i,i < l→P i = true) (h2:∀ i,h≤i→i < n→P i = false) :
  wpS (model prog w) A E s (forIn [:n] ((none:Option (Option Nat)),l,h) fun x __s =>
   if __s.snd.fst ≥ __s.snd.snd then pure (ForInStep.done (none,__s.snd.fst,__s.snd.snd))
   else do
    let __x ← b (__s.snd.fst + (__s.snd.snd - __s.snd.fst) / 2)
    match __x with
     | some mr =>
      if mr = true then pure (ForInStep.yield (none,__s.snd.fst + (__s.snd.snd - __s.snd.fst) / 2 + 1,__s.snd.snd))
      else pure (ForInStep.yield (none,__s.snd.fst,__s.snd.fst + (__s.snd.snd - __s.snd.fst) / 2))
     | x => pure (ForInStep.done (some none,__s.snd.fst,__s.snd.snd))) (fun c st' => st' = st∧c.1 = none∧QL P n c.2.2) st:=by
 refine wpS_forRange (I:=fun x c st' => st' = st∧∃ l h,c = (none,l,h)∧l≤h∧h≤n∧(∀ i,i < l→P i = true)∧(∀ i,h≤i→i < n→P i = false)∧h - l≤n - x) ?_ ?_ ⟨rfl,l,h,rfl,hl,hn,h1,h2,by omega⟩
 ·rintro x c st' _ hx ⟨rfl,l,h,rfl,hl,hn,h1,h2,hm⟩
  dsimp only
  by_cases hlh:l ≥ h
  ·rw [if_pos hlh]
   have e:l = h:=by omega
   subst e
   exact wpS_pure ⟨rfl,rfl,hn,h1,h2⟩
  ·rw [if_neg hlh]
   refine wpS_bind (hb _ _ (by omega) ?_)
   dsimp only
   cases hP:P (l + (h - l) / 2) with
   | true =>
    rw [if_pos rfl]
    exact wpS_pure ⟨rfl,_,_,rfl,by omega,hn,fun i hi => mono i _ (by omega) (by omega) hP,h2,by omega⟩
   | false =>
    rw [if_neg Bool.false_ne_true]
    refine wpS_pure ⟨rfl,_,_,rfl,by omega,by omega,h1,fun i hi hin => ?_,by omega⟩
    cases q:P i with
    | false => rfl
    | true => rw [mono _ i hi hin q] at hP; cases hP
 ·rintro c st' ⟨rfl,l,h,rfl,hl,hn,h1,h2,hm⟩
  have e:l = h:=by
   have:max 0 n = n:=by omega
   rw [this] at hm
   omega
  subst e
  exact ⟨rfl,rfl,hn,h1,h2⟩
theorem At {left : Bool} {key : Keyed} {arr : Array Keyed} {base n hint : Nat} {st : SortSt} {Q : Option Nat → SortSt → Prop} (C : Mu prog w A E s kd U rk) (hk : kindOf st = kd) (hK : U key) (hU : AllU U arr) (hb : base + n ≤ arr.size) (hh : hint < n)
    (mono : ∀ i j, i ≤ j → j < n → bt left rk key arr base j = true → bt left rk key arr base i = true)
    (h : ∀ r, QL (bt left rk key arr base) n r → Q (some r) st) : wpS (model prog w) A E s (KY left key arr base n hint) Q st := by
  delta KY
  have hbey : ∀ i (Q : Option Bool → SortSt → Prop), i < n → Q (some (bt left rk key arr base i)) st → wpS (model prog w) A E s (Uw left key arr base i) Q st := fun i Q hi q => Oz C hk hK hU (by omega) q
  have fals : ∀ i j, i ≤ j → j < n → bt left rk key arr base i = false → bt left rk key arr base j = false := fun i j hij hj e => by
    cases q : bt left rk key arr base j with
    | false => rfl
    | true => rw [mono i j hij hj q] at e; cases e
  refine wpS_bind (hbey _ _ hh ?_)
  dsimp only
  cases hP : bt left rk key arr base hint with
  | true =>
    rw [if_pos rfl]
    refine wpS_bind (wpS_mono (wpS_forRange (I := fun x c st' => st' = st ∧ ∃ la o, c = (none, la, o) ∧ la < o ∧ x + 1 ≤ o ∧ hint + la < n ∧ bt left rk key arr base (hint + la) = true)
      (Q := fun c st' => st' = st ∧ ∃ la o, c = (none, la, o) ∧ la < o ∧ hint + la < n ∧ bt left rk key arr base (hint + la) = true ∧ (n - hint ≤ o ∨ bt left rk key arr base (hint + o) = false)) ?_ ?_ ⟨rfl, 0, 1, rfl, by omega, by omega, hh, hP⟩) ?_)
    · rintro x c st' _ hx ⟨rfl, la, o, rfl, h1, h2, h3, h4⟩
      dsimp only
      by_cases ho : o ≥ n - hint
      · rw [if_pos ho]
        exact wpS_pure ⟨rfl, la, o, rfl, h1, h3, h4, .inl ho⟩
      · rw [if_neg ho]
        refine wpS_bind (hbey _ _ (by omega) ?_)
        dsimp only
        cases hq : bt left rk key arr base (hint + o) with
        | false =>
          rw [if_pos (by decide)]
          exact wpS_pure ⟨rfl, la, o, rfl, h1, h3, h4, .inr hq⟩
        | true =>
          rw [if_neg (by decide)]
          exact wpS_pure ⟨rfl, o, _, rfl, by omega, by omega, by omega, hq⟩
    · rintro c st' ⟨rfl, la, o, rfl, h1, h2, h3, h4⟩
      exact ⟨rfl, la, o, rfl, h1, h3, h4, .inl (by have : max 0 n = n := by omega
                                                   omega)⟩
    · rintro c st' ⟨rfl, la, o, rfl, h1, h3, h4, h5⟩
      dsimp only
      refine wpS_bind (wpS_mono (Mv (α := Unit) hbey mono (by omega) (by omega) (fun i hi => mono i (hint + la) (by omega) h3 h4) (fun i hi hin => ?_)) ?_)
      · rcases h5 with h5 | h5
        · omega
        · exact fals (hint + o) i (by omega) hin h5
      · rintro ⟨c1, c2, c3⟩ st'' ⟨rfl, e, pt⟩
        cases e
        exact wpS_pure (h _ pt)
  | false =>
    rw [if_neg Bool.false_ne_true]
    refine wpS_bind (wpS_mono (wpS_forRange (I := fun x c st' => st' = st ∧ ∃ la o, c = (none, la, o) ∧ la < o ∧ x + 1 ≤ o ∧ la ≤ hint ∧ bt left rk key arr base (hint - la) = false)
      (Q := fun c st' => st' = st ∧ ∃ la o, c = (none, la, o) ∧ la < o ∧ la ≤ hint ∧ bt left rk key arr base (hint - la) = false ∧ (hint + 1 ≤ o ∨ bt left rk key arr base (hint - o) = true)) ?_ ?_ ⟨rfl, 0, 1, rfl, by omega, by omega, by omega, hP⟩) ?_)
    · rintro x c st' _ hx ⟨rfl, la, o, rfl, h1, h2, h3, h4⟩
      dsimp only
      by_cases ho : o ≥ hint + 1
      · rw [if_pos ho]
        exact wpS_pure ⟨rfl, la, o, rfl, h1, h3, h4, .inl ho⟩
      · rw [if_neg ho]
        refine wpS_bind (hbey _ _ (by omega) ?_)
        dsimp only
        cases hq : bt left rk key arr base (hint - o) with
        | true =>
          rw [if_pos rfl]
          exact wpS_pure ⟨rfl, la, o, rfl, h1, h3, h4, .inr hq⟩
        | false =>
          rw [if_neg Bool.false_ne_true]
          exact wpS_pure ⟨rfl, o, _, rfl, by omega, by omega, by omega, hq⟩
    · rintro c st' ⟨rfl, la, o, rfl, h1, h2, h3, h4⟩
      exact ⟨rfl, la, o, rfl, h1, h3, h4, .inl (by have : max 0 n = n := by omega
                                                   omega)⟩
    · rintro c st' ⟨rfl, la, o, rfl, h1, h3, h4, h5⟩
      dsimp only
      refine wpS_bind (wpS_mono (Mv (α := Unit) hbey mono (by omega) (by omega) (fun i hi => ?_) (fun i hi hin => fals (hint - la) i hi hin h4)) ?_)
      · rcases h5 with h5 | h5
        · omega
        · exact mono i (hint - o) (by omega) (by omega) h5
      · rintro ⟨c1, c2, c3⟩ st'' ⟨rfl, e, pt⟩
        cases e
        exact wpS_pure (h _ pt)
end
local macro_rules | `(tactic| omega) => `(tactic| first | lia | omega)
open PySem PyProof.Rows
variable {rk:Keyed→Int}
def Dv (rk:Keyed→Int) (a:Array Keyed):Prop:=∀ i j,i≤j→j < a.size→RK rk a i≤RK rk a j
structure Mrg (rk:Keyed→Int) (a b out:Array Keyed) (i j:Nat):Prop where
 hi:i≤a.size
 hj:j≤b.size
 perm:out.toList.Perm (a.toList.take i ++ b.toList.take j)
 srt:out.toList.Pairwise fun x y => rk x≤rk y
 ha:∀ x,x∈out.toList→∀ y,i≤y→y < a.size→rk x≤RK rk a y
 hb:∀ x,x∈out.toList→∀ y,j≤y→y < b.size→rk x≤RK rk b y
structure Fin2 (rk:Keyed→Int) (a b r:Array Keyed):Prop where
 perm:r.toList.Perm (a.toList ++ b.toList)
 srt:r.toList.Pairwise fun x y => rk x≤rk y
theorem Aj {a:Array Keyed} {i:Nat} (h:i < a.size):RK rk a i = rk a[i]:=by
 unfold RK
 rw [getElem?_pos a i h]
theorem Mrg.sym {a b out:Array Keyed} {i j:Nat} (m:Mrg rk a b out i j):Mrg rk b a out j i :=
 ⟨m.hj,m.hi,m.perm.trans List.perm_append_comm,m.srt,m.hb,m.ha⟩
theorem Mrg.pushA {a b out:Array Keyed} {i j:Nat} (m:Mrg rk a b out i j) (sa:Dv rk a) (h:i < a.size) (hb:∀ y,j≤y→y < b.size→rk a[i]≤RK rk b y):Mrg rk a b (out.push a[i]) (i + 1) j:=by
 have e:(out.push a[i]).toList = out.toList ++ [a[i]]:=Array.toList_push ..
 have t:a.toList.take (i + 1) = a.toList.take i ++ [a[i]]:=by
  rw [List.take_succ]
  have:a.toList[i]? = some a[i]:=by rw [Array.getElem?_toList]; exact getElem?_pos a i h
  rw [this]; rfl
 refine ⟨h,m.hj,?_,?_,?_,?_⟩
 ·rw [e,t]
  have p1:=m.perm.append_right [a[i]]
  refine p1.trans ?_
  rw [List.append_assoc,List.append_assoc]
  exact List.Perm.append_left _ List.perm_append_comm
 ·rw [e,List.pairwise_append]
  refine ⟨m.srt,List.pairwise_singleton _ _,fun x hx y hy => ?_⟩
  cases List.mem_singleton.mp hy
  have:=m.ha x hx i (Nat.le_refl _) h
  rwa [Aj h] at this
 ·intro x hx y hy hys
  rw [e] at hx
  rcases List.mem_append.mp hx with hx | hx
  ·exact m.ha x hx y (by omega) hys
  ·cases List.mem_singleton.mp hx
   have:=sa i y (by omega) hys
   rwa [Aj h] at this
 ·intro x hx y hy hys
  rw [e] at hx
  rcases List.mem_append.mp hx with hx | hx
  ·exact m.hb x hx y hy hys
  ·cases List.mem_singleton.mp hx
   exact hb y hy hys
theorem Mrg.pushB {a b out:Array Keyed} {i j:Nat} (m:Mrg rk a b out i j) (sb:Dv rk b) (h:j < b.size) (ha:∀ y,i≤y→y < a.size→rk b[j]≤RK rk a y):Mrg rk a b (out.push b[j]) i (j + 1):=(m.sym.pushA sb h ha).sym
theorem HI (a:Array Keyed) (i k:Nat) (h:i + k < a.size):a.extract i (i + (k + 1)) = (a.extract i (i + k)).push a[i + k]:=by
 apply Array.ext'
 rw [Array.toList_push,Array.toList_extract,Array.toList_extract,List.extract_eq_drop_take,List.extract_eq_drop_take]
 have e1:i + (k + 1) - i = k + 1:=by omega
 have e2:i + k - i = k:=by omega
 rw [e1,e2,List.take_succ,List.getElem?_drop,Array.getElem?_toList,getElem?_pos a (i + k) h]
 rfl
theorem Mrg.appA {a b:Array Keyed} {i j:Nat}:∀ (k:Nat) {out:Array Keyed},Mrg rk a b out i j→Dv rk a→i + k≤a.size→(∀ x,x < k→∀ y,j≤y→y < b.size→RK rk a (i + x)≤RK rk b y)→Mrg rk a b (out ++ a.extract i (i + k)) (i + k) j
 | 0,out,m,_,_,_ => by
  have:out ++ a.extract i (i + 0) = out:=by
   apply Array.ext'
   rw [Array.toList_append,Array.toList_extract,List.extract_eq_drop_take]
   have:i + 0 - i = 0:=by omega
   rw [this,List.take_zero,List.append_nil]
  rw [this]; exact m
 | k + 1,out,m,sa,h,hb => by
  have m':=Mrg.appA k m sa (by omega) fun x hx => hb x (by omega)
  have hk:i + k < a.size:=by omega
  rw [HI a i k hk,Array.append_push]
  exact m'.pushA sa hk fun y h1 h2 => by
   have:=hb k (by omega) y h1 h2
   rwa [Aj hk] at this
theorem Mrg.appB {a b:Array Keyed} {i j:Nat} (k:Nat) {out:Array Keyed} (m:Mrg rk a b out i j) (sb:Dv rk b) (h:j + k≤b.size) (ha:∀ x,x < k→∀ y,i≤y→y < a.size→RK rk b (j + x)≤RK rk a y):Mrg rk a b (out ++ b.extract j (j + k)) i (j + k):=(Mrg.appA k m.sym sb h ha).sym
theorem Mrg.fin {a b out:Array Keyed} (m:Mrg rk a b out a.size b.size):Fin2 rk a b out:=by
 have p:=m.perm
 rw [← Array.length_toList,← Array.length_toList,List.take_length,List.take_length] at p
 exact ⟨p,m.srt⟩
theorem Mrg.restAB {a b out:Array Keyed} {i j:Nat} (m:Mrg rk a b out i j) (sa:Dv rk a) (sb:Dv rk b) (h:∀ x y,i≤x→x < a.size→j≤y→y < b.size→RK rk a x≤RK rk b y):Fin2 rk a b (out ++ a.extract i a.size ++ b.extract j b.size):=by
 have hi:=m.hi
 have hj:=m.hj
 have m1:=m.appA (a.size - i) sa (by omega) fun x hx y h1 h2 => h _ _ (by omega) (by omega) h1 h2
 have e1:i + (a.size - i) = a.size:=by omega
 rw [e1] at m1
 have m2:=m1.appB (b.size - j) sb (by omega) fun x hx y h1 h2 => by omega
 have e2:j + (b.size - j) = b.size:=by omega
 rw [e2] at m2
 exact m2.fin
theorem Mrg.restBA {a b out:Array Keyed} {i j:Nat} (m:Mrg rk a b out i j) (sa:Dv rk a) (sb:Dv rk b) (h:∀ x y,i≤x→x < a.size→j≤y→y < b.size→RK rk b y≤RK rk a x):Fin2 rk a b (out ++ b.extract j b.size ++ a.extract i a.size):=by
 have f:=m.sym.restAB sb sa fun x y h1 h2 h3 h4 => h y x h3 h4 h1 h2
 exact ⟨f.perm.trans List.perm_append_comm,f.srt⟩
end SrtG
namespace SrtG
local macro_rules | `(tactic| omega) => `(tactic| first | lia | omega)
open PySem PyProof.Rows
def IT:Array Keyed→Array Keyed→StateT SortSt Sem (Array Keyed):=sortPriv% PySem.Builtin.mergeLo
def KZ:Nat→StateT SortSt Sem Unit:=sortPriv% PySem.Builtin.setMinGallop
theorem JX (g:Nat):KZ g = modify fun s => SortSt.mk' (kindOf s) (arrOf s) (pendingOf s) g (failedOf s):=rfl
abbrev dn (a b out:Array Keyed) (ia ib:Nat):Array Keyed:=out ++ a.extract ia a.size ++ b.extract ib b.size
abbrev la (a b out:Array Keyed) (ia ib:Nat):Array Keyed:=out ++ b.extract ib b.size ++ a.extract ia a.size
section
variable {prog:Program} {w:World} {A:Around} {E:Value→Shared→Prop} {s:Shared} {kd:SortKind} {U:Keyed→Prop} {rk:Keyed→Int}
structure Like (st st':SortSt):Prop where
 kd:kindOf st' = kindOf st
 arr:arrOf st' = arrOf st
 pd:pendingOf st' = pendingOf st
 fl:failedOf st' = failedOf st
theorem Like.refl (st:SortSt):Like st st:=⟨rfl,rfl,rfl,rfl⟩
theorem CH {g:Nat} {st0 st:SortSt} {Q:Unit→SortSt→Prop} (l:Like st0 st) (h:∀ st',Like st0 st'→Q () st'):wpS (model prog w) A E s (KZ g) Q st:=by
 rw [JX]
 exact wpS_modify (h _ ⟨l.kd,l.arr,l.pd,l.fl⟩)
theorem AM {arr:Array Keyed} {i:Nat} {st:SortSt} {Q:Keyed→SortSt→Prop} (hi:i < arr.size) (h:Q arr[i] st):wpS (model prog w) A E s (elem' arr i) Q st:=by
 rw [elem'_eq,getElem?_pos arr i hi]
 exact wpS_pure h
structure Hd (rk:Keyed→Int) (a b out:Array Keyed) (i j n:Nat):Prop where
 m:Mrg rk a b out i j
 hi:i + 1 < a.size
 hj:j < b.size
 hn:n≤i + j
theorem IU {a b:Array Keyed} {st:SortSt} {Q:Array Keyed→SortSt→Prop} (C:Mu prog w A E s kd U rk) (hk:kindOf st = kd) (uA:AllU U a) (uB:AllU U b) (sa:Dv rk a) (sb:Dv rk b) (ha0:0 < a.size) (hb0:0 < b.size)
  (hfst:RK rk b 0≤RK rk a 0) (hlst:RK rk b (b.size - 1)≤RK rk a (a.size - 1))
  (h:∀ r st',Like st st'→Fin2 rk a b r→Q r st'):wpS (model prog w) A E s (IT a b) Q st:=by
 have Udn:∀ {out i j},Mrg rk a b out i j→i = a.size∨j = b.size→Fin2 rk a b (dn a b out i j):=fun m hh => m.restAB sa sb fun x y _ _ _ _ => by omega
 have Ula:∀ {out i j},Mrg rk a b out i j→i + 1 = a.size→Fin2 rk a b (la a b out i j):=fun {out i j} m hh => m.restBA sa sb fun x y h1 h2 h3 h4 => by
  have e1:=sb y (b.size - 1) (by omega) (by omega)
  have e:x = a.size - 1:=by omega
  subst e
  omega
 have uAt:∀ {i} (hi:i < a.size),U a[i]:=fun hi => uA _ _ (getElem?_pos a _ hi)
 have uBt:∀ {i} (hi:i < b.size),U b[i]:=fun hi => uB _ _ (getElem?_pos b _ hi)
 delta IT
 refine wpS_bind (wpS_lift (wpAny_rule ⟨rfl,?_⟩))
 refine wpS_bind (AM hb0 ?_)
 have m0:Mrg rk a b #[] 0 0:=⟨by omega,by omega,List.Perm.nil,List.Pairwise.nil,(fun x hx => by cases hx),(fun x hx => by cases hx)⟩
 have m1:Mrg rk a b #[b[0]] 0 1:=m0.pushB sb hb0 fun y _ hy => by
  have e1:=sa 0 y (by omega) hy
  rw [← Aj (rk:=rk) hb0]
  omega
 dsimp only
 by_cases c1:1 = b.size
 ·rw [if_pos (beq_iff_eq.mpr c1)]
  exact wpS_pure (h _ _ (Like.refl _) (Udn m1 (.inr c1)))
 rw [if_neg (fun q => c1 (beq_iff_eq.mp q))]
 by_cases c2:0 + 1 = a.size
 ·rw [if_pos (beq_iff_eq.mpr c2)]
  exact wpS_pure (h _ _ (Like.refl _) (Ula m1 c2))
 rw [if_neg (fun q => c2 (beq_iff_eq.mp q))]
 refine wpS_bind (wpS_get ?_)
 refine wpS_bind (wpS_mono (wpS_forRange (I:=fun x c st' => Like st st'∧∃ out i j mg,c = (none,out,i,j,mg)∧Hd rk a b out i j (x + 1))
  (Q:=fun c st' => Like st st'∧∃ r,c.1 = some r∧Fin2 rk a b r) ?_ ?_ ⟨Like.refl _,_,_,_,_,rfl,m1,by omega,by omega,by omega⟩) ?_)
 ·rintro x c st1 _ hx ⟨lk,out,i,j,mg,rfl,hd⟩
  dsimp only
  refine wpS_bind (wpS_mono (wpS_forRange (I:=fun _ c st' => Like st st'∧∃ out i j ac bc,c = (none,out,i,j,ac,bc)∧Hd rk a b out i j (x + 1))
   (Q:=fun c st' => Like st st'∧((∃ r,c.1 = some r∧Fin2 rk a b r)∨∃ out i j ac bc,c = (none,out,i,j,ac,bc)∧Hd rk a b out i j (x + 1))) ?_ ?_ ⟨lk,_,_,_,_,_,rfl,hd⟩) ?_)
  ·rintro x1 c st2 _ hx1 ⟨lk,out,i,j,ac,bc,rfl,hd⟩
   have hia:i < a.size:=by have:=hd.hi; omega
   have hjb:=hd.hj
   have hin:=hd.hn
   dsimp only
   refine wpS_bind (AM hd.hj ?_)
   refine wpS_bind (AM hia ?_)
   refine wpS_bind (C _ _ _ _ (lk.kd.trans hk) (uBt hd.hj) (uAt hia) ?_)
   dsimp only
   by_cases hlt:rk b[j] < rk a[i]
   ·rw [if_pos (by exact decide_eq_true hlt)]
    have m:=hd.m.pushB sb hd.hj fun y h1 h2 => by
     have:=sa i y h1 h2
     rw [Aj hia] at this
     omega
    refine wpS_bind (AM hd.hj ?_)
    by_cases c3:j + 1 = b.size
    ·rw [if_pos (beq_iff_eq.mpr c3)]
     exact wpS_pure ⟨lk,.inl ⟨_,rfl,Udn m (.inr c3)⟩⟩
    rw [if_neg (fun q => c3 (beq_iff_eq.mp q))]
    have hd':Hd rk a b (out.push b[j]) i (j + 1) (x + 1):=⟨m,hd.hi,by have:=hd.hj; omega,by omega⟩
    split
    ·exact wpS_pure ⟨lk,.inr ⟨_,_,_,_,_,rfl,hd'⟩⟩
    ·exact wpS_pure ⟨lk,_,_,_,_,_,rfl,hd'⟩
   ·rw [if_neg (fun q => hlt (of_decide_eq_true q))]
    have m:=hd.m.pushA sa hia fun y h1 h2 => by
     have:=sb j y h1 h2
     rw [Aj hd.hj] at this
     omega
    refine wpS_bind (AM hia ?_)
    by_cases c3:i + 1 + 1 = a.size
    ·rw [if_pos (beq_iff_eq.mpr c3)]
     exact wpS_pure ⟨lk,.inl ⟨_,rfl,Ula m c3⟩⟩
    rw [if_neg (fun q => c3 (beq_iff_eq.mp q))]
    have hd':Hd rk a b (out.push a[i]) (i + 1) j (x + 1):=⟨m,by have:=hd.hi; omega,hd.hj,by omega⟩
    split
    ·exact wpS_pure ⟨lk,.inr ⟨_,_,_,_,_,rfl,hd'⟩⟩
    ·exact wpS_pure ⟨lk,_,_,_,_,_,rfl,hd'⟩
  ·rintro c st2 ⟨lk,hh⟩
   exact ⟨lk,.inr hh⟩
  rintro c st2 ⟨lk,⟨r,e,f⟩ | ⟨out,i,j,ac,bc,rfl,hd⟩⟩
  ·obtain ⟨c1,c2⟩:=c
   cases e
   exact wpS_pure ⟨lk,_,rfl,f⟩
  dsimp only
  refine wpS_bind (wpS_lift (wpAny_rule ⟨rfl,?_⟩))
  refine wpS_bind (wpS_mono (wpS_forRange (I:=fun y c st' => Like st st'∧∃ out i j mg ac bc,c = (none,out,i,j,mg,ac,bc)∧Hd rk a b out i j (x + 1 + y))
   (Q:=fun c st' => Like st st'∧((∃ r,c.1 = some r∧Fin2 rk a b r)∨∃ out i j mg ac bc,c = (none,out,i,j,mg,ac,bc)∧Hd rk a b out i j (x + 1 + 1))) ?_ ?_ ⟨lk,_,_,_,_,_,_,rfl,hd⟩) ?_)
  ·rintro x1 c st2 _ hx1 ⟨lk,out,i,j,mg,ac,bc,rfl,hd⟩
   have hia:i < a.size:=by have:=hd.hi; omega
   have hjb:=hd.hj
   have hin:=hd.hn
   dsimp only
   refine dite (mg > 1) (fun hmg => ?_) (fun hmg => ?_)
   all_goals first | rw [if_pos hmg] | rw [if_neg hmg]
   all_goals
    refine wpS_bind (CH lk fun st3 lk => ?_)
    refine wpS_bind (AM hjb ?_)
    refine wpS_bind (At C (lk.kd.trans hk) (uBt hjb) uA (by omega) (by omega) ?_ ?_)
    ·intro p q hpq hq e
     unfold bt at e ⊢
     rw [if_neg Bool.false_ne_true] at e ⊢
     have e':=of_decide_eq_false (Bool.not_eq_true' _ |>.mp e)
     have:=sa (i + p) (i + q) (by omega) (by omega)
     exact (Bool.not_eq_true' _).mpr (decide_eq_false (by omega))
    rintro k ⟨kn,kt,kf⟩
    have kt':∀ x,x < k→RK rk a (i + x)≤RK rk b j:=fun x hx => by
     have e:=kt x hx
     unfold bt at e
     rw [if_neg Bool.false_ne_true] at e
     have e':=of_decide_eq_false (Bool.not_eq_true' _ |>.mp e)
     rw [Aj hjb]
     omega
    have kf':∀ y,i + k≤y→y < a.size→rk b[j]≤RK rk a y:=fun y h1 h2 => by
     have e:=kf (y - i) (by omega) (by omega)
     unfold bt at e
     rw [if_neg Bool.false_ne_true] at e
     have e':=of_decide_eq_true (Bool.not_eq_false' _ |>.mp e)
     have ey:i + (y - i) = y:=by omega
     rw [ey] at e'
     omega
    have m:=hd.m.appA k sa (by omega) fun x hx y h1 h2 => by
     have:=sb j y h1 h2
     have:=kt' x hx
     omega
    dsimp only
    by_cases k0:k > 0
    ·rw [if_pos k0]
     by_cases c3:i + k + 1 = a.size
     ·rw [if_pos (beq_iff_eq.mpr c3)]
      exact wpS_pure ⟨lk,.inl ⟨_,rfl,Ula m c3⟩⟩
     rw [if_neg (fun q => c3 (beq_iff_eq.mp q))]
     by_cases c4:i + k = a.size
     ·rw [if_pos (beq_iff_eq.mpr c4)]
      exact wpS_pure ⟨lk,.inl ⟨_,rfl,Udn m (.inl c4)⟩⟩
     rw [if_neg (fun q => c4 (beq_iff_eq.mp q))]
     have hi':i + k < a.size:=by omega
     have hi2:i + k + 1 < a.size:=by omega
     have hn':x + 1 + x1≤i + k + j:=by omega
     refine wpS_bind (AM hjb ?_)
     have m2:=m.pushB sb hjb kf'
     by_cases c5:j + 1 = b.size
     ·rw [if_pos (beq_iff_eq.mpr c5)]
      exact wpS_pure ⟨lk,.inl ⟨_,rfl,Udn m2 (.inr c5)⟩⟩
     rw [if_neg (fun q => c5 (beq_iff_eq.mp q))]
     refine wpS_bind (AM hi' ?_)
     refine wpS_bind (At C (lk.kd.trans hk) (uAt hi') uB (by omega) (by omega) ?_ ?_)
     ·intro p q hpq hq e
      unfold bt at e ⊢
      rw [if_pos rfl] at e ⊢
      have e':=of_decide_eq_true e
      have:=sb (j + 1 + p) (j + 1 + q) (by omega) (by omega)
      exact decide_eq_true (by omega)
     rintro k2 ⟨k2n,k2t,k2f⟩
     have k2t':∀ x,x < k2→∀ y,_≤y→y < a.size→RK rk b (j + 1 + x)≤RK rk a y:=fun x hx y h1 h2 => by
      have e:=k2t x hx
      unfold bt at e
      rw [if_pos rfl] at e
      have e':=of_decide_eq_true e
      have:=sa _ y h1 h2
      rw [Aj hi'] at this
      omega
     have k2f':∀ y,j + 1 + k2≤y→y < b.size→rk (a[i + k]'hi')≤RK rk b y:=fun y h1 h2 => by
      have e:=k2f (y - (j + 1)) (by omega) (by omega)
      unfold bt at e
      rw [if_pos rfl] at e
      have e':=of_decide_eq_false e
      have ey:j + 1 + (y - (j + 1)) = y:=by omega
      rw [ey] at e'
      omega
     dsimp only
     by_cases k20:k2 > 0
     ·rw [if_pos k20]
      have m3:=m2.appB k2 sb (by omega) k2t'
      by_cases c6:j + 1 + k2 = b.size
      ·rw [if_pos (beq_iff_eq.mpr c6)]
       exact wpS_pure ⟨lk,.inl ⟨_,rfl,Udn m3 (.inr c6)⟩⟩
      rw [if_neg (fun q => c6 (beq_iff_eq.mp q))]
      have m4:=m3.pushA sa hi' k2f'
      refine wpS_bind (AM hi' ?_)
      split
      ·rename_i c7
       exact wpS_pure ⟨lk,.inl ⟨_,rfl,Ula m4 (beq_iff_eq.mp c7)⟩⟩
      ·rename_i c7
       have c7':¬ _ = _:=fun q => c7 (beq_iff_eq.mpr q)
       split
       ·exact wpS_pure ⟨lk,.inr ⟨_,_,_,_,_,_,rfl,m4,by omega,by omega,by omega⟩⟩
       ·exact wpS_pure ⟨lk,_,_,_,_,_,_,rfl,m4,by omega,by omega,by omega⟩
     ·rw [if_neg k20]
      have e2:j + 1 + k2 = j + 1:=by omega
      rw [e2] at k2f'
      have m4:=m2.pushA sa hi' k2f'
      refine wpS_bind (AM hi' ?_)
      split
      ·rename_i c7
       exact wpS_pure ⟨lk,.inl ⟨_,rfl,Ula m4 (beq_iff_eq.mp c7)⟩⟩
      ·rename_i c7
       have c7':¬ _ = _:=fun q => c7 (beq_iff_eq.mpr q)
       split
       ·exact wpS_pure ⟨lk,.inr ⟨_,_,_,_,_,_,rfl,m4,by omega,by omega,by omega⟩⟩
       ·exact wpS_pure ⟨lk,_,_,_,_,_,_,rfl,m4,by omega,by omega,by omega⟩
    ·rw [if_neg k0]
     have e0:i + k = i:=by omega
     rw [e0] at kf'
     clear m
     have m:=hd.m
     have hi2:=hd.hi
     have hi':=hia
     have hn':=hin
     refine wpS_bind (AM hjb ?_)
     have m2:=m.pushB sb hjb kf'
     by_cases c5:j + 1 = b.size
     ·rw [if_pos (beq_iff_eq.mpr c5)]
      exact wpS_pure ⟨lk,.inl ⟨_,rfl,Udn m2 (.inr c5)⟩⟩
     rw [if_neg (fun q => c5 (beq_iff_eq.mp q))]
     refine wpS_bind (AM hi' ?_)
     refine wpS_bind (At C (lk.kd.trans hk) (uAt hi') uB (by omega) (by omega) ?_ ?_)
     ·intro p q hpq hq e
      unfold bt at e ⊢
      rw [if_pos rfl] at e ⊢
      have e':=of_decide_eq_true e
      have:=sb (j + 1 + p) (j + 1 + q) (by omega) (by omega)
      exact decide_eq_true (by omega)
     rintro k2 ⟨k2n,k2t,k2f⟩
     have k2t':∀ x,x < k2→∀ y,_≤y→y < a.size→RK rk b (j + 1 + x)≤RK rk a y:=fun x hx y h1 h2 => by
      have e:=k2t x hx
      unfold bt at e
      rw [if_pos rfl] at e
      have e':=of_decide_eq_true e
      have:=sa _ y h1 h2
      rw [Aj hi'] at this
      omega
     have k2f':∀ y,j + 1 + k2≤y→y < b.size→rk (a[i]'hi')≤RK rk b y:=fun y h1 h2 => by
      have e:=k2f (y - (j + 1)) (by omega) (by omega)
      unfold bt at e
      rw [if_pos rfl] at e
      have e':=of_decide_eq_false e
      have ey:j + 1 + (y - (j + 1)) = y:=by omega
      rw [ey] at e'
      omega
     dsimp only
     by_cases k20:k2 > 0
     ·rw [if_pos k20]
      have m3:=m2.appB k2 sb (by omega) k2t'
      by_cases c6:j + 1 + k2 = b.size
      ·rw [if_pos (beq_iff_eq.mpr c6)]
       exact wpS_pure ⟨lk,.inl ⟨_,rfl,Udn m3 (.inr c6)⟩⟩
      rw [if_neg (fun q => c6 (beq_iff_eq.mp q))]
      have m4:=m3.pushA sa hi' k2f'
      refine wpS_bind (AM hi' ?_)
      split
      ·rename_i c7
       exact wpS_pure ⟨lk,.inl ⟨_,rfl,Ula m4 (beq_iff_eq.mp c7)⟩⟩
      ·rename_i c7
       have c7':¬ _ = _:=fun q => c7 (beq_iff_eq.mpr q)
       split
       ·exact wpS_pure ⟨lk,.inr ⟨_,_,_,_,_,_,rfl,m4,by omega,by omega,by omega⟩⟩
       ·exact wpS_pure ⟨lk,_,_,_,_,_,_,rfl,m4,by omega,by omega,by omega⟩
     ·rw [if_neg k20]
      have e2:j + 1 + k2 = j + 1:=by omega
      rw [e2] at k2f'
      have m4:=m2.pushA sa hi' k2f'
      refine wpS_bind (AM hi' ?_)
      split
      ·rename_i c7
       exact wpS_pure ⟨lk,.inl ⟨_,rfl,Ula m4 (beq_iff_eq.mp c7)⟩⟩
      ·rename_i c7
       have c7':¬ _ = _:=fun q => c7 (beq_iff_eq.mpr q)
       split
       ·exact wpS_pure ⟨lk,.inr ⟨_,_,_,_,_,_,rfl,m4,by omega,by omega,by omega⟩⟩
       ·exact wpS_pure ⟨lk,_,_,_,_,_,_,rfl,m4,by omega,by omega,by omega⟩
  ·rintro c st2 ⟨lk,out,i,j,mg,ac,bc,rfl,hd⟩
   have e:max 0 (a.size + b.size) = a.size + b.size:=by omega
   rw [e] at hd
   exact ⟨lk,.inr ⟨_,_,_,_,_,_,rfl,hd.m,hd.hi,hd.hj,by have:=hd.hn; omega⟩⟩
  rintro c st2 ⟨lk,⟨r,e,f⟩ | ⟨out,i,j,mg,ac,bc,rfl,hd⟩⟩
  ·obtain ⟨c1,c2⟩:=c
   cases e
   exact wpS_pure ⟨lk,_,rfl,f⟩
  dsimp only
  refine wpS_bind (CH lk fun st3 lk => ?_)
  exact wpS_pure ⟨lk,_,_,_,_,rfl,hd⟩
 ·rintro c st1 ⟨lk,out,i,j,mg,rfl,hd⟩
  have e:max 0 (a.size + b.size) = a.size + b.size:=by omega
  rw [e] at hd
  have:=hd.hn
  have:=hd.hi
  have:=hd.hj
  omega
 ·rintro c st1 ⟨lk,r,e,f⟩
  obtain ⟨c1,c2⟩:=c
  cases e
  exact wpS_pure (h _ _ lk f)
end
end SrtG
namespace SrtG
local macro_rules | `(tactic| omega) => `(tactic| first | lia | omega)
open PySem PyProof.Rows
variable {rk:Keyed→Int}
structure Mrh (rk:Keyed→Int) (a b out:Array Keyed) (i j:Nat):Prop where
 hi:i≤a.size
 hj:j≤b.size
 perm:out.toList.Perm (a.toList.drop i ++ b.toList.drop j)
 srt:out.toList.Pairwise fun x y => rk y≤rk x
 ha:∀ x,x∈out.toList→∀ y,y < i→RK rk a y≤rk x
 hb:∀ x,x∈out.toList→∀ y,y < j→RK rk b y≤rk x
theorem Mrh.sym {a b out:Array Keyed} {i j:Nat} (m:Mrh rk a b out i j):Mrh rk b a out j i :=
 ⟨m.hj,m.hi,m.perm.trans List.perm_append_comm,m.srt,m.hb,m.ha⟩
theorem Mrh.pushA {a b out:Array Keyed} {i j:Nat} (m:Mrh rk a b out (i + 1) j) (sa:Dv rk a) (h:i < a.size) (hb:∀ y,y < j→RK rk b y≤rk a[i]):Mrh rk a b (out.push a[i]) i j:=by
 have e:(out.push a[i]).toList = out.toList ++ [a[i]]:=Array.toList_push ..
 have t:a.toList.drop i = a[i] :: a.toList.drop (i + 1):=by
  have hl:i < a.toList.length:=by rw [Array.length_toList]; exact h
  rw [List.drop_eq_getElem_cons hl]
  rfl
 refine ⟨by omega,m.hj,?_,?_,?_,?_⟩
 ·rw [e,t]
  exact List.perm_append_comm.trans (m.perm.cons a[i])
 ·rw [e,List.pairwise_append]
  refine ⟨m.srt,List.pairwise_singleton _ _,fun x hx y hy => ?_⟩
  cases List.mem_singleton.mp hy
  have:=m.ha x hx i (Nat.lt_succ_self _)
  rwa [Aj h] at this
 ·intro x hx y hy
  rw [e] at hx
  rcases List.mem_append.mp hx with hx | hx
  ·exact m.ha x hx y (by omega)
  ·cases List.mem_singleton.mp hx
   have:=sa y i (by omega) h
   rwa [Aj h] at this
 ·intro x hx y hy
  rw [e] at hx
  rcases List.mem_append.mp hx with hx | hx
  ·exact m.hb x hx y hy
  ·cases List.mem_singleton.mp hx
   exact hb y hy
theorem Mrh.pushB {a b out:Array Keyed} {i j:Nat} (m:Mrh rk a b out i (j + 1)) (sb:Dv rk b) (h:j < b.size) (ha:∀ y,y < i→RK rk a y≤rk b[j]):Mrh rk a b (out.push b[j]) i j:=(m.sym.pushA sb h ha).sym
theorem HJ (a:Array Keyed) (l h:Nat) (hl:l < h) (hh:h≤a.size):(a.extract l h).reverse = (a.extract (l + 1) h).reverse.push (a[l]'(by omega)):=by
 apply Array.ext'
 rw [Array.toList_push,Array.toList_reverse,Array.toList_reverse,Array.toList_extract,Array.toList_extract,List.extract_eq_drop_take,List.extract_eq_drop_take]
 have hln:l < a.toList.length:=by rw [Array.length_toList]; omega
 have e1:h - l = (h - (l + 1)) + 1:=by omega
 rw [List.drop_eq_getElem_cons hln,e1,List.take_succ_cons,List.reverse_cons]
 rfl
theorem Mrh.appA {a b:Array Keyed} {i j:Nat}:∀ (k:Nat) {out:Array Keyed},Mrh rk a b out i j→Dv rk a→k≤i→(∀ x,i - k≤x→x < i→∀ y,y < j→RK rk b y≤RK rk a x)→Mrh rk a b (out ++ (a.extract (i - k) i).reverse) (i - k) j
 | 0,out,m,_,_,_ => by
  have:out ++ (a.extract (i - 0) i).reverse = out:=by
   apply Array.ext'
   rw [Array.toList_append,Array.toList_reverse,Array.toList_extract,List.extract_eq_drop_take]
   have:i - (i - 0) = 0:=by omega
   rw [this,List.take_zero,List.reverse_nil,List.append_nil]
  rw [this]; exact m
 | k + 1,out,m,sa,h,hb => by
  have hi:=m.hi
  have m':=Mrh.appA k m sa (by omega) fun x hx => hb x (by omega)
  have hk:i - (k + 1) < a.size:=by omega
  have e:i - (k + 1) + 1 = i - k:=by omega
  rw [HJ a (i - (k + 1)) i (by omega) hi,Array.append_push,e]
  rw [← e] at m'
  have q:=m'.pushA sa hk fun y h1 => by
   have:=hb (i - (k + 1)) (by omega) (by omega) y h1
   rwa [Aj hk] at this
  rw [e] at q
  exact q
theorem Mrh.appA' {a b out:Array Keyed} {i j l:Nat} (m:Mrh rk a b out i j) (sa:Dv rk a) (h:l≤i) (hb:∀ x,l≤x→x < i→∀ y,y < j→RK rk b y≤RK rk a x):Mrh rk a b (out ++ (a.extract l i).reverse) l j:=by
 have e:i - (i - l) = l:=by omega
 have q:=m.appA (i - l) sa (by omega) (by rw [e]; exact hb)
 rwa [e] at q
theorem Mrh.appB' {a b out:Array Keyed} {i j l:Nat} (m:Mrh rk a b out i j) (sb:Dv rk b) (h:l≤j) (ha:∀ x,l≤x→x < j→∀ y,y < i→RK rk a y≤RK rk b x):Mrh rk a b (out ++ (b.extract l j).reverse) i l:=(m.sym.appA' sb h ha).sym
theorem Mrh.fin {a b out:Array Keyed} (m:Mrh rk a b out 0 0):Fin2 rk a b out.reverse:=by
 have p:=m.perm
 rw [List.drop_zero,List.drop_zero] at p
 constructor
 ·rw [Array.toList_reverse]
  exact (List.reverse_perm _).trans p
 ·rw [Array.toList_reverse,List.pairwise_reverse]
  exact m.srt
theorem Mrh.restAB {a b out:Array Keyed} {i j:Nat} (m:Mrh rk a b out i j) (sa:Dv rk a) (sb:Dv rk b) (h:∀ x y,x < i→y < j→RK rk a x≤RK rk b y):Fin2 rk a b (a.extract 0 i ++ b.extract 0 j ++ out.reverse):=by
 have m1:=m.appB' (l:=0) sb (by omega) fun x _ hx y hy => h y x hy hx
 have m2:=m1.appA' (l:=0) sa (by omega) fun x _ _ y hy => by omega
 have f:=m2.fin
 have e:(out ++ (b.extract 0 j).reverse ++ (a.extract 0 i).reverse).reverse = a.extract 0 i ++ b.extract 0 j ++ out.reverse:=by
  apply Array.ext'
  rw [Array.toList_reverse,Array.toList_append,Array.toList_append,Array.toList_append,Array.toList_append,Array.toList_reverse,Array.toList_reverse,Array.toList_reverse,List.reverse_append,List.reverse_append,List.reverse_reverse,List.reverse_reverse,List.append_assoc]
 rwa [e] at f
theorem Mrh.restBA {a b out:Array Keyed} {i j:Nat} (m:Mrh rk a b out i j) (sa:Dv rk a) (sb:Dv rk b) (h:∀ x y,x < i→y < j→RK rk b y≤RK rk a x):Fin2 rk a b (b.extract 0 j ++ a.extract 0 i ++ out.reverse):=by
 have f:=m.sym.restAB sb sa fun x y h1 h2 => h y x h2 h1
 exact ⟨f.perm.trans List.perm_append_comm,f.srt⟩
def IV:Array Keyed→Array Keyed→StateT SortSt Sem (Array Keyed):=sortPriv% PySem.Builtin.mergeHi
abbrev Vj (a b out:Array Keyed) (i j:Nat):Array Keyed:=a.extract 0 i ++ b.extract 0 j ++ out.reverse
abbrev Vk (a b out:Array Keyed) (i j:Nat):Array Keyed:=b.extract 0 j ++ a.extract 0 i ++ out.reverse
end SrtG
namespace SrtG
local macro_rules | `(tactic| omega) => `(tactic| first | lia | omega)
open PySem PyProof.Rows
variable {prog:Program} {w:World} {A:Around} {E:Value→Shared→Prop} {s:Shared} {kd:SortKind} {U:Keyed→Prop} {rk:Keyed→Int}
theorem Mrh.pushA1 {a b out:Array Keyed} {i j:Nat} (m:Mrh rk a b out i j) (sa:Dv rk a) (h0:0 < i) (h:i - 1 < a.size) (hb:∀ y,y < j→RK rk b y≤rk a[i - 1]):Mrh rk a b (out.push a[i - 1]) (i - 1) j:=by
 cases i with
 | zero => omega
 | succ i => exact m.pushA sa h hb
structure Hh (rk:Keyed→Int) (a b out:Array Keyed) (i j n:Nat):Prop where
 m:Mrh rk a b out i j
 hi:0 < i
 hj:1 < j
 hn:i + j + n≤a.size + b.size
theorem IW {a b:Array Keyed} {st:SortSt} {Q:Array Keyed→SortSt→Prop} (C:Mu prog w A E s kd U rk) (hk:kindOf st = kd) (uA:AllU U a) (uB:AllU U b) (sa:Dv rk a) (sb:Dv rk b) (ha0:0 < a.size) (hb0:0 < b.size)
  (hfst:RK rk b 0≤RK rk a 0) (hlst:RK rk b (b.size - 1)≤RK rk a (a.size - 1))
  (h:∀ r st',Like st st'→Fin2 rk a b r→Q r st'):wpS (model prog w) A E s (IV a b) Q st:=by
 have Udn:∀ {out i j},Mrh rk a b out i j→i = 0∨j = 0→Fin2 rk a b (Vj a b out i j):=fun m hh => m.restAB sa sb fun x y _ _ => by omega
 have Ula:∀ {out i j},Mrh rk a b out i j→j = 1→Fin2 rk a b (Vk a b out i j):=fun {out i j} m hh => m.restBA sa sb fun x y h1 h2 => by
  have hi:=m.hi
  have e1:=sa 0 x (by omega) (by omega)
  have e:y = 0:=by omega
  subst e
  omega
 have uAt:∀ {i} (hi:i < a.size),U a[i]:=fun hi => uA _ _ (getElem?_pos a _ hi)
 have uBt:∀ {i} (hi:i < b.size),U b[i]:=fun hi => uB _ _ (getElem?_pos b _ hi)
 have hal:a.size - 1 < a.size:=by omega
 delta IV
 refine wpS_bind (wpS_lift (wpAny_rule ⟨rfl,?_⟩))
 refine wpS_bind (AM hal ?_)
 have m0:Mrh rk a b #[] (a.size - 1 + 1) b.size:=by
  have e:a.size - 1 + 1 = a.size:=by omega
  rw [e]
  refine ⟨by omega,by omega,?_,List.Pairwise.nil,(fun x hx => by cases hx),(fun x hx => by cases hx)⟩
  rw [← Array.length_toList,← Array.length_toList,List.drop_length,List.drop_length]
  exact List.Perm.nil
 have m1:Mrh rk a b #[a[a.size - 1]] (a.size - 1) b.size:=m0.pushA sa hal fun y hy => by
  have e1:=sb y (b.size - 1) (by omega) (by omega)
  rw [← Aj (rk:=rk) hal]
  omega
 dsimp only
 by_cases c1:a.size - 1 = 0
 ·rw [if_pos (beq_iff_eq.mpr c1)]
  exact wpS_pure (h _ _ (Like.refl _) (Udn m1 (.inl c1)))
 rw [if_neg (fun q => c1 (beq_iff_eq.mp q))]
 by_cases c2:b.size = 1
 ·rw [if_pos (beq_iff_eq.mpr c2)]
  exact wpS_pure (h _ _ (Like.refl _) (Ula m1 c2))
 rw [if_neg (fun q => c2 (beq_iff_eq.mp q))]
 refine wpS_bind (wpS_get ?_)
 refine wpS_bind (wpS_mono (wpS_forRange (I:=fun x c st' => Like st st'∧∃ out i j mg,c = (none,i,j,out,mg)∧Hh rk a b out i j (x + 1))
  (Q:=fun c st' => Like st st'∧∃ r,c.1 = some r∧Fin2 rk a b r) ?_ ?_ ⟨Like.refl _,_,_,_,_,rfl,m1,by omega,by omega,by omega⟩) ?_)
 ·rintro x c st1 _ hx ⟨lk,out,i,j,mg,rfl,hd⟩
  dsimp only
  refine wpS_bind (wpS_mono (wpS_forRange (I:=fun _ c st' => Like st st'∧∃ out i j ac bc,c = (none,i,j,out,ac,bc)∧Hh rk a b out i j (x + 1))
   (Q:=fun c st' => Like st st'∧((∃ r,c.1 = some r∧Fin2 rk a b r)∨∃ out i j ac bc,c = (none,i,j,out,ac,bc)∧Hh rk a b out i j (x + 1))) ?_ ?_ ⟨lk,_,_,_,_,_,rfl,hd⟩) ?_)
  ·rintro x1 c st2 _ hx1 ⟨lk,out,i,j,ac,bc,rfl,hd⟩
   have hi0:=hd.hi
   have hj0:=hd.hj
   have hin:=hd.hn
   have hia:i - 1 < a.size:=by have:=hd.m.hi; omega
   have hjb:j - 1 < b.size:=by have:=hd.m.hj; omega
   have ei:i - 1 + 1 = i:=by omega
   have ej:j - 1 + 1 = j:=by omega
   have m:=hd.m
   dsimp only
   refine wpS_bind (AM hjb ?_)
   refine wpS_bind (AM hia ?_)
   refine wpS_bind (C _ _ _ _ (lk.kd.trans hk) (uBt hjb) (uAt hia) ?_)
   dsimp only
   by_cases hlt:rk b[j - 1] < rk a[i - 1]
   ·rw [if_pos (by exact decide_eq_true hlt)]
    rw [← ei] at m
    have m:=m.pushA sa hia fun y h1 => by
     have:=sb y (j - 1) (by omega) hjb
     rw [Aj hjb] at this
     omega
    refine wpS_bind (AM hia ?_)
    by_cases c3:i - 1 = 0
    ·rw [if_pos (beq_iff_eq.mpr c3)]
     exact wpS_pure ⟨lk,.inl ⟨_,rfl,Udn m (.inl c3)⟩⟩
    rw [if_neg (fun q => c3 (beq_iff_eq.mp q))]
    have hd':Hh rk a b (out.push a[i - 1]) (i - 1) j (x + 1):=⟨m,by omega,by omega,by omega⟩
    split
    ·exact wpS_pure ⟨lk,.inr ⟨_,_,_,_,_,rfl,hd'⟩⟩
    ·exact wpS_pure ⟨lk,_,_,_,_,_,rfl,hd'⟩
   ·rw [if_neg (fun q => hlt (of_decide_eq_true q))]
    rw [← ej] at m
    have m:=m.pushB sb hjb fun y h1 => by
     have:=sa y (i - 1) (by omega) hia
     rw [Aj hia] at this
     omega
    refine wpS_bind (AM hjb ?_)
    by_cases c3:j - 1 = 1
    ·rw [if_pos (beq_iff_eq.mpr c3)]
     exact wpS_pure ⟨lk,.inl ⟨_,rfl,Ula m c3⟩⟩
    rw [if_neg (fun q => c3 (beq_iff_eq.mp q))]
    have hd':Hh rk a b (out.push b[j - 1]) i (j - 1) (x + 1):=⟨m,by omega,by omega,by omega⟩
    split
    ·exact wpS_pure ⟨lk,.inr ⟨_,_,_,_,_,rfl,hd'⟩⟩
    ·exact wpS_pure ⟨lk,_,_,_,_,_,rfl,hd'⟩
  ·rintro c st2 ⟨lk,hh⟩
   exact ⟨lk,.inr hh⟩
  rintro c st2 ⟨lk,⟨r,e,f⟩ | ⟨out,i,j,ac,bc,rfl,hd⟩⟩
  ·obtain ⟨c1,c2⟩:=c
   cases e
   exact wpS_pure ⟨lk,_,rfl,f⟩
  dsimp only
  refine wpS_bind (wpS_lift (wpAny_rule ⟨rfl,?_⟩))
  refine wpS_bind (wpS_mono (wpS_forRange (I:=fun y c st' => Like st st'∧∃ out i j mg ac bc,c = (none,i,j,out,mg,ac,bc)∧Hh rk a b out i j (x + 1 + y))
   (Q:=fun c st' => Like st st'∧((∃ r,c.1 = some r∧Fin2 rk a b r)∨∃ out i j mg ac bc,c = (none,i,j,out,mg,ac,bc)∧Hh rk a b out i j (x + 1 + 1))) ?_ ?_ ⟨lk,_,_,_,_,_,_,rfl,hd⟩) ?_)
  ·rintro x1 c st2 _ hx1 ⟨lk,out,i,j,mg,ac,bc,rfl,hd⟩
   have hi0:=hd.hi
   have hj0:=hd.hj
   have hin:=hd.hn
   have hia:=hd.m.hi
   have hjl:=hd.m.hj
   have hjb:j - 1 < b.size:=by omega
   dsimp only
   refine dite (mg > 1) (fun hmg => ?_) (fun hmg => ?_)
   all_goals first | rw [if_pos hmg] | rw [if_neg hmg]
   all_goals
    refine wpS_bind (CH lk fun st3 lk => ?_)
    refine wpS_bind (AM hjb ?_)
    refine wpS_bind (At C (lk.kd.trans hk) (uBt hjb) uA (by omega) (by omega) ?_ ?_)
    ·intro p q hpq hq e
     unfold bt at e ⊢
     rw [if_neg Bool.false_ne_true] at e ⊢
     have e':=of_decide_eq_false (Bool.not_eq_true' _ |>.mp e)
     have:=sa (0 + p) (0 + q) (by omega) (by omega)
     exact (Bool.not_eq_true' _).mpr (decide_eq_false (by omega))
    rintro p ⟨kn,kt,kf⟩
    have kf':∀ y,y < p→RK rk a y≤rk b[j - 1]:=fun y hy => by
     have e:=kt y hy
     unfold bt at e
     rw [if_neg Bool.false_ne_true] at e
     have e':=of_decide_eq_false (Bool.not_eq_true' _ |>.mp e)
     rw [Nat.zero_add] at e'
     omega
    have kt':∀ x,p≤x→x < i→∀ y,y < j→RK rk b y≤RK rk a x:=fun x h1 h2 y h3 => by
     have e:=kf x h1 h2
     unfold bt at e
     rw [if_neg Bool.false_ne_true] at e
     have e':=of_decide_eq_true (Bool.not_eq_false' _ |>.mp e)
     rw [Nat.zero_add] at e'
     have:=sb y (j - 1) (by omega) hjb
     rw [Aj hjb] at this
     omega
    have m:=hd.m.appA' sa kn kt'
    dsimp only
    by_cases k0:i - p > 0
    ·rw [if_pos k0]
     by_cases c3:p = 0
     ·rw [if_pos (beq_iff_eq.mpr c3)]
      exact wpS_pure ⟨lk,.inl ⟨_,rfl,Udn m (.inl c3)⟩⟩
     rw [if_neg (fun q => c3 (beq_iff_eq.mp q))]
     have hI:0 < p:=by omega
     have ej:j - 1 + 1 = j:=by omega
     rw [← ej] at m
     have m2:=m.pushB sb hjb kf'
     refine wpS_bind (AM hjb ?_)
     by_cases c5:j - 1 = 1
     ·rw [if_pos (beq_iff_eq.mpr c5)]
      exact wpS_pure ⟨lk,.inl ⟨_,rfl,Ula m2 (by omega)⟩⟩
     rw [if_neg (fun q => c5 (beq_iff_eq.mp q))]
     have hI1:p - 1 < a.size:=by omega
     refine wpS_bind (AM hI1 ?_)
     refine wpS_bind (At C (lk.kd.trans hk) (uAt hI1) uB (by omega) (by omega) ?_ ?_)
     ·intro p q hpq hq e
      unfold bt at e ⊢
      rw [if_pos rfl] at e ⊢
      have e':=of_decide_eq_true e
      have:=sb (0 + p) (0 + q) (by omega) (by omega)
      exact decide_eq_true (by omega)
     rintro q ⟨k2n,k2t,k2f⟩
     have k2t':∀ y,y < q→RK rk b y≤rk (a[p - 1]'hI1):=fun y hx => by
      have e:=k2t y hx
      unfold bt at e
      rw [if_pos rfl] at e
      have e':=of_decide_eq_true e
      rw [Nat.zero_add] at e'
      omega
     have k2f':∀ x,q≤x→x < j - 1→∀ y,y < p→RK rk a y≤RK rk b x:=fun x h1 h2 y h3 => by
      have e:=k2f x h1 h2
      unfold bt at e
      rw [if_pos rfl] at e
      have e':=of_decide_eq_false e
      rw [Nat.zero_add] at e'
      have:=sa y (p - 1) (by omega) hI1
      rw [Aj hI1] at this
      omega
     have eI:p - 1 + 1 = p:=by omega
     dsimp only
     by_cases k20:j - 1 - q > 0
     ·rw [if_pos k20]
      have m3:=m2.appB' sb k2n k2f'
      by_cases c6:q = 1
      ·rw [if_pos (beq_iff_eq.mpr c6)]
       exact wpS_pure ⟨lk,.inl ⟨_,rfl,Ula m3 (by omega)⟩⟩
      rw [if_neg (fun q => c6 (beq_iff_eq.mp q))]
      by_cases c8:q = 0
      ·rw [if_pos (beq_iff_eq.mpr c8)]
       exact wpS_pure ⟨lk,.inl ⟨_,rfl,Udn m3 (.inr c8)⟩⟩
      rw [if_neg (fun q => c8 (beq_iff_eq.mp q))]
      have m4:=m3.pushA1 sa hI hI1 k2t'
      refine wpS_bind (AM hI1 ?_)
      by_cases c7:p - 1 = 0
      ·rw [if_pos (beq_iff_eq.mpr c7)]
       exact wpS_pure ⟨lk,.inl ⟨_,rfl,Udn m4 (.inl c7)⟩⟩
      rw [if_neg (fun q => c7 (beq_iff_eq.mp q))]
      split
      ·exact wpS_pure ⟨lk,.inr ⟨_,_,_,_,_,_,rfl,m4,by omega,by omega,by omega⟩⟩
      ·exact wpS_pure ⟨lk,_,_,_,_,_,_,rfl,m4,by omega,by omega,by omega⟩
     ·rw [if_neg k20]
      have e2:q = j - 1:=by omega
      rw [e2] at k2t'
      have m4:=m2.pushA1 sa hI hI1 k2t'
      refine wpS_bind (AM hI1 ?_)
      by_cases c7:p - 1 = 0
      ·rw [if_pos (beq_iff_eq.mpr c7)]
       exact wpS_pure ⟨lk,.inl ⟨_,rfl,Udn m4 (.inl c7)⟩⟩
      rw [if_neg (fun q => c7 (beq_iff_eq.mp q))]
      split
      ·exact wpS_pure ⟨lk,.inr ⟨_,_,_,_,_,_,rfl,m4,by omega,by omega,by omega⟩⟩
      ·exact wpS_pure ⟨lk,_,_,_,_,_,_,rfl,m4,by omega,by omega,by omega⟩
    ·rw [if_neg k0]
     have e0:p = i:=by omega
     rw [e0] at kf'
     clear m
     have m:=hd.m
     have hI:=hi0
     have ej:j - 1 + 1 = j:=by omega
     rw [← ej] at m
     have m2:=m.pushB sb hjb kf'
     refine wpS_bind (AM hjb ?_)
     by_cases c5:j - 1 = 1
     ·rw [if_pos (beq_iff_eq.mpr c5)]
      exact wpS_pure ⟨lk,.inl ⟨_,rfl,Ula m2 (by omega)⟩⟩
     rw [if_neg (fun q => c5 (beq_iff_eq.mp q))]
     have hI1:i - 1 < a.size:=by omega
     refine wpS_bind (AM hI1 ?_)
     refine wpS_bind (At C (lk.kd.trans hk) (uAt hI1) uB (by omega) (by omega) ?_ ?_)
     ·intro p q hpq hq e
      unfold bt at e ⊢
      rw [if_pos rfl] at e ⊢
      have e':=of_decide_eq_true e
      have:=sb (0 + p) (0 + q) (by omega) (by omega)
      exact decide_eq_true (by omega)
     rintro q ⟨k2n,k2t,k2f⟩
     have k2t':∀ y,y < q→RK rk b y≤rk (a[i - 1]'hI1):=fun y hx => by
      have e:=k2t y hx
      unfold bt at e
      rw [if_pos rfl] at e
      have e':=of_decide_eq_true e
      rw [Nat.zero_add] at e'
      omega
     have k2f':∀ x,q≤x→x < j - 1→∀ y,y < i→RK rk a y≤RK rk b x:=fun x h1 h2 y h3 => by
      have e:=k2f x h1 h2
      unfold bt at e
      rw [if_pos rfl] at e
      have e':=of_decide_eq_false e
      rw [Nat.zero_add] at e'
      have:=sa y (i - 1) (by omega) hI1
      rw [Aj hI1] at this
      omega
     have eI:i - 1 + 1 = i:=by omega
     dsimp only
     by_cases k20:j - 1 - q > 0
     ·rw [if_pos k20]
      have m3:=m2.appB' sb k2n k2f'
      by_cases c6:q = 1
      ·rw [if_pos (beq_iff_eq.mpr c6)]
       exact wpS_pure ⟨lk,.inl ⟨_,rfl,Ula m3 (by omega)⟩⟩
      rw [if_neg (fun q => c6 (beq_iff_eq.mp q))]
      by_cases c8:q = 0
      ·rw [if_pos (beq_iff_eq.mpr c8)]
       exact wpS_pure ⟨lk,.inl ⟨_,rfl,Udn m3 (.inr c8)⟩⟩
      rw [if_neg (fun q => c8 (beq_iff_eq.mp q))]
      have m4:=m3.pushA1 sa hI hI1 k2t'
      refine wpS_bind (AM hI1 ?_)
      by_cases c7:i - 1 = 0
      ·rw [if_pos (beq_iff_eq.mpr c7)]
       exact wpS_pure ⟨lk,.inl ⟨_,rfl,Udn m4 (.inl c7)⟩⟩
      rw [if_neg (fun q => c7 (beq_iff_eq.mp q))]
      split
      ·exact wpS_pure ⟨lk,.inr ⟨_,_,_,_,_,_,rfl,m4,by omega,by omega,by omega⟩⟩
      ·exact wpS_pure ⟨lk,_,_,_,_,_,_,rfl,m4,by omega,by omega,by omega⟩
     ·rw [if_neg k20]
      have e2:q = j - 1:=by omega
      rw [e2] at k2t'
      have m4:=m2.pushA1 sa hI hI1 k2t'
      refine wpS_bind (AM hI1 ?_)
      by_cases c7:i - 1 = 0
      ·rw [if_pos (beq_iff_eq.mpr c7)]
       exact wpS_pure ⟨lk,.inl ⟨_,rfl,Udn m4 (.inl c7)⟩⟩
      rw [if_neg (fun q => c7 (beq_iff_eq.mp q))]
      split
      ·exact wpS_pure ⟨lk,.inr ⟨_,_,_,_,_,_,rfl,m4,by omega,by omega,by omega⟩⟩
      ·exact wpS_pure ⟨lk,_,_,_,_,_,_,rfl,m4,by omega,by omega,by omega⟩
  ·rintro c st2 ⟨lk,out,i,j,mg,ac,bc,rfl,hd⟩
   have e:max 0 (a.size + b.size) = a.size + b.size:=by omega
   rw [e] at hd
   exact ⟨lk,.inr ⟨_,_,_,_,_,_,rfl,hd.m,hd.hi,hd.hj,by have:=hd.hn; omega⟩⟩
  rintro c st2 ⟨lk,⟨r,e,f⟩ | ⟨out,i,j,mg,ac,bc,rfl,hd⟩⟩
  ·obtain ⟨c1,c2⟩:=c
   cases e
   exact wpS_pure ⟨lk,_,rfl,f⟩
  dsimp only
  refine wpS_bind (CH lk fun st3 lk => ?_)
  exact wpS_pure ⟨lk,_,_,_,_,rfl,hd⟩
 ·rintro c st1 ⟨lk,out,i,j,mg,rfl,hd⟩
  have e:max 0 (a.size + b.size) = a.size + b.size:=by omega
  rw [e] at hd
  have:=hd.hn
  have:=hd.hi
  have:=hd.hj
  omega
 ·rintro c st1 ⟨lk,r,e,f⟩
  obtain ⟨c1,c2⟩:=c
  cases e
  exact wpS_pure (h _ _ lk f)
end SrtG
namespace SrtG
local macro_rules | `(tactic| omega) => `(tactic| first | lia | omega)
open PySem PyProof.Rows
variable {rk:Keyed→Int}
def Seg (rk:Keyed→Int) (arr:Array Keyed) (lo hi:Nat):Prop:=∀ x y,lo≤x→x≤y→y < hi→RK rk arr x≤RK rk arr y
structure Upd (rk:Keyed→Int) (arr arr':Array Keyed) (lo hi:Nat):Prop where
 perm:arr'.toList.Perm arr.toList
 out:∀ x,x < lo∨hi≤x→arr'[x]? = arr[x]?
 seg:Seg rk arr' lo hi
theorem Bv {arr arr':Array Keyed} {x:Nat} (h:arr'[x]? = arr[x]?):RK rk arr' x = RK rk arr x:=by unfold RK; rw [h]
abbrev back (l:List (Keyed × Nat)) (lo:Nat) (arr:Array Keyed):Array Keyed:=l.foldl (fun a (p,j) => a.setIfInBounds (lo + j) p) arr
theorem FN (lo:Nat):∀ (l:List Keyed) (n:Nat) (arr:Array Keyed),lo + n + l.length≤arr.size→∀ x,(back (l.zipIdx n) lo arr)[x]? = if lo + n≤x∧x < lo + n + l.length then l[x - (lo + n)]? else arr[x]?
 | [],n,arr,_,x => by
  rw [if_neg (by rintro ⟨h1,h2⟩; simp only [List.length_nil] at h2; omega)]
  rfl
 | p :: l,n,arr,h,x => by
  rw [List.length_cons] at h
  have e:back ((p :: l).zipIdx n) lo arr = back (l.zipIdx (n + 1)) lo (arr.setIfInBounds (lo + n) p):=by rw [List.zipIdx_cons]; rfl
  rw [e,FN lo l (n + 1) _ (by rw [Array.size_setIfInBounds]; omega) x,List.length_cons]
  by_cases c:lo + (n + 1)≤x∧x < lo + (n + 1) + l.length
  ·rw [if_pos c,if_pos (by omega)]
   have e2:x - (lo + n) = (x - (lo + (n + 1))) + 1:=by omega
   rw [e2,List.getElem?_cons_succ]
  ·rw [if_neg c,Array.getElem?_setIfInBounds]
   by_cases c2:lo + n = x
   ·rw [if_pos c2,if_pos (by omega),if_pos (by omega)]
    have e2:x - (lo + n) = 0:=by omega
    rw [e2]; rfl
   ·rw [if_neg c2,if_neg (by omega)]
theorem LY {arr:Array Keyed} {l:List Keyed} {lo:Nat} (h:lo + l.length≤arr.size):(back l.zipIdx lo arr).toList = arr.toList.take lo ++ l ++ arr.toList.drop (lo + l.length):=by
 apply List.ext_getElem?
 intro x
 rw [Array.getElem?_toList,FN lo l 0 arr (by omega) x]
 have hlen:arr.toList.length = arr.size:=Array.length_toList
 by_cases c1:x < lo
 ·rw [if_neg (by omega),List.append_assoc,List.getElem?_append_left (by rw [List.length_take]; omega),List.getElem?_take,if_pos c1,Array.getElem?_toList]
 ·by_cases c2:x < lo + l.length
  ·rw [if_pos (by omega),List.getElem?_append_left (by rw [List.length_append,List.length_take]; omega),List.getElem?_append_right (by rw [List.length_take]; omega),List.length_take]
   have e:min lo arr.toList.length = lo:=by omega
   rw [e]
   rfl
  ·rw [if_neg (by omega),List.getElem?_append_right (by rw [List.length_append,List.length_take]; omega),List.getElem?_drop,List.length_append,List.length_take]
   have e:lo + l.length + (x - (min lo arr.toList.length + l.length)) = x:=by omega
   rw [e,Array.getElem?_toList]
theorem Mw {arr merged:Array Keyed} {lo hi s0 e0:Nat} (hhi:lo≤hi) (hs:s0≤lo) (he:hi≤e0) (hz:e0≤arr.size) (perm:merged.toList.Perm (arr.extract lo hi).toList) (srt:merged.toList.Pairwise fun x y => rk x≤rk y)
  (hL:∀ x z,s0≤x→x < lo→x≤z→z < e0→RK rk arr x≤RK rk arr z) (hR:∀ z y,s0≤z→z≤y→hi≤y→y < e0→RK rk arr z≤RK rk arr y):Upd rk arr (back merged.toList.zipIdx lo arr) s0 e0:=by
 have hx:(arr.extract lo hi).toList = (arr.toList.drop lo).take (hi - lo):=by rw [Array.toList_extract,List.extract_eq_drop_take]
 have hlenA:arr.toList.length = arr.size:=Array.length_toList
 have hlen:merged.toList.length = hi - lo:=by
  rw [perm.length_eq,hx,List.length_take,List.length_drop]
  omega
 have hfit:lo + merged.toList.length≤arr.size:=by omega
 have hget:=FN lo merged.toList 0 arr (by omega)
 have hmid:∀ m,m∈merged.toList→∃ z,lo≤z∧z < hi∧rk m = RK rk arr z:=fun m hm => by
  have hm':=perm.mem_iff.mp hm
  rw [hx] at hm'
  obtain ⟨i,hi'⟩:=List.mem_iff_getElem?.mp hm'
  rw [List.getElem?_take] at hi'
  split at hi'
  ·rename_i hlt
   rw [List.getElem?_drop,Array.getElem?_toList] at hi'
   exact ⟨lo + i,by omega,by omega,by unfold RK; rw [hi']⟩
  ·cases hi'
 have hRK:∀ x,lo≤x→x < hi→∃ m,m∈merged.toList∧merged.toList[x - lo]? = some m∧RK rk (back merged.toList.zipIdx lo arr) x = rk m:=fun x h1 h2 => by
  have hl:x - lo < merged.toList.length:=by omega
  refine ⟨_,List.getElem_mem hl,List.getElem?_eq_getElem hl,?_⟩
  unfold RK
  rw [hget x,if_pos (by omega)]
  have e:x - (lo + 0) = x - lo:=by omega
  rw [e,List.getElem?_eq_getElem hl]
 have hout:∀ x,x < lo∨hi≤x→(back merged.toList.zipIdx lo arr)[x]? = arr[x]?:=fun x h => by
  rw [hget x,if_neg (by omega)]
 refine ⟨?_,fun x h => hout x (by omega),?_⟩
 ·rw [LY hfit]
  have e:arr.toList = arr.toList.take lo ++ ((arr.toList.drop lo).take (hi - lo)) ++ arr.toList.drop (lo + merged.toList.length):=by
   rw [List.append_assoc]
   have e2:lo + merged.toList.length = lo + (hi - lo):=by omega
   rw [e2,← List.drop_drop,List.take_append_drop,List.take_append_drop]
  rw [hx] at perm
  have:=(perm.append_left (arr.toList.take lo)).append_right (arr.toList.drop (lo + merged.toList.length))
  rw [← e] at this
  exact this
 ·intro x y h1 h2 h3
  by_cases cx:x < lo
  ·rw [Bv (hout x (.inl cx))]
   by_cases cy:lo≤y∧y < hi
   ·obtain ⟨m,hm,_,e⟩:=hRK y cy.1 cy.2
    obtain ⟨z,z1,z2,ez⟩:=hmid m hm
    rw [e,ez]
    exact hL x z h1 cx (by omega) (by omega)
   ·rw [Bv (hout y (by omega))]
    exact hL x y h1 cx h2 h3
  ·by_cases cx2:x < hi
   ·obtain ⟨m,hm,hm2,e⟩:=hRK x (by omega) cx2
    rw [e]
    by_cases cy:y < hi
    ·obtain ⟨m',hm',hm2',e'⟩:=hRK y (by omega) cy
     rw [e']
     by_cases exy:x = y
     ·subst exy
      rw [hm2] at hm2'
      cases hm2'
      exact Int.le_refl _
     ·have hl:y - lo < merged.toList.length:=by omega
      have hl':x - lo < merged.toList.length:=by omega
      have:=List.pairwise_iff_getElem.mp srt (x - lo) (y - lo) hl' hl (by omega)
      rw [List.getElem?_eq_getElem hl'] at hm2
      rw [List.getElem?_eq_getElem hl] at hm2'
      cases hm2
      cases hm2'
      exact this
    ·rw [Bv (hout y (by omega))]
     obtain ⟨z,z1,z2,ez⟩:=hmid m hm
     rw [ez]
     exact hR z y (by omega) (by omega) (by omega) h3
   ·rw [Bv (hout x (by omega)),Bv (hout y (by omega))]
    exact hR x y h1 h2 (by omega) h3
end SrtG
namespace SrtG
local macro_rules | `(tactic| omega) => `(tactic| first | lia | omega)
open PySem PyProof.Rows
variable {rk:Keyed→Int}
theorem Ed {arr:Array Keyed} {l h:Nat} (hh:h≤arr.size):(arr.extract l h).size = h - l:=by rw [Array.size_extract]; omega
theorem Mx {arr:Array Keyed} {l h x:Nat} (hx:x < h - l) (hh:h≤arr.size):(arr.extract l h)[x]? = arr[l + x]?:=by
 rw [← Array.getElem?_toList,Array.toList_extract,List.extract_eq_drop_take,List.getElem?_take,if_pos hx,List.getElem?_drop,Array.getElem?_toList]
theorem GN {arr:Array Keyed} {l h x:Nat} (hx:x < h - l) (hh:h≤arr.size):RK rk (arr.extract l h) x = RK rk arr (l + x):=by unfold RK; rw [Mx hx hh]
theorem AllU.ex {U:Keyed→Prop} {arr:Array Keyed} {l h:Nat} (u:AllU U arr) (hh:h≤arr.size):AllU U (arr.extract l h):=fun i p e => by
 have hi:i < (arr.extract l h).size:=by
  apply Classical.byContradiction
  intro hn
  rw [Array.getElem?_eq_none (Nat.le_of_not_lt hn)] at e
  cases e
 rw [Ed hh] at hi
 rw [Mx hi hh] at e
 exact u _ _ e
theorem Seg.ex {arr:Array Keyed} {l h:Nat} (sg:Seg rk arr l h) (hh:h≤arr.size):Dv rk (arr.extract l h):=fun i j hij hj => by
 rw [Ed hh] at hj
 rw [GN (by omega) hh,GN hj hh]
 exact sg _ _ (by omega) (by omega) (by omega)
section
variable {prog:Program} {w:World} {A:Around} {E:Value→Shared→Prop} {s:Shared} {kd:SortKind} {U:Keyed→Prop}
theorem PB {st st':SortSt} {Q:PUnit→SortSt→Prop} (h:Q ⟨⟩ st'):wpS (model prog w) A E s (set st':StateT SortSt Sem PUnit) Q st:=by
 unfold wpS; rw [StateT.run_set]; exact wpAny_pure ⟨rfl,h⟩
theorem IX {i sa na pa sb nb pb:Nat} {st:SortSt} {Q:Bool→SortSt→Prop} (C:Mu prog w A E s kd U rk) (hk:kindOf st = kd) (hU:AllU U (arrOf st)) (hf:failedOf st = none)
  (h1:(pendingOf st)[i]? = some (sa,na,pa)) (h2:(pendingOf st)[i + 1]? = some (sb,nb,pb)) (hsb:sb = sa + na) (hna:0 < na) (hnb:0 < nb) (hsz:sb + nb≤(arrOf st).size) (S1:Seg rk (arrOf st) sa sb) (S2:Seg rk (arrOf st) sb (sb + nb))
  (h:∀ st',kindOf st' = kd→failedOf st' = none→pendingOf st' = ((pendingOf st).setIfInBounds i (sa,na + nb,pa)).eraseIdxIfInBounds (i + 1)→Upd rk (arrOf st) (arrOf st') sa (sb + nb)→Q true st') :
  wpS (model prog w) A E s (mergeAt' i) Q st:=by
 delta mergeAt'
 refine wpS_bind (wpS_get ?_)
 rw [h1,h2]
 dsimp only
 refine wpS_bind (PB ?_)
 have hsbz:sb < (arrOf st).size:=by omega
 have uAt:∀ {i} (hi:i < (arrOf st).size),U (arrOf st)[i]:=fun hi => hU _ _ (getElem?_pos (arrOf st) _ hi)
 refine wpS_bind (AM (arr:=arrOf st) hsbz ?_)
 refine wpS_bind (At (arr:=arrOf st) C hk (uAt hsbz) hU (by omega) hna ?_ ?_)
 ·intro p q hpq hq e
  unfold bt at e ⊢
  rw [if_neg Bool.false_ne_true] at e ⊢
  have e':=of_decide_eq_false (Bool.not_eq_true' _ |>.mp e)
  have:=S1 (sa + p) (sa + q) (by omega) (by omega) (by omega)
  exact (Bool.not_eq_true' _).mpr (decide_eq_false (by omega))
 rintro k ⟨kn,kt,kf⟩
 have kt':∀ x,sa≤x→x < sa + k→RK rk (arrOf st) x≤RK rk (arrOf st) sb:=fun x hx1 hx => by
  have e:=kt (x - sa) (by omega)
  unfold bt at e
  rw [if_neg Bool.false_ne_true] at e
  have e':=of_decide_eq_false (Bool.not_eq_true' _ |>.mp e)
  have ex:sa + (x - sa) = x:=by omega
  rw [ex] at e'
  rw [Aj hsbz]
  omega
 have kf':∀ x,sa + k≤x→x < sb→RK rk (arrOf st) sb < RK rk (arrOf st) x:=fun x hx1 hx => by
  have e:=kf (x - sa) (by omega) (by omega)
  unfold bt at e
  rw [if_neg Bool.false_ne_true] at e
  have e':=of_decide_eq_true (Bool.not_eq_false' _ |>.mp e)
  have ex:sa + (x - sa) = x:=by omega
  rw [ex] at e'
  rw [Aj hsbz]
  omega
 dsimp only
 by_cases c1:na - k = 0
 ·rw [if_pos (beq_iff_eq.mpr c1)]
  refine wpS_pure (h _ hk hf rfl ⟨List.Perm.refl _,fun _ _ => rfl,fun x y hx1 hx2 hx3 => ?_⟩)
  by_cases cy:y < sb
  ·exact S1 x y hx1 hx2 cy
  ·by_cases cx:x < sb
   ·have e1:=kt' x hx1 (by omega)
    have e2:=S2 sb y (by omega) (by omega) hx3
    exact Int.le_trans e1 e2
   ·exact S2 x y (by omega) hx2 hx3
 rw [if_neg (fun q => c1 (beq_iff_eq.mp q))]
 have el:sa + k + (na - k) - 1 = sb - 1:=by omega
 rw [el]
 have hlz:sb - 1 < (arrOf st).size:=by omega
 refine wpS_bind (AM (arr:=arrOf st) hlz ?_)
 refine wpS_bind (At (arr:=arrOf st) C hk (uAt hlz) hU (by omega) (by omega) ?_ ?_)
 ·intro p q hpq hq e
  unfold bt at e ⊢
  rw [if_pos rfl] at e ⊢
  have e':=of_decide_eq_true e
  have:=S2 (sb + p) (sb + q) (by omega) (by omega) (by omega)
  exact decide_eq_true (by omega)
 rintro n2 ⟨nn,nt,nf⟩
 have nt':∀ x,sb≤x→x < sb + n2→RK rk (arrOf st) x < RK rk (arrOf st) (sb - 1):=fun x hx1 hx => by
  have e:=nt (x - sb) (by omega)
  unfold bt at e
  rw [if_pos rfl] at e
  have e':=of_decide_eq_true e
  have ex:sb + (x - sb) = x:=by omega
  rw [ex] at e'
  rw [Aj hlz]
  omega
 have nf':∀ x,sb + n2≤x→x < sb + nb→RK rk (arrOf st) (sb - 1)≤RK rk (arrOf st) x:=fun x hx1 hx => by
  have e:=nf (x - sb) (by omega) (by omega)
  unfold bt at e
  rw [if_pos rfl] at e
  have e':=of_decide_eq_false e
  have ex:sb + (x - sb) = x:=by omega
  rw [ex] at e'
  rw [Aj hlz]
  omega
 dsimp only
 have hlast:=kf' (sb - 1) (by omega) (by omega)
 by_cases c2:n2 = 0
 ·have:=nf' sb (by omega) (by omega)
  omega
 rw [if_neg (fun q => c2 (beq_iff_eq.mp q))]
 have hy:sb + n2≤(arrOf st).size:=by omega
 have hx':sb≤(arrOf st).size:=by omega
 have sA:Dv rk ((arrOf st).extract (sa + k) sb):=Seg.ex (fun x y q1 q2 q3 => S1 x y (by omega) q2 q3) hx'
 have sB:Dv rk ((arrOf st).extract sb (sb + n2)):=Seg.ex (fun x y q1 q2 q3 => S2 x y q1 q2 (by omega)) hy
 have zA:((arrOf st).extract (sa + k) sb).size = sb - (sa + k):=Ed hx'
 have zB:((arrOf st).extract sb (sb + n2)).size = sb + n2 - sb:=Ed hy
 have q0:RK rk ((arrOf st).extract sb (sb + n2)) 0≤RK rk ((arrOf st).extract (sa + k) sb) 0:=by
  rw [GN (by omega) hy,GN (by omega) hx']
  have:=kf' (sa + k + 0) (by omega) (by omega)
  exact Int.le_of_lt this
 have q1:RK rk ((arrOf st).extract sb (sb + n2)) (((arrOf st).extract sb (sb + n2)).size - 1)≤RK rk ((arrOf st).extract (sa + k) sb) (((arrOf st).extract (sa + k) sb).size - 1):=by
  rw [zA,zB,GN (by omega) hy,GN (by omega) hx']
  have:=nt' (sb + (sb + n2 - sb - 1)) (by omega) (by omega)
  have e:sa + k + (sb - (sa + k) - 1) = sb - 1:=by omega
  rw [e]
  exact Int.le_of_lt this
 have fin:∀ r (st':SortSt),Like (setPending st (((pendingOf st).setIfInBounds i (sa,na + nb,pa)).eraseIdxIfInBounds (i + 1))) st'→Fin2 rk ((arrOf st).extract (sa + k) sb) ((arrOf st).extract sb (sb + n2)) r →
   wpS (model prog w) A E s (do
    modify fun z => setArr z (back r.toList.zipIdx (sa + k) (arrOf z))
    return (failedOf (← get)).isNone) Q st':=fun r st' lk f => by
  refine wpS_bind (wpS_modify ?_)
  refine wpS_bind (wpS_get ?_)
  have e:(failedOf st').isNone = true:=by rw [lk.fl]; show (failedOf st).isNone = true; rw [hf]; rfl
  show wpS _ _ _ _ (pure ((failedOf st').isNone)) _ _
  rw [e]
  refine wpS_pure (h _ (lk.kd.trans hk) (lk.fl.trans hf) lk.pd ?_)
  have ea:arrOf st' = arrOf st:=lk.arr
  show Upd rk (arrOf st) (back r.toList.zipIdx (sa + k) (arrOf st')) sa (sb + nb)
  rw [ea]
  refine Mw (hi:=sb + n2) (by omega) (by omega) (by omega) hsz ?_ f.srt ?_ ?_
  ·have e2:((arrOf st).extract (sa + k) (sb + n2)).toList = ((arrOf st).extract (sa + k) sb).toList ++ ((arrOf st).extract sb (sb + n2)).toList:=by
    rw [Array.toList_extract,Array.toList_extract,Array.toList_extract,List.extract_eq_drop_take,List.extract_eq_drop_take,List.extract_eq_drop_take]
    have e3:sb + n2 - (sa + k) = (sb - (sa + k)) + (sb + n2 - sb):=by omega
    rw [e3,List.take_add,List.drop_drop]
    have e4:sa + k + (sb - (sa + k)) = sb:=by omega
    rw [e4]
   rw [e2]
   exact f.perm
  ·intro x z hx1 hx2 hx3 hx4
   by_cases cz:z < sb
   ·exact S1 x z hx1 hx3 cz
   ·have e1:=kt' x hx1 hx2
    have e2:=S2 sb z (by omega) (by omega) hx4
    exact Int.le_trans e1 e2
  ·intro z y hx1 hx2 hx3 hx4
   by_cases cz:z < sb
   ·have e1:=S1 z (sb - 1) hx1 (by omega) (by omega)
    exact Int.le_trans e1 (nf' y hx3 hx4)
   ·exact S2 z y (by omega) hx2 hx4
 by_cases c3:na - k≤n2
 ·rw [if_pos c3]
  exact wpS_bind (IU (a:=(arrOf st).extract (sa + k) sb) (b:=(arrOf st).extract sb (sb + n2)) C hk (hU.ex hx') (hU.ex hy) sA sB (by omega) (by omega) q0 q1 fin)
 ·rw [if_neg c3]
  exact wpS_bind (IW (a:=(arrOf st).extract (sa + k) sb) (b:=(arrOf st).extract sb (sb + n2)) C hk (hU.ex hx') (hU.ex hy) sA sB (by omega) (by omega) q0 q1 fin)
end
end SrtG
namespace SrtG
open PySem PyProof.Rows
variable {rk:Keyed→Int}
structure Kp (st0 st:SortSt) (lo hi:Nat):Prop where
 kd:kindOf st = kindOf st0
 pd:pendingOf st = pendingOf st0
 fl:failedOf st = failedOf st0
 perm:(arrOf st).toList.Perm (arrOf st0).toList
 out:∀ x,x < lo∨hi≤x→(arrOf st)[x]? = (arrOf st0)[x]?
theorem Kp.refl (st:SortSt) (lo hi:Nat):Kp st st lo hi:=⟨rfl,rfl,rfl,List.Perm.refl _,fun _ _ => rfl⟩
theorem Kp.size {st0 st:SortSt} {lo hi:Nat} (k:Kp st0 st lo hi):(arrOf st).size = (arrOf st0).size:=by
 rw [← Array.length_toList,← Array.length_toList]; exact k.perm.length_eq
theorem AllU.of_perm {U:Keyed→Prop} {a b:Array Keyed} (u:AllU U a) (p:b.toList.Perm a.toList):AllU U b:=fun i q e => by
 have hm:q∈b.toList:=by rw [← Array.getElem?_toList] at e; exact List.mem_of_getElem? e
 have hm':=p.mem_iff.mp hm
 obtain ⟨j,hj⟩:=List.mem_iff_getElem?.mp hm'
 rw [Array.getElem?_toList] at hj
 exact u j q hj
theorem Kp.setA {st0 st:SortSt} {lo hi:Nat} (k:Kp st0 st lo hi) {xs:Array Keyed} (hp:xs.toList.Perm (arrOf st).toList) (ho:∀ x,x < lo∨hi≤x→xs[x]? = (arrOf st)[x]?):Kp st0 (setArr st xs) lo hi :=
 ⟨k.kd,k.pd,k.fl,hp.trans k.perm,fun x hx => (ho x hx).trans (k.out x hx)⟩
theorem Cg {xs ys:Array Keyed} {i j:Nat} (h:xs[i]? = ys[j]?):RK rk xs i = RK rk ys j:=by unfold RK; rw [h]
theorem GO {xs:Array Keyed} {src d:Nat} (hs:src < xs.size) (hd:d≤src) (k:Nat):RK rk (bubble xs src d) k = if k = src - d then RK rk xs src else if src - d < k∧k≤src then RK rk xs (k - 1) else RK rk xs k:=by
 have e:=getElem?_bubble hs d hd k
 by_cases c1:k = src - d
 ·rw [if_pos c1] at e ⊢; exact Cg e
 ·rw [if_neg c1] at e ⊢
  by_cases c2:src - d < k∧k≤src
  ·rw [if_pos c2] at e ⊢; exact Cg e
  ·rw [if_neg c2] at e ⊢; exact Cg e
section
variable {prog:Program} {w:World} {A:Around} {E:Value→Shared→Prop} {s:Shared} {kd:SortKind} {U:Keyed→Prop}
theorem BF {st:SortSt} {i j:Nat} {Q:Option Bool→SortSt→Prop} (C:Mu prog w A E s kd U rk) (hk:kindOf st = kd) (hU:AllU U (arrOf st)) (hi:i < (arrOf st).size) (hj:j < (arrOf st).size)
  (h:Q (some (decide (RK rk (arrOf st) i < RK rk (arrOf st) j))) st):wpS (model prog w) A E s (ltAt' i j) Q st:=by
 rw [ltAt'_eq]
 refine wpS_bind (wpS_get ?_)
 refine wpS_bind (AM hi ?_)
 refine wpS_bind (AM hj ?_)
 rw [Aj hi,Aj hj] at h
 exact C _ _ _ _ hk (hU _ _ (getElem?_pos (arrOf st) _ hi)) (hU _ _ (getElem?_pos (arrOf st) _ hj)) h
theorem JY {st:SortSt} {lo n ok:Nat} {Q:Bool→SortSt→Prop} (C:Mu prog w A E s kd U rk) (hk:kindOf st = kd) (hU:AllU U (arrOf st)) (hn:lo + n≤(arrOf st).size) (hok:ok≤n) (hs:Seg rk (arrOf st) lo (lo + ok))
  (h:∀ st',Kp st st' lo (lo + n)→Seg rk (arrOf st') lo (lo + n)→Q true st'):wpS (model prog w) A E s (binarySort' lo n ok) Q st:=by
 rw [binarySort'_eq]
 refine wpS_bind (wpS_mono (wpS_forRange (I:=fun k c st' => c = (none,())∧Kp st st' lo (lo + n)∧Seg rk (arrOf st') lo (lo + min k n))
  (Q:=fun c st' => c = (none,())∧Kp st st' lo (lo + n)∧Seg rk (arrOf st') lo (lo + n)) ?step ?fin ?init) ?post)
 case post =>
  rintro c st' ⟨rfl,hB',hs'⟩
  exact wpS_pure (h st' hB' hs')
 case init =>
  refine ⟨rfl,Kp.refl _ _ _,fun i j hi hij hj => ?_⟩
  by_cases c1:ok = 0
  ·have:i = j:=by omega
   subst this; exact Int.le_refl _
  ·exact hs i j hi hij (by omega)
 case fin =>
  rintro c st' ⟨hc,hB',hs'⟩
  refine ⟨hc,hB',?_⟩
  have e:min (max (max ok 1) n) n = n:=by omega
  rwa [e] at hs'
 case step =>
  rintro k c st' hak hkn ⟨rfl,hB',hs'⟩
  have e:min k n = k:=by omega
  rw [e] at hs'
  have hz:=hB'.size
  have hks:lo + k < (arrOf st').size:=by omega
  have hU':=hU.of_perm hB'.perm
  refine wpS_bind (wpS_mono (wpS_forRange (I:=fun x c st'' => st'' = st'∧∃ l r,c = (none,l,r)∧l≤r∧r≤k∧r - l≤k - x ∧
    (∀ i,i < l→RK rk (arrOf st') (lo + i)≤RK rk (arrOf st') (lo + k))∧(∀ i,r≤i→i < k→RK rk (arrOf st') (lo + k) < RK rk (arrOf st') (lo + i)))
   (Q:=fun c st'' => st'' = st'∧∃ l r,c = (none,l,r)∧l≤k ∧
    (∀ i,i < l→RK rk (arrOf st') (lo + i)≤RK rk (arrOf st') (lo + k))∧(∀ i,l≤i→i < k→RK rk (arrOf st') (lo + k) < RK rk (arrOf st') (lo + i))) ?istep ?ifin ?iinit) ?ipost)
  case iinit => exact ⟨rfl,0,k,rfl,by omega,by omega,by omega,fun i hi => by omega,fun i h1 h2 => by omega⟩
  case ifin =>
   rintro c st'' ⟨rfl,l,r,rfl,hlr,hrk,hm,hlo,hhi⟩
   have:l = r:=by omega
   subst this
   exact ⟨rfl,l,l,rfl,hrk,hlo,hhi⟩
  case istep =>
   rintro x c st'' _ hxk ⟨rfl,l,r,rfl,hlr,hrk,hm,hlo,hhi⟩
   dsimp only
   by_cases hge:l ≥ r
   ·rw [if_pos hge]
    have:l = r:=by omega
    subst this
    exact wpS_pure ⟨rfl,l,l,rfl,hrk,hlo,hhi⟩
   ·rw [if_neg hge]
    refine wpS_bind (BF C (hB'.kd.trans hk) hU' hks (by omega) ?_)
    dsimp only
    by_cases hless:RK rk (arrOf st'') (lo + k) < RK rk (arrOf st'') (lo + (l + r) / 2)
    ·rw [if_pos (decide_eq_true hless)]
     refine wpS_pure ⟨rfl,l,(l + r) / 2,rfl,by omega,by omega,by omega,hlo,fun i q1 q2 => ?_⟩
     exact Int.lt_of_lt_of_le hless (hs' _ _ (by omega) (by omega) (by omega))
    ·rw [if_neg (fun q => hless (of_decide_eq_true q))]
     refine wpS_pure ⟨rfl,(l + r) / 2 + 1,r,rfl,by omega,by omega,by omega,fun i q1 => ?_,hhi⟩
     exact Int.le_trans (hs' (lo + i) (lo + (l + r) / 2) (by omega) (by omega) (by omega)) (Int.not_lt.mp hless)
  case ipost =>
   rintro c st'' ⟨rfl,l,r,rfl,hlk,hlo,hhi⟩
   show wpS _ _ _ _ (do moveDown' (lo + k) (lo + l); pure (ForInStep.yield (none,()))) _ _
   rw [moveDown'_eq]
   have ed:lo + k - (lo + l) = k - l:=by omega
   refine wpS_bind (wpS_modify (wpS_pure ⟨rfl,hB'.setA (Array.perm_iff_toList_perm.mp (bubble_perm _ _ _)) ?_,?_⟩))
   ·intro x hx
    rw [ed,getElem?_bubble hks _ (by omega),if_neg (by omega),if_neg (by omega)]
   have e2:lo + min (k + 1) n = lo + k + 1:=by omega
   rw [e2]
   intro i j hi hij hj
   show RK rk (bubble (arrOf st'') (lo + k) (lo + k - (lo + l))) i≤RK rk (bubble (arrOf st'') (lo + k) (lo + k - (lo + l))) j
   rw [ed,GO hks (by omega),GO hks (by omega)]
   have e3:lo + k - (k - l) = lo + l:=by omega
   rw [e3]
   have hlo':∀ i,lo≤i→i < lo + l→RK rk (arrOf st'') i≤RK rk (arrOf st'') (lo + k):=fun i q1 q2 => by
    have:=hlo (i - lo) (by omega)
    have e4:lo + (i - lo) = i:=by omega
    rwa [e4] at this
   have hhi':∀ i,lo + l≤i→i < lo + k→RK rk (arrOf st'') (lo + k)≤RK rk (arrOf st'') i:=fun i q1 q2 => by
    have:=hhi (i - lo) (by omega) (by omega)
    have e4:lo + (i - lo) = i:=by omega
    rw [e4] at this
    exact Int.le_of_lt this
   repeat' split
   all_goals first
    | (exfalso; omega)
    | exact Int.le_refl _
    | exact hlo' _ (by omega) (by omega)
    | exact hhi' _ (by omega) (by omega)
    | exact hs' _ _ (by omega) (by omega) (by omega)
end
local macro_rules | `(tactic| omega) => `(tactic| first | lia | omega)
open PySem PyProof.Rows
variable {rk:Keyed→Int}
def Dsc (rk:Keyed→Int) (arr:Array Keyed) (lo hi:Nat):Prop:=∀ x y,lo≤x→x≤y→y < hi→RK rk arr y≤RK rk arr x
theorem LZ {xs:Array Keyed} {i j:Nat} (hj:j≤xs.size) (k:Nat):RK rk (mirror xs i j ((j - i) / 2)) k = if i≤k∧k < j then RK rk xs (i + j - 1 - k) else RK rk xs k:=by
 have e:=getElem?_mirror_all (i:=i) hj k
 by_cases c1:i≤k∧k < j
 ·rw [if_pos c1] at e ⊢; exact Cg e
 ·rw [if_neg c1] at e ⊢; exact Cg e
section
variable {prog:Program} {w:World} {A:Around} {E:Value→Shared→Prop} {s:Shared} {kd:SortKind} {U:Keyed→Prop}
theorem DT {st0 st:SortSt} {lo hi i j:Nat} {Q:Unit→SortSt→Prop} (k:Kp st0 st lo hi) (h1:lo≤i) (h2:j≤hi) (hj:j≤(arrOf st).size)
  (h:∀ st',Kp st0 st' lo hi→(∀ k,RK rk (arrOf st') k = if i≤k∧k < j then RK rk (arrOf st) (i + j - 1 - k) else RK rk (arrOf st) k)→Q () st'):wpS (model prog w) A E s (reverseSlice' i j) Q st:=by
 rw [reverseSlice'_eq]
 refine wpS_modify (h _ (k.setA (Array.perm_iff_toList_perm.mp (mirror_perm _ _ _ _)) fun x hx => ?_) fun k => LZ hj k)
 rw [getElem?_mirror_all hj,if_neg (by omega)]
theorem Ch {st0 st:SortSt} {lo hi i j:Nat} {Q:Unit→SortSt→Prop} (k:Kp st0 st lo hi) (h1:lo≤i) (h2:j≤hi) (hj:j≤(arrOf st).size) (heq:∀ k,i≤k→k < j→RK rk (arrOf st) k = RK rk (arrOf st) (j - 1))
  (h:∀ st',Kp st0 st' lo hi→(∀ k,RK rk (arrOf st') k = RK rk (arrOf st) k)→Q () st'):wpS (model prog w) A E s (reverseSlice' i j) Q st:=by
 refine DT (rk:=rk) k h1 h2 hj fun st' k' e => h st' k' fun x => ?_
 rw [e x]
 split
 ·rw [heq _ (by omega) (by omega),heq x (by omega) (by omega)]
 ·rfl
theorem Seg.up {arr:Array Keyed} {lo n:Nat} (sg:Seg rk arr lo (lo + n)) (h1:1≤n) (hx:¬ RK rk arr (lo + n) < RK rk arr (lo + n - 1)):Seg rk arr lo (lo + (n + 1)):=fun i j hi hij hj => by
 by_cases c:j < lo + n
 ·exact sg i j hi hij c
 ·have e:j = lo + n:=by omega
  subst e
  by_cases c2:i = lo + n
  ·subst c2; exact Int.le_refl _
  ·exact Int.le_trans (sg i (lo + n - 1) hi (by omega) (by omega)) (Int.not_lt.mp hx)
theorem Dsc.up {arr arr':Array Keyed} {lo n:Nat} (sg:Dsc rk arr lo (lo + n)) (h1:1≤n) (hx:RK rk arr (lo + n)≤RK rk arr (lo + n - 1)) (he:∀ k,RK rk arr' k = RK rk arr k):Dsc rk arr' lo (lo + (n + 1)):=fun i j hi hij hj => by
 rw [he,he]
 by_cases c:j < lo + n
 ·exact sg i j hi hij c
 ·have e:j = lo + n:=by omega
  subst e
  by_cases c2:i = lo + n
  ·subst c2; exact Int.le_refl _
  ·exact Int.le_trans hx (sg i (lo + n - 1) hi (by omega) (by omega))
theorem JZ {st:SortSt} {lo nrem:Nat} {Q:Option Nat→SortSt→Prop} (C:Mu prog w A E s kd U rk) (hk:kindOf st = kd) (hU:AllU U (arrOf st)) (hn:lo + nrem≤(arrOf st).size) (h1:1≤nrem)
  (h:∀ m st',Kp st st' lo (lo + nrem)→1≤m→m≤nrem→Seg rk (arrOf st') lo (lo + m)→Q (some m) st') :
  wpS (model prog w) A E s (countRun' lo nrem) Q st:=by
 rw [countRun'_eq]
 refine wpS_bind (wpS_mono (wpS_forRange (I:=fun x c st' => st' = st∧c = (none,x)∧Seg rk (arrOf st) lo (lo + x))
  (Q:=fun c st' => st' = st∧∃ n,c = (none,n)∧1≤n∧n≤nrem∧Seg rk (arrOf st) lo (lo + n)∧(n = nrem∨RK rk (arrOf st) (lo + n) < RK rk (arrOf st) (lo + n - 1))) ?step ?fin ⟨rfl,rfl,fun i j hi hij hj => by have:i = j:=(by omega); subst this; exact Int.le_refl _⟩) ?post)
 case fin =>
  rintro c st' ⟨rfl,rfl,hs'⟩
  have e:max 1 nrem = nrem:=by omega
  rw [e] at hs' ⊢
  exact ⟨rfl,nrem,rfl,h1,Nat.le_refl _,hs',.inl rfl⟩
 case step =>
  rintro x c st' hax hxn ⟨rfl,rfl,hs'⟩
  dsimp only
  refine wpS_bind (BF C hk hU (by omega) (by omega) ?_)
  dsimp only
  by_cases hless:RK rk (arrOf st') (lo + x) < RK rk (arrOf st') (lo + x - 1)
  ·rw [if_pos (decide_eq_true hless)]
   exact wpS_pure ⟨rfl,x,rfl,hax,by omega,hs',.inr hless⟩
  ·rw [if_neg (fun q => hless (of_decide_eq_true q))]
   exact wpS_pure ⟨rfl,rfl,hs'.up hax hless⟩
 case post =>
  rintro c st' ⟨rfl,n,rfl,hn1,hn2,hsn,hor⟩
  dsimp only
  by_cases hnn:n = nrem
  ·rw [if_pos (beq_iff_eq.mpr hnn)]
   exact wpS_pure (h n _ (Kp.refl _ _ _) hn1 hn2 hsn)
  rw [if_neg (fun q => hnn (beq_iff_eq.mp q))]
  have hlt:=hor.resolve_left hnn
  by_cases hgt:n > 1
  ·rw [if_pos hgt]
   refine wpS_bind (BF C hk hU (by omega) (by omega) ?_)
   dsimp only
   by_cases hrose:RK rk (arrOf st') lo < RK rk (arrOf st') (lo + n - 1)
   ·rw [if_pos (decide_eq_true hrose)]
    exact wpS_pure (h n _ (Kp.refl _ _ _) hn1 hn2 hsn)
   rw [if_neg (fun q => hrose (of_decide_eq_true q))]
   have hall:∀ k,lo≤k→k < lo + n→RK rk (arrOf st') k = RK rk (arrOf st') (lo + n - 1):=fun k q1 q2 => by
    have a1:=hsn lo k (by omega) q1 q2
    have a2:=hsn k (lo + n - 1) q1 (by omega) (by omega)
    omega
   refine wpS_bind (Ch (rk:=rk) (Kp.refl st' lo (lo + nrem)) (Nat.le_refl _) (by omega) (by omega) hall fun st2 kp hRK => ?_)
   have hd:Dsc rk (arrOf st2) lo (lo + (n + 1)):=Dsc.up (arr:=arrOf st') (fun i j q1 q2 q3 => by rw [hall i q1 (by omega),hall j (by omega) q3]; exact Int.le_refl _) hn1 (Int.le_of_lt hlt) hRK
   refine wpS_bind (wpS_lift (wpAny_rule ⟨rfl,?_⟩))
   refine wpS_bind (wpS_mono (wpS_forRange (I:=fun x c st3 => ∃ neq,c = (none,x,neq)∧Kp st' st3 lo (lo + nrem)∧Dsc rk (arrOf st3) lo (lo + x)∧neq + 1≤x∧(∀ i,lo + x - (neq + 1)≤i→i < lo + x→RK rk (arrOf st3) i = RK rk (arrOf st3) (lo + x - 1)))
    (Q:=fun c st3 => ∃ m neq,c = (none,m,neq)∧Kp st' st3 lo (lo + nrem)∧n + 1≤m∧m≤nrem∧Dsc rk (arrOf st3) lo (lo + m)∧neq + 1≤m∧(∀ i,lo + m - (neq + 1)≤i→i < lo + m→RK rk (arrOf st3) i = RK rk (arrOf st3) (lo + m - 1))) ?_ ?_ ⟨0,rfl,kp,hd,by omega,fun i q1 q2 => by congr 1; omega⟩) ?_)
   ·rintro x c st3 hax hxn ⟨neq,rfl,kp,hd,hq,he⟩
    have hz:=kp.size
    have hU3:=hU.of_perm kp.perm
    dsimp only
    refine wpS_bind (BF C (kp.kd.trans hk) hU3 (by omega) (by omega) ?_)
    dsimp only
    by_cases hless:RK rk (arrOf st3) (lo + x) < RK rk (arrOf st3) (lo + x - 1)
    ·rw [if_pos (decide_eq_true hless)]
     by_cases hneq:neq > 0
     ·rw [if_pos hneq]
      refine wpS_bind (Ch (rk:=rk) kp (by omega) (by omega) (by omega) he fun st4 kp4 hRK => ?_)
      exact wpS_pure ⟨0,rfl,kp4,hd.up (by omega) (Int.le_of_lt hless) hRK,by omega,fun i q1 q2 => by congr 1; omega⟩
     ·rw [if_neg hneq]
      exact wpS_pure ⟨0,rfl,kp,hd.up (by omega) (Int.le_of_lt hless) fun _ => rfl,by omega,fun i q1 q2 => by congr 1; omega⟩
    ·rw [if_neg (fun q => hless (of_decide_eq_true q))]
     refine wpS_bind (BF C (kp.kd.trans hk) hU3 (by omega) (by omega) ?_)
     dsimp only
     by_cases hlarger:RK rk (arrOf st3) (lo + x - 1) < RK rk (arrOf st3) (lo + x)
     ·rw [if_pos (decide_eq_true hlarger)]
      exact wpS_pure ⟨x,neq,rfl,kp,hax,by omega,hd,hq,he⟩
     ·rw [if_neg (fun q => hlarger (of_decide_eq_true q))]
      have heqx:RK rk (arrOf st3) (lo + x) = RK rk (arrOf st3) (lo + x - 1):=by omega
      refine wpS_pure ⟨neq + 1,rfl,kp,hd.up (by omega) (by omega) fun _ => rfl,by omega,fun i q1 q2 => ?_⟩
      have e1:lo + (x + 1) - 1 = lo + x:=by omega
      rw [e1]
      by_cases hix:i = lo + x
      ·rw [hix]
      ·rw [heqx]; exact he i (by omega) (by omega)
   ·rintro c st3 ⟨neq,rfl,kp,hd,hq,he⟩
    have e:max (n + 1) nrem = nrem:=by omega
    rw [e] at hd hq he ⊢
    exact ⟨nrem,neq,rfl,kp,by omega,Nat.le_refl _,hd,hq,he⟩
   rintro c st3 ⟨m,neq,rfl,kp,hm1,hm2,hd,hq,he⟩
   have hz:=kp.size
   dsimp only
   have rest:∀ (st4:SortSt),Kp st' st4 lo (lo + nrem)→Dsc rk (arrOf st4) lo (lo + m)→∀ st5,Kp st' st5 lo (lo + nrem)→(∀ k,RK rk (arrOf st5) k = if lo≤k∧k < lo + m then RK rk (arrOf st4) (lo + (lo + m) - 1 - k) else RK rk (arrOf st4) k)→Seg rk (arrOf st5) lo (lo + m):=fun st4 _ d4 st5 _ e5 i j q1 q2 q3 => by
    rw [e5,e5,if_pos (by omega),if_pos (by omega)]
    exact d4 _ _ (by omega) (by omega) (by omega)
   by_cases hneq:neq > 0
   ·rw [if_pos hneq]
    refine wpS_bind (Ch (rk:=rk) kp (by omega) (by omega) (by omega) he fun st4 kp4 hRK => ?_)
    have d4:Dsc rk (arrOf st4) lo (lo + m):=fun i j q1 q2 q3 => by rw [hRK,hRK]; exact hd i j q1 q2 q3
    have hz4:=kp4.size
    refine wpS_bind (DT (rk:=rk) kp4 (Nat.le_refl _) (by omega) (by omega) fun st5 kp5 e5 => ?_)
    have s5:=rest _ kp4 d4 st5 kp5 e5
    have hz5:=kp5.size
    have hU5:=hU.of_perm kp5.perm
    refine wpS_bind (wpS_mono (wpS_forRange (I:=fun x c st6 => st6 = st5∧c = (none,x)∧Seg rk (arrOf st5) lo (lo + x))
     (Q:=fun c st6 => st6 = st5∧∃ n,c = (none,n)∧1≤n∧n≤nrem∧Seg rk (arrOf st5) lo (lo + n)) ?_ ?_ ⟨rfl,rfl,s5⟩) ?_)
    ·rintro x c st6 hax hxn ⟨rfl,rfl,hs'⟩
     dsimp only
     refine wpS_bind (BF C (kp5.kd.trans hk) hU5 (by omega) (by omega) ?_)
     dsimp only
     by_cases hless:RK rk (arrOf st6) (lo + x) < RK rk (arrOf st6) (lo + x - 1)
     ·rw [if_pos (decide_eq_true hless)]
      exact wpS_pure ⟨rfl,x,rfl,by omega,by omega,hs'⟩
     ·rw [if_neg (fun q => hless (of_decide_eq_true q))]
      exact wpS_pure ⟨rfl,rfl,hs'.up (by omega) hless⟩
    ·rintro c st6 ⟨rfl,rfl,hs'⟩
     have e:max m nrem = nrem:=by omega
     rw [e] at hs' ⊢
     exact ⟨rfl,nrem,rfl,h1,Nat.le_refl _,hs'⟩
    rintro c st6 ⟨rfl,n5,rfl,q1,q2,q3⟩
    exact wpS_pure (h n5 _ kp5 q1 q2 q3)
   ·rw [if_neg hneq]
    have kp4:=kp
    have d4:=hd
    have hz4:=hz
    refine wpS_bind (DT (rk:=rk) kp4 (Nat.le_refl _) (by omega) (by omega) fun st5 kp5 e5 => ?_)
    have s5:=rest _ kp4 d4 st5 kp5 e5
    have hz5:=kp5.size
    have hU5:=hU.of_perm kp5.perm
    refine wpS_bind (wpS_mono (wpS_forRange (I:=fun x c st6 => st6 = st5∧c = (none,x)∧Seg rk (arrOf st5) lo (lo + x))
     (Q:=fun c st6 => st6 = st5∧∃ n,c = (none,n)∧1≤n∧n≤nrem∧Seg rk (arrOf st5) lo (lo + n)) ?_ ?_ ⟨rfl,rfl,s5⟩) ?_)
    ·rintro x c st6 hax hxn ⟨rfl,rfl,hs'⟩
     dsimp only
     refine wpS_bind (BF C (kp5.kd.trans hk) hU5 (by omega) (by omega) ?_)
     dsimp only
     by_cases hless:RK rk (arrOf st6) (lo + x) < RK rk (arrOf st6) (lo + x - 1)
     ·rw [if_pos (decide_eq_true hless)]
      exact wpS_pure ⟨rfl,x,rfl,by omega,by omega,hs'⟩
     ·rw [if_neg (fun q => hless (of_decide_eq_true q))]
      exact wpS_pure ⟨rfl,rfl,hs'.up (by omega) hless⟩
    ·rintro c st6 ⟨rfl,rfl,hs'⟩
     have e:max m nrem = nrem:=by omega
     rw [e] at hs' ⊢
     exact ⟨rfl,nrem,rfl,h1,Nat.le_refl _,hs'⟩
    rintro c st6 ⟨rfl,n5,rfl,q1,q2,q3⟩
    exact wpS_pure (h n5 _ kp5 q1 q2 q3)
  ·rw [if_neg hgt]
   have hd:Dsc rk (arrOf st') lo (lo + (n + 1)):=Dsc.up (arr:=arrOf st') (fun i j q1 q2 q3 => by have:i = j:=(by omega); subst this; exact Int.le_refl _) hn1 (Int.le_of_lt hlt) fun _ => rfl
   have kp:=Kp.refl st' lo (lo + nrem)
   refine wpS_bind (wpS_lift (wpAny_rule ⟨rfl,?_⟩))
   refine wpS_bind (wpS_mono (wpS_forRange (I:=fun x c st3 => ∃ neq,c = (none,x,neq)∧Kp st' st3 lo (lo + nrem)∧Dsc rk (arrOf st3) lo (lo + x)∧neq + 1≤x∧(∀ i,lo + x - (neq + 1)≤i→i < lo + x→RK rk (arrOf st3) i = RK rk (arrOf st3) (lo + x - 1)))
    (Q:=fun c st3 => ∃ m neq,c = (none,m,neq)∧Kp st' st3 lo (lo + nrem)∧n + 1≤m∧m≤nrem∧Dsc rk (arrOf st3) lo (lo + m)∧neq + 1≤m∧(∀ i,lo + m - (neq + 1)≤i→i < lo + m→RK rk (arrOf st3) i = RK rk (arrOf st3) (lo + m - 1))) ?_ ?_ ⟨0,rfl,kp,hd,by omega,fun i q1 q2 => by congr 1; omega⟩) ?_)
   ·rintro x c st3 hax hxn ⟨neq,rfl,kp,hd,hq,he⟩
    have hz:=kp.size
    have hU3:=hU.of_perm kp.perm
    dsimp only
    refine wpS_bind (BF C (kp.kd.trans hk) hU3 (by omega) (by omega) ?_)
    dsimp only
    by_cases hless:RK rk (arrOf st3) (lo + x) < RK rk (arrOf st3) (lo + x - 1)
    ·rw [if_pos (decide_eq_true hless)]
     by_cases hneq:neq > 0
     ·rw [if_pos hneq]
      refine wpS_bind (Ch (rk:=rk) kp (by omega) (by omega) (by omega) he fun st4 kp4 hRK => ?_)
      exact wpS_pure ⟨0,rfl,kp4,hd.up (by omega) (Int.le_of_lt hless) hRK,by omega,fun i q1 q2 => by congr 1; omega⟩
     ·rw [if_neg hneq]
      exact wpS_pure ⟨0,rfl,kp,hd.up (by omega) (Int.le_of_lt hless) fun _ => rfl,by omega,fun i q1 q2 => by congr 1; omega⟩
    ·rw [if_neg (fun q => hless (of_decide_eq_true q))]
     refine wpS_bind (BF C (kp.kd.trans hk) hU3 (by omega) (by omega) ?_)
     dsimp only
     by_cases hlarger:RK rk (arrOf st3) (lo + x - 1) < RK rk (arrOf st3) (lo + x)
     ·rw [if_pos (decide_eq_true hlarger)]
      exact wpS_pure ⟨x,neq,rfl,kp,hax,by omega,hd,hq,he⟩
     ·rw [if_neg (fun q => hlarger (of_decide_eq_true q))]
      have heqx:RK rk (arrOf st3) (lo + x) = RK rk (arrOf st3) (lo + x - 1):=by omega
      refine wpS_pure ⟨neq + 1,rfl,kp,hd.up (by omega) (by omega) fun _ => rfl,by omega,fun i q1 q2 => ?_⟩
      have e1:lo + (x + 1) - 1 = lo + x:=by omega
      rw [e1]
      by_cases hix:i = lo + x
      ·rw [hix]
      ·rw [heqx]; exact he i (by omega) (by omega)
   ·rintro c st3 ⟨neq,rfl,kp,hd,hq,he⟩
    have e:max (n + 1) nrem = nrem:=by omega
    rw [e] at hd hq he ⊢
    exact ⟨nrem,neq,rfl,kp,by omega,Nat.le_refl _,hd,hq,he⟩
   rintro c st3 ⟨m,neq,rfl,kp,hm1,hm2,hd,hq,he⟩
   have hz:=kp.size
   dsimp only
   have rest:∀ (st4:SortSt),Kp st' st4 lo (lo + nrem)→Dsc rk (arrOf st4) lo (lo + m)→∀ st5,Kp st' st5 lo (lo + nrem)→(∀ k,RK rk (arrOf st5) k = if lo≤k∧k < lo + m then RK rk (arrOf st4) (lo + (lo + m) - 1 - k) else RK rk (arrOf st4) k)→Seg rk (arrOf st5) lo (lo + m):=fun st4 _ d4 st5 _ e5 i j q1 q2 q3 => by
    rw [e5,e5,if_pos (by omega),if_pos (by omega)]
    exact d4 _ _ (by omega) (by omega) (by omega)
   by_cases hneq:neq > 0
   ·rw [if_pos hneq]
    refine wpS_bind (Ch (rk:=rk) kp (by omega) (by omega) (by omega) he fun st4 kp4 hRK => ?_)
    have d4:Dsc rk (arrOf st4) lo (lo + m):=fun i j q1 q2 q3 => by rw [hRK,hRK]; exact hd i j q1 q2 q3
    have hz4:=kp4.size
    refine wpS_bind (DT (rk:=rk) kp4 (Nat.le_refl _) (by omega) (by omega) fun st5 kp5 e5 => ?_)
    have s5:=rest _ kp4 d4 st5 kp5 e5
    have hz5:=kp5.size
    have hU5:=hU.of_perm kp5.perm
    refine wpS_bind (wpS_mono (wpS_forRange (I:=fun x c st6 => st6 = st5∧c = (none,x)∧Seg rk (arrOf st5) lo (lo + x))
     (Q:=fun c st6 => st6 = st5∧∃ n,c = (none,n)∧1≤n∧n≤nrem∧Seg rk (arrOf st5) lo (lo + n)) ?_ ?_ ⟨rfl,rfl,s5⟩) ?_)
    ·rintro x c st6 hax hxn ⟨rfl,rfl,hs'⟩
     dsimp only
     refine wpS_bind (BF C (kp5.kd.trans hk) hU5 (by omega) (by omega) ?_)
     dsimp only
     by_cases hless:RK rk (arrOf st6) (lo + x) < RK rk (arrOf st6) (lo + x - 1)
     ·rw [if_pos (decide_eq_true hless)]
      exact wpS_pure ⟨rfl,x,rfl,by omega,by omega,hs'⟩
     ·rw [if_neg (fun q => hless (of_decide_eq_true q))]
      exact wpS_pure ⟨rfl,rfl,hs'.up (by omega) hless⟩
    ·rintro c st6 ⟨rfl,rfl,hs'⟩
     have e:max m nrem = nrem:=by omega
     rw [e] at hs' ⊢
     exact ⟨rfl,nrem,rfl,h1,Nat.le_refl _,hs'⟩
    rintro c st6 ⟨rfl,n5,rfl,q1,q2,q3⟩
    exact wpS_pure (h n5 _ kp5 q1 q2 q3)
   ·rw [if_neg hneq]
    have kp4:=kp
    have d4:=hd
    have hz4:=hz
    refine wpS_bind (DT (rk:=rk) kp4 (Nat.le_refl _) (by omega) (by omega) fun st5 kp5 e5 => ?_)
    have s5:=rest _ kp4 d4 st5 kp5 e5
    have hz5:=kp5.size
    have hU5:=hU.of_perm kp5.perm
    refine wpS_bind (wpS_mono (wpS_forRange (I:=fun x c st6 => st6 = st5∧c = (none,x)∧Seg rk (arrOf st5) lo (lo + x))
     (Q:=fun c st6 => st6 = st5∧∃ n,c = (none,n)∧1≤n∧n≤nrem∧Seg rk (arrOf st5) lo (lo + n)) ?_ ?_ ⟨rfl,rfl,s5⟩) ?_)
    ·rintro x c st6 hax hxn ⟨rfl,rfl,hs'⟩
     dsimp only
     refine wpS_bind (BF C (kp5.kd.trans hk) hU5 (by omega) (by omega) ?_)
     dsimp only
     by_cases hless:RK rk (arrOf st6) (lo + x) < RK rk (arrOf st6) (lo + x - 1)
     ·rw [if_pos (decide_eq_true hless)]
      exact wpS_pure ⟨rfl,x,rfl,by omega,by omega,hs'⟩
     ·rw [if_neg (fun q => hless (of_decide_eq_true q))]
      exact wpS_pure ⟨rfl,rfl,hs'.up (by omega) hless⟩
    ·rintro c st6 ⟨rfl,rfl,hs'⟩
     have e:max m nrem = nrem:=by omega
     rw [e] at hs' ⊢
     exact ⟨rfl,nrem,rfl,h1,Nat.le_refl _,hs'⟩
    rintro c st6 ⟨rfl,n5,rfl,q1,q2,q3⟩
    exact wpS_pure (h n5 _ kp5 q1 q2 q3)
end
end SrtG
namespace SrtG
local macro_rules | `(tactic| omega) => `(tactic| first | lia | omega)
open PySem PyProof.Rows
variable {rk:Keyed→Int}
abbrev My:=Nat × Nat × Nat
def Cov (rk:Keyed→Int) (arr:Array Keyed):Nat→List My→Nat→Prop
 | a,[],hi => a = hi
 | a,e :: l,hi => e.1 = a∧0 < e.2.1∧Seg rk arr a (a + e.2.1)∧Cov rk arr (a + e.2.1) l hi
theorem Cov.le {arr:Array Keyed}:∀ {l:List My} {a hi:Nat},Cov rk arr a l hi→a + l.length≤hi
 | [],a,hi,h => by have:a = hi:=h; simp only [List.length_nil]; omega
 | e :: l,a,hi,h => by have:=Cov.le h.2.2.2; have:=h.2.1; rw [List.length_cons]; omega
theorem Cov.app {arr:Array Keyed}:∀ {l1:List My} {l2:List My} {a hi:Nat},Cov rk arr a (l1 ++ l2) hi↔∃ m,Cov rk arr a l1 m∧Cov rk arr m l2 hi
 | [],l2,a,hi => ⟨fun h => ⟨a,rfl,h⟩,fun ⟨m,h1,h2⟩ => by have:a = m:=h1; subst this; exact h2⟩
 | e :: l1,l2,a,hi => ⟨fun ⟨h1,h2,h3,h4⟩ => by
   obtain ⟨m,q1,q2⟩:=Cov.app.mp h4
   exact ⟨m,⟨h1,h2,h3,q1⟩,q2⟩,fun ⟨m,⟨h1,h2,h3,h4⟩,q2⟩ => ⟨h1,h2,h3,Cov.app.mpr ⟨m,h4,q2⟩⟩⟩
theorem Cov.cong {arr arr':Array Keyed}:∀ {l:List My} {a hi:Nat},(∀ x,a≤x→x < hi→RK rk arr' x = RK rk arr x)→Cov rk arr a l hi→Cov rk arr' a l hi
 | [],_,_,_,h => h
 | e :: l,a,hi,hx,⟨h1,h2,h3,h4⟩ => by
  have hl:=h4.le
  exact ⟨h1,h2,fun x y q1 q2 q3 => by rw [hx x q1 (by omega),hx y (by omega) (by omega)]; exact h3 x y q1 q2 q3,h4.cong fun x q1 q2 => hx x (by omega) q2⟩
theorem RW {p:Array My} {i:Nat} (h:i + 1 < p.size):∃ l1 e1 e2 l2,p.toList = l1 ++ e1 :: e2 :: l2∧l1.length = i∧p[i]? = some e1∧p[i + 1]? = some e2:=by
 have hl:p.toList.length = p.size:=Array.length_toList
 have h1:i < p.toList.length:=by omega
 have h2:i + 1 < p.toList.length:=by omega
 refine ⟨p.toList.take i,p.toList[i],p.toList[i + 1],p.toList.drop (i + 2),?_,?_,?_,?_⟩
 ·rw [← List.drop_eq_getElem_cons h2,← List.drop_eq_getElem_cons h1,List.take_append_drop]
 ·rw [List.length_take]; omega
 ·rw [← Array.getElem?_toList]; exact List.getElem?_eq_getElem h1
 ·rw [← Array.getElem?_toList]; exact List.getElem?_eq_getElem h2
theorem RX {p:Array My} {i:Nat} {e e1 e2:My} {l1 l2:List My} (hp:p.toList = l1 ++ e1 :: e2 :: l2) (hl:l1.length = i):((p.setIfInBounds i e).eraseIdxIfInBounds (i + 1)).toList = l1 ++ e :: l2:=by
 have hz:i + 1 < p.size:=by
  rw [← Array.length_toList,hp,List.length_append,List.length_cons,List.length_cons]; omega
 have hz':i + 1 < (p.setIfInBounds i e).size:=by rw [Array.size_setIfInBounds]; exact hz
 unfold Array.eraseIdxIfInBounds
 rw [dif_pos hz',Array.toList_eraseIdx,Array.toList_setIfInBounds,hp]
 subst hl
 rw [List.set_append_right _ _ (Nat.le_refl _),Nat.sub_self,List.set_cons_zero,List.eraseIdx_append_of_length_le (by omega)]
 have e:l1.length + 1 - l1.length = 1:=by omega
 rw [e]
 rfl
structure Bs (kd:SortKind) (a₀:Array Keyed) (st:SortSt):Prop where
 kd:kindOf st = kd
 fl:failedOf st = none
 perm:(arrOf st).toList.Perm a₀.toList
theorem Bs.size {kd:SortKind} {a₀:Array Keyed} {st:SortSt} (b:Bs kd a₀ st):(arrOf st).size = a₀.size:=by
 rw [← Array.length_toList,← Array.length_toList]; exact b.perm.length_eq
theorem Bs.kp {kd:SortKind} {a₀:Array Keyed} {st st':SortSt} {lo hi:Nat} (b:Bs kd a₀ st) (k:Kp st st' lo hi):Bs kd a₀ st':=⟨k.kd.trans b.kd,k.fl.trans b.fl,k.perm.trans b.perm⟩
section
variable {prog:Program} {w:World} {A:Around} {E:Value→Shared→Prop} {s:Shared} {kd:SortKind} {U:Keyed→Prop} {a₀:Array Keyed}
theorem DH {i hi:Nat} {st:SortSt} {Q:Bool→SortSt→Prop} (C:Mu prog w A E s kd U rk) (hU:AllU U a₀) (b:Bs kd a₀ st) (hc:Cov rk (arrOf st) 0 (pendingOf st).toList hi) (hhi:hi≤a₀.size) (hi1:i + 1 < (pendingOf st).size)
  (h:∀ st',Bs kd a₀ st'→Cov rk (arrOf st') 0 (pendingOf st').toList hi→(pendingOf st').size + 1 = (pendingOf st).size→(∀ x,hi≤x→RK rk (arrOf st') x = RK rk (arrOf st) x)→Q true st'):wpS (model prog w) A E s (mergeAt' i) Q st:=by
 obtain ⟨l1,⟨s1,n1,p1⟩,⟨s2,n2,p2⟩,l2,hp,hl,e1,e2⟩:=RW hi1
 have hc0:=hc
 rw [hp] at hc0
 obtain ⟨m,c1,q1,q2,q3,q4,q5,q6,q7⟩:=Cov.app.mp hc0
 dsimp only at q1 q2 q3 q4 q5 q6 q7
 subst q1
 have hle:=q7.le
 have hz:=b.size
 refine IX C b.kd (hU.of_perm b.perm) b.fl e1 e2 q4 q2 q5 (by omega) (by rw [q4]; exact q3) (by rw [q4]; exact q6) fun st' k1 k2 k3 u => ?_
 have hj:=RX (e:=(s1,n1 + n2,p1)) hp hl
 have c1le:=c1.le
 refine h st' ⟨k1,k2,u.perm.trans b.perm⟩ ?_ ?_ ?_
 ·rw [k3,hj]
  refine Cov.app.mpr ⟨s1,c1.cong fun x _ hx => Bv (u.out x (.inl hx)),rfl,by show 0 < n1 + n2; omega,?_,?_⟩
  ·show Seg rk (arrOf st') s1 (s1 + (n1 + n2))
   have:=u.seg
   rw [q4,Nat.add_assoc] at this
   exact this
  ·show Cov rk (arrOf st') (s1 + (n1 + n2)) l2 hi
   rw [← Nat.add_assoc]
   exact q7.cong fun x hx _ => Bv (u.out x (.inr (by omega)))
 ·rw [← Array.length_toList,← Array.length_toList,k3,hj,hp,List.length_append,List.length_append,List.length_cons,List.length_cons,List.length_cons]
  omega
 ·intro x hx
  exact Bv (u.out x (.inr (by omega)))
end
end SrtG
namespace SrtG
local macro_rules | `(tactic| omega) => `(tactic| first | lia | omega)
open PySem PyProof.Rows
variable {rk:Keyed→Int}
theorem Cov.shape {arr:Array Keyed}:∀ {l l':List My} {a hi:Nat},l'.map (fun e => (e.1,e.2.1)) = l.map (fun e => (e.1,e.2.1))→Cov rk arr a l hi→Cov rk arr a l' hi
 | [],[],_,_,_,h => h
 | e :: l,e' :: l',a,hi,hm,⟨h1,h2,h3,h4⟩ => by
  rw [List.map_cons,List.map_cons] at hm
  injection hm with hm1 hm2
  injection hm1 with q1 q2
  exact ⟨q1.trans h1,by rw [q2]; exact h2,by rw [q2]; exact h3,by rw [q2]; exact h4.shape hm2⟩
 | [],_ :: _,_,_,hm,_ => by cases hm
 | _ :: _,[],_,_,hm,_ => by cases hm
theorem Cov.power {arr:Array Keyed} {p:Array My} {i pw hi:Nat} (h:Cov rk arr 0 p.toList hi):Cov rk arr 0 (p.modify i fun e => (e.1,e.2.1,pw)).toList hi:=by
 refine h.shape ?_
 apply List.ext_getElem?
 intro j
 rw [List.getElem?_map,List.getElem?_map,Array.getElem?_toList,Array.getElem?_toList,Array.getElem?_modify]
 split
 ·cases p[j]? <;> rfl
 ·rfl
section
variable {prog:Program} {w:World} {A:Around} {E:Value→Shared→Prop} {s:Shared} {kd:SortKind} {U:Keyed→Prop} {a₀:Array Keyed}
theorem Mz {st:SortSt} {Q:Unit→SortSt→Prop} (C:Mu prog w A E s kd U rk) (hU:AllU U a₀) (b:Bs kd a₀ st) (hp:pendingOf st = #[])
  (h:∀ st',Bs kd a₀ st'→Dv rk (arrOf st')→Q () st'):wpS (model prog w) A E s sortRuns' Q st:=by
 rw [sortRuns'_eq]
 refine wpS_bind (wpS_get ?_)
 dsimp only
 have hz:=b.size
 refine wpS_bind (wpS_mono (wpS_forRange
  (I:=fun x c st' => ∃ lo,c = (none,lo)∧x≤lo∧lo≤(arrOf st).size∧Bs kd a₀ st'∧Cov rk (arrOf st') 0 (pendingOf st').toList lo)
  (Q:=fun c st' => c.1 = none∧Bs kd a₀ st'∧Cov rk (arrOf st') 0 (pendingOf st').toList (arrOf st).size) ?step ?fin ⟨0,rfl,Nat.le_refl _,Nat.zero_le _,b,by rw [hp]; rfl⟩) ?post)
 case fin =>
  rintro c st' ⟨lo,rfl,h1,h2,bs,cv⟩
  have e:lo = (arrOf st).size:=by omega
  subst e
  exact ⟨rfl,bs,cv⟩
 case step =>
  rintro x c st1 _ hx ⟨lo,rfl,h1,h2,bs,cv⟩
  dsimp only
  have hz1:=bs.size
  by_cases cl:lo ≥ (arrOf st).size
  ·rw [if_pos cl]
   have e:lo = (arrOf st).size:=by omega
   subst e
   exact wpS_pure ⟨rfl,bs,cv⟩
  rw [if_neg cl]
  have nextOf:∀ (st3:SortSt) (n:Nat),Bs kd a₀ st3→Cov rk (arrOf st3) 0 (pendingOf st3).toList lo→0 < n→lo + n≤(arrOf st).size→Seg rk (arrOf st3) lo (lo + n)→∀ {c:Option PUnit × Nat},c = (none,lo + n)→∃ lo',c = (none,lo')∧x + 1≤lo'∧lo'≤(arrOf st).size∧Bs kd a₀ (setPending st3 ((pendingOf st3).push (lo,n,0)))∧Cov rk (arrOf (setPending st3 ((pendingOf st3).push (lo,n,0)))) 0 (pendingOf (setPending st3 ((pendingOf st3).push (lo,n,0)))).toList lo':=fun st3 n bs3 cv3 hpos hfit sg c hc => by
   refine ⟨lo + n,hc,by omega,hfit,⟨bs3.kd,bs3.fl,bs3.perm⟩,?_⟩
   show Cov rk (arrOf st3) 0 ((pendingOf st3).push (lo,n,0)).toList (lo + n)
   rw [Array.toList_push]
   exact Cov.app.mpr ⟨lo,cv3,rfl,hpos,sg,rfl⟩
  refine wpS_bind (JZ C bs.kd (hU.of_perm bs.perm) (by omega) (by omega) fun n st2 kp2 hn1 hn2 sg2 => ?_)
  have bs2:=bs.kp kp2
  have cv2:Cov rk (arrOf st2) 0 (pendingOf st2).toList lo:=by
   rw [kp2.pd]
   exact cv.cong fun x _ hx => Bv (kp2.out x (.inl hx))
  dsimp only
  by_cases cm:n < minRun' (arrOf st).size (arrOf st).size 0
  ·rw [if_pos cm]
   refine wpS_bind (wpS_lift (wpAny_rule ⟨rfl,?_⟩))
   have hz2:=bs2.size
   refine wpS_bind (JY (n:=min ((arrOf st).size - lo) (minRun' (arrOf st).size (arrOf st).size 0)) C bs2.kd (hU.of_perm bs2.perm) (by omega) (by omega) sg2 fun st3 kp3 sg3 => ?_)
   rw [if_neg (by decide)]
   have bs3:=bs2.kp kp3
   have cv3:Cov rk (arrOf st3) 0 (pendingOf st3).toList lo:=by
    rw [kp3.pd]
    exact cv2.cong fun x _ hx => Bv (kp3.out x (.inl hx))
   have hpos:0 < min ((arrOf st).size - lo) (minRun' (arrOf st).size (arrOf st).size 0):=by omega
   have hfit:lo + min ((arrOf st).size - lo) (minRun' (arrOf st).size (arrOf st).size 0)≤(arrOf st).size:=by omega
   refine wpS_bind (wpS_get ?_)
   cases hb:(pendingOf st3).back? with
   | none =>
    dsimp only
    exact wpS_bind (wpS_modify (wpS_pure (nextOf st3 _ bs3 cv3 hpos hfit sg3 rfl)))
   | some e =>
    obtain ⟨s1,n1,p1⟩:=e
    dsimp only
    refine wpS_bind (wpS_mono (wpS_forRange (I:=fun _ c st4 => c = (none,())∧Bs kd a₀ st4∧Cov rk (arrOf st4) 0 (pendingOf st4).toList lo∧∀ x,lo≤x→RK rk (arrOf st4) x = RK rk (arrOf st3) x)
     (Q:=fun c st4 => c = (none,())∧Bs kd a₀ st4∧Cov rk (arrOf st4) 0 (pendingOf st4).toList lo∧∀ x,lo≤x→RK rk (arrOf st4) x = RK rk (arrOf st3) x) ?_ (fun _ _ q => q) ⟨rfl,bs3,cv3,fun _ _ => rfl⟩) ?_)
    ·rintro y c st4 _ _ ⟨rfl,bs4,cv4,ou4⟩
     refine wpS_bind (wpS_get ?_)
     by_cases cp:(pendingOf st4).size > 1
     ·rw [if_pos cp]
      obtain ⟨o1,o2,o3⟩:=(pendingOf st4)[(pendingOf st4).size - 2]
      have hge:(pendingOf st4)[(pendingOf st4).size - 2]? = some (pendingOf st4)[(pendingOf st4).size - 2]:=getElem?_pos _ _ (by omega)
      rw [hge]
      dsimp only
      by_cases co:(pendingOf st4)[(pendingOf st4).size - 2].2.2≤power' (arrOf st).size (2 * s1 + n1) (2 * s1 + n1 + n1 + min ((arrOf st).size - lo) (minRun' (arrOf st).size (arrOf st).size 0)) (arrOf st).size
      ·rw [if_pos co]
       exact wpS_pure ⟨rfl,bs4,cv4,ou4⟩
      ·rw [if_neg co]
       refine wpS_bind (DH C hU bs4 cv4 (by omega) (by omega) fun st5 bs5 cv5 _ ou5 => ?_)
       rw [if_neg (by decide)]
       exact wpS_pure ⟨rfl,bs5,cv5,fun x hx => (ou5 x hx).trans (ou4 x hx)⟩
     ·rw [if_neg cp]
      exact wpS_pure ⟨rfl,bs4,cv4,ou4⟩
    ·rintro c st4 ⟨rfl,bs4,cv4,ou4⟩
     dsimp only
     refine wpS_bind (wpS_modify ?_)
     refine wpS_bind (wpS_modify (wpS_pure ?_))
     have sg4:Seg rk (arrOf st4) lo (lo + min ((arrOf st).size - lo) (minRun' (arrOf st).size (arrOf st).size 0)):=fun i j q1 q2 q3 => by rw [ou4 i q1,ou4 j (by omega)]; exact sg3 i j q1 q2 q3
     exact nextOf (setPending st4 ((pendingOf st4).modify ((pendingOf st4).size - 1) fun e => (e.1,e.2.1,power' (arrOf st).size (2 * s1 + n1) (2 * s1 + n1 + n1 + min ((arrOf st).size - lo) (minRun' (arrOf st).size (arrOf st).size 0)) (arrOf st).size))) _ ⟨bs4.kd,bs4.fl,bs4.perm⟩ (Cov.power cv4) hpos hfit sg4 rfl
  ·rw [if_neg cm]
   have bs3:=bs2
   have cv3:=cv2
   have sg3:=sg2
   have hpos:0 < n:=by omega
   have hfit:lo + n≤(arrOf st).size:=by omega
   refine wpS_bind (wpS_get ?_)
   cases hb:(pendingOf st2).back? with
   | none =>
    dsimp only
    exact wpS_bind (wpS_modify (wpS_pure (nextOf st2 _ bs3 cv3 hpos hfit sg3 rfl)))
   | some e =>
    obtain ⟨s1,n1,p1⟩:=e
    dsimp only
    refine wpS_bind (wpS_mono (wpS_forRange (I:=fun _ c st4 => c = (none,())∧Bs kd a₀ st4∧Cov rk (arrOf st4) 0 (pendingOf st4).toList lo∧∀ x,lo≤x→RK rk (arrOf st4) x = RK rk (arrOf st2) x)
     (Q:=fun c st4 => c = (none,())∧Bs kd a₀ st4∧Cov rk (arrOf st4) 0 (pendingOf st4).toList lo∧∀ x,lo≤x→RK rk (arrOf st4) x = RK rk (arrOf st2) x) ?_ (fun _ _ q => q) ⟨rfl,bs3,cv3,fun _ _ => rfl⟩) ?_)
    ·rintro y c st4 _ _ ⟨rfl,bs4,cv4,ou4⟩
     refine wpS_bind (wpS_get ?_)
     by_cases cp:(pendingOf st4).size > 1
     ·rw [if_pos cp]
      obtain ⟨o1,o2,o3⟩:=(pendingOf st4)[(pendingOf st4).size - 2]
      have hge:(pendingOf st4)[(pendingOf st4).size - 2]? = some (pendingOf st4)[(pendingOf st4).size - 2]:=getElem?_pos _ _ (by omega)
      rw [hge]
      dsimp only
      by_cases co:(pendingOf st4)[(pendingOf st4).size - 2].2.2≤power' (arrOf st).size (2 * s1 + n1) (2 * s1 + n1 + n1 + n) (arrOf st).size
      ·rw [if_pos co]
       exact wpS_pure ⟨rfl,bs4,cv4,ou4⟩
      ·rw [if_neg co]
       refine wpS_bind (DH C hU bs4 cv4 (by omega) (by omega) fun st5 bs5 cv5 _ ou5 => ?_)
       rw [if_neg (by decide)]
       exact wpS_pure ⟨rfl,bs5,cv5,fun x hx => (ou5 x hx).trans (ou4 x hx)⟩
     ·rw [if_neg cp]
      exact wpS_pure ⟨rfl,bs4,cv4,ou4⟩
    ·rintro c st4 ⟨rfl,bs4,cv4,ou4⟩
     dsimp only
     refine wpS_bind (wpS_modify ?_)
     refine wpS_bind (wpS_modify (wpS_pure ?_))
     have sg4:Seg rk (arrOf st4) lo (lo + n):=fun i j q1 q2 q3 => by rw [ou4 i q1,ou4 j (by omega)]; exact sg3 i j q1 q2 q3
     exact nextOf (setPending st4 ((pendingOf st4).modify ((pendingOf st4).size - 1) fun e => (e.1,e.2.1,power' (arrOf st).size (2 * s1 + n1) (2 * s1 + n1 + n1 + n) (arrOf st).size))) _ ⟨bs4.kd,bs4.fl,bs4.perm⟩ (Cov.power cv4) hpos hfit sg4 rfl
 case post =>
  rintro ⟨c1,c2⟩ st1 ⟨e,bs,cv⟩
  cases e
  dsimp only
  have done:∀ st',Bs kd a₀ st'→Cov rk (arrOf st') 0 (pendingOf st').toList (arrOf st).size→(pendingOf st').size≤1→Dv rk (arrOf st'):=fun st' bs' cv' hl => by
   have hz':=bs'.size
   intro i j hij hj
   rw [← Array.length_toList] at hl
   revert cv' hl
   generalize (pendingOf st').toList = l
   intro cv' hl
   match l,cv',hl with
   | [],cv',_ =>
    have:0 = (arrOf st).size:=cv'
    omega
   | [e],cv',_ =>
    obtain ⟨q1,q2,q3,q4⟩:=cv'
    have:0 + e.2.1 = (arrOf st).size:=q4
    exact q3 i j (by omega) hij (by omega)
   | _ :: _ :: _,_,hl => simp only [List.length_cons] at hl; omega
  have hlen:=cv.le
  rw [Array.length_toList] at hlen
  refine wpS_bind (wpS_mono (wpS_forRange (I:=fun x c st' => c = (none,())∧Bs kd a₀ st'∧Cov rk (arrOf st') 0 (pendingOf st').toList (arrOf st).size∧(pendingOf st').size + x≤(arrOf st).size)
   (Q:=fun c st' => c = (none,())∧Bs kd a₀ st'∧Cov rk (arrOf st') 0 (pendingOf st').toList (arrOf st).size∧(pendingOf st').size≤1) ?_ ?_ ⟨rfl,bs,cv,by omega⟩) ?_)
  ·rintro x c st2 _ hx ⟨rfl,bs2,cv2,hm⟩
   refine wpS_bind (wpS_get ?_)
   by_cases cp:(pendingOf st2).size≤1
   ·rw [if_pos cp]
    exact wpS_pure ⟨rfl,bs2,cv2,cp⟩
   ·rw [if_neg cp]
    refine wpS_bind (DH C hU bs2 cv2 (by omega) ?_ fun st5 bs5 cv5 hs5 _ => ?_)
    ·split <;> split <;> omega
    ·rw [if_neg (by decide)]
     exact wpS_pure ⟨rfl,bs5,cv5,by omega⟩
  ·rintro c st2 ⟨rfl,bs2,cv2,hm⟩
   exact ⟨rfl,bs2,cv2,by omega⟩
  ·rintro c st2 ⟨rfl,bs2,cv2,hm⟩
   exact wpS_pure (h _ bs2 (done _ bs2 cv2 hm))
end
end SrtG
namespace SrtG
open PySem PyProof.Rows
def Ja (h:Heap) (v:Value) (a b:Int):Prop:=∃ x o t u n,v = .ref x∧h.get? x = some o∧o.data = .seq #[.int a t,.int b u] n
def Ka (h:Heap) (k:Keyed):Int:=match k.1 with
  | .ref x => match h.get? x with
    | some o => match o.data with
     | .seq xs _ => match (xs[0]?:Option Value),(xs[1]?:Option Value) with
      | some (.int a _),some (.int b _) => 65536 * a + b
      | _,_ => 0
     | _ => 0
    | _ => 0
  | _ => 0
theorem Dw {h:Heap} {k:Keyed} {a b:Int} (p:Ja h k.1 a b):Ka h k = 65536 * a + b:=by
 obtain ⟨x,o,t,u,n,e1,e2,e3⟩:=p
 unfold Ka
 rw [e1]
 dsimp only
 rw [e2]
 dsimp only
 rw [e3]
 rfl
def QM (h:Heap) (k:Keyed):Prop:=∃ a b,Ja h k.1 a b∧0≤b∧b < 65536
variable {prog:Program} {w:World} {A:Around} {E:Value→Shared→Prop} {s:Shared}
theorem La:Mu prog w A E s (tuples' true) (QM s.heap) (Ka s.heap):=by
 intro st x y Q hk hx hy h
 obtain ⟨a,b,px,b0,b1⟩:=hx
 obtain ⟨c,d,py,d0,d1⟩:=hy
 rw [Dw px,Dw py] at h
 obtain ⟨p,o,t,u,n,e1,e2,e3⟩:=px
 obtain ⟨p',o',t',u',n',e1',e2',e3'⟩:=py
 rw [lt'_eq]
 refine wpS_bind (wpS_get ?_)
 rw [hk,e1,e1']
 refine wpS_bind (wpS_lift (wpAny_attempt ?_))
 refine PySem.W.kat_lt e2 e3 e2' e3' ?_
 have fin:∀ r:Bool,r = decide (65536 * a + b < 65536 * c + d)→(s = s∧wpS (model prog w) A E s (match (Except.ok r:Except Value Bool) with
   | .ok b => pure (some b)
   | .error e => do
    modify (fun s => SortSt.mk' (kindOf s) (arrOf s) (pendingOf s) (gallopOf s) (some e))
    pure none) Q st):=fun r hr => ⟨rfl,by rw [hr]; exact wpS_pure h⟩
 refine PySem.W.kat_cons (wpAny_eqBool_int ?_)
 refine PySem.W.kat_go (fun e => ?_) (fun e => ?_)
 ·have e':=eq_of_beq e
  refine PySem.W.kat_yes (PySem.W.kat_cons (wpAny_eqBool_int ?_))
  refine PySem.W.kat_go (fun q => ?_) (fun q => ?_)
  ·have q':=eq_of_beq q
   exact PySem.W.kat_yes (PySem.W.kat_nil (fin _ (by rw [e',q']; simp)))
  ·exact PySem.W.kat_no (PySem.W.kat_one _ _ (lt_int (fin _ (by congr 1; rw [e']; apply propext; constructor <;> intro <;> omega))))
 ·have e':a≠c:=fun q => by rw [q] at e; simp at e
  refine PySem.W.kat_no (oneLt_int (fin _ ?_))
  congr 1
  apply propext
  constructor <;> intro <;> omega
open PySem.Calls PySem.W
def TupAt (h:Heap) (v:Value) (a b:Int):Prop:=∃ x o t u n,v = .ref x∧h.get? x = some o∧o.cls = .type "tuple"∧o.data = .seq #[.int a t,.int b u] n
def TupsOk (h:Heap) (vs:List Value):Prop:=∀ v,v∈vs→∃ a b,TupAt h v a b∧0≤b∧b < 65536
theorem TupAt.pair {h:Heap} {v:Value} {a b:Int} (t:TupAt h v a b):Ja h v a b:=by
 obtain ⟨x,o,t,u,n,e1,e2,_,e4⟩:=t
 exact ⟨x,o,t,u,n,e1,e2,e4⟩
theorem TupsOk.kat {h:Heap}:∀ {vs:List Value},TupsOk h vs→∃ fs:List Value,KatTups h vs fs∧fs.length = vs.length∧∀ v∈fs,∃ a t,v = .int a t
 | [],_ => ⟨[],KatTups.nil,rfl,fun v hv => by cases hv⟩
 | v :: vs,ok => by
  obtain ⟨fs,k,hl,hf⟩:=TupsOk.kat (vs:=vs) fun v hv => ok v (.tail _ hv)
  obtain ⟨a,b,⟨x,o,t,u,n,rfl,e,hc,hd⟩,_,_⟩:=ok v (.head _)
  exact ⟨.int a t :: fs,KatTups.cons e hc hd rfl k,by rw [List.length_cons,List.length_cons,hl],fun v hv => by
   rcases List.mem_cons.mp hv with rfl | hv
   ·exact ⟨a,t,rfl⟩
   ·exact hf v hv⟩
theorem FO:∀ (vs:List Value),vs.zip vs = vs.map fun v => (v,v)
 | [] => rfl
 | v :: vs => by rw [List.zip_cons_cons,List.map_cons,FO vs]
variable {prog:Program} {w:World} {A:Around} {E:Value→Shared→Prop} {s:Shared}
theorem Lb {vs:List Value} {Q:SortSt→Shared→Prop} (ok:TupsOk s.heap vs)
  (h:∀ st',failedOf st' = none→((arrOf st').map (·.2)).toList.Perm vs→((arrOf st').map (·.2)).toList.Pairwise (fun x y => Ka s.heap (x,x)≤Ka s.heap (y,y))→Q st' s) :
  wpAny (model prog w) A ((sortRuns').run (SortSt.mk' (tuples' true) (vs.toArray.zip vs.toArray) #[] 7 none)) (fun r s' => Q r.2 s') E s:=by
 have hz:(vs.toArray.zip vs.toArray) = (vs.map fun v => (v,v)).toArray:=by
  apply Array.ext'
  rw [Array.toList_zip]
  show vs.zip vs = vs.map fun v => (v,v)
  exact FO vs
 have hU:AllU (QM s.heap) (vs.toArray.zip vs.toArray):=fun i p e => by
  rw [hz] at e
  have e':(vs.map fun v => ((v,v):Keyed))[i]? = some p:=by rw [← Array.getElem?_toList] at e; exact e
  obtain ⟨v,hv,rfl⟩:=List.mem_map.mp (List.mem_of_getElem? e')
  obtain ⟨a,b,q1,q2,q3⟩:=ok v hv
  exact ⟨a,b,q1.pair,q2,q3⟩
 have hwp:wpS (model prog w) A E s sortRuns' (fun _ st' => Q st' s) (SortSt.mk' (tuples' true) (vs.toArray.zip vs.toArray) #[] 7 none):=by
  refine Mz (a₀:=vs.toArray.zip vs.toArray) (rk:=Ka s.heap) La hU ⟨rfl,rfl,List.Perm.refl _⟩ rfl fun st' b srt => ?_
  have hpm:=b.perm
  rw [hz] at hpm
  have hsame:∀ k,k∈(arrOf st').toList→k = (k.2,k.2):=fun k hk => by
   obtain ⟨v,_,rfl⟩:=List.mem_map.mp (hpm.mem_iff.mp hk)
   rfl
  refine h st' b.fl ?_ ?_
  ·rw [Array.toList_map]
   have:=hpm.map (fun k:Keyed => k.2)
   rw [show ((vs.map fun v => ((v,v):Keyed)).toArray.toList.map fun k:Keyed => k.2) = vs from by
    show (vs.map fun v => ((v,v):Keyed)).map (fun k:Keyed => k.2) = vs
    rw [List.map_map]
    exact List.map_id vs] at this
   exact this
  ·rw [Array.toList_map,List.pairwise_map]
   refine List.pairwise_iff_getElem.mpr fun i j hi hj hij => ?_
   have hi':i < (arrOf st').size:=by rw [← Array.length_toList]; exact hi
   have hj':j < (arrOf st').size:=by rw [← Array.length_toList]; exact hj
   have q:=srt i j (Nat.le_of_lt hij) hj'
   rw [Aj hi',Aj hj'] at q
   have e1:=hsame (arrOf st').toList[i] (List.getElem_mem hi)
   have e2:=hsame (arrOf st').toList[j] (List.getElem_mem hj)
   rw [← e1,← e2]
   exact q
 exact wpAny_mono hwp (fun r s' q => by rw [q.1]; exact q.2) fun _ _ e => e
variable {prog:Program} {w:World} {A:Around} {E:Value→Shared→Prop} {s:Shared}
theorem TupsOk.kept {h h':Heap} {vs:List Value} (ok:TupsOk h vs) (k:∀ b o,o.cls = .type "tuple"→h.get? b = some o→h'.get? b = some o):TupsOk h' vs:=fun v hv => by
 obtain ⟨a,b,⟨x,o,t,u,n,e1,e2,e3,e4⟩,q⟩:=ok v hv
 exact ⟨a,b,⟨x,o,t,u,n,e1,k _ _ e3 e2,e3,e4⟩,q⟩
theorem TupsOk.rk {h h':Heap} {vs:List Value} (ok:TupsOk h vs) (k:∀ b o,o.cls = .type "tuple"→h.get? b = some o→h'.get? b = some o) {v:Value} (hv:v∈vs):Ka h' (v,v) = Ka h (v,v):=by
 obtain ⟨a,b,t,q⟩:=ok v hv
 obtain ⟨x,o,t',u,n,e1,e2,e3,e4⟩:=t
 rw [Dw (k:=(v,v)) (TupAt.pair ⟨x,o,t',u,n,e1,e2,e3,e4⟩),Dw (k:=(v,v)) (TupAt.pair ⟨x,o,t',u,n,e1,k _ _ e3 e2,e3,e4⟩)]
theorem Jb {a:Addr} {vs:List Value} {n:Nat} {P:PySem.Fin→Shared→Prop} (ho:s.heap.get? a = some (seqObj "list" vs.toArray n)) (ok:TupsOk s.heap vs) (h2:2≤vs.length) (hn:vs.length≤4096)
  (h:∀ out c h',out.Perm vs→out.Pairwise (fun x y => Ka s.heap (x,x)≤Ka s.heap (y,y))→h'.get? a = some (seqObj "list" (List.toArray out) c)→(∀ b o,b≠a→s.heap.get? b = some o→h'.get? b = some o)→P (.done (.ret .none)) { s with heap:=h' }) :
  wpAny (model prog w) A (Builtin.«list.sort» ⟨[.ref a],[]⟩) P E s:=by
 obtain ⟨e1,ho1⟩:∃ e1,(s.heap.update a (Obj.mapSeq fun _ => (#[]:Array Value))).get? a = some (seqObj "list" #[] e1):=⟨_,get?_update_seq ho fun _ => #[]⟩
 have keep:∀ b o,b≠a→s.heap.get? b = some o→(((s.heap.update a (Obj.mapSeq fun _ => (#[]:Array Value))).push (seqObj "tuple" vs.toArray 0)).push (seqObj "list" #[] 0)).get? b = some o:=fun b o hb e =>
  Heap.get?_push_of_some _ (Heap.get?_push_of_some _ (by rw [Heap.get?_update_ne _ _ _ _ hb]; exact e))
 have keepT:∀ b o,o.cls = .type "tuple"→s.heap.get? b = some o→(((s.heap.update a (Obj.mapSeq fun _ => (#[]:Array Value))).push (seqObj "tuple" vs.toArray 0)).push (seqObj "list" #[] 0)).get? b = some o:=fun b o ht e => by
  refine keep b o (fun q => ?_) e
  rw [q,ho] at e
  cases e
  exact absurd (show Value.type "list" = Value.type "tuple" from ht) (by decide)
 have ho3:(((s.heap.update a (Obj.mapSeq fun _ => (#[]:Array Value))).push (seqObj "tuple" vs.toArray 0)).push (seqObj "list" #[] 0)).get? a = some (seqObj "list" #[] e1):=Heap.get?_push_of_some _ (Heap.get?_push_of_some _ ho1)
 have ok3:=ok.kept keepT
 have rk3:=fun {v} (hv:v∈vs) => ok.rk keepT hv
 rw [list_sort_plain]
 refine wpAny_bind (listItems_at ho rfl ?_)
 refine wpAny_bind (listUpdate_at ho rfl ?_ (by rw [List.size_toArray,sizeLine_eq]; omega) (Nat.zero_le _))
 refine wpAny_bind (seqEpoch_at ho1 rfl ?_)
 refine wpAny_bind (wpAny_newTuple ?_ (by show vs.length≤_; rw [sizeLine_eq]; omega))
 refine wpAny_bind (wpAny_newList ?_ (Nat.zero_le _))
 refine wpAny_holding ?_
 show wpAny (model prog w) A _ P E { s with heap:=((s.heap.update a (Obj.mapSeq fun _ => (#[]:Array Value))).push (seqObj "tuple" vs.toArray 0)).push (seqObj "list" #[] 0) }
 generalize hG:((s.heap.update a (Obj.mapSeq fun _ => (#[]:Array Value))).push (seqObj "tuple" vs.toArray 0)).push (seqObj "list" #[] 0) = G at keep ho3 ok3 rk3 ⊢
 dsimp only
 have hn2:¬ vs.toArray.size < 2:=by rw [List.size_toArray]; omega
 rw [if_neg hn2,if_neg hn2]
 obtain ⟨fs,kt,hl,hf⟩:=ok3.kat
 refine wpAny_bind (kat_kind (s:={ s with heap:=G }) (T:=Value.type "int") kt (by omega) (fun v hv => by
  obtain ⟨x,t,rfl⟩:=hf v hv
  exact fun _ _ _ _ _ q => wpAny_pure q) rfl ?_)
 refine wpAny_bind (wpAny_mono (Lb (s:={ s with heap:=G }) (Q:=fun st' s' => s' = { s with heap:=G }∧failedOf st' = none∧((arrOf st').map (·.2)).toList.Perm vs∧((arrOf st').map (·.2)).toList.Pairwise (fun x y => Ka G (x,x)≤Ka G (y,y))) ok3 (fun st' a1 a2 a3 => ⟨rfl,a1,a2,a3⟩)) ?_ fun _ _ e => e)
 rintro ⟨⟨⟩,st'⟩ s' ⟨rfl,hfl,hpm,hpw⟩
 dsimp only
 have hsz:((arrOf st').map (·.2)).size = vs.length:=by rw [← Array.length_toList]; exact hpm.length_eq
 obtain ⟨c2,hc2⟩:∃ c2,(G.update a (Obj.mapSeq fun _ => (arrOf st').map (·.2))).get? a = some (seqObj "list" ((arrOf st').map (·.2)) c2):=⟨_,get?_update_seq ho3 fun _ => (arrOf st').map (·.2)⟩
 refine wpAny_bind (seqEpoch_at ho3 rfl ?_)
 refine wpAny_bind (listUpdate_at ho3 rfl ?_ (Nat.zero_le _) (Nat.le_trans (Nat.le_of_eq hsz) (by rw [sizeLine_eq]; omega)))
 rw [hfl]
 simp only [bne_self_eq_false,Bool.false_eq_true,if_false]
 refine wpAny_pure (h ((arrOf st').map (·.2)).toList c2 _ hpm ?_ hc2 fun b o hb e => by rw [Heap.get?_update_ne _ _ _ _ hb]; exact keep b o hb e)
 refine List.Pairwise.imp_of_mem (fun {x y} hx hy q => ?_) hpw
 rw [rk3 (hpm.mem_iff.mp hx),rk3 (hpm.mem_iff.mp hy)] at q
 exact q
end SrtG
namespace StT
open PySem PySem.SetTable PyProof.Rows
section
variable {prog:Program} {w:World} {A:Around} {E:Value→Shared→Prop} {s:Shared}
abbrev Bw (w:World):Obj:={ cls:=.type "set",dict:=none,data:=.set #[] 0 (.fresh 0 0 (!w.params.followText "set-order")) }
theorem NA (a:Value) {Q₁:Value→Shared→Prop} (h:Q₁ (.ref s.heap.objs.size) { s with heap:=s.heap.push (Bw w) }) :
  codeAny (model prog w) A (.call (.builtin "set.__new__") ⟨[.type "set",a],[]⟩) (wants Q₁ E) s:=by
 refine codeAny_of_tree ?_
 show wpAny _ A.in1 (do checkBuiltinCall "set.__new__" ⟨[.type "set",a],[]⟩; again (.builtin "set.__new__" ⟨[.type "set",a],[]⟩)) _ _ s
 refine wpAny_bind (wpAny_of_eq (PySem.F.newCall_set_1 a) (wpAny_pure ⟨plainId_quiet PySem.F.plain_set_new _,codeAny_builtin PySem.F.entry_set_new ?_⟩))
 rw [Around.under_plainId PySem.F.plain_set_new _]
 unfold Builtin.«set.__new__» Builtin.Frozenset.newClass
 have hsub:=sub_set_self
 obtain ⟨hp,g,d,tk,os⟩:=s
 dsimp only
 wp_walk
 refine wpAny_askSetting (wpAny_pure ?_)
 dsimp only
 simp only [newObj]
 refine wpAny_bind (wpAny_alloc (wpAny_pure ?_))
 exact wpAny_pure h
theorem Jc {T newId initId:String} {args:List Value} {Q Q₁:Value→Shared→Prop} (ft:TypeCalled T newId initId)
  (hct:checkTypeCall T ⟨args,[]⟩ = pure ())
  (hnew:codeAny (model prog w) A.in1 (.call (.builtin newId) ⟨.type T :: args,[]⟩) (wants Q₁ E) s)
  (hnext:∀ obj s₁,Q₁ obj s₁→s₁.TypeIs obj T∧codeAny (model prog w) A.in1 (.call (.builtin initId) ⟨obj :: args,[]⟩) (wants (fun r s₂ => r = .none∧Q obj s₂) E) s₁) :
  wpAny (model prog w) A (call (.type T) args) Q E s:=by
 obtain ⟨c,tl,hmro⟩:=ft.mro
 have hmade:=ft.made
 have hsub:=ft.sub
 refine wpAny_call (codeAny_of_tree ?_)
 show wpAny _ _ (callAny (.type T) _) _ _ _
 refine wpAny_pure ⟨Code.quiet_builtin _ (by decide +kernel),codeAny_builtin PySem.F.entry_type_call ?_⟩
 rw [Around.under_plain (weight_type_call_type T args []) rfl]
 have h1:=ft.notType
 have h2:=ft.canCreate
 repeat (any_goals (first | assumption | wp_step))
 refine codeAny_mono hnew fun r s₁ hr => ?_
 cases r with
 | error e => exact hr
 | ok fl =>
  cases fl with
  | ret obj =>
   obtain ⟨hT,hsi⟩:=hnext _ _ hr
   have hli:=ft.init.lookup
   have hbi:=ft.init.bind obj
   repeat (any_goals (first | assumption | wp_step))
   refine codeAny_mono hsi fun r₂ s₂ hr₂ => ?_
   cases r₂ with
   | error e => exact hr₂
   | ok fl₂ =>
    cases fl₂ with
    | ret r =>
     obtain ⟨rfl,hq⟩:=hr₂
     repeat (any_goals (first | assumption | wp_step))
    | _ => exact hr₂.elim
  | _ => exact hr.elim
theorem FP {l:Addr} {items:Array Value} {ps:List (List Int × Addr)} {Q:Value→Shared→Prop}
  (hh:A.handled = none) (hl:s.heap.IsList l items) (hps:items.toList = ps.map fun p => Value.ref p.2) (hp:∀ k x,(k,x)∈ps→IK prog w s.heap k x) (hz:ps.length≤300) (hu:A.units + 8 < cLine)
  (h:∀ (h':Heap) (tk:Nat) (xs:List (List Int × Addr)),SetX prog w h' s.heap.objs.size xs→HH ps xs →
   (∀ b o,b < s.heap.objs.size→s.heap.get? b = some o→h'.get? b = some o)→Q (.ref s.heap.objs.size) { s with heap:=h',toks:=tk }) :
  wpAny (model prog w) A (call (.type "set") [.ref l]) Q E s:=by
 refine Jc (Q₁:=fun obj s₁ => obj = .ref s.heap.objs.size∧s₁ = { s with heap:=s.heap.push (Bw w) }) PySem.F.called_set (PySem.F.typeCall_set_1 _) (NA _ ⟨rfl,rfl⟩) ?_
 rintro obj s₁ ⟨rfl,rfl⟩
 have hS:(s.heap.push (Bw w)).get? s.heap.objs.size = some (Bw w):=Heap.get?_push_size _ rfl
 have hT:Shared.TypeIs { s with heap:=s.heap.push (Bw w) } (.ref s.heap.objs.size) "set":=⟨_,hS,rfl⟩
 refine ⟨hT,codeAny_call_builtin PySem.F.called_set.init.plain PySem.F.entry_set_init (check_set_init_1 hT ?_)⟩
 obtain ⟨ol,hol,hcl,nl,hdl⟩:=hl
 obtain ⟨ocls,odict,odata,oslots⟩:=ol
 simp only at hcl hdl
 subst hcl; subst hdl
 have hol':(s.heap.push (Bw w)).get? l = some { cls:=.type "list",dict:=odict,data:=.seq items nl,slots:=oslots }:=Heap.get?_push_of_some _ hol
 have hsls:=PySem.F.sub_list_set
 have hslf:=PySem.F.sub_list_frozenset
 have hne:(Value.type "list" == Value.type "dict") = false:=by decide
 have hl1:(s.heap.push (Bw w)).IsList l items:=⟨_,hol',rfl,nl,rfl⟩
 unfold Builtin.«set.__init__» noKeywords Builtin.Frozenset.updateFrom
 generalize hPI:pyIter = PI
 wp_walk
 subst hPI
 refine wpAny_pyIter_list hl1 ?_
 refine wpAny_bind (wpAny_runValue ?_)
 have hlS:l < s.heap.objs.size:=Heap.lt_size hol
 have hneI:l≠(s.heap.push (Bw w)).objs.size:=by
  rw [Heap.size_push]; exact Nat.ne_of_lt (Nat.lt_succ_of_lt hlS)
 have kp:∀ b o,s.heap.get? b = some o→((s.heap.push (Bw w)).push { cls:=.type "list_iterator",data:=.fields #[.ref l,.int 0 0] }).get? b = some o:=fun b o e => Heap.get?_push_of_some _ (Heap.get?_push_of_some _ e)
 refine Ox (a:=s.heap.objs.size) (l:=l) (ps:=ps) (by simpa using hh) hneI (by rw [Heap.size_push]; exact Nat.ne_of_lt (Nat.lt_succ_self _)) (Nat.ne_of_gt hlS) hps hz (by
   show A.in1.in1.units + 1 < cLine
   exact Nat.lt_of_le_of_lt (show A.units + 1 + 1 + 1≤A.units + 8 by omega) hu) (ps.length - 0) 0 _ [] rfl (Nat.zero_le _)
  ⟨_,Heap.get?_push_size _ rfl,rfl,rfl⟩ (hl1.push _) (fun k x hx => ⟨CG (hp k x hx) fun u e => kp x u e,?_⟩) ⟨Bw w,#[],0,_,Heap.get?_push_of_some _ hS,⟨rfl,rfl,rfl⟩,rfl,rfl,fun i k x e => by simp at e,List.nodup_nil,Tb.fresh _ _ _,rfl,(by show 0 * 5 < 7 * 3; decide),rfl⟩ ⟨fun p hp => by simp at hp,fun k y hy => by simp at hy,by simp⟩ ?_
 ·obtain ⟨o',_,_,ho',_⟩:=hp k x hx
  have:=Heap.lt_size ho'
  rw [Heap.size_push]
  exact Nat.ne_of_lt (Nat.lt_succ_of_lt this)
 ·intro h' tk' xs' kk sx so
  refine wpAny_pure ?_
  show wpAny _ _ (ret Value.none) _ _ _
  refine wpAny_pure ⟨rfl,h h' tk' xs' sx so fun b o hb e => kk b o (Nat.ne_of_lt hb) ?_ (kp b o e)⟩
  rw [Heap.size_push]; exact Nat.ne_of_lt (Nat.lt_succ_of_lt hb)
end
open PySem.Calls PySem.W
section
variable {prog:Program} {w:World} {A:Around} {E:Value→Shared→Prop} {s:Shared}
theorem NB {a:Addr} {vs:List Value} {n:Nat} {P:PySem.Fin→Shared→Prop} (ho:s.heap.get? a = some (seqObj "list" vs.toArray n)) (h2:vs.length < 2)
  (h:∀ c h',h'.get? a = some (seqObj "list" vs.toArray c)→(∀ b o,b≠a→s.heap.get? b = some o→h'.get? b = some o)→P (.done (.ret .none)) { s with heap:=h' }) :
  wpAny (model prog w) A (Builtin.«list.sort» ⟨[.ref a],[]⟩) P E s:=by
 obtain ⟨e1,ho1⟩:∃ e1,(s.heap.update a (Obj.mapSeq fun _ => (#[]:Array Value))).get? a = some (seqObj "list" #[] e1):=⟨_,get?_update_seq ho fun _ => #[]⟩
 have keep:∀ b o,b≠a→s.heap.get? b = some o→(((s.heap.update a (Obj.mapSeq fun _ => (#[]:Array Value))).push (seqObj "tuple" vs.toArray 0)).push (seqObj "list" #[] 0)).get? b = some o:=fun b o hb e =>
  Heap.get?_push_of_some _ (Heap.get?_push_of_some _ (by rw [Heap.get?_update_ne _ _ _ _ hb]; exact e))
 have ho3:(((s.heap.update a (Obj.mapSeq fun _ => (#[]:Array Value))).push (seqObj "tuple" vs.toArray 0)).push (seqObj "list" #[] 0)).get? a = some (seqObj "list" #[] e1):=Heap.get?_push_of_some _ (Heap.get?_push_of_some _ ho1)
 rw [list_sort_plain]
 refine wpAny_bind (listItems_at ho rfl ?_)
 refine wpAny_bind (listUpdate_at ho rfl ?_ (by rw [List.size_toArray,sizeLine_eq]; omega) (Nat.zero_le _))
 refine wpAny_bind (seqEpoch_at ho1 rfl ?_)
 refine wpAny_bind (wpAny_newTuple ?_ (by show vs.length≤_; rw [sizeLine_eq]; omega))
 refine wpAny_bind (wpAny_newList ?_ (Nat.zero_le _))
 refine wpAny_holding ?_
 show wpAny (model prog w) A _ P E { s with heap:=((s.heap.update a (Obj.mapSeq fun _ => (#[]:Array Value))).push (seqObj "tuple" vs.toArray 0)).push (seqObj "list" #[] 0) }
 generalize hG:((s.heap.update a (Obj.mapSeq fun _ => (#[]:Array Value))).push (seqObj "tuple" vs.toArray 0)).push (seqObj "list" #[] 0) = G at keep ho3 ⊢
 dsimp only
 have hn2:vs.toArray.size < 2:=by rw [List.size_toArray]; omega
 rw [if_pos hn2,if_pos hn2]
 refine wpAny_bind (wpAny_pure ?_)
 refine wpAny_bind (wpAny_pure ?_)
 dsimp only
 have har:((vs.toArray.zip vs.toArray).map (·.2)) = vs.toArray:=by
  apply Array.ext'
  rw [Array.toList_map,Array.toList_zip]
  show (vs.zip vs).map (·.2) = vs
  rw [SrtG.FO,List.map_map]
  exact List.map_id vs
 have har':(arrOf (SortSt.mk' general' (vs.toArray.zip vs.toArray) #[] 7 none)).map (·.2) = vs.toArray:=har
 rw [har']
 obtain ⟨c2,hc2⟩:∃ c2,(G.update a (Obj.mapSeq fun _ => vs.toArray)).get? a = some (seqObj "list" vs.toArray c2):=⟨_,get?_update_seq ho3 fun _ => vs.toArray⟩
 refine wpAny_bind (seqEpoch_at ho3 rfl ?_)
 refine wpAny_bind (listUpdate_at ho3 rfl ?_ (Nat.zero_le _) (by rw [List.size_toArray,sizeLine_eq]; omega))
 show wpAny _ _ (if (e1 != e1) = true then _ else _) _ _ _
 rw [if_neg (by simp)]
 exact wpAny_pure (h c2 _ hc2 fun b o hb e => by rw [Heap.get?_update_ne _ _ _ _ hb]; exact keep b o hb e)
theorem DU {α β : Type} {f : α → β} {l1 l2 : List β} (h : l1.Perm l2) : ∀ {xs : List α}, l2 = xs.map f → ∃ ys : List α, ys.Perm xs ∧ ys.map f = l1 := by
  induction h with
  | nil => intro xs e; cases xs with
    | nil => exact ⟨[], .refl _, rfl⟩
    | cons x xs => cases e
  | cons x _ ih => intro xs e; cases xs with
    | nil => cases e
    | cons y xs =>
      rw [List.map_cons] at e
      injection e with e1 e2
      obtain ⟨ys, h1, h2⟩ := ih e2
      exact ⟨y :: ys, h1.cons y, by rw [List.map_cons, h2, e1]⟩
  | swap x y l => intro xs e; match xs, e with
    | a :: b :: xs, e =>
      simp only [List.map_cons] at e
      injection e with e1 e2
      injection e2 with e2 e3
      exact ⟨b :: a :: xs, .swap _ _ _, by simp only [List.map_cons]; rw [← e1, ← e2, ← e3]⟩
  | trans _ _ ih1 ih2 => intro xs e
                         obtain ⟨ys, h1, h2⟩ := ih2 e
                         obtain ⟨zs, h3, h4⟩ := ih1 h2.symm
                         exact ⟨zs, h3.trans h1, h4⟩
theorem Jd {a:Addr} {xs:List (List Int × Addr)} {Q:Value→Shared→Prop} (hh:A.handled = none) (S:SetX prog w s.heap a xs) (hz:xs.length≤300)
  (hp:∀ k x,(k,x)∈xs→∃ p q,k = [p,q]∧0≤q∧q < 65536)
  (h:∀ (h':Heap) (tk:Nat) (ys:List (List Int × Addr)) (D:Addr) (c:Nat),s.heap.get? D = none→h'.get? D = some (seqObj "list" (ys.map fun p => Value.ref p.2).toArray c)→(∀ b o,s.heap.get? b = some o→h'.get? b = some o) →
   ys.Perm xs→ys.Pairwise (fun x y => 65536 * x.1.getD 0 0 + x.1.getD 1 0≤65536 * y.1.getD 0 0 + y.1.getD 1 0)→Q (.ref D) { s with heap:=h',toks:=tk }) :
  wpAny (model prog w) A (call (.builtin "sorted") [.ref a]) Q E s:=by
 obtain ⟨o,es,ep,t,S⟩:=S
 refine call_function_entry kind_sorted plain_sorted entry_sorted (args_sorted1 _) ?_
 unfold Builtin.«sorted»
 refine wpAny_bind (m:=checkCount "sorted" 1 1 _) (wpAny_pure ?_)
 refine wpAny_bind (kdu_collect (A:=A.in1) (Oy S.wk) hh S.get (by rw [S.size,sizeLine_eq]; omega) fun h1 tk1 acc hk1 hacc => ?_)
 have hsz:acc.toList.length = xs.length:=by rw [Array.length_toList,hacc.1,S.size]
 have hacc2:acc.toList = (DG w a ep es).toList.map (·.2):=by
  apply List.ext_getElem?
  intro i
  rw [List.getElem?_map]
  by_cases hi:i < acc.size
  ·have e1:acc[i]? = some acc[i]:=by simp [hi]
   obtain ⟨hh',e2⟩:=hacc.2 i _ e1
   have e2':(DG w a ep es).toList[i]? = some (hh',acc[i]):=by simpa using e2
   rw [e2']
   simpa using e1
  ·have h1':acc.toList[i]? = none:=by simp; omega
   have h2':(DG w a ep es).toList[i]? = none:=by
    apply List.getElem?_eq_none
    rw [Array.length_toList,Du,← hacc.1]; omega
   rw [h1',h2']; rfl
 have hperm:acc.toList.Perm (xs.map fun p => Value.ref p.2):=by
  rw [hacc2]
  refine ((GM w a ep es).map (·.2)).trans ?_
  rw [S.es,LT,List.map_map]
  exact List.Perm.refl _
 have hIK:∀ k x,(k,x)∈xs→IK prog w h1 k x:=fun k x hx => by
  obtain ⟨i,hi⟩:=List.getElem?_of_mem hx
  exact CG (S.key i k x hi) fun u e => hk1 x u e
 have tupAt:∀ k x,(k,x)∈xs→∃ p q,k = [p,q]∧SrtG.TupAt h1 (.ref x) p q∧0≤q∧q < 65536:=fun k x hx => by
  obtain ⟨p,q,rfl,h0,h1'⟩:=hp k x hx
  obtain ⟨o',items,n,ho',hc',hd',hi'⟩:=hIK _ x hx
  refine ⟨p,q,rfl,?_,h0,h1'⟩
  generalize hL:items.toList = L at hi'
  cases hi' with
  | cons i1 i2 =>
   cases i2 with
   | cons i3 i4 =>
    cases i4
    obtain ⟨t1,rfl⟩:=Ds i1
    obtain ⟨t2,rfl⟩:=Ds i3
    have:items = #[.int p t1,.int q t2]:=by
     apply Array.ext'
     rw [hL]
    exact ⟨x,o',t1,t2,n,rfl,ho',hc',by rw [hd',this]⟩
 refine wpAny_bind (wpAny_newList ?_ (by rw [hsz,sizeLine_eq]; omega))
 have hoL:(h1.push (seqObj "list" acc.toList.toArray 0)).get? h1.objs.size = some (seqObj "list" acc.toList.toArray 0):=Heap.get?_push_size _ rfl
 have hDn:s.heap.get? h1.objs.size = none:=by
  cases e:s.heap.get? h1.objs.size with
  | none => rfl
  | some o' => exact absurd (Heap.lt_size (hk1 _ _ e)) (Nat.lt_irrefl _)
 have hkp:∀ b o,h1.get? b = some o→(h1.push (seqObj "list" acc.toList.toArray 0)).get? b = some o:=fun b o e => Heap.get?_push_of_some _ e
 obtain ⟨ws,hw1,hw2⟩:=DU hperm rfl
 have fin:∀ (out:List Value) (c:Nat) (h2:Heap),out.Perm acc.toList→out.Pairwise (fun x y => SrtG.Ka (h1.push (seqObj "list" acc.toList.toArray 0)) (x,x)≤SrtG.Ka (h1.push (seqObj "list" acc.toList.toArray 0)) (y,y)) →
   h2.get? h1.objs.size = some (seqObj "list" (List.toArray out) c)→(∀ b o,b≠h1.objs.size→(h1.push (seqObj "list" acc.toList.toArray 0)).get? b = some o→h2.get? b = some o)→Q (.ref h1.objs.size) { s with heap:=h2,toks:=tk1 }:=fun out c h2 pm pw hg hk => by
  obtain ⟨ys,y1,y2⟩:=DU (pm.trans hperm) rfl
  subst y2
  refine h h2 tk1 ys _ c hDn hg (fun b o e => ?_) y1 ?_
  ·have hlt:=Heap.lt_size (hk1 b o e)
   exact hk b o (Nat.ne_of_lt hlt) (hkp b o (hk1 b o e))
  ·rw [List.pairwise_map] at pw
   refine List.Pairwise.imp_of_mem (fun {x y} hx hy q => ?_) pw
   obtain ⟨k1,x1⟩:=x
   obtain ⟨k2,x2⟩:=y
   obtain ⟨p,q',rfl,t1,_⟩:=tupAt k1 x1 (y1.mem_iff.mp hx)
   obtain ⟨p2,q2,rfl,t2,_⟩:=tupAt k2 x2 (y1.mem_iff.mp hy)
   have keepT:∀ {v:Value} {i j:Int},SrtG.TupAt h1 v i j→SrtG.TupAt (h1.push (seqObj "list" acc.toList.toArray 0)) v i j:=fun t => by
    obtain ⟨x,o,t,u,n,e1,e2,e3,e4⟩:=t
    exact ⟨x,o,t,u,n,e1,hkp _ _ e2,e3,e4⟩
   rw [SrtG.Dw (k:=(Value.ref x1,Value.ref x1)) (keepT t1).pair,SrtG.Dw (k:=(Value.ref x2,Value.ref x2)) (keepT t2).pair] at q
   exact q
 refine wpAny_bind (wpAny_holding (wpAny_call_entry slot_list_sort ⟨_,hoL,rfl⟩ entry_list_sort ?body (args_list_sort _)))
 case body =>
  by_cases hlen:acc.toList.length < 2
  ·refine NB (s:={ s with heap:=h1.push (seqObj "list" acc.toList.toArray 0),toks:=tk1 }) hoL hlen fun c h2 hg hk => ⟨_,rfl,wpAny_pure ⟨_,rfl,fin acc.toList c h2 (.refl _) ?_ hg hk⟩⟩
   generalize acc.toList = l at hlen
   match l,hlen with
   | [],_ => exact .nil
   | [x],_ => exact List.pairwise_singleton _ _
  ·refine SrtG.Jb (s:={ s with heap:=h1.push (seqObj "list" acc.toList.toArray 0),toks:=tk1 }) hoL (fun v hv => ?_) (by omega) (by omega) fun out c h2 pm pw hg hk => ⟨_,rfl,wpAny_pure ⟨_,rfl,fin out c h2 pm pw hg hk⟩⟩
   obtain ⟨⟨k,x⟩,hx,rfl⟩:=List.mem_map.mp (hperm.mem_iff.mp hv)
   obtain ⟨p,q,rfl,⟨x',o',t1,t2,n,e1,e2,e3,e4⟩,h0,h1'⟩:=tupAt k x hx
   exact ⟨p,q,⟨x',o',t1,t2,n,e1,hkp _ _ e2,e3,e4⟩,h0,h1'⟩
end
end StT
namespace L2
open PySem PySem.Spec PyProof.Rows
section
variable {X:Cx} {pins:List (Addr × Obj)} {σ:St} {H:Hp} {s:Shared} {h':Heap}
theorem Inv.laidF {a:Addr} {o:HO} {t':Nat} (I:Inv X pins σ H s) (k:∀ b u,s.heap.get? b = some u→h'.get? b = some u) (hp:s.heap.get? a = none) (new:ObjOk X.prog X.w (upd H a o) h' a o) :
  Inv X pins σ (upd H a o) { s with heap:=h',toks:=t' }:=by
 have hn:H a = none:=by
  cases q:H a with
  | none => rfl
  | some u =>
   obtain ⟨ob,e⟩:=(I.hok a u q).obj
   rw [hp] at e; cases e
 have ne:∀ b u,s.heap.get? b = some u→b≠a:=fun b u e z => by rw [z,hp] at e; cases e
 refine I.un ⟨fun b u q _ _ _ => k b u q,fun b u q _ _ _ => ⟨u.slots,k b u q⟩,fun b u q n _ => by rw [AD (ne b u q)]; exact n,fun b u q _ => ⟨u,k b u q⟩,fun b xs q => by rw [AD (AL q hn)]; exact q,fun b u xs q => by rw [AD (AL q hn)]; exact q,fun b ps q => ⟨#[],by rw [AD (AL q hn),q]; simp⟩⟩ ?_
 intro b u e
 by_cases hb:b = a
 ·subst hb; rw [AG] at e; cases e; exact new
 ·rw [AD hb] at e
  exact (I.hok b u e).stay (fun c v _ q => k c v q) (fun c q => by rw [AD (AL q hn)]; exact q) fun c xs q => by rw [AD (AL q hn)]; exact q
def TU (P:Program) (w:World) (a:Addr) (xs:List (List Int × Addr)) (h:Heap):Prop:=∃ o es ep t,h.get? a = some o∧o.ExactSet∧o.data = .set es ep t∧es.toList = StT.LT xs P w∧(xs.map (·.1)).Nodup∧StT.Tb t (xs.map fun p => (StT.tk P w).hash p.1)∧t.plain = true∧xs.length * 5 < t.mask * 3∧t.led = !w.params.followText "set-order"
def SetO (P:Program) (w:World) (a:Addr) (xs:List (List Int × Addr)):HO:=.ext (TU P w a xs)
theorem PC {P:Program} {w:World} {H:Hp} {h:Heap} {a:Addr} {xs:List (List Int × Addr)} (S:StT.SetX P w h a xs):ObjOk P w H h a (SetO P w a xs):=by
 obtain ⟨o,es,ep,t,S⟩:=S
 refine ⟨⟨o,es,ep,t,S.get,S.ex,S.dat,S.es,S.nd,S.tb,S.pl,S.room,S.led⟩,⟨o,S.get⟩,fun h1 h2 ⟨o,es,ep,t,g,r⟩ hk => ⟨o,es,ep,t,hk _ g,r⟩⟩
def NC (K:PySem.W.Frag) (H:Hp) (xs:List (List Int × Addr)):Prop:=∀ k x,(k,x)∈xs→Hv K H x (k.map V.int)
theorem GP {prog:Program} {w:World}:∀ {k:List Int} {us:List Value},Vals (k.map V.int) us→ItemsAre (intKind prog w) k us
 | [],us,r => by rw [List.map_nil] at r; cases r; exact .nil
 | n :: k,us,r => by
  rw [List.map_cons] at r
  cases r with
  | cons r1 r2 =>
   obtain ⟨t,rfl⟩:=r1
   exact .cons (intKind_is _ _ _ _) (GP r2)
theorem Inv.ik {x:Addr} {k:List Int} (I:Inv X pins σ H s) (h:Hv X.K H x (k.map V.int)):StT.IK X.prog X.w s.heap k x:=by
 obtain ⟨its,r,⟨o,ho,hc,n,hd⟩,hz⟩:=I.tuple h
 exact ⟨o,its.toArray,n,ho,hc,hd,by simpa using GP r⟩
def Ux (X:Cx):List V→Hp→VK→Prop:=fun vs H Q => ∃ a ps,vs = [.ref a]∧SqL X.K H a (ps.map fun p => V.ref p.2)∧NC X.K H ps∧ps.length≤300 ∧
 ∀ p xs,H p = none→StT.HH ps xs→(xs.map (·.1)).Nodup→Q (.ref p) (upd H p (SetO X.prog X.w p xs))
theorem GQ:∀ {ps:List (List Int × Addr)} {us:List Value},Vals (ps.map fun p => V.ref p.2) us→us = ps.map fun p => Value.ref p.2
 | [],us,r => by rw [List.map_nil] at r; cases r; rfl
 | p :: ps,us,r => by
  rw [List.map_cons] at r
  cases r with
  | cons r1 r2 =>
   rw [GQ r2]
   have r1:_ = Value.ref p.2:=r1
   rw [r1]
   rfl
theorem Lc (hc:X.calm = true) (hu:X.A.units + 8 < cLine):Ay X (.type "set") (Ux X):=by
 intro pins s σ H vs us Q I r h
 obtain ⟨a,ps,rfl,hl,hk,hz,q⟩:=h
 obtain ⟨u,rfl,ru⟩:=Vals.one r
 cases ru
 obtain ⟨its,rv,p,_⟩:=I.list hl
 refine StT.FP (ps:=ps) (I.ok.hd hc) p.isList (by simpa using GQ rv) (fun k x hx => I.ik (hk k x hx)) hz hu fun h' tk xs sx so kp => ?_
 have hf:H s.heap.objs.size = none:=I.hok.fresh (Nat.le_refl _)
 have nd:(xs.map (·.1)).Nodup:=by obtain ⟨_,_,_,_,S⟩:=sx; exact S.nd
 exact ⟨.ref s.heap.objs.size,upd H s.heap.objs.size (SetO X.prog X.w s.heap.objs.size xs),I.laid (t':=tk) (fun b u e => kp b u (Heap.lt_size e) e) (Nat.le_refl _) (PC sx),rfl,q _ _ hf so nd⟩
def RY (X:Cx):List V→Hp→VK→Prop:=fun vs H Q => ∃ p xs,vs = [.ref p]∧H p = some (SetO X.prog X.w p xs)∧NC X.K H xs∧xs.length≤300∧(∀ k x,(k,x)∈xs→∃ i j,k = [i,j]∧0≤j∧j < 65536) ∧
 ∀ (q:Addr) (ys:List (List Int × Addr)),H q = none→ys.Perm xs→ys.Pairwise (fun x y => 65536 * x.1.getD 0 0 + x.1.getD 1 0≤65536 * y.1.getD 0 0 + y.1.getD 1 0)→Q (.ref q) (upd H q (.lst (ys.map fun p => V.ref p.2)))
theorem GR:∀ (ps:List (List Int × Addr)),Vals (ps.map fun p => V.ref p.2) (ps.map fun p => Value.ref p.2)
 | [] => .nil
 | p :: ps => .cons rfl (GR ps)
theorem HL (hc:X.calm = true):Ay X (.builtin "sorted") (RY X):=by
 intro pins s σ H vs us Q I r h
 obtain ⟨p,xs,rfl,hp,hk,hz,h2,q⟩:=h
 obtain ⟨u,rfl,ru⟩:=Vals.one r
 cases ru
 obtain ⟨⟨o,es,ep,t,g1,g2,g3,g4,g5,g6,g7,g8,g9⟩,_,_⟩:=I.hok p _ hp
 refine StT.Jd (xs:=xs) (I.ok.hd hc) ⟨o,es,ep,t,g1,g2,g3,g4,fun i k x e => I.ik (hk k x (List.mem_of_getElem? e)),g5,g6,g7,g8,g9⟩ hz h2 fun h' tk ys D c hD hg kp pm pw => ?_
 have hf:H D = none:=I.hok.none_of hD
 refine ⟨.ref D,upd H D (.lst (ys.map fun p => V.ref p.2)),I.laidF (t':=tk) kp hD ⟨?_,_,c,GR ys,hg⟩,rfl,q D ys hf pm pw⟩
 rw [List.length_map,pm.length_eq,sizeLine_eq]
 omega
end
end L2
namespace ZpT
open PySem PySem.Spec PyProof.Rows
structure Nx (prog:Program) (w:World) (I ax:Addr) (items:Array Value) (St:Nat→Heap→Prop):Prop where
 item:∀ (A:Around) (i:Nat) (s:Shared) (x:Value) (Q:Value→Shared→Prop) (E:Value→Shared→Prop),St i s.heap→items[i]? = some x→(∀ h',St (i + 1) h'→Heap.SameBut I s.heap h'→Q x { s with heap:=h' })→wpAny (model prog w) A (Builtin.SmallTypes.nextOf (.ref I)) Q E s
 fin:∀ (A:Around) (i:Nat) (s:Shared) (Q:Value→Shared→Prop) (E:Value→Shared→Prop),A.handled = none→St i s.heap→items[i]? = none→(∀ h' e,Heap.ExtBut I s.heap h'→(∃ o,h'.get? e = some o∧o.cls = .type "StopIteration")→E (.ref e) { s with heap:=h' })→wpAny (model prog w) A (Builtin.SmallTypes.nextOf (.ref I)) Q E s
 keep:∀ (i:Nat) (h h':Heap),St i h→(∀ o,h.get? I = some o→h'.get? I = some o)→(∀ o,h.get? ax = some o→h'.get? ax = some o)→St i h'
 there:∀ (i:Nat) (h:Heap),St i h→I < h.objs.size
section
variable {prog:Program} {w:World}
end
section
variable {prog:Program} {w:World} {A:Around} {E:Value→Shared→Prop} {s:Shared}
variable {z TI TO i1 i2 l1 l2:Addr} {xs ys:Array Value} {S1 S2:Nat→Heap→Prop}
end
end ZpT
namespace L2
open PySem PySem.Spec PyProof.Rows
section
variable {X:Cx}
theorem Inv.turns {pins:List (Addr × Obj)} {σ:St} {H:Hp} {s:Shared} {h':Heap} {t':Nat} {ch:List Addr} (I:Inv X pins σ H s) (hf:∀ b∈ch,Er X pins H b) (k:∀ b o,b ∉ ch→s.heap.get? b = some o→h'.get? b = some o):Inv X pins σ H { s with heap:=h',toks:=t' }:=by
 refine I.call' (s':={ s with heap:=h',toks:=t' }) (ch:=ch) rfl ⟨fun b o e _ _ hb => k b o hb e,fun b o e _ _ hb => ⟨o.slots,k b o hb e⟩,fun _ _ _ n _ => n,fun b o e hb => ⟨o,k b o hb e⟩,fun _ _ e => e,fun _ _ _ e => e,fun b ps e => ⟨#[],by rw [e]; simp⟩⟩ (I.hok.by_keep fun b o hb e => k b o (fun z => hb (hf b z).1) e) I.bare fun b hb => ?_
 obtain ⟨_,q2,q3,q4,q5,q6⟩:=hf b hb
 exact ⟨q4,q2,q5,q6⟩
end
open PySem.Calls
section
variable {X:Cx}
def TV (K:PySem.W.Frag) (H:Hp) (a:Addr) (xs:List V):Prop:=SqL K H a xs∨Hv K H a xs
theorem Inv.walk {pins:List (Addr × Obj)} {σ:St} {H:Hp} {s:Shared} {a:Addr} {xs:List V} (I:Inv X pins σ H s) (hq:TV X.K H a xs):∃ its:List Value,Vals xs its∧a < s.heap.objs.size∧∀ (A:Around) (E:Value→Shared→Prop) (Q:Value→Shared→Prop),A.handled = none →
  (∀ (o:Obj) (St:Nat→Heap→Prop),Walks X.prog X.w A s.heap.objs.size [s.heap.objs.size,a] [s.heap.objs.size] its.length (fun i v => its[i]? = some v) St→St 0 (s.heap.push o)→Q (.ref s.heap.objs.size) { s with heap:=s.heap.push o })→wpAny (model X.prog X.w) A (pyIter (.ref a)) Q E s:=by
 rcases hq with hq | hq
 ·obtain ⟨its,rv,p,_⟩:=I.list hq
  have lt:a < s.heap.objs.size:=by obtain ⟨_,_,e,_⟩:=p; exact Heap.lt_size e
  refine ⟨its,rv,lt,fun A E Q hh h => wpAny_pyIter_list p.isList ?_⟩
  have W:=Walks.list (prog:=X.prog) (w:=X.w) (A:=A) hh s.heap.objs.size a (Nat.ne_of_lt lt) its.toArray
  have W':Walks X.prog X.w A s.heap.objs.size [s.heap.objs.size,a] [s.heap.objs.size] its.length (fun i v => its[i]? = some v) (fun i h => h.IsListIter s.heap.objs.size a i∧h.IsList a its.toArray):=by simpa using W
  exact h _ _ W' ⟨⟨_,Heap.get?_push_size _ rfl,rfl,rfl⟩,p.isList.push _⟩
 ·obtain ⟨its,rv,p,_⟩:=I.tuple hq
  have lt:a < s.heap.objs.size:=by obtain ⟨_,e,_⟩:=p; exact Heap.lt_size e
  refine ⟨its,rv,lt,fun A E Q hh h => wpAny_pyIter_tuple (items:=its.toArray) p ?_⟩
  have W:=Walks.tuple (prog:=X.prog) (w:=X.w) (A:=A) hh s.heap.objs.size a (Nat.ne_of_lt lt) its.toArray
  have W':Walks X.prog X.w A s.heap.objs.size [s.heap.objs.size,a] [s.heap.objs.size] its.length (fun i v => its[i]? = some v) (fun i h => h.IsTupleIter s.heap.objs.size a i∧h.IsTuple a its.toArray):=by simpa using W
  have p':s.heap.IsTuple a its.toArray:=p
  exact h _ _ W' ⟨⟨_,Heap.get?_push_size _ rfl,rfl,rfl⟩,p'.at fun o e => Heap.get?_push_of_some _ e⟩
theorem Je {s:Shared} {o:Obj} {h':Heap} (hk:∀ b x,b ∉ [s.heap.objs.size]→(s.heap.push o).get? b = some x→h'.get? b = some x):∀ b x,s.heap.get? b = some x→h'.get? b = some x:=fun b x e =>
 hk b x (by simpa using Nat.ne_of_lt (Heap.lt_size e)) (Heap.get?_push_of_some _ e)
theorem PD {bs:List Bool}:∀ {us:List Value},Vals (bs.map V.bl) us→us = bs.map Value.bool:=by
 induction bs with
 | nil => intro us r; rw [List.map_nil] at r; cases r; rfl
 | cons b bs ih =>
  intro us r
  rw [List.map_cons] at r
  cases r with
  | cons r1 r2 =>
   cases r1
   rw [ih r2]; rfl
theorem IY (bs:List Bool):((List.range bs.length).all fun i => (bs[i]?).getD true) = bs.all id:=LSm.range_all bs
theorem ND (hc:X.calm = true):Ay X (.builtin "all") (fun vs H Q => ∃ (a:Addr) (bs:List Bool),vs = [.ref a]∧TV X.K H a (bs.map V.bl)∧Q (.bl (bs.all id)) H):=by
 intro pins s σ H vs us Q I r h
 obtain ⟨a,bs,rfl,hq,q⟩:=h
 obtain ⟨u,rfl,ru⟩:=Cd r
 cases ru
 obtain ⟨its,rv,lt,wk⟩:=I.walk hq
 have e:=PD rv
 refine call_all_walk (wk X.A.in1 _ _ (I.ok.hd hc) fun o St W st => ⟨_,_,_,_,_,_,fun i => (bs[i]?).getD true,rfl,W,st,fun i v s' Q' E' hP hQ => ?_,fun h' tk hk => ?_⟩)
 ·rw [e,List.getElem?_map] at hP
  cases hb:bs[i]? with
  | none => rw [hb] at hP; cases hP
  | some b =>
   rw [hb] at hP
   cases hP
   simp only [hb,Option.getD_some] at hQ
   exact wpAny_truthy_bool hQ
 ·have e2:its.length = bs.length:=by rw [e,List.length_map]
  rw [e2,IY]
  exact ⟨.bl _,H,I.kept (t':=tk) (Je hk),rfl,q⟩
theorem DV {ns:List Int} {us:List Value} (r:Vals (ns.map V.int) us) (i:Nat) (v:Value) (h:us[i]? = some v):∃ t,v = .int (ns.getD i 0) t:=by
 have hl:=r.length
 have hi:i < ns.length:=by
  have:=(List.getElem?_eq_some_iff.mp h).1
  rw [List.length_map] at hl; omega
 obtain ⟨u,e,t,rfl⟩:=r.get (i:=i) (x:=.int ns[i]) (by simp [hi])
 rw [h] at e; cases e
 exact ⟨t,by simp [List.getD,hi]⟩
def RZ (ns:List Int) (m:Int):Prop:=m∈ns∧∀ n∈ns,m≤n
def TW (ns:List Int) (m:Int):Prop:=m∈ns∧∀ n∈ns,n≤m
theorem IZ {ns:List Int} {i:Nat} (h:i < ns.length):ns.getD i 0∈ns:=by simp [List.getD,h]
theorem Ld (hc:X.calm = true):Ay X (.builtin "min") (fun vs H Q => ∃ (a:Addr) (ns:List Int),vs = [.ref a]∧TV X.K H a (ns.map V.int)∧0 < ns.length∧∀ m,RZ ns m→Q (.int m) H):=by
 intro pins s σ H vs us Q I r h
 obtain ⟨a,ns,rfl,hq,h0,q⟩:=h
 obtain ⟨u,rfl,ru⟩:=Cd r
 cases ru
 obtain ⟨its,rv,lt,wk⟩:=I.walk hq
 have hl:its.length = ns.length:=by have:=rv.length; rw [List.length_map] at this; exact this.symm
 refine call_min_walk (wk X.A.in1 _ _ (I.ok.hd hc) fun o St W st => ⟨_,_,_,_,_,_,_,rfl,W,st,fun b hb => ?_,by omega,CmpOf.ints_lt (fun i => ns.getD i 0) (fun i v hv => DV rv i v hv),fun v h' tk hP hk => ?_⟩)
 ·show b < (s.heap.push o).objs.size
  rw [Heap.size_push]
  simp only [List.mem_cons,List.not_mem_nil,or_false] at hb
  rcases hb with rfl | rfl
  ·exact Nat.lt_succ_self _
  ·exact Nat.lt_succ_of_lt lt
 ·obtain ⟨t,rfl⟩:=DV rv _ v hP
  obtain ⟨b1,b2⟩:=argBest_lt (fun i => ns.getD i 0) (its.length - 1)
  exact ⟨.int _,H,I.kept (t':=tk) (Je hk),⟨t,rfl⟩,q _ ⟨IZ (by omega),fun n hn => by
   obtain ⟨j,hj,rfl⟩:=List.getElem_of_mem hn
   have:=b2 j (by omega)
   simpa [List.getD,hj] using this⟩⟩
theorem Le (hc:X.calm = true):Ay X (.builtin "max") (fun vs H Q => ∃ (a:Addr) (ns:List Int),vs = [.ref a]∧TV X.K H a (ns.map V.int)∧0 < ns.length∧∀ m,TW ns m→Q (.int m) H):=by
 intro pins s σ H vs us Q I r h
 obtain ⟨a,ns,rfl,hq,h0,q⟩:=h
 obtain ⟨u,rfl,ru⟩:=Cd r
 cases ru
 obtain ⟨its,rv,lt,wk⟩:=I.walk hq
 have hl:its.length = ns.length:=by have:=rv.length; rw [List.length_map] at this; exact this.symm
 refine call_max_walk (wk X.A.in1 _ _ (I.ok.hd hc) fun o St W st => ⟨_,_,_,_,_,_,_,rfl,W,st,fun b hb => ?_,by omega,CmpOf.ints_gt (fun i => ns.getD i 0) (fun i v hv => DV rv i v hv),fun v h' tk hP hk => ?_⟩)
 ·show b < (s.heap.push o).objs.size
  rw [Heap.size_push]
  simp only [List.mem_cons,List.not_mem_nil,or_false] at hb
  rcases hb with rfl | rfl
  ·exact Nat.lt_succ_self _
  ·exact Nat.lt_succ_of_lt lt
 ·obtain ⟨t,rfl⟩:=DV rv _ v hP
  obtain ⟨b1,b2⟩:=argBest_gt (fun i => ns.getD i 0) (its.length - 1)
  exact ⟨.int _,H,I.kept (t':=tk) (Je hk),⟨t,rfl⟩,q _ ⟨IZ (by omega),fun n hn => by
   obtain ⟨j,hj,rfl⟩:=List.getElem_of_mem hn
   have:=b2 j (by omega)
   simpa [List.getD,hj] using this⟩⟩
theorem EN:Ay X (.type "tuple") (fun vs H Q => ∃ a xs,vs = [.ref a]∧SqL X.K H a xs∧∀ p,H p = none→Q (.ref p) (upd H p (.tup xs))):=by
 intro pins s σ H vs us Q I r h
 obtain ⟨a,xs,rfl,hq,q⟩:=h
 obtain ⟨u,rfl,ru⟩:=Cd r
 cases ru
 obtain ⟨its,rv,p,hz⟩:=I.list hq
 have hl:=rv.length
 refine call_tuple_list p.isList (fun h' hk => ?_) (by simpa [← hl] using hz)
 have hn:s.heap.get? h'.objs.size = none:=by
  cases e:s.heap.get? h'.objs.size with
  | none => rfl
  | some o => exact absurd (Heap.lt_size (hk _ _ e)) (Nat.lt_irrefl _)
 exact ⟨.ref h'.objs.size,upd H h'.objs.size (.tup xs),I.laidF (t':=s.toks) (fun b u e => Heap.get?_push_of_some _ (hk b u e)) hn ⟨hz,its,rv,⟨_,Heap.get?_push_size _ rfl,rfl,_,rfl⟩⟩,rfl,q _ (I.hok.none_of hn)⟩
theorem FQ:Ay X (.type "list") (fun vs H Q => ∃ a xs,vs = [.ref a]∧TV X.K H a xs∧∀ p,H p = none→Q (.ref p) (upd H p (.lst xs))):=by
 intro pins s σ H vs us Q I r h
 obtain ⟨a,xs,rfl,hq,q⟩:=h
 obtain ⟨u,rfl,ru⟩:=Cd r
 cases ru
 have hf:H s.heap.objs.size = none:=I.hok.fresh (Nat.le_refl _)
 have fin:∀ (its:List Value) (h':Heap) (c:Nat),Vals xs its→xs.length≤sizeLine→(∀ b o',s.heap.get? b = some o'→h'.get? b = some o')→h'.get? s.heap.objs.size = some { cls:=.type "list",dict:=none,data:=.seq its.toArray c,slots:=#[] }→EP X pins σ Q (.ref s.heap.objs.size) { s with heap:=h' }:=fun its h' c rv hz hk hD =>
  ⟨.ref s.heap.objs.size,upd H s.heap.objs.size (.lst xs),I.laid (t':=s.toks) hk (Nat.le_refl _) ⟨hz,its,c,rv,hD⟩,rfl,q _ hf⟩
 rcases hq with hq | hq
 ·obtain ⟨its,rv,⟨o,n,ho,hc,hd,hdt⟩,hz⟩:=I.list hq
  have hl:=rv.length
  exact call_list_seq (hsz:=by simpa [← hl] using hz) a (.inl rfl) ho hc hdt fun h' c' hk hD => fin its h' c' rv hz hk hD
 ·obtain ⟨its,rv,⟨o,ho,hc,n,hdt⟩,hz⟩:=I.tuple hq
  have hl:=rv.length
  exact call_list_seq (hsz:=by simpa [← hl] using hz) a (.inr rfl) ho hc hdt fun h' c' hk hD => fin its h' c' rv hz hk hD
theorem Ia:Ay X (.type "range") (fun vs H Q => ∃ k:Int,vs = [.int k]∧∀ p,H p = none→Q (.ref p) (upd H p (.rng 0 k))):=by
 intro pins s σ H vs us Q I r h
 obtain ⟨k,rfl,q⟩:=h
 obtain ⟨u,rfl,t,rfl⟩:=Cd r
 have hf:H s.heap.objs.size = none:=I.hok.fresh (Nat.le_refl _)
 exact call_range_1 ⟨.ref s.heap.objs.size,upd H s.heap.objs.size (.rng 0 k),I.laid (fun b u e => Heap.get?_push_of_some _ e) (Nat.le_refl _) ⟨_,_,_,Heap.get?_push_size _ rfl⟩,rfl,q _ hf⟩
theorem Jf (hc:X.calm = true):Ay X (.type "list") (fun vs H Q => ∃ (a:Addr) (k:Int),vs = [.ref a]∧H a = some (.rng 0 k)∧0≤k∧k≤1000∧∀ p,H p = none→Q (.ref p) (upd H p (.lst ((List.range k.toNat).map fun (i:Nat) => V.int i)))):=by
 intro pins s σ H vs us Q I r h
 obtain ⟨a,k,rfl,ha,k0,k1,q⟩:=h
 obtain ⟨u,rfl,ru⟩:=Cd r
 cases ru
 obtain ⟨t,u,v,hr⟩:=I.hok a _ ha
 have hf:H s.heap.objs.size = none:=I.hok.fresh (Nat.le_refl _)
 have hn:Builtin.Range.rangeSize 0 k 1 = k.toNat:=by rw [rangeSize_one]; split <;> omega
 refine call_list_range (I.ok.hd hc) hr (small_one (by omega) (by omega) (by omega) (by omega)) hn (by omega) fun h' tk acc c hk hD hacc => ?_
 refine ⟨.ref s.heap.objs.size,_,I.laid (o:=.lst ((List.range k.toNat).map fun (i:Nat) => V.int i)) (t':=tk) hk (Nat.le_refl _) ⟨?_,acc.toList,c,?_,by rw [Array.toArray_toList]; exact hD⟩,rfl,q _ hf⟩
 ·rw [List.length_map,List.length_range,sizeLine_eq]; omega
 ·have all:∀ (l:List Value) (n m:Nat),l.length = n→(∀ i v,l[i]? = some v→∃ t,v = Value.int ((m + i:Nat):Int) t)→Vals ((List.range' m n).map fun (i:Nat) => V.int i) l:=by
   intro l
   induction l with
   | nil => intro n m e _; subst e; exact .nil
   | cons x l ih =>
    intro n m e hv
    subst e
    rw [List.length_cons,List.range'_succ,List.map_cons]
    refine .cons ?_ (ih l.length (m + 1) rfl fun i v e => ?_)
    ·obtain ⟨t,e⟩:=hv 0 x rfl
     exact ⟨t,by rw [e]; simp⟩
    ·obtain ⟨t,e'⟩:=hv (i + 1) v (by simpa using e)
     exact ⟨t,by rw [e']; congr 1; omega⟩
  rw [List.range_eq_range']
  refine all acc.toList _ 0 (by rw [Array.length_toList]; exact hacc.1) fun i v e => ?_
  obtain ⟨t,e'⟩:=hacc.2 i v (by rw [← Array.getElem?_toList]; exact e)
  exact ⟨t,by rw [e']; congr 1; omega⟩
theorem NE (hu:X.A.units < cLine):Cb X (compareOp .NotEq) (fun x y H Q => ∃ a b xs,x = .ref a∧y = .ref b∧SqL X.K H a xs∧SqL X.K H b []∧Q (.bl (!xs.isEmpty)) H):=by
 intro pins s σ H x y v u Q I rx ry h
 obtain ⟨a,b,xs,rfl,rfl,ha,hb,q⟩:=h
 cases rx; cases ry
 obtain ⟨its,r1,p1,_⟩:=I.list ha
 obtain ⟨its2,r2,p2,_⟩:=I.list hb
 cases r2
 cases xs with
 | nil =>
  cases r1
  exact SeqAt.RcNeAt.lists (e:=fun _ => true) p1.isList p2.isList rfl hu (fun j h1 _ => by simp at h1) _ _ _ _ ⟨.bl _,H,I,rfl,q⟩
 | cons x xs =>
  have hl:=r1.length
  exact SeqAt.RcNeAt.lists_lengths p1.isList p2.isList (by simp; intro e; rw [e] at hl; simp at hl) hu _ _ _ _ ⟨.bl _,H,I,rfl,q⟩
end
end L2
namespace HT
open PySem PySem.Spec PyProof.Rows
section
open PySem.SeqAt
open PySem.AutoSeq1 (wpAny_loadPart')
open PySem.MeetsSeq PySem.MeetsSeq2 PySem.MeetsSeq3
end
section
variable {prog:Program} {w:World} {A:Around} {E:Value→Shared→Prop} {s:Shared}
theorem DW {t sl:Addr} {items:Array Value} {tk:Tok} {Q:Value→Shared→Prop} (ht:IsTup s.heap t items) (hs:s.heap.IsSliceOf sl .none .none (.int (-1) tk))
  (h:Q (.ref s.heap.objs.size) { s with heap:=s.heap.push { cls:=.type "tuple",data:=.seq items.toList.reverse.toArray } }) (hsz:items.size≤sizeLine):wpAny (model prog w) A (getItem (.ref t) (.ref sl)) Q E s:=by
 obtain ⟨os,hos,hcs,hds⟩:=id hs
 have hTs:s.TypeIs (.ref sl) "slice":=⟨os,hos,hcs⟩
 unfold getItem
 try with_reducible refine wpAny_holding ?_
 first | refine wpAny_bind (wpAny_pure ?_) | skip
 refine wpAny_bind (wpAny_sequenceKey ht.typeIs (by decide) ?_)
 refine wpAny_bind (wpAny_callSpecial?_slot (name:=Str.ofString "__getitem__") ht.typeIs PyProof.Rows.slot_tuple_getitem
  (wpAny_call_entry PyProof.Rows.slot_tuple_getitem ht.typeIs entry_tuple_getitem ?_ (args_tuple_getitem _ _)))
 show wpAny _ _ (Builtin.Tuple.tupleItemsOf (.ref t) >>= _) _ _ s
 refine wpAny_bind (tupleItemsOf_ ht ?_)
 refine wpAny_bind (wpAny_typeOf hTs ?_)
 rw [if_pos (by decide)]
 refine wpAny_bind ?_
 unfold Builtin.Slice.sliceApplied Builtin.Slice.sliceFields
 refine wpAny_bind (wpAny_bind (wpAny_field hos hds (x:=.none) rfl (wpAny_bind (wpAny_field hos hds (x:=.none) rfl (wpAny_bind (wpAny_field hos hds (x:=.int (-1) tk) rfl (wpAny_pure ?_)))))))
 refine wpAny_bind (slicePart_int ?_)
 show wpAny _ _ (if ((-1:Int) == 0) = true then _ else _) _ _ s
 rw [if_neg (by decide)]
 refine wpAny_bind (slicePart_none (wpAny_bind (slicePart_none (wpAny_bind (wpAny_pure ?_)))))
 have e1:Builtin.Slice.sliceAdjust none none (-1) (items.size:Int) = ((items.size:Int) - 1,-1):=by
  unfold Builtin.Slice.sliceAdjust
  simp
 have e2:Builtin.Slice.slicePlaces ((items.size:Int) - 1) (-1) (-1) = items.size:=by
  unfold Builtin.Slice.slicePlaces
  rw [if_neg (by decide)]
  simp only [Int.neg_neg,Int.ediv_one]
  split <;> omega
 show wpAny _ _ (pure ((Builtin.Slice.sliceAdjust none none (-1) (items.size:Int)).1,(-1:Int),Builtin.Slice.slicePlaces (Builtin.Slice.sliceAdjust none none (-1) (items.size:Int)).1 (Builtin.Slice.sliceAdjust none none (-1) (items.size:Int)).2 (-1))) _ _ s
 rw [e1]
 dsimp only
 rw [e2]
 refine wpAny_pure ?_
 have hno:¬ ((((items.size:Int) - 1) == 0 && (-1:Int) == 1 && items.size == items.size) = true):=by simp
 show wpAny _ _ (if (((items.size:Int) - 1) == 0 && (-1:Int) == 1 && items.size == items.size) = true then _ else _) _ _ s
 rw [if_neg hno]
 have e3:((List.range items.size).filterMap fun (k:Nat) => items[(((items.size:Int) - 1) + (k:Int) * (-1)).toNat]?) = items.toList.reverse:=by
  have:∀ n,n≤items.size→((List.range n).filterMap fun (k:Nat) => items[(((items.size:Int) - 1) + (k:Int) * (-1)).toNat]?) = (items.toList.drop (items.size - n)).reverse:=by
   intro n
   induction n with
   | zero => intro _; simp
   | succ n ih =>
    intro hn
    rw [List.range_succ,List.filterMap_append,ih (by omega)]
    have hk:(((items.size:Int) - 1) + (n:Int) * (-1)).toNat = items.size - (n + 1):=by omega
    have hlt:items.size - (n + 1) < items.size:=by omega
    have hd:items.toList.drop (items.size - (n + 1)) = items[items.size - (n + 1)] :: items.toList.drop (items.size - n):=by
     rw [List.drop_eq_getElem_cons (by simpa using hlt)]
     congr 2
     omega
    rw [hd,List.reverse_cons]
    congr 1
    rw [List.filterMap_cons,hk,Array.getElem?_eq_getElem hlt]
    rfl
  have:=this items.size (Nat.le_refl _)
  rw [this]
  simp
 rw [e3]
 have hz:sizeOk (.seq items.toList.reverse.toArray):=by
  show items.toList.reverse.toArray.size≤sizeLine
  simpa using hsz
 first
  | exact wpAny_bind (m:=Builtin.Tuple.tupleExact _) (wpAny_newObj_type (wpAny_pure ⟨_,rfl,wpAny_pure h⟩) hz)
  | exact wpAny_bind (wpAny_bind (m:=Builtin.Tuple.tupleExact _) (wpAny_newObj_type (wpAny_pure (wpAny_pure ⟨_,rfl,wpAny_pure h⟩)) hz))
  | exact wpAny_bind (wpAny_bind (m:=Builtin.Tuple.tupleExact _) (wpAny_newObj_type (wpAny_pure ⟨_,rfl,wpAny_pure h⟩) hz))
end
end HT
namespace L2
open PySem PySem.Spec PyProof.Rows
section
variable {X:Cx} {e:Expr} {te:TE} {pos p2 p3 p4:Pos}
theorem PF (he:PE X e te):PE X (.Subscript e (.Slice none none (some (.UnaryOp .USub (.Constant (.int 1) 0 p3) p4)) p2) pos) (fun σ H Q => te σ H fun x H1 => ∃ a xs,x = .ref a∧Hv X.K H1 a xs∧∀ p,H1 p = none→Q (.ref p) (upd H1 p (.tup xs.reverse))):=by
 intro pins s σ H Q I h
 refine Subscript_ (Ac (he pins s σ H _ I h) fun v s1 ⟨x,H1,I1,r1,q1⟩ => ?_)
 obtain ⟨a,xs,rfl,hx,q⟩:=q1
 cases r1
 refine wpAny_Slice ?_
 rw [evalPart_none]
 refine wpAny_pure ?_
 refine wpAny_pure ?_
 rw [evalPart_some]
 refine Ac (QC MN Gq pins s1 σ H1 (fun x H' => x = .int (-1)∧H' = H1) I1 ⟨1,rfl,rfl,rfl⟩) fun st s2 ⟨x2,H2,I2,r2,ex,eH⟩ => ?_
 subst ex eH
 obtain ⟨tk,rfl⟩:=r2
 have I4:Inv X pins σ H2 { s2 with heap:=s2.heap.push { cls:=.type "slice",data:=.fields #[.none,.none,.int (-1) tk] } }:=I2.kept (t':=s2.toks) fun b ob q => Heap.get?_push_of_some _ q
 obtain ⟨its,r,ht,hz⟩:=I4.tuple hx
 have hl:=r.length
 show wpAny (model X.prog X.w) X.A (subscriptTail e (.Slice none none (some (.UnaryOp .USub (.Constant (.int 1) 0 p3) p4)) p2) (.ref a) (.ref s2.heap.objs.size)) (EP X pins σ Q) X.xe { s2 with heap:=s2.heap.push { cls:=.type "slice",data:=.fields #[.none,.none,.int (-1) tk] } }
 refine tail_any (ops:=[.ref a,.ref s2.heap.objs.size]) ht.typeIs PyProof.Rows.slot_tuple_getitem.lookup (HT.DW ht (Heap.IsSliceOf.new ..) ?_ (by simpa [← hl] using hz)) (by with_unfolding_all rfl)
 have hf:=I4.hok.fresh (Nat.le_refl _)
 have rr:Vals xs.reverse its.reverse:=by
  have:∀ {xs:List V} {us:List Value},Vals xs us→Vals xs.reverse us.reverse:=by
   intro xs us r
   induction r with
   | nil => exact .nil
   | cons r1 _ ih => rw [List.reverse_cons,List.reverse_cons]; exact ih.append (.cons r1 .nil)
  exact this r
 exact ⟨.ref _,_,I4.laid (o:=.tup xs.reverse) (fun b ob q => Heap.get?_push_of_some _ q) (Nat.le_refl _) ⟨by rw [List.length_reverse]; exact hz,_,rr,⟨_,Heap.get?_push_size _ rfl,rfl,_,rfl⟩⟩,rfl,q _ hf⟩
end
end L2
namespace L2.TL
open PySem PySem.Spec PyProof.Rows
inductive T where
 | non | bl (b:Bool) | int (i:Int) | str (x:Str) | tup (ts:List T) | lst (ts:List T) | frz (ts:List T) | dct | raw (v:V)
abbrev AJ:=Addr→Option (List T)
def AV (O:AJ) (a:Addr) (ts:List T):AJ:=fun b => if b = a then some ts else O b
def AW (O:AJ) (a:Addr):AJ:=fun b => if b = a then none else O b
theorem AF {O:AJ} {a:Addr} {ts:List T}:AV O a ts a = some ts:=by unfold AV; rw [if_pos rfl]
theorem AQ {O:AJ} {a b:Addr} {ts:List T} (h:b≠a):AV O a ts b = O b:=by unfold AV; rw [if_neg h]
theorem Aq {O:AJ} {a:Addr} {ts us:List T}:AV (AV O a ts) a us = AV O a us:=by
 funext b; unfold AV; split <;> rfl
theorem Bc {O:AJ} {a:Addr}:AW O a a = none:=by unfold AW; rw [if_pos rfl]
theorem Bd {O:AJ} {a b:Addr} (h:b≠a):AW O a b = O b:=by unfold AW; rw [if_neg h]
mutual
inductive Rep (K:PySem.W.Frag) (O:AJ) (H:Hp):V→T→Prop
 | non:Rep K O H .non .non
 | bl (b:Bool):Rep K O H (.bl b) (.bl b)
 | int (i:Int):Rep K O H (.int i) (.int i)
 | str (x:Str):Rep K O H (.str x) (.str x)
 | tup {a:Addr} {xs:List V} {ts:List T}:H a = some (.tup xs)→Reps K O H xs ts→Rep K O H (.ref a) (.tup ts)
 | lst {a:Addr} {xs:List V} {ts:List T}:H a = some (.lst xs)→O a = none→Reps K O H xs ts→Rep K O H (.ref a) (.lst ts)
 | frz {a:Addr} {o:Obj} {xs:List V} {ts:List T}:H a = some (.frz o (.lst xs))→Reps K O H xs ts→Rep K O H (.ref a) (.frz ts)
 | dct {a:Addr}:H a = some (.dK [])→Rep K O H (.ref a) .dct
 | raw (v:V):Rep K O H v (.raw v)
inductive Reps (K:PySem.W.Frag) (O:AJ) (H:Hp):List V→List T→Prop
 | nil:Reps K O H [] []
 | cons {v:V} {t:T} {vs:List V} {ts:List T}:Rep K O H v t→Reps K O H vs ts→Reps K O H (v :: vs) (t :: ts)
end
section
variable {K:PySem.W.Frag} {O O' O1:AJ} {H H' H1:Hp}
mutual
theorem Rep.mono (hT:∀ a o,H a = some o→(∀ xs,o≠.lst xs)→H' a = some o) (hL:∀ a xs,H a = some (.lst xs)→O a = none→H' a = some (.lst xs)∧O' a = none):∀ {v:V} {t:T},Rep K O H v t→Rep K O' H' v t
 | _,_,.non => .non
 | _,_,.bl b => .bl b
 | _,_,.int i => .int i
 | _,_,.str x => .str x
 | _,_,.tup h r => .tup (hT _ _ h fun _ z => by cases z) (Reps.mono hT hL r)
 | _,_,.lst h o r => .lst (hL _ _ h o).1 (hL _ _ h o).2 (Reps.mono hT hL r)
 | _,_,.frz h r => .frz (hT _ _ h fun _ z => by cases z) (Reps.mono hT hL r)
 | _,_,.dct h => .dct (hT _ _ h fun _ z => by cases z)
 | _,_,.raw v => .raw v
theorem Reps.mono (hT:∀ a o,H a = some o→(∀ xs,o≠.lst xs)→H' a = some o) (hL:∀ a xs,H a = some (.lst xs)→O a = none→H' a = some (.lst xs)∧O' a = none):∀ {v:List V} {t:List T},Reps K O H v t→Reps K O' H' v t
 | _,_,.nil => .nil
 | _,_,.cons h r => .cons (Rep.mono hT hL h) (Reps.mono hT hL r)
end
theorem Reps.length:∀ {vs:List V} {ts:List T},Reps K O H vs ts→vs.length = ts.length
 | _,_,.nil => rfl
 | _,_,.cons _ r => congrArg (· + 1) r.length
theorem Reps.get:∀ {vs:List V} {ts:List T} {i:Nat} {t:T},Reps K O H vs ts→ts[i]? = some t→∃ v,vs[i]? = some v∧Rep K O H v t
 | _,_,_,_,.nil,e => by simp at e
 | _,_,0,_,.cons h _,e => by simp at e; subst e; exact ⟨_,rfl,h⟩
 | _,_,i + 1,t,.cons _ r,e => by
  obtain ⟨u,h1,h2⟩:=Reps.get (i:=i) (t:=t) r (by simpa using e)
  exact ⟨u,by simpa using h1,h2⟩
theorem Reps.append:∀ {vs ws:List V} {ts us:List T},Reps K O H vs ts→Reps K O H ws us→Reps K O H (vs ++ ws) (ts ++ us)
 | _,_,_,_,.nil,s => s
 | _,_,_,_,.cons h r,s => .cons h (r.append s)
theorem Reps.take:∀ {vs:List V} {ts:List T} (n:Nat),Reps K O H vs ts→Reps K O H (vs.take n) (ts.take n)
 | _,_,0,_ => .nil
 | _,_,_ + 1,.nil => .nil
 | _,_,n + 1,.cons h r => .cons h (r.take n)
theorem Reps.drop:∀ {vs:List V} {ts:List T} (n:Nat),Reps K O H vs ts→Reps K O H (vs.drop n) (ts.drop n)
 | _,_,0,r => r
 | _,_,_ + 1,.nil => .nil
 | _,_,n + 1,.cons h r => r.drop n
theorem Reps.set {x:V} {t:T} (h:Rep K O H x t):∀ {vs:List V} {ts:List T} (i:Nat),Reps K O H vs ts→Reps K O H (vs.set i x) (ts.set i t)
 | _,_,_,.nil => .nil
 | _,_,0,.cons _ r => .cons h r
 | _,_,i + 1,.cons q r => .cons q (Reps.set h i r)
theorem Reps.one {v:V} {t:T} (h:Rep K O H v t):Reps K O H [v] [t]:=.cons h .nil
theorem Reps.rev:∀ {vs:List V} {ts:List T},Reps K O H vs ts→Reps K O H vs.reverse ts.reverse
 | _,_,.nil => .nil
 | _,_,.cons h r => by
  rw [List.reverse_cons,List.reverse_cons]
  exact r.rev.append (.one h)
theorem Reps.eraseIdx:∀ {vs:List V} {ts:List T} (i:Nat),Reps K O H vs ts→Reps K O H (vs.eraseIdx i) (ts.eraseIdx i)
 | _,_,_,.nil => .nil
 | _,_,0,.cons _ r => r
 | _,_,i + 1,.cons q r => .cons q (Reps.eraseIdx i r)
def Kp (O:AJ) (H:Hp) (O':AJ) (H':Hp):Prop:=∀ b o,H b = some o→O b = none→H' b = some o∧O' b = none
def OwnOk (K:PySem.W.Frag) (O:AJ) (H:Hp):Prop:=∀ a ts,O a = some ts→∃ xs,H a = some (.lst xs)∧Reps K O H xs ts
theorem OwnOk.free (w:OwnOk K O H) {a:Addr} {o:HO} (h:H a = some o) (hn:∀ xs,o≠.lst xs):O a = none:=by
 cases e:O a with
 | none => rfl
 | some ts =>
  obtain ⟨xs,e',_⟩:=w a ts e
  rw [h] at e'
  exact absurd (Option.some.inj e') (hn xs)
theorem OwnOk.none_of (w:OwnOk K O H) {a:Addr} (h:H a = none):O a = none:=by
 cases e:O a with
 | none => rfl
 | some ts =>
  obtain ⟨xs,e',_⟩:=w a ts e
  rw [h] at e'; cases e'
theorem Kp.refl:Kp O H O H:=fun _ _ h n => ⟨h,n⟩
theorem Kp.trans (a:Kp O H O1 H1) (b:Kp O1 H1 O' H'):Kp O H O' H':=fun c o h n => b c o (a c o h n).1 (a c o h n).2
theorem Kp.oth (k:Kp O H O' H') (w:OwnOk K O H) {a:Addr} {o:HO} (h:H a = some o) (hn:∀ xs,o≠.lst xs):H' a = some o:=(k a _ h (w.free h hn)).1
theorem Kp.lst (k:Kp O H O' H') {a:Addr} {xs:List V} (h:H a = some (.lst xs)) (n:O a = none):H' a = some (.lst xs)∧O' a = none:=k a _ h n
theorem Rep.kp (k:Kp O H O' H') (w:OwnOk K O H) {v:V} {t:T} (r:Rep K O H v t):Rep K O' H' v t:=r.mono (fun _ _ h hn => k.oth w h hn) fun _ _ => k.lst
theorem Reps.kp (k:Kp O H O' H') (w:OwnOk K O H) {v:List V} {t:List T} (r:Reps K O H v t):Reps K O' H' v t:=r.mono (fun _ _ h hn => k.oth w h hn) fun _ _ => k.lst
structure Frm (K:PySem.W.Frag) (O:AJ) (H:Hp) (O':AJ) (H':Hp):Prop where
 kp:Kp O H O' H'
 own:∀ b ts,O b = some ts→∃ ts',O' b = some ts'
 ok:OwnOk K O' H'
theorem Frm.refl (w:OwnOk K O H):Frm K O H O H:=⟨.refl,fun _ ts e => ⟨ts,e⟩,w⟩
theorem Frm.trans (a:Frm K O H O1 H1) (b:Frm K O1 H1 O' H'):Frm K O H O' H':=⟨a.kp.trans b.kp,fun c ts e => by
 obtain ⟨t1,e1⟩:=a.own c ts e
 exact b.own c t1 e1,b.ok⟩
theorem BG {p:Addr} {o:HO} (w:OwnOk K O H) (hp:H p = none):Kp O H O (upd H p o):=fun b u h n => ⟨by rw [AD (AL h hp)]; exact h,n⟩
theorem Frm.new {p:Addr} {o:HO} (w:OwnOk K O H) (hp:H p = none):Frm K O H O (upd H p o) where
 kp:=BG w hp
 own:=fun _ ts e => ⟨ts,e⟩
 ok:=fun a ts e => by
  obtain ⟨xs,h,r⟩:=w a ts e
  exact ⟨xs,by rw [AD (AL h hp)]; exact h,r.kp (BG w hp) w⟩
theorem HM {p:Addr} {o:HO} {ts:List T} (w:OwnOk K O H) (hp:H p = none):Kp O H (AV O p ts) (upd H p o):=fun b u h n => by
 have:=AL h hp
 rw [AD this,AQ this]
 exact ⟨h,n⟩
theorem Frm.newO {p:Addr} {xs:List V} {ts:List T} (w:OwnOk K O H) (hp:H p = none) (r:Reps K O H xs ts):Frm K O H (AV O p ts) (upd H p (.lst xs)) where
 kp:=HM w hp
 own:=fun b us e => by
  by_cases hb:b = p
  ·exact ⟨ts,by rw [hb,AF]⟩
  ·exact ⟨us,by rw [AQ hb]; exact e⟩
 ok:=fun a us e => by
  by_cases hb:a = p
  ·subst hb
   rw [AF] at e; cases e
   exact ⟨xs,AG,r.kp (HM w hp) w⟩
  ·rw [AQ hb] at e
   obtain ⟨ys,h,q⟩:=w a us e
   exact ⟨ys,by rw [AD hb]; exact h,q.kp (HM w hp) w⟩
theorem HN {a:Addr} {o:HO} {ts us:List T} (ha:O a = some ts):Kp O H (AV O a us) (upd H a o):=fun b u h n => by
 have:b≠a:=fun z => by rw [z,ha] at n; cases n
 rw [AD this,AQ this]
 exact ⟨h,n⟩
theorem Frm.put {a:Addr} {xs:List V} {ts us:List T} (w:OwnOk K O H) (ha:O a = some ts) (r:Reps K O H xs us):Frm K O H (AV O a us) (upd H a (.lst xs)) where
 kp:=HN ha
 own:=fun b vs e => by
  by_cases hb:b = a
  ·exact ⟨us,by rw [hb,AF]⟩
  ·exact ⟨vs,by rw [AQ hb]; exact e⟩
 ok:=fun b vs e => by
  by_cases hb:b = a
  ·subst hb
   rw [AF] at e; cases e
   exact ⟨xs,AG,r.kp (HN ha) w⟩
  ·rw [AQ hb] at e
   obtain ⟨ys,h,q⟩:=w b vs e
   exact ⟨ys,by rw [AD hb]; exact h,q.kp (HN ha) w⟩
theorem BK {a:Addr}:Kp O H (AW O a) H:=fun b u h n => ⟨h,by
 by_cases hb:b = a
 ·rw [hb,Bc]
 ·rw [Bd hb]; exact n⟩
theorem OwnOk.drop {a:Addr} (w:OwnOk K O H):OwnOk K (AW O a) H:=fun b ts e => by
 by_cases hb:b = a
 ·rw [hb,Bc] at e; cases e
 ·rw [Bd hb] at e
  obtain ⟨xs,h,r⟩:=w b ts e
  exact ⟨xs,h,r.kp BK w⟩
theorem OwnOk.rep {a:Addr} {ts:List T} (w:OwnOk K O H) (e:O a = some ts):Rep K (AW O a) H (.ref a) (.lst ts):=by
 obtain ⟨xs,h,r⟩:=w a ts e
 exact .lst h Bc (r.kp BK w)
end
def Rl (K:PySem.W.Frag) (O:AJ) (H:Hp) (σ:St) (ρ:List (Option T)):Prop:=σ.length = ρ.length∧∀ (i:Nat) (t:T),ρ[i]? = some (some t)→∃ v,σ[i]? = some (some v)∧Rep K O H v t
section
variable {K:PySem.W.Frag} {O O':AJ} {H H':Hp} {σ:St} {ρ:List (Option T)}
theorem Rl.kp (k:Kp O H O' H') (w:OwnOk K O H) (r:Rl K O H σ ρ):Rl K O' H' σ ρ:=⟨r.1,fun i t e => by
 obtain ⟨v,h1,h2⟩:=r.2 i t e
 exact ⟨v,h1,h2.kp k w⟩⟩
theorem Rl.set {i:Nat} {v:V} {t:T} (r:Rl K O H σ ρ) (h:Rep K O H v t):Rl K O H (σ.set i (some v)) (ρ.set i (some t)):=⟨by simpa using r.1,fun j u e => by
 by_cases hj:j = i
 ·subst hj
  have hl:j < ρ.length:=by
   have:=(List.getElem?_eq_some_iff.mp e).1
   simpa using this
  rw [List.getElem?_set_self hl] at e
  cases e
  exact ⟨v,by rw [List.getElem?_set_self (by rw [r.1]; exact hl)],h⟩
 ·rw [List.getElem?_set_ne (Ne.symm hj)] at e ⊢
  exact r.2 j u e⟩
end
structure Zx where
 X:Cx
 Oe:AJ
 He:Hp
 Xi:Value→AJ→Prop
abbrev Zx.K (Z:Zx):PySem.W.Frag:=Z.X.K
def Zx.W (Z:Zx):St→XK:=fun _ cls d H' => d = none∧∃ O',Z.Xi cls O'∧Frm Z.K Z.Oe Z.He O' H'
structure Asr (Z:Zx) (ρ:List (Option T)) (O:AJ) (σ:St) (H:Hp):Prop where
 rl:Rl Z.K O H σ ρ
 fr:Frm Z.K Z.Oe Z.He O H
section
variable {Z:Zx} {ρ:List (Option T)} {O O':AJ} {σ:St} {H H':Hp}
theorem Asr.ok (a:Asr Z ρ O σ H):OwnOk Z.K O H:=a.fr.ok
theorem Asr.step (a:Asr Z ρ O σ H) (f:Frm Z.K O H O' H'):Asr Z ρ O' σ H':=⟨a.rl.kp f.kp a.ok,a.fr.trans f⟩
theorem Asr.refl (a:Asr Z ρ O σ H):Frm Z.K O H O H:=.refl a.ok
end
abbrev BM:=T→AJ→Prop
abbrev Jg:=List T→AJ→Prop
abbrev Ht:=Bool→AJ→Prop
def Acc (K:PySem.W.Frag) (O:AJ) (H:Hp) (Φ:BM) (Q:VK):Prop:=∀ v H' t O',Φ t O'→Frm K O H O' H'→Rep K O' H' v t→Q v H'
def Uy (K:PySem.W.Frag) (O:AJ) (H:Hp) (Φ:Jg) (Q:List V→Hp→Prop):Prop:=∀ vs H' ts O',Φ ts O'→Frm K O H O' H'→Reps K O' H' vs ts→Q vs H'
def AccT (K:PySem.W.Frag) (O:AJ) (H:Hp) (Φ:Ht) (Q:Bool→Hp→Prop):Prop:=∀ b H' O',Φ b O'→Frm K O H O' H'→Q b H'
def tW (Z:Zx) (ρ:List (Option T)) (O:AJ) (Φ:BM):TE:=fun σ H Q => Asr Z ρ O σ H∧Acc Z.K O H Φ Q
def VT (Z:Zx) (ρ:List (Option T)) (O:AJ) (Φ:Jg):TA:=fun σ H Q => Asr Z ρ O σ H∧Uy Z.K O H Φ Q
def SZ (Z:Zx) (ρ:List (Option T)) (O:AJ) (Φ:Ht):TT:=fun σ H Q => Asr Z ρ O σ H∧AccT Z.K O H Φ Q
def WE (Z:Zx) (ρ:List (Option T)) (O:AJ) (e:Expr) (Φ:BM):Prop:=PE Z.X e (tW Z ρ O Φ)
def WA (Z:Zx) (ρ:List (Option T)) (O:AJ) (es:List Expr) (Φ:Jg):Prop:=PA Z.X es (VT Z ρ O Φ)
def WT (Z:Zx) (ρ:List (Option T)) (O:AJ) (e:Expr) (Φ:Ht):Prop:=PT Z.X e (SZ Z ρ O Φ)
def WW (Z:Zx) (ρ:List (Option T)) (O:AJ) (e:Expr) (Φ:Ht):Prop:=PW Z.X e (SZ Z ρ O Φ)
def ET (Z:Zx) (ρ:List (Option T)) (O:AJ) (e:Expr) (t:T):Prop:=∀ Φ:BM,Φ t O→WE Z ρ O e Φ
def EA (Z:Zx) (ρ:List (Option T)) (O:AJ) (es:List Expr) (ts:List T):Prop:=∀ Φ:Jg,Φ ts O→WA Z ρ O es Φ
def EB (Z:Zx) (ρ:List (Option T)) (O:AJ) (e:Expr) (b:Bool):Prop:=∀ Φ:Ht,Φ b O→WT Z ρ O e Φ
theorem PE.weak {X:Cx} {e:Expr} {t t':TE} (h:PE X e t) (w:∀ σ H Q,t' σ H Q→t σ H Q):PE X e t':=fun pins s σ H Q I q => h pins s σ H Q I (w σ H Q q)
theorem PA.weak {X:Cx} {e:List Expr} {t t':TA} (h:PA X e t) (w:∀ σ H Q,t' σ H Q→t σ H Q):PA X e t':=fun pos pins s σ H Q I q => h pos pins s σ H Q I (w σ H Q q)
theorem PT.weak {X:Cx} {e:Expr} {t t':TT} (h:PT X e t) (w:∀ σ H Q,t' σ H Q→t σ H Q):PT X e t':=fun pins s σ H Q I q => h pins s σ H Q I (w σ H Q q)
theorem PW.weak {X:Cx} {e:Expr} {t t':TT} (h:PW X e t) (w:∀ σ H Q,t' σ H Q→t σ H Q):PW X e t':=fun whole pins s σ H Q I q => h whole pins s σ H Q I (w σ H Q q)
theorem PS.weak {X:Cx} {e:Stmt} {t t':TS} (h:PS X e t) (w:∀ D σ H,t' D σ H→t D σ H):PS X e t':=fun pins s σ H D I q => h pins s σ H D I (w D σ H q)
theorem PSs.weak {X:Cx} {e:List Stmt} {t t':TS} (h:PSs X e t) (w:∀ D σ H,t' D σ H→t D σ H):PSs X e t':=fun pins s σ H D I q => h pins s σ H D I (w D σ H q)
def tX (Z:Zx) (ρ:List (Option T)) (e:Expr):TE:=fun σ H Q => ∃ O Φ,WE Z ρ O e Φ∧tW Z ρ O Φ σ H Q
theorem Aw {Z:Zx} {ρ:List (Option T)} {e:Expr}:PE Z.X e (tX Z ρ e):=fun pins s σ H Q I ⟨_,_,w,q⟩ => w pins s σ H Q I q
def Vl (Z:Zx) (ρ:List (Option T)) (e:List Expr):TA:=fun σ H Q => ∃ O Φ,WA Z ρ O e Φ∧VT Z ρ O Φ σ H Q
theorem EX {Z:Zx} {ρ:List (Option T)} {e:List Expr}:PA Z.X e (Vl Z ρ e):=fun pos pins s σ H Q I ⟨_,_,w,q⟩ => w pos pins s σ H Q I q
def Vm (Z:Zx) (ρ:List (Option T)) (e:Expr):TT:=fun σ H Q => ∃ O Φ,WW Z ρ O e Φ∧SZ Z ρ O Φ σ H Q
theorem TX {Z:Zx} {ρ:List (Option T)} {e:Expr}:PW Z.X e (Vm Z ρ e):=fun whole pins s σ H Q I ⟨_,_,w,q⟩ => w whole pins s σ H Q I q
section
variable {Z:Zx} {ρ:List (Option T)} {O:AJ} {e a b:Expr} {es:List Expr} {Φ Φ':BM} {pos:Pos} {t ta tb:T} {ts:List T}
theorem Acc.mono {K:PySem.W.Frag} {H:Hp} {Q:VK} (h:Acc K O H Φ' Q) (w:∀ t O',Φ t O'→Φ' t O'):Acc K O H Φ Q:=fun v H' t O' p => h v H' t O' (w t O' p)
theorem Acc.step {K:PySem.W.Frag} {H H1:Hp} {O1:AJ} {Q:VK} (h:Acc K O H Φ Q) (f:Frm K O H O1 H1):Acc K O1 H1 Φ Q:=fun v H' t O' p f' r => h v H' t O' p (f.trans f') r
theorem AccT.step {K:PySem.W.Frag} {H H1:Hp} {O1:AJ} {Φ:Ht} {Q:Bool→Hp→Prop} (h:AccT K O H Φ Q) (f:Frm K O H O1 H1):AccT K O1 H1 Φ Q:=fun v H' O' p f' => h v H' O' p (f.trans f')
theorem Cw (h:WE Z ρ O e Φ) (w:∀ t O',Φ t O'→Φ' t O'):WE Z ρ O e Φ':=PE.weak h fun _ _ _ q => ⟨q.1,q.2.mono w⟩
theorem ET.we (h:ET Z ρ O e t) (p:Φ t O):WE Z ρ O e Φ:=h Φ p
theorem Ra {i:Nat} {x:Str} (hN:Z.X.N[i]? = some x) (hv:SW Z.X.env.scope x) (e:ρ[i]? = some (some t)) (p:Φ t O) (hd:(x == ("__debug__" : Str)) = false:=by decide) (hcd:(x == ("__classdict__" : Str)) = false:=by decide):WE Z ρ O (.Name x pos) Φ :=
 PE.weak (ME hN hv hd hcd) fun σ H Q q => by
  obtain ⟨v,h1,h2⟩:=q.1.rl.2 i t e
  exact ⟨v,h1,q.2 v H t O p q.1.refl h2⟩
theorem ev (i:Nat) {x:Str} (e:ρ[i]? = some (some t):=by rfl) (hN:Z.X.N[i]? = some x:=by rfl) (hv:SW Z.X.env.scope x:=by first | exact Or.inl rfl | exact Or.inr (Or.inl rfl) | exact Or.inr (Or.inr rfl)) (hd:(x == ("__debug__" : Str)) = false:=by decide)
  (hcd:(x == ("__classdict__" : Str)) = false:=by decide):ET Z ρ O (.Name x pos) t:=fun _ p => Ra hN hv e p hd hcd
theorem Lf {v:V} (h:PE Z.X e (tC v)) (r:∀ O H,Rep Z.K O H v t):ET Z ρ O e t:=fun _ p => PE.weak h fun _ H _ q => q.2 v H _ O p q.1.refl (r O H)
theorem AC {i:Int} {j:Nat}:ET Z ρ O (.Constant (.int i) j pos) (.int i):=Lf Gq fun _ _ => .int i
theorem Kb {i:Bool} {j:Nat}:ET Z ρ O (.Constant (.bool i) j pos) (.bl i):=Lf MF fun _ _ => .bl i
theorem Be {j:Nat}:ET Z ρ O (.Constant .none j pos) .non:=Lf Qh fun _ _ => .non
theorem Jh {x:Str} {j:Nat}:ET Z ρ O (.Constant (.str x) j pos) (.str x):=Lf Br fun _ _ => .str x
theorem PH {x:Str} {i:Int} (hm:∃ t:Tok,Z.X.mg x = some (.int i t)) (hg:Gl Z.X x:=by rfl) (hd:(x == ("__debug__" : Str)) = false:=by decide):ET Z ρ O (.Name x pos) (.int i):=by
 cases hm with
 | intro t hm => exact Lf (BT (v:=.int i) hg hm ⟨t,rfl⟩ hd) fun _ _ => .int i
theorem TY {x:Str} {n:String} (hm:Z.X.mg x = none) (hv:bootBuiltins x = some (.type n)) (hg:Gl Z.X x:=by rfl) (hn:x≠"__name__":=by decide) (hd:(x == ("__debug__" : Str)) = false:=by decide):ET Z ρ O (.Name x pos) (.raw (.ty n)) :=
 Lf (KC (v:=.ty n) hg hm hv rfl hn hd) fun _ _ => .raw _
def RT (K:PySem.W.Frag) (r:R2) (ta tb:T) (O:AJ) (Φ:BM):Prop:=∀ H v w Q,OwnOk K O H→Rep K O H v ta→Rep K O H w tb→Acc K O H Φ Q→r v w H Q
def RP (K:PySem.W.Frag) (r:R2) (ta tb:T) (O:AJ) (t:T):Prop:=∀ Φ:BM,Φ t O→RT K r ta tb O Φ
theorem HP {r:R2} {σ:St} {H:Hp} {Q:VK} (q:tW Z ρ O Φ σ H Q) (h:WE Z ρ O a fun ta O1 => WE Z ρ O1 b fun tb O2 => RT Z.K r ta tb O2 Φ):Sn r (tX Z ρ a) (tX Z ρ b) σ H Q :=
 ⟨O,_,h,q.1,fun v H1 ta O1 p f1 r1 => ⟨O1,_,p,q.1.step f1,fun w H2 tb O2 p2 f2 r2 => p2 H2 v w Q f2.ok (r1.kp f2.kp f1.ok) r2 (q.2.step (f1.trans f2))⟩⟩
theorem DC {op:Operator} {r:R2} (ho:Cb Z.X (binaryOp op) r) (h:WE Z ρ O a fun ta O1 => WE Z ρ O1 b fun tb O2 => RT Z.K r ta tb O2 Φ):WE Z ρ O (.BinOp a op b pos) Φ :=
 PE.weak (QB ho Aw Aw) fun _ _ _ q => HP q h
theorem Rb {op:CmpOp} {r:R2} (ho:Cb Z.X (compareOp op) r) (hm:behindInMarks op b = false) (h:WE Z ρ O a fun ta O1 => WE Z ρ O1 b fun tb O2 => RT Z.K r ta tb O2 Φ):WE Z ρ O (.Compare a [op] [b] pos) Φ :=
 PE.weak (Ob ho Aw Aw hm) fun _ _ _ q => HP q h
theorem FR {op:Operator} {r:R2} (ho:Cb Z.X (binaryOp op) r) (hp:RP Z.K r ta tb O t) (ha:ET Z ρ O a ta) (hb:ET Z ρ O b tb):ET Z ρ O (.BinOp a op b pos) t:=fun Φ p => DC ho (ha _ (hb _ (hp Φ p)))
theorem Dx {op:CmpOp} {r:R2} (ho:Cb Z.X (compareOp op) r) (hm:behindInMarks op b = false) (hp:RP Z.K r ta tb O t) (ha:ET Z ρ O a ta) (hb:ET Z ρ O b tb):ET Z ρ O (.Compare a [op] [b] pos) t:=fun Φ p => Rb ho hm (ha _ (hb _ (hp Φ p)))
theorem NF {r:R2} (ho:Sz Z.X r) (hs:Cu b) (h:WE Z ρ O a fun ta O1 => WE Z ρ O1 b fun tb O2 => RT Z.K r ta tb O2 Φ):WE Z ρ O (.Subscript a b pos) Φ :=
 PE.weak (MU ho Aw Aw hs) fun _ _ _ q => HP q h
theorem NG {r:R2} (ho:Sz Z.X r) (hs:Cu b) (hp:RP Z.K r ta tb O t) (ha:ET Z ρ O a ta) (hb:ET Z ρ O b tb):ET Z ρ O (.Subscript a b pos) t:=fun Φ p => NF ho hs (ha _ (hb _ (hp Φ p)))
theorem AX {Φ:Jg} (p:Φ [] O):WA Z ρ O [] Φ:=PA.weak Ao fun _ H _ q => q.2 [] H [] O p q.1.refl .nil
theorem BL {Φ:Jg} (h:WE Z ρ O e fun t O1 => WA Z ρ O1 es fun ts O2 => Φ (t :: ts) O2) (hs:starEach (e :: es) Z.X.env = (false,eval e Z.X.env) :: starEach es Z.X.env:=by rfl):WA Z ρ O (e :: es) Φ :=
 PA.weak (AK Aw EX hs) fun σ H Q q => ⟨O,_,h,q.1,fun v H1 t O1 p f1 r1 => ⟨O1,_,p,q.1.step f1,fun vs H2 ts O2 p2 f2 r2 => q.2 _ H2 _ O2 p2 (f1.trans f2) (.cons (r1.kp f2.kp f1.ok) r2)⟩⟩
theorem AE:EA Z ρ O [] []:=fun _ p => AX p
theorem AI (h:ET Z ρ O e t) (hr:EA Z ρ O es ts) (hs:starEach (e :: es) Z.X.env = (false,eval e Z.X.env) :: starEach es Z.X.env:=by rfl):EA Z ρ O (e :: es) (t :: ts):=fun Φ p => BL (h _ (hr _ p)) hs
theorem BH {x1} (h:WA Z ρ O es fun ts O1 => ts.length≤sizeLine∧Φ (.tup ts) O1):WE Z ρ O (.Tuple es x1 pos) Φ :=
 PE.weak (Qz h) fun σ H Q q => ⟨q.1,fun vs H1 ts O1 p f r => ⟨by rw [r.length]; exact p.1,fun a ha => q.2 _ _ _ O1 p.2 (f.trans (.new f.ok ha)) (.tup AG (r.kp (BG f.ok ha) f.ok))⟩⟩
theorem Bx {x1} (h:EA Z ρ O es ts) (hl:ts.length≤sizeLine:=by first | (show 1≤sizeLine; decide) | (show 2≤sizeLine; decide) | (show 3≤sizeLine; decide) | (show 0≤sizeLine; decide)):ET Z ρ O (.Tuple es x1 pos) (.tup ts):=fun _ p => BH (h _ ⟨hl,p⟩)
theorem Ji (h:WA Z ρ O es fun ts O1 => ts.length≤sizeLine∧Φ (.lst ts) O1):WE Z ρ O (.List es pos) Φ :=
 PE.weak (Ev h) fun σ H Q q => ⟨q.1,fun vs H1 ts O1 p f r => ⟨by rw [r.length]; exact p.1,fun a ha => q.2 _ _ _ O1 p.2 (f.trans (.new f.ok ha)) (.lst AG (f.ok.none_of ha) (r.kp (BG f.ok ha) f.ok))⟩⟩
theorem Bf (h:EA Z ρ O es ts) (hl:ts.length≤sizeLine):ET Z ρ O (.List es pos) (.lst ts):=fun _ p => Ji (h _ ⟨hl,p⟩)
theorem Ee (h:WA Z ρ O es fun ts O1 => ts.length≤sizeLine∧∀ a,O1 a = none→Φ (.raw (.ref a)) (AV O1 a ts)):WE Z ρ O (.List es pos) Φ :=
 PE.weak (Ev h) fun σ H Q q => ⟨q.1,fun vs H1 ts O1 p f r => ⟨by rw [r.length]; exact p.1,fun a ha => q.2 _ _ _ _ (p.2 a (f.ok.none_of ha)) (f.trans (.newO f.ok ha r)) (.raw _)⟩⟩
end
section
variable {K:PySem.W.Frag} {O:AJ} {H:Hp} {v:V}
theorem Rep.int_inv {i:Int} (r:Rep K O H v (.int i)):v = .int i:=by cases r; rfl
theorem Rep.bl_inv {i:Bool} (r:Rep K O H v (.bl i)):v = .bl i:=by cases r; rfl
theorem Rep.non_inv (r:Rep K O H v .non):v = .non:=by cases r; rfl
theorem Rep.str_inv {i:Str} (r:Rep K O H v (.str i)):v = .str i:=by cases r; rfl
theorem Rep.raw_inv {i:V} (r:Rep K O H v (.raw i)):v = i:=by cases r; rfl
theorem Rep.tup_inv {ts:List T} (r:Rep K O H v (.tup ts)):∃ a xs,v = .ref a∧H a = some (.tup xs)∧Reps K O H xs ts:=by
 cases r with
 | tup h r => exact ⟨_,_,rfl,h,r⟩
theorem Rep.lst_inv {ts:List T} (r:Rep K O H v (.lst ts)):∃ a xs,v = .ref a∧H a = some (.lst xs)∧O a = none∧Reps K O H xs ts:=by
 cases r with
 | lst h o r => exact ⟨_,_,rfl,h,o,r⟩
theorem Reps.cons_inv {vs:List V} {t:T} {ts:List T} (r:Reps K O H vs (t :: ts)):∃ v vs',vs = v :: vs'∧Rep K O H v t∧Reps K O H vs' ts:=by
 cases r with
 | cons h r => exact ⟨_,_,rfl,h,r⟩
theorem Reps.nil_inv {vs:List V} (r:Reps K O H vs []):vs = []:=by cases r; rfl
theorem Reps.one_inv {vs:List V} {t:T} (r:Reps K O H vs [t]):∃ v,vs = [v]∧Rep K O H v t:=by
 obtain ⟨v,vs',rfl,h,r⟩:=r.cons_inv
 cases r.nil_inv
 exact ⟨v,rfl,h⟩
theorem Reps.two_inv {vs:List V} {t u:T} (r:Reps K O H vs [t,u]):∃ v w,vs = [v,w]∧Rep K O H v t∧Rep K O H w u:=by
 obtain ⟨v,vs',rfl,h,r⟩:=r.cons_inv
 obtain ⟨w,rfl,h2⟩:=r.one_inv
 exact ⟨v,w,rfl,h,h2⟩
theorem Reps.ints:∀ {vs:List V} {ns:List Int},Reps K O H vs (ns.map T.int)→vs = ns.map V.int
 | _,[],r => r.nil_inv
 | _,n :: ns,r => by
  obtain ⟨v,vs',rfl,h,r⟩:=Reps.cons_inv r
  rw [h.int_inv,Reps.ints r]
  rfl
end
section
variable {Z:Zx} {ρ:List (Option T)} {O:AJ} {e a b c:Expr} {es:List Expr} {Φ Φ':BM} {pos:Pos} {t ta tb:T} {ts:List T} {K:PySem.W.Frag} {i j:Int}
theorem FS {g:Int→Int→Int}:RP K (OQ fun i j => .int (g i j)) (.int i) (.int j) O (.int (g i j)):=fun Φ p H v w Q ok r1 r2 q => ⟨i,j,r1.int_inv,r2.int_inv,q _ H _ O p (.refl ok) (.int _)⟩
theorem EO {g:Int→Int→Bool}:RP K (OQ fun i j => .bl (g i j)) (.int i) (.int j) O (.bl (g i j)):=fun Φ p H v w Q ok r1 r2 q => ⟨i,j,r1.int_inv,r2.int_inv,q _ H _ O p (.refl ok) (.bl _)⟩
theorem NH {C:Int→Int→Prop} {g:Int→Int→Int} (hc:C i j):RP K (rI C fun i j => .int (g i j)) (.int i) (.int j) O (.int (g i j)):=fun Φ p H v w Q ok r1 r2 q => ⟨i,j,r1.int_inv,r2.int_inv,hc,q _ H _ O p (.refl ok) (.int _)⟩
theorem CI (ha:ET Z ρ O a (.int i)) (hb:ET Z ρ O b (.int j)):ET Z ρ O (.BinOp a .Add b pos) (.int (i + j)):=FR Do FS ha hb
theorem FT (ha:ET Z ρ O a (.int i)) (hb:ET Z ρ O b (.int j)):ET Z ρ O (.BinOp a .Sub b pos) (.int (i - j)):=FR Qu FS ha hb
theorem NI (ha:ET Z ρ O a (.int i)) (hb:ET Z ρ O b (.int j)) (h:CMul i j):ET Z ρ O (.BinOp a .Mult b pos) (.int (i * j)):=FR Qv (NH h) ha hb
theorem HQ (ha:ET Z ρ O a (.int i)) (hb:ET Z ρ O b (.int j)) (h:Sq i j):ET Z ρ O (.BinOp a .FloorDiv b pos) (.int (i / j)):=FR OZ (NH h) ha hb
theorem Dy (ha:ET Z ρ O a (.int i)) (hb:ET Z ρ O b (.int j)) (h:0 < j):ET Z ρ O (.BinOp a .Mod b pos) (.int (i % j)):=FR MM (NH h) ha hb
theorem NJ (ha:ET Z ρ O a (.int i)) (hb:ET Z ρ O b (.int j)) (h:Sr i j):ET Z ρ O (.BinOp a .Pow b pos) (.int (i ^ j.toNat)):=FR Qw (NH h) ha hb
theorem QN (ha:ET Z ρ O a (.int i)) (hb:ET Z ρ O b (.int j)):ET Z ρ O (.Compare a [.Lt] [b] pos) (.bl (decide (i < j))):=Dx KH (Ak _) EO ha hb
theorem TZ (ha:ET Z ρ O a (.int i)) (hb:ET Z ρ O b (.int j)):ET Z ρ O (.Compare a [.GtE] [b] pos) (.bl (decide (j≤i))):=Dx Sv (Ak _) EO ha hb
theorem FU:RP K Um (.int i) (.int j) O (.bl (decide (i = j))):=fun Φ p H v w Q ok r1 r2 q => by
 cases r1.int_inv; cases r2.int_inv
 refine ⟨rfl,?_⟩
 have:decide (V.int i = V.int j) = decide (i = j):=by simp
 rw [this]
 exact q _ H _ O p (.refl ok) (.bl _)
theorem NK:RP K UR (.int i) (.int j) O (.bl (!decide (i = j))):=fun Φ p H v w Q ok r1 r2 q => by
 cases r1.int_inv; cases r2.int_inv
 refine ⟨rfl,?_⟩
 have:decide (V.int i = V.int j) = decide (i = j):=by simp
 rw [this]
 exact q _ H _ O p (.refl ok) (.bl _)
theorem Rc {x y:Bool}:RP K UR (.bl x) (.bl y) O (.bl (!(x == y))):=fun Φ p H v w Q ok r1 r2 q => by
 cases r1.bl_inv; cases r2.bl_inv
 refine ⟨rfl,?_⟩
 have:decide (V.bl x = V.bl y) = (x == y):=JF
 rw [this]
 exact q _ H _ O p (.refl ok) (.bl _)
theorem Re (ha:ET Z ρ O a (.int i)) (hb:ET Z ρ O b (.int j)):ET Z ρ O (.Compare a [.Eq] [b] pos) (.bl (decide (i = j))):=Dx Fv (Ak _) FU ha hb
theorem Rf (ha:ET Z ρ O a (.int i)) (hb:ET Z ρ O b (.int j)):ET Z ρ O (.Compare a [.NotEq] [b] pos) (.bl (!decide (i = j))):=Dx Hy (Ak _) NK ha hb
theorem Ta {op:UnaryOp} {g:Int→Int} (ho:UP Z.X (unaryOp op) (rU fun i => .int (g i))) (h:ET Z ρ O a (.int i)):ET Z ρ O (.UnaryOp op a pos) (.int (g i)):=fun Φ p =>
 PE.weak (QC ho Aw) fun σ H Q q => ⟨O,_,h (fun t O' => t = .int i∧O' = O) ⟨rfl,rfl⟩,q.1,fun v H1 t O1 ⟨e1,e2⟩ f r => by
  subst e1; subst e2
  exact ⟨i,r.int_inv,q.2 _ H1 _ _ p f (.int _)⟩⟩
theorem HR (h:ET Z ρ O a (.int i)):ET Z ρ O (.UnaryOp .USub a pos) (.int (-i)):=Ta MN h
theorem NM {op op':CmpOp} {r r':R2} {tc:T} {x y:Bool} (ho:Cb Z.X (compareOp op) r) (ho':Cb Z.X (compareOp op') r') (hp:RP Z.K r ta tb O (.bl x)) (hp':x = true→RP Z.K r' tb tc O (.bl y))
  (ha:ET Z ρ O a ta) (hb:ET Z ρ O b tb) (hc:x = true→ET Z ρ O c tc) (hm:lastMarks [op,op'] [b,c] = false:=by with_unfolding_all rfl):ET Z ρ O (.Compare a [op,op'] [b,c] pos) (.bl (x && y)):=fun Φ p =>
 by
 refine PE.weak (MQ ho ho' (Aw (ρ:=ρ)) (Aw (ρ:=ρ)) (Aw (ρ:=ρ)) hm) fun σ H Q q => ?_
 refine ⟨O,_,ha (fun t O' => t = ta∧O' = O) ⟨rfl,rfl⟩,q.1,?_⟩
 rintro v H1 _ _ ⟨rfl,rfl⟩ f1 r1
 refine ⟨_,_,hb (fun t O' => t = tb∧O' = _) ⟨rfl,rfl⟩,q.1.step f1,?_⟩
 rintro w H2 _ _ ⟨rfl,rfl⟩ f2 r2
 refine hp (fun t O' => t = .bl x∧O' = _) ⟨rfl,rfl⟩ H2 v w _ f2.ok (r1.kp f2.kp f1.ok) r2 ?_
 rintro z H3 _ _ ⟨rfl,rfl⟩ f3 r3
 refine ⟨x,r3.bl_inv,?_⟩
 cases x with
 | false => exact JL (q.2 _ H3 _ _ p (f1.trans (f2.trans f3)) (.bl _))
 | true =>
  refine IG ⟨_,_,hc rfl (fun t O' => t = tc∧O' = _) ⟨rfl,rfl⟩,q.1.step (f1.trans (f2.trans f3)),?_⟩
  rintro w' H4 _ _ ⟨rfl,rfl⟩ f4 r4
  exact hp' rfl _ p H4 w w' _ f4.ok (r2.kp (f3.trans f4).kp f2.ok) r4 (q.2.step (f1.trans (f2.trans (f3.trans f4))))
def TruT (O:AJ):T→Bool→Prop
 | .non,k => k = false
 | .bl b,k => k = b
 | .int i,k => k = (i != 0)
 | .str y,k => y.length≤sizeLine∧k = ((y.length:Int) != 0)
 | .tup ts,k => k = !ts.isEmpty
 | .lst ts,k => k = !ts.isEmpty
 | .frz ts,k => k = !ts.isEmpty
 | .dct,_ => False
 | .raw (.ref a),k => ∃ ts,O a = some ts∧k = !ts.isEmpty
 | .raw _,_ => False
theorem Reps.isEmpty {vs:List V} {ts:List T} {H:Hp} (r:Reps K O H vs ts):vs.isEmpty = ts.isEmpty:=by cases r <;> rfl
theorem TruT.v {H:Hp} {v:V} {k:Bool} (h:TruT O t k) (r:Rep K O H v t) (ok:OwnOk K O H):Qx K v H k:=by
 cases r with
 | non => exact h
 | bl => exact h
 | int => exact h
 | str => exact h
 | tup h1 r =>
  have h:k = !_:=h
  exact .inr (.inl ⟨_,.inl (.inl h1),by rw [h,r.isEmpty]⟩)
 | lst h1 o r =>
  have h:k = !_:=h
  exact .inl ⟨_,.inl (.inl h1),by rw [h,r.isEmpty]⟩
 | frz h1 r =>
  have h:k = !_:=h
  exact .inl ⟨_,.inl (.inr ⟨_,h1⟩),by rw [h,r.isEmpty]⟩
 | dct => exact h.elim
 | raw v =>
  cases v with
  | ref a =>
   obtain ⟨ts,e,h⟩:=h
   obtain ⟨xs,h1,r⟩:=ok a ts e
   exact .inl ⟨xs,.inl (.inl h1),by rw [h,r.isEmpty]⟩
  | _ => exact h.elim
theorem NN {Φ:Ht} (h:WE Z ρ O e fun t O' => ∃ k,TruT O' t k∧Φ k O') (he:∀ whole,isTrue e Z.X.env whole = (do let v ← whole; standAt e.pos; holding [v] (truthy v)):=by intro _; rfl):WT Z ρ O e Φ :=
 PT.weak (Hz Aw he) fun σ H Q q => ⟨O,_,h,q.1,fun v H1 t O1 ⟨k,tr,p⟩ f r => ⟨k,tr.v r f.ok,q.2 k H1 O1 p f⟩⟩
theorem NO {k:Bool} (h:ET Z ρ O e t) (tr:TruT O t k) (he:∀ whole,isTrue e Z.X.env whole = (do let v ← whole; standAt e.pos; holding [v] (truthy v)):=by intro _; rfl):EB Z ρ O e k:=fun Φ p => NN (h _ ⟨k,tr,p⟩) he
theorem Ci {k:Bool} (h:ET Z ρ O e (.bl k)) (he:∀ whole,isTrue e Z.X.env whole = (do let v ← whole; standAt e.pos; holding [v] (truthy v)):=by intro _; rfl):EB Z ρ O e k:=NO h rfl he
theorem HU {Φ:Ht} {op:CmpOp} {r:R2} (ho:Cb Z.X (compareOp op) r) (hm:behindInMarks op b = false) (h:WE Z ρ O a fun ta O1 => WE Z ρ O1 b fun tb O2 => RT Z.K r ta tb O2 fun t O3 => ∃ k,t = .bl k∧Φ k O3):WT Z ρ O (.Compare a [op] [b] pos) Φ :=
 PT.weak (Gw ho Aw Aw hm) fun σ H Q q => HP (Φ:=fun t O3 => ∃ k,t = .bl k∧Φ k O3) ⟨q.1,fun v H' t O' ⟨k,e,p⟩ f r => by
  subst e
  exact ⟨k,r.bl_inv,q.2 k H' O' p f⟩⟩ h
theorem CJ {op:CmpOp} {r:R2} {k:Bool} (ho:Cb Z.X (compareOp op) r) (hm:behindInMarks op b = false) (hp:RP Z.K r ta tb O (.bl k)) (ha:ET Z ρ O a ta) (hb:ET Z ρ O b tb):EB Z ρ O (.Compare a [op] [b] pos) k:=fun Φ p =>
 HU ho hm (ha _ (hb _ (hp _ ⟨k,rfl,p⟩)))
theorem Tc (ha:ET Z ρ O a (.int i)) (hb:ET Z ρ O b (.int j)):EB Z ρ O (.Compare a [.Lt] [b] pos) (decide (i < j)):=CJ KH (Ak _) EO ha hb
theorem Kc (ha:ET Z ρ O a (.int i)) (hb:ET Z ρ O b (.int j)):EB Z ρ O (.Compare a [.Gt] [b] pos) (decide (j < i)):=CJ Su (Ak _) EO ha hb
theorem Cj (ha:ET Z ρ O a (.int i)) (hb:ET Z ρ O b (.int j)):EB Z ρ O (.Compare a [.Eq] [b] pos) (decide (i = j)):=CJ Fv (Ak _) FU ha hb
theorem FV (ha:ET Z ρ O a (.int i)) (hb:ET Z ρ O b (.int j)):EB Z ρ O (.Compare a [.NotEq] [b] pos) (!decide (i = j)):=CJ Hy (Ak _) NK ha hb
theorem Rg {x y:Bool} (ha:ET Z ρ O a (.bl x)) (hb:ET Z ρ O b (.bl y)):EB Z ρ O (.Compare a [.NotEq] [b] pos) (!(x == y)):=CJ Hy (Ak _) Rc ha hb
theorem NP {op op':CmpOp} {r r':R2} {tc:T} {x y:Bool} (ho:Cb Z.X (compareOp op) r) (ho':Cb Z.X (compareOp op') r') (hp:RP Z.K r ta tb O (.bl x)) (hp':x = true→RP Z.K r' tb tc O (.bl y))
  (ha:ET Z ρ O a ta) (hb:ET Z ρ O b tb) (hc:x = true→ET Z ρ O c tc) (hm:lastMarks [op,op'] [b,c] = false:=by with_unfolding_all rfl):EB Z ρ O (.Compare a [op,op'] [b,c] pos) (x && y):=fun Φ p =>
 by
 refine PT.weak (MR ho ho' (Aw (ρ:=ρ)) (Aw (ρ:=ρ)) (Aw (ρ:=ρ)) hm) fun σ H Q q => ?_
 refine ⟨O,_,ha (fun t O' => t = ta∧O' = O) ⟨rfl,rfl⟩,q.1,?_⟩
 rintro v H1 _ _ ⟨rfl,rfl⟩ f1 r1
 refine ⟨_,_,hb (fun t O' => t = tb∧O' = _) ⟨rfl,rfl⟩,q.1.step f1,?_⟩
 rintro w H2 _ _ ⟨rfl,rfl⟩ f2 r2
 refine hp (fun t O' => t = .bl x∧O' = _) ⟨rfl,rfl⟩ H2 v w _ f2.ok (r1.kp f2.kp f1.ok) r2 ?_
 rintro z H3 _ _ ⟨rfl,rfl⟩ f3 r3
 refine ⟨x,r3.bl_inv,?_⟩
 cases x with
 | false => exact JL ⟨false,rfl,q.2 _ H3 _ p (f1.trans (f2.trans f3))⟩
 | true =>
  refine IG ⟨_,_,hc rfl (fun t O' => t = tc∧O' = _) ⟨rfl,rfl⟩,q.1.step (f1.trans (f2.trans f3)),?_⟩
  rintro w' H4 _ _ ⟨rfl,rfl⟩ f4 r4
  refine hp' rfl (fun t O' => t = .bl y∧O' = _) ⟨rfl,rfl⟩ H4 w w' _ f4.ok (r2.kp (f3.trans f4).kp f2.ok) r4 ?_
  rintro z5 H5 _ _ ⟨rfl,rfl⟩ f5 r5
  exact ⟨y,r5.bl_inv,q.2 _ H5 _ p (f1.trans (f2.trans (f3.trans (f4.trans f5))))⟩
theorem PJ {k:Int} (ha:ET Z ρ O a (.int i)) (hb:ET Z ρ O b (.int j)) (hc:ET Z ρ O c (.int k)) (hm:lastMarks [CmpOp.LtE,.LtE] [b,c] = false:=by with_unfolding_all rfl):ET Z ρ O (.Compare a [.LtE,.LtE] [b,c] pos) (.bl (decide (i≤j) && decide (j≤k))):=NM MO MO EO (fun _ => EO) ha hb (fun _ => hc) hm
theorem Rh {Φ:Ht} (h:WT Z ρ O a fun k O' => Φ (!k) O'):WT Z ρ O (.UnaryOp .Not a pos) Φ:=PT.weak (MH h) fun σ H Q q => ⟨q.1,fun k H1 O1 p f => q.2 _ H1 O1 p f⟩
theorem Al {k:Bool} (h:EB Z ρ O a k):EB Z ρ O (.UnaryOp .Not a pos) (!k):=fun Φ p => Rh (h _ p)
def EW (Z:Zx) (ρ:List (Option T)) (O:AJ) (e:Expr) (b:Bool):Prop:=∀ Φ:Ht,Φ b O→WW Z ρ O e Φ
theorem EW.eb {k:Bool} (h:EW Z ρ O e k):EB Z ρ O e k:=fun Φ p => (h Φ p).pt
theorem PK {Φ:Ht} (h:WT Z ρ O a Φ):WW Z ρ O (.BoolOp .And [a] pos) Φ:=OU h
theorem Ri {Φ:Ht} (h:WT Z ρ O a Φ):WW Z ρ O (.BoolOp .Or [a] pos) Φ:=MG h
theorem Rj {Φ:Ht} (h:WT Z ρ O a fun k O1 => if k = true then WW Z ρ O1 (.BoolOp .And (b :: es) pos) Φ else Φ false O1):WW Z ρ O (.BoolOp .And (a :: b :: es) pos) Φ :=
 PW.weak (Qi h TX) fun σ H Q q => ⟨q.1,fun k H1 O1 p f => by
  cases k with
  | true => rw [if_pos rfl] at p ⊢; exact ⟨O1,_,p,q.1.step f,q.2.step f⟩
  | false => rw [if_neg Bool.false_ne_true] at p ⊢; exact q.2 _ H1 O1 p f⟩
theorem Td {Φ:Ht} (h:WT Z ρ O a fun k O1 => if k = true then Φ true O1 else WW Z ρ O1 (.BoolOp .Or (b :: es) pos) Φ):WW Z ρ O (.BoolOp .Or (a :: b :: es) pos) Φ :=
 PW.weak (Pz h TX) fun σ H Q q => ⟨q.1,fun k H1 O1 p f => by
  cases k with
  | true => rw [if_pos rfl] at p ⊢; exact q.2 _ H1 O1 p f
  | false => rw [if_neg Bool.false_ne_true] at p ⊢; exact ⟨O1,_,p,q.1.step f,q.2.step f⟩⟩
theorem DX {k:Bool} (h:EB Z ρ O a k):EW Z ρ O (.BoolOp .And [a] pos) k:=fun Φ p => PK (h _ p)
theorem CK {k:Bool} (h:EB Z ρ O a k):EW Z ρ O (.BoolOp .Or [a] pos) k:=fun Φ p => Ri (h _ p)
theorem FW {x y:Bool} (ha:EB Z ρ O a x) (hb:x = true→EW Z ρ O (.BoolOp .And (b :: es) pos) y):EW Z ρ O (.BoolOp .And (a :: b :: es) pos) (x && y):=fun Φ p => Rj (ha _ (by
 cases x with
 | true => rw [if_pos rfl]; exact hb rfl _ p
 | false => rw [if_neg Bool.false_ne_true]; exact p))
theorem BS {x y:Bool} (ha:EB Z ρ O a x) (hb:x = false→EW Z ρ O (.BoolOp .Or (b :: es) pos) y):EW Z ρ O (.BoolOp .Or (a :: b :: es) pos) (x || y):=fun Φ p => Td (ha _ (by
 cases x with
 | true => rw [if_pos rfl]; exact p
 | false => rw [if_neg Bool.false_ne_true]; exact hb rfl _ p))
theorem Dz {op} (h:ET Z ρ O a t):ET Z ρ O (.BoolOp op [a] pos) t:=fun Φ p => Qj (h Φ p)
theorem EC {x y:Bool} (ha:ET Z ρ O a (.bl x)) (hb:x = true→ET Z ρ O (.BoolOp .And (b :: es) pos) (.bl y)):ET Z ρ O (.BoolOp .And (a :: b :: es) pos) (.bl (x && y)):=fun Φ p =>
 by
 refine PE.weak (Qk (Aw (ρ:=ρ)) (Aw (ρ:=ρ))) fun σ H Q q => ?_
 refine ⟨O,_,ha (fun t O' => t = .bl x∧O' = O) ⟨rfl,rfl⟩,q.1,?_⟩
 rintro v H1 _ _ ⟨rfl,rfl⟩ f r
 refine ⟨x,r.bl_inv,?_⟩
 cases x with
 | true => exact IG ⟨_,_,hb rfl _ p,q.1.step f,q.2.step f⟩
 | false => exact JL (q.2 _ H1 _ _ p f (.bl _))
theorem QO {x y:Bool} (ha:ET Z ρ O a (.bl x)) (hb:x = false→ET Z ρ O (.BoolOp .Or (b :: es) pos) (.bl y)):ET Z ρ O (.BoolOp .Or (a :: b :: es) pos) (.bl (x || y)):=fun Φ p =>
 by
 refine PE.weak (Sd (Aw (ρ:=ρ)) (Aw (ρ:=ρ))) fun σ H Q q => ?_
 refine ⟨O,_,ha (fun t O' => t = .bl x∧O' = O) ⟨rfl,rfl⟩,q.1,?_⟩
 rintro v H1 _ _ ⟨rfl,rfl⟩ f r
 refine ⟨x,r.bl_inv,?_⟩
 cases x with
 | true => exact IG (q.2 _ H1 _ _ p f (.bl _))
 | false => exact JL ⟨_,_,hb rfl _ p,q.1.step f,q.2.step f⟩
theorem NQ {x:Bool} (ha:ET Z ρ O a (.bl x)):ET Z ρ O (.UnaryOp .Not a pos) (.bl (!x)):=fun Φ p =>
 PE.weak (Ql Aw) fun σ H Q q => ⟨O,_,ha (fun t O' => t = .bl x∧O' = O) ⟨rfl,rfl⟩,q.1,fun v H1 t O1 ⟨e1,e2⟩ f r => by
  subst e1; subst e2
  exact ⟨x,r.bl_inv,q.2 _ H1 _ _ p f (.bl _)⟩⟩
theorem Reps.atI {vs:List V} {H:Hp} (r:Reps K O H vs ts) (e:L2.atI ts i = some t):∃ v,L2.atI vs i = some v∧Rep K O H v t:=by
 unfold L2.atI at e ⊢
 rw [r.length]
 cases hx:Og ts.length i with
 | none => rw [hx] at e; cases e
 | some j => rw [hx] at e; exact r.get e
theorem Rk (e:atI ts i = some t):RP K (TB K) (.tup ts) (.int i) O t:=fun Φ p H v w Q ok r1 r2 q => by
 obtain ⟨a,xs,rfl,h1,r1⟩:=r1.tup_inv
 obtain ⟨x,ex,rx⟩:=r1.atI e
 exact ⟨a,xs,i,x,rfl,r2.int_inv,.inl (.inl h1),ex,q _ H _ O p (.refl ok) rx⟩
theorem Jj (e:atI ts i = some t):RP K (RA K) (.lst ts) (.int i) O t:=fun Φ p H v w Q ok r1 r2 q => by
 obtain ⟨a,xs,rfl,h1,o1,r1⟩:=r1.lst_inv
 obtain ⟨x,ex,rx⟩:=r1.atI e
 exact ⟨a,xs,i,x,rfl,r2.int_inv,.inl (.inl h1),ex,q _ H _ O p (.refl ok) rx⟩
theorem Rm {a:Addr} (ha:O a = some ts) (e:atI ts i = some t):RP K (RA K) (.raw (.ref a)) (.int i) O t:=fun Φ p H v w Q ok r1 r2 q => by
 cases r1.raw_inv
 obtain ⟨xs,h1,r1⟩:=ok a ts ha
 obtain ⟨x,ex,rx⟩:=r1.atI e
 exact ⟨a,xs,i,x,rfl,r2.int_inv,.inl (.inl h1),ex,q _ H _ O p (.refl ok) rx⟩
theorem BP (ha:ET Z ρ O a (.tup ts)) (hb:ET Z ρ O b (.int i)) (e:atI ts i = some t:=by rfl) (hs:Cu b:=by exact fun _ _ => rfl):ET Z ρ O (.Subscript a b pos) t:=NG RB hs (Rk e) ha hb
theorem NR (ha:ET Z ρ O a (.lst ts)) (hb:ET Z ρ O b (.int i)) (e:atI ts i = some t:=by rfl) (hs:Cu b:=by exact fun _ _ => rfl):ET Z ρ O (.Subscript a b pos) t:=NG Cv hs (Jj e) ha hb
theorem FX {p:Addr} (hp:O p = some ts) (ha:ET Z ρ O a (.raw (.ref p))) (hb:ET Z ρ O b (.int i)) (e:atI ts i = some t:=by rfl) (hs:Cu b:=by exact fun _ _ => rfl):ET Z ρ O (.Subscript a b pos) t:=NG Cv hs (Rm hp e) ha hb
end
abbrev DI:=List T→AJ→BM→(Value→AJ→Prop)→Prop
def EY (K:PySem.W.Frag) (s:DI):Sp:=fun vs H Q E => ∃ ts O Φ Ξ,Reps K O H vs ts∧OwnOk K O H∧s ts O Φ Ξ∧Acc K O H Φ Q∧∀ cls O' H',Ξ cls O'→Frm K O H O' H'→E cls none H'
structure FnT (P:Program) (w:World) (K:PySem.W.Frag) (mg:Str→Option Value) (base:Heap) (x:Str) (k:Nat) (ps:List Str) (s:DI):Prop where
 ex:∃ f fd,FnOk P w K mg base (CXe P w) k f fd ps (EY K s)∧mg x = some (.ref f)∧PySem.W.keepIn K (.ref f) = true∧Binds K fd ps []
def Te (φ:List T→T→Prop):DI:=fun ts O Φ _ => ∃ t,φ ts t∧Φ t O
section
variable {Z:Zx} {ρ:List (Option T)} {O:AJ} {e a b c:Expr} {es:List Expr} {Φ Φ':BM} {pos p:Pos} {t ta tb:T} {ts:List T} {K:PySem.W.Frag} {i j:Int} {x:Str}
theorem Ad {k:Nat} {ps:List Str} {s:DI} (G:FnT Z.X.prog Z.X.w Z.X.K Z.X.mg Z.X.base x k ps s) (hr:Room k Z.X.A) (xf:XFly Z.X Z.W) (h:WA Z ρ O (e :: es) fun ts O1 => s ts O1 Φ Z.Xi) (hg:Gl Z.X x:=by rfl)
  (hdb:(x == ("__debug__" : Str)) = false:=by decide) (he:starEach (e :: es) Z.X.env = (false,eval e Z.X.env) :: starEach es Z.X.env:=by rfl) (hpl:(backTo pos (starEach es Z.X.env)).any (·.1) = false:=by rfl):WE Z ρ O (.Call (.Name x p) (e :: es) [] pos) Φ:=by
 obtain ⟨f,fd,F,hm,hk,hb⟩:=G.ex
 refine PE.weak (DR xf F hr hg hm hk hb (EX (ρ:=ρ)) hdb he hpl) fun σ H Q q => ?_
 exact ⟨O,_,h,q.1,fun vs H1 ts O1 p f r => ⟨ts,O1,Φ,Z.Xi,r,f.ok,p,q.2.step f,fun cls O' H' x f' => ⟨rfl,O',x,(q.1.fr.trans f).trans f'⟩⟩⟩
theorem HV {k:Nat} {ps:List Str} {s:DI} (G:FnT Z.X.prog Z.X.w Z.X.K Z.X.mg Z.X.base x k ps s) (hr:Room k Z.X.A) (xf:XFly Z.X Z.W) (h:EA Z ρ O (e :: es) ts) (hs:∀ Φ:BM,Φ t O→s ts O Φ Z.Xi) (hg:Gl Z.X x:=by rfl)
  (hdb:(x == ("__debug__" : Str)) = false:=by decide) (he:starEach (e :: es) Z.X.env = (false,eval e Z.X.env) :: starEach es Z.X.env:=by rfl) (hpl:(backTo pos (starEach es Z.X.env)).any (·.1) = false:=by rfl):ET Z ρ O (.Call (.Name x p) (e :: es) [] pos) t :=
 fun Φ p => Ad G hr xf (h _ (hs Φ p)) hg hdb he hpl
theorem Ib {k:Nat} {ps:List Str} {φ:List T→T→Prop} (G:FnT Z.X.prog Z.X.w Z.X.K Z.X.mg Z.X.base x k ps (Te φ)) (hr:Room k Z.X.A) (xf:XFly Z.X Z.W) (h:EA Z ρ O (e :: es) ts) (hs:φ ts t) (hg:Gl Z.X x:=by rfl)
  (hdb:(x == ("__debug__" : Str)) = false:=by decide) (he:starEach (e :: es) Z.X.env = (false,eval e Z.X.env) :: starEach es Z.X.env:=by rfl) (hpl:(backTo pos (starEach es Z.X.env)).any (·.1) = false:=by rfl):ET Z ρ O (.Call (.Name x p) (e :: es) [] pos) t :=
 HV G hr xf h (fun Φ p => ⟨t,hs,p⟩) hg hdb he hpl
def CT (K:PySem.W.Frag) (r:List V→Hp→VK→Prop) (ts:List T) (O:AJ) (Φ:BM):Prop:=∀ H vs Q,OwnOk K O H→Reps K O H vs ts→Acc K O H Φ Q→r vs H Q
def CP (K:PySem.W.Frag) (r:List V→Hp→VK→Prop) (ts:List T) (O:AJ) (t:T):Prop:=∀ Φ:BM,Φ t O→CT K r ts O Φ
theorem NS {id:String} {r:List V→Hp→VK→Prop} (hc:Ay Z.X (.builtin id) r) (hm:Z.X.mg x = none) (hv:bootBuiltins x = some (.builtin id)) (h:WA Z ρ O (e :: es) fun ts O1 => CT Z.K r ts O1 Φ) (hg:Gl Z.X x:=by rfl) (hn:x≠"__name__":=by decide) (hdb:(x == ("__debug__" : Str)) = false:=by decide)
  (he:starEach (e :: es) Z.X.env = (false,eval e Z.X.env) :: starEach es Z.X.env:=by rfl) (hpl:(backTo pos (starEach es Z.X.env)).any (·.1) = false:=by rfl):WE Z ρ O (.Call (.Name x p) (e :: es) [] pos) Φ :=
 PE.weak (An hc hg hm hv (EX (ρ:=ρ)) hn hdb he hpl) fun σ H Q q => ⟨O,_,h,q.1,fun vs H1 ts O1 p f r => p H1 vs Q f.ok r (q.2.step f)⟩
theorem Cy {id:String} {r:List V→Hp→VK→Prop} (hc:Ay Z.X (.type id) r) (hm:Z.X.mg x = none) (hv:bootBuiltins x = some (.type id)) (h:WA Z ρ O (e :: es) fun ts O1 => CT Z.K r ts O1 Φ) (hg:Gl Z.X x:=by rfl) (hn:x≠"__name__":=by decide) (hdb:(x == ("__debug__" : Str)) = false:=by decide)
  (he:starEach (e :: es) Z.X.env = (false,eval e Z.X.env) :: starEach es Z.X.env:=by rfl) (hpl:(backTo pos (starEach es Z.X.env)).any (·.1) = false:=by rfl):WE Z ρ O (.Call (.Name x p) (e :: es) [] pos) Φ :=
 PE.weak (Cr hc hg hm hv (EX (ρ:=ρ)) hn hdb he hpl) fun σ H Q q => ⟨O,_,h,q.1,fun vs H1 ts O1 p f r => p H1 vs Q f.ok r (q.2.step f)⟩
theorem BA {id:String} {r:List V→Hp→VK→Prop} (hc:Ay Z.X (.builtin id) r) (hm:Z.X.mg x = none) (hv:bootBuiltins x = some (.builtin id)) (h:EA Z ρ O (e :: es) ts) (hp:CP Z.K r ts O t) (hg:Gl Z.X x:=by rfl) (hn:x≠"__name__":=by decide) (hdb:(x == ("__debug__" : Str)) = false:=by decide)
  (he:starEach (e :: es) Z.X.env = (false,eval e Z.X.env) :: starEach es Z.X.env:=by rfl) (hpl:(backTo pos (starEach es Z.X.env)).any (·.1) = false:=by rfl):ET Z ρ O (.Call (.Name x p) (e :: es) [] pos) t:=fun Φ q => NS hc hm hv (h _ (hp Φ q)) hg hn hdb he hpl
theorem GS {id:String} {r:List V→Hp→VK→Prop} (hc:Ay Z.X (.type id) r) (hm:Z.X.mg x = none) (hv:bootBuiltins x = some (.type id)) (h:EA Z ρ O (e :: es) ts) (hp:CP Z.K r ts O t) (hg:Gl Z.X x:=by rfl) (hn:x≠"__name__":=by decide) (hdb:(x == ("__debug__" : Str)) = false:=by decide)
  (he:starEach (e :: es) Z.X.env = (false,eval e Z.X.env) :: starEach es Z.X.env:=by rfl) (hpl:(backTo pos (starEach es Z.X.env)).any (·.1) = false:=by rfl):ET Z ρ O (.Call (.Name x p) (e :: es) [] pos) t:=fun Φ q => Cy hc hm hv (h _ (hp Φ q)) hg hn hdb he hpl
def MT (K:PySem.W.Frag) (ty:String) (r:V→List V→Hp→VK→Prop) (t:T) (ts:List T) (O:AJ) (Φ:BM):Prop:=∀ H v vs Q,OwnOk K O H→Rep K O H v t→Reps K O H vs ts→Acc K O H Φ Q→r v vs H Q
def VU (K:PySem.W.Frag) (ty:String) (O:AJ) (t:T):Prop:=∀ H v,OwnOk K O H→Rep K O H v t→Us K ty v H
theorem QP {o:Expr} {name:Str} {apos cpos:Pos} {ty id:String} {r:V→List V→Hp→VK→Prop} (pa:PlainAttrs ty) (slot:Slot ty name id) (hty:typeOf (.builtin id) = pure (.type "method_descriptor")) (hm:VS Z.X id r)
  (h:WE Z ρ O o fun t O1 => VU Z.K ty O1 t∧WA Z ρ O1 (e :: es) fun ts O2 => MT Z.K ty r t ts O2 Φ)
  (hbase:attributeBase o name Z.X.env (eval o Z.X.env) = eval o Z.X.env:=by rfl)
  (hfew:((backTo cpos (starEach (e :: es) Z.X.env)).all (fun x => !x.1) && (backToKw cpos (keywordEach [] Z.X.env)).all (fun x => x.1.isSome)
   && decide ((e :: es).length + ([]:List Keyword).length + (if ([]:List Keyword).isEmpty then 0 else 1) < 30)) = true:=by rfl)
  (hline:(apos.endLine == cpos.line) = true:=by rfl) (hs:starEach (e :: es) Z.X.env = (false,eval e Z.X.env) :: starEach es Z.X.env:=by rfl) (hplain:(backTo cpos (starEach es Z.X.env)).any (·.1) = false:=by rfl):WE Z ρ O (.Call (.Attribute o name apos) (e :: es) [] cpos) Φ :=
 PE.weak (MW pa slot hty hm (Aw (ρ:=ρ)) (EX (ρ:=ρ)) hbase hfew hline hs hplain) fun σ H Q q => ⟨O,_,h,q.1,fun v H1 t O1 ⟨ty,p⟩ f1 r1 => ⟨ty H1 v f1.ok r1,O1,_,p,q.1.step f1,fun vs H2 ts O2 p2 f2 r2 =>
  p2 H2 v vs Q f2.ok (r1.kp f2.kp f1.ok) r2 (q.2.step (f1.trans f2))⟩⟩
theorem Kd {a:Addr} (ha:O a = some ts):VU K "list" O (.raw (.ref a)):=fun H v ok r => by
 cases r.raw_inv
 obtain ⟨xs,h,_⟩:=ok a ts ha
 exact .inl ⟨rfl,xs,.inl (.inl h)⟩
theorem Jk {a:Addr} {u:T} (ha:O a = some ts) (hl:ts.length < sizeLine) (p:Φ .non (AV O a (ts ++ [u]))):MT K "list" KL (.raw (.ref a)) [u] O Φ:=fun H v vs Q ok r1 r2 q => by
 cases r1.raw_inv
 obtain ⟨w,rfl,r3⟩:=r2.one_inv
 obtain ⟨xs,h,r⟩:=ok a ts ha
 exact ⟨a,xs,w,rfl,rfl,h,by rw [r.length]; exact hl,q _ _ _ _ p (.put ok ha (r.append (.one r3))) .non⟩
theorem BI {o:Expr} {apos cpos:Pos} (h:WE Z ρ O o fun t O1 => ∃ a,t = .raw (.ref a)∧(∃ ts,O1 a = some ts)∧WE Z ρ O1 e fun u O2 => ∃ ts,O2 a = some ts∧ts.length < sizeLine∧Φ .non (AV O2 a (ts ++ [u])))
  (hbase:attributeBase o "append" Z.X.env (eval o Z.X.env) = eval o Z.X.env:=by rfl)
  (hfew:((backTo cpos (starEach [e] Z.X.env)).all (fun x => !x.1) && (backToKw cpos (keywordEach [] Z.X.env)).all (fun x => x.1.isSome)
   && decide ([e].length + ([]:List Keyword).length + (if ([]:List Keyword).isEmpty then 0 else 1) < 30)) = true:=by rfl)
  (hline:(apos.endLine == cpos.line) = true:=by rfl) (hs:starEach [e] Z.X.env = (false,eval e Z.X.env) :: starEach [] Z.X.env:=by rfl) (hplain:(backTo cpos (starEach [] Z.X.env)).any (·.1) = false:=by rfl):WE Z ρ O (.Call (.Attribute o "append" apos) [e] [] cpos) Φ:=by
 refine QP PySem.F.plainAttrs_list PySem.F.slot_list_append PySem.F.type_list_append GE (Cw h ?_) hbase hfew hline hs hplain
 rintro t O1 ⟨a,rfl,⟨ts,hts⟩,w⟩
 refine ⟨Kd hts,BL (Cw w ?_) hs⟩
 rintro u O2 ⟨us,h1,h2,p⟩
 exact AX (Jk h1 h2 p)
end
abbrev GT:=List (Option T)→AJ→Prop
structure Es where
 nx:GT
 rt:BM
 bk:GT:=fun _ _ => False
 ct:GT:=fun _ _ => False
def AccN (Z:Zx) (O:AJ) (H:Hp) (N:GT) (D:St→Hp→Prop):Prop:=∀ ρ' O' σ' H',N ρ' O'→Asr Z ρ' O' σ' H'→Kp O H O' H'→D σ' H'
structure AccS (Z:Zx) (O:AJ) (H:Hp) (Ψ:Es) (D:Ends):Prop where
 nx:AccN Z O H Ψ.nx D.nx
 rt:∀ v H' t O',Ψ.rt t O'→Frm Z.K Z.Oe Z.He O' H'→Rep Z.K O' H' v t→D.rt v H'
 bk:AccN Z O H Ψ.bk D.bk
 ct:AccN Z O H Ψ.ct D.ct
def tS (Z:Zx) (ρ:List (Option T)) (O:AJ) (Ψ:Es):TS:=fun D σ H => Asr Z ρ O σ H∧AccS Z O H Ψ D
def WS (Z:Zx) (ρ:List (Option T)) (O:AJ) (s:Stmt) (Ψ:Es):Prop:=PS Z.X s (tS Z ρ O Ψ)
def Ef (Z:Zx) (ρ:List (Option T)) (O:AJ) (s:List Stmt) (Ψ:Es):Prop:=PSs Z.X s (tS Z ρ O Ψ)
def Vn (Z:Zx) (ss:List Stmt):TS:=fun D σ H => ∃ ρ O Ψ,Ef Z ρ O ss Ψ∧tS Z ρ O Ψ D σ H
theorem Ic {Z:Zx} {ss:List Stmt}:PSs Z.X ss (Vn Z ss):=fun pins s σ H D I ⟨_,_,_,w,q⟩ => w pins s σ H D I q
section
variable {Z:Zx} {ρ:List (Option T)} {O O1:AJ} {e a b c:Expr} {es:List Expr} {Ψ:Es} {pos p:Pos} {t ta tb:T} {ts:List T} {i j:Nat} {x:Str} {s:Stmt} {ss:List Stmt} {H H1:Hp} {D:Ends}
theorem AccN.step {N:GT} {D:St→Hp→Prop} (h:AccN Z O H N D) (k:Kp O H O1 H1):AccN Z O1 H1 N D:=fun ρ' O' σ' H' n a k' => h ρ' O' σ' H' n a (k.trans k')
theorem AccS.step (h:AccS Z O H Ψ D) (k:Kp O H O1 H1):AccS Z O1 H1 Ψ D:=⟨h.nx.step k,h.rt,h.bk.step k,h.ct.step k⟩
theorem Ap (h:Ψ.nx ρ O):Ef Z ρ O [] Ψ:=PSs.weak Gr fun D σ H q => q.2.nx ρ O σ H h q.1 .refl
theorem AH (h:WS Z ρ O s { Ψ with nx:=fun ρ' O' => Ef Z ρ' O' ss Ψ }):Ef Z ρ O (s :: ss) Ψ :=
 PSs.weak (Cc h Ic) fun D σ H q => ⟨q.1,fun ρ' O' σ' H' w a k => ⟨ρ',O',Ψ,w,a,q.2.step k⟩,q.2.rt,q.2.bk,q.2.ct⟩
theorem AN (h:WS Z ρ O s Ψ):Ef Z ρ O [s] Ψ:=PSs.weak (Cq h) fun _ _ _ q => q
theorem Ke {Ψ':Es} (h:WS Z ρ O s Ψ) (n:∀ ρ' O',Ψ.nx ρ' O'→Ψ'.nx ρ' O') (r:∀ t O',Ψ.rt t O'→Ψ'.rt t O') (bk:∀ ρ' O',Ψ.bk ρ' O'→Ψ'.bk ρ' O') (ct:∀ ρ' O',Ψ.ct ρ' O'→Ψ'.ct ρ' O'):WS Z ρ O s Ψ' :=
 PS.weak h fun D σ H q => ⟨q.1,fun ρ' O' σ' H' w => q.2.nx ρ' O' σ' H' (n ρ' O' w),fun v H' t O' w => q.2.rt v H' t O' (r t O' w),fun ρ' O' σ' H' w => q.2.bk ρ' O' σ' H' (bk ρ' O' w),fun ρ' O' σ' H' w => q.2.ct ρ' O' σ' H' (ct ρ' O' w)⟩
theorem FY {p:Addr} {n:Nat} (hp:O p = some ts) (he:Z.Oe p = none) (hn:ρ[n]? = some (some (.raw (.ref p)))) (h:Ef Z (ρ.set n (some (.lst ts))) (AW O p) ss Ψ):Ef Z ρ O ss Ψ:=PSs.weak h fun D σ H q => by
 refine ⟨⟨?_,⟨q.1.fr.kp.trans BK,fun b us e => ?_,q.1.ok.drop⟩⟩,q.2.step BK⟩
 ·have r1:=q.1.rl.kp (BK (a:=p)) q.1.ok
  obtain ⟨v,e1,e2⟩:=q.1.rl.2 n _ hn
  cases e2.raw_inv
  have r2:=r1.set (i:=n) (q.1.ok.rep hp)
  have:σ.set n (some (.ref p)) = σ:=by
   apply List.ext_getElem?
   intro m
   by_cases hm:m = n
   ·subst hm
    have hl:m < σ.length:=(List.getElem?_eq_some_iff.mp e1).1
    rw [List.getElem?_set_self hl,e1]
   ·rw [List.getElem?_set_ne (Ne.symm hm)]
  rw [this] at r2
  exact r2
 ·obtain ⟨us',e'⟩:=q.1.fr.own b us e
  have:b≠p:=fun z => by rw [z,he] at e; cases e
  exact ⟨us',by rw [Bd this]; exact e'⟩
theorem AY (h:WE Z ρ O e Ψ.rt):WS Z ρ O (.Return (some e) pos) Ψ:=PS.weak (Dn h) fun D σ H q => ⟨q.1,fun v H' t O' p f r => q.2.rt v H' t O' p (q.1.fr.trans f) r⟩
theorem BV (h:WE Z ρ O e fun _ O' => Ψ.nx ρ O') (hs:swapsWith e none pos.line Z.X.env = pure false:=by rfl):WS Z ρ O (.Expr e pos) Ψ :=
 PS.weak (OV h hs) fun D σ H q => ⟨q.1,fun v H' t O' p f r => q.2.nx ρ O' σ H' p (q.1.step f) f.kp⟩
theorem AS (i:Nat) (h:WE Z ρ O e fun t O' => Ψ.nx (ρ.set i (some t)) O') (hN:Z.X.N.Nodup) {pos':Pos} (hi:Z.X.N[i]? = some x:=by rfl) (hx:OP Z.X.env.scope x:=by first | exact Or.inl rfl | exact Or.inr rfl) (hs:swapsWith e (some (.Name x pos')) pos.line Z.X.env = pure false:=by rfl)
  (hf:Z.X.fn x = true∨Z.X.env.scope.names.lookup x = some .local:=by first | exact .inl rfl | exact .inr rfl):WS Z ρ O (.Assign [.Name x pos'] e pos) Ψ :=
 PS.weak (JC hN hi hx h hs hf) fun D σ H q => ⟨q.1,fun v H' t O' p f r => q.2.nx _ O' _ H' p ⟨(q.1.step f).rl.set r,(q.1.step f).fr⟩ f.kp⟩
theorem QQ {ea eb:List Stmt} (h:WT Z ρ O c fun k O1 => if k = true then Ef Z ρ O1 ea Ψ else Ef Z ρ O1 eb Ψ):WS Z ρ O (.If c ea eb pos) Ψ :=
 PS.weak (MI h Ic Ic) fun D σ H q => ⟨q.1,fun k H1 O1 p f => by
  cases k with
  | true => rw [if_pos rfl] at p ⊢; exact ⟨ρ,O1,Ψ,p,q.1.step f,q.2.step f.kp⟩
  | false => rw [if_neg Bool.false_ne_true] at p ⊢; exact ⟨ρ,O1,Ψ,p,q.1.step f,q.2.step f.kp⟩⟩
theorem Am {ea eb:List Stmt} {k:Bool} (hc:EB Z ρ O c k) (h1:k = true→Ef Z ρ O ea Ψ) (h2:k = false→Ef Z ρ O eb Ψ):WS Z ρ O (.If c ea eb pos) Ψ:=QQ (hc _ (by
 cases k with
 | true => rw [if_pos rfl]; exact h1 rfl
 | false => rw [if_neg Bool.false_ne_true]; exact h2 rfl))
def tG (Z:Zx) (n:Nat) (ρ:List (Option T)) (O:AJ) (t:T) (ρ':List (Option T)):TG:=fun v σ H Q => Asr Z ρ O σ H∧Rep Z.K O H v t∧∀ σ',Asr Z ρ' O σ' H→(σ'.length = σ.length∧∀ j,n≤j→σ'[j]? = σ[j]?)→Q σ' H
def WG (Z:Zx) (n:Nat) (ρ:List (Option T)) (O:AJ) (tg:Expr) (t:T) (ρ':List (Option T)):Prop:=PG Z.X tg (tG Z n ρ O t ρ')
theorem PG.weak {X:Cx} {e:Expr} {t t':TG} (h:PG X e t) (w:∀ v σ H Q,t' v σ H Q→t v σ H Q):PG X e t':=fun pins s σ H v u Q I r q => h pins s σ H v u Q I r (w v σ H Q q)
def Vo (Z:Zx) (n:Nat) (tg:Expr):TG:=fun v σ H Q => ∃ ρ O t ρ',WG Z n ρ O tg t ρ'∧tG Z n ρ O t ρ' v σ H Q
theorem Tf {n:Nat} {tg:Expr}:PG Z.X tg (Vo Z n tg):=fun pins s σ H v u Q I r ⟨_,_,_,_,w,q⟩ => w pins s σ H v u Q I r q
theorem Ae (i:Nat) {n:Nat} (hN:Z.X.N.Nodup) (hn:i < n) (hi:Z.X.N[i]? = some x:=by rfl) (hx:OP Z.X.env.scope x:=by first | exact Or.inl rfl | exact Or.inr rfl)
  (hf:Z.X.fn x = true∨Z.X.env.scope.names.lookup x = some .local:=by first | exact .inl rfl | exact .inr rfl):WG Z n ρ O (.Name x pos) t (ρ.set i (some t)) :=
 PG.weak (Gu hN hi hx hf) fun v σ H Q q => q.2.2 _ ⟨q.1.rl.set q.2.1,q.1.fr⟩ ⟨by simp,fun j hj => by rw [List.getElem?_set_ne (by omega)]⟩
theorem Bo (i j:Nat) {n:Nat} {y:Str} {p1 p2:Pos} {k:Nat} (hc:Z.X.calm = true) (hN:Z.X.N.Nodup) (hni:i < n) (hnj:j < n) (hi:Z.X.N[i]? = some x:=by rfl) (hj:Z.X.N[j]? = some y:=by rfl) (hx:OP Z.X.env.scope x:=by first | exact Or.inl rfl | exact Or.inr rfl) (hy:OP Z.X.env.scope y:=by first | exact Or.inl rfl | exact Or.inr rfl)
  (hf:Z.X.fn x = true∨Z.X.env.scope.names.lookup x = some .local:=by first | exact .inl rfl | exact .inr rfl) (hf2:Z.X.fn y = true∨Z.X.env.scope.names.lookup y = some .local:=by first | exact .inl rfl | exact .inr rfl)
  (hs:(assignEach [.Name x p1,.Name y p2] Z.X.env).map (·.2) = assign (.Name x p1) Z.X.env :: (assignEach [.Name y p2] Z.X.env).map (·.2):=by rfl) (hs2:(assignEach [.Name y p2] Z.X.env).map (·.2) = assign (.Name y p2) Z.X.env :: (assignEach [] Z.X.env).map (·.2):=by rfl)
  (hl:(assignEach [.Name x p1,.Name y p2] Z.X.env).length = 2:=by rfl) (hst:(assignEach [.Name x p1,.Name y p2] Z.X.env).findIdx? (·.1) = none:=by rfl) :
  WG Z n ρ O (.Tuple [.Name x p1,.Name y p2] k pos) (.tup [ta,tb]) ((ρ.set i (some ta)).set j (some tb)) :=
 PG.weak (Qo hc (Hw (Gu hN hi hx hf) (Hw (Gu hN hj hy hf2) OW hs2) hs) hl hst) fun v σ H Q q => by
  obtain ⟨q1,q2,q3⟩:=q
  obtain ⟨a,xs,rfl,h1,r⟩:=q2.tup_inv
  obtain ⟨v,w,rfl,r1,r2⟩:=r.two_inv
  exact ⟨a,_,rfl,.inl (.inl h1),rfl,v,_,rfl,w,_,rfl,rfl,q3 _ ⟨(q1.rl.set r1).set r2,q1.fr⟩ ⟨by simp,fun m hm => by rw [List.getElem?_set_ne (by omega),List.getElem?_set_ne (by omega)]⟩⟩
theorem Jl {n:Nat} {tg:Expr} (h:WE Z ρ O e fun t O' => ∃ ρ',WG Z n ρ O' tg t ρ'∧Ψ.nx ρ' O') (hs:swapsWithSole [tg] e pos.line Z.X.env = pure false:=by rfl) (hw:swappedStores [tg] e Z.X.env = pure none:=by rfl)
  (h1:(assignEach [tg] Z.X.env).map (·.2) = [assign tg Z.X.env]:=by rfl):WS Z ρ O (.Assign [tg] e pos) Ψ :=
 PS.weak (MJ h (Tf (n:=n)) hs hw h1) fun D σ H q => ⟨q.1,fun v H' t O' ⟨ρ',wg,p⟩ f r => ⟨ρ,O',t,ρ',wg,q.1.step f,r,fun σ' a _ => q.2.nx _ O' _ H' p a f.kp⟩⟩
theorem NT {o ix:Expr} {px:Pos} (h:WE Z ρ O e fun t O1 => WE Z ρ O1 o fun u O2 => ∃ a,u = .raw (.ref a)∧WE Z ρ O2 ix fun w O3 => ∃ ts k m,w = .int k∧O3 a = some ts∧Og ts.length k = some m∧Ψ.nx ρ (AV O3 a (ts.set m t)))
  (ha:∀ v,assign (.Subscript o ix px) Z.X.env v = (do
   let ov ← holding [v] (eval o Z.X.env)
   let iv ← holding [v,ov] (eval ix Z.X.env)
   standAt px
   holding [v,ov,iv] (setItem ov iv v)
   release [v,ov,iv] []):=by intro _; rfl)
  (hs:swapsWithSole [.Subscript o ix px] e pos.line Z.X.env = pure false:=by rfl) (hw:swappedStores [.Subscript o ix px] e Z.X.env = pure none:=by rfl)
  (h1:(assignEach [.Subscript o ix px] Z.X.env).map (·.2) = [assign (.Subscript o ix px) Z.X.env]:=by rfl):WS Z ρ O (.Assign [.Subscript o ix px] e pos) Ψ:=by
 refine PS.weak (MJ h (Qp (Aw (ρ:=ρ)) (Aw (ρ:=ρ)) MV ha) hs hw h1) fun D σ H q => ⟨q.1,fun v H1 t O1 p1 f1 r1 => ?_⟩
 refine ⟨O1,_,p1,q.1.step f1,?_⟩
 rintro vo H2 _ O2 ⟨a,rfl,p2⟩ f2 r2
 refine ⟨O2,_,p2,q.1.step (f1.trans f2),?_⟩
 rintro vi H3 _ O3 ⟨ts,k,m,rfl,ho,hm,p3⟩ f3 r3
 cases r2.raw_inv
 obtain ⟨xs,hx,rx⟩:=f3.ok a ts ho
 have r1':=(r1.kp f2.kp f1.ok).kp f3.kp f2.ok
 have f:=f1.trans (f2.trans (f3.trans (Frm.put f3.ok ho (rx.set r1' m))))
 exact ⟨a,xs,k,m,rfl,r3.int_inv,hx,by rw [rx.length]; exact hm,q.2.nx ρ _ σ _ p3 (q.1.step f) f.kp⟩
def Jm (K:PySem.W.Frag) (J:It) (O:AJ) (H:Hp) (ts:List T):Prop:=∀ O' H',Kp O H O' H'→OwnOk K O' H' →
 (∀ i,i < ts.length→J.go i H')∧(∀ i x H'',J.yld i H' x H''→∀ t,ts[i]? = some t→Frm K O' H' O' H''∧Rep K O' H'' x t)∧∀ i,ts.length≤i→J.stop i H'
def WI (Z:Zx) (ρ:List (Option T)) (O:AJ) (tg iter:Expr) (Φ:Jg):Prop:=PI Z.X tg iter fun σ H R => Asr Z ρ O σ H∧∀ J H' ts O',Φ ts O'→Frm Z.K O H O' H'→Jm Z.K J O' H' ts→R J H'
theorem PI.weak {X:Cx} {tg e:Expr} {t t':TI} (h:PI X tg e t) (w:∀ σ H R,t' σ H R→t σ H R):PI X tg e t':=fun pins s σ H R I q => h pins s σ H R I (w σ H R q)
theorem Lg {K:PySem.W.Frag} {a:Addr} {xs:List V} (ok:OwnOk K O H) (h:H a = some (.lst xs)) (n:O a = none) (r:Reps K O H xs ts):Jm K (Uh K a) O H ts:=fun O' H' k ok' => by
 have h':=(k.lst h n).1
 have r':=r.kp k ok
 refine ⟨fun i hi => ?_,fun i x H'' y t e => ?_,fun i hi => ⟨xs,.inl (.inl h'),by rw [r.length]; exact hi⟩⟩
 ·obtain ⟨v,e,_⟩:=r'.get (i:=i) (t:=ts[i]) (by simp [hi])
  exact ⟨xs,v,.inl (.inl h'),e⟩
 ·obtain ⟨rfl,y⟩:=y
  obtain ⟨v,e',q⟩:=r'.get e
  have:=y xs (.inl (.inl h'))
  rw [e'] at this; cases this
  exact ⟨.refl ok',q⟩
theorem NU {K:PySem.W.Frag} {a:Addr} {xs:List V} (ok:OwnOk K O H) (h:H a = some (.tup xs)) (r:Reps K O H xs ts):Jm K (Ui K a) O H ts:=fun O' H' k ok' => by
 have h':Hv K H' a xs:=.inl (.inl (k.oth ok h fun _ z => by cases z))
 have r':=r.kp k ok
 refine ⟨fun i hi => ?_,fun i x H'' y t e => ?_,fun i hi => ⟨xs,h',by rw [r.length]; exact hi⟩⟩
 ·obtain ⟨v,e,_⟩:=r'.get (i:=i) (t:=ts[i]) (by simp [hi])
  exact ⟨xs,v,h',e⟩
 ·obtain ⟨rfl,y⟩:=y
  obtain ⟨v,e',q⟩:=r'.get e
  have:=y xs h'
  rw [e'] at this; cases this
  exact ⟨.refl ok',q⟩
def HW (lo:Int) (n:Nat):List T:=(List.range n).map fun (i:Nat) => T.int (lo + i)
theorem Au {lo:Int} {n:Nat}:(HW lo n).length = n:=by simp [HW]
theorem Bg {lo:Int} {n i:Nat} (h:(HW lo n)[i]? = some t):i < n∧t = .int (lo + i):=by
 unfold HW at h
 rw [List.getElem?_map] at h
 by_cases hi:i < n
 ·rw [List.getElem?_range hi] at h
  cases h
  exact ⟨hi,rfl⟩
 ·rw [List.getElem?_eq_none (by simpa using hi)] at h
  cases h
theorem Id {K:PySem.W.Frag} {lo:Int} {n:Nat}:Jm K (Sj lo n) O H (HW lo n):=fun O' H' k ok' => by
 refine ⟨fun i hi => by rwa [Au] at hi,fun i x H'' y t e => ?_,fun i hi => by rwa [Au] at hi⟩
 obtain ⟨rfl,rfl⟩:=y
 obtain ⟨_,rfl⟩:=Bg e
 exact ⟨.refl ok',.int _⟩
theorem Kf {tg:Expr} {Φ:Jg} (h:WE Z ρ O e fun t O' => ∃ ts,t = .lst ts∧Φ ts O'):WI Z ρ O tg e Φ:=PI.weak (OX h) fun σ H R q => ⟨q.1,by
 rintro v H' _ O' ⟨ts,rfl,p⟩ f r
 obtain ⟨a,xs,rfl,h1,n,r⟩:=r.lst_inv
 exact ⟨a,rfl,⟨xs,.inl (.inl h1)⟩,q.2 _ H' ts O' p f (Lg f.ok h1 n r)⟩⟩
theorem Rn {tg:Expr} {Φ:Jg} (h:WE Z ρ O e fun t O' => ∃ ts,t = .tup ts∧Φ ts O'):WI Z ρ O tg e Φ:=PI.weak (Qr h) fun σ H R q => ⟨q.1,by
 rintro v H' _ O' ⟨ts,rfl,p⟩ f r
 obtain ⟨a,xs,rfl,h1,r⟩:=r.tup_inv
 exact ⟨a,rfl,⟨xs,.inl (.inl h1)⟩,q.2 _ H' ts O' p f (NU f.ok h1 r)⟩⟩
theorem Lh {tg:Expr} {Φ:Jg} (hm:Z.X.mg "range" = none) (h:WA Z ρ O [a] fun ts O' => ∃ j:Int,ts = [.int j]∧-(2 ^ 62)≤j∧j < 2 ^ 62∧Φ (HW 0 j.toNat) O') (hg:Gl Z.X "range":=by rfl) (hs:starEach [a] Z.X.env = [(false,eval a Z.X.env)]:=by rfl):WI Z ρ O tg (.Call (.Name "range" p) [a] [] pos) Φ :=
 PI.weak (LH hg hm h hs) fun σ H R q => ⟨q.1,by
  rintro vs H' _ O' ⟨j,rfl,h1,h2,p⟩ f r
  obtain ⟨v,rfl,r'⟩:=r.one_inv
  exact ⟨j,by rw [r'.int_inv],h1,h2,q.2 _ H' _ O' p f Id⟩⟩
theorem Li {tg:Expr} {Φ:Jg} (hm:Z.X.mg "range" = none) (h:WA Z ρ O [a,b] fun ts O' => ∃ i j:Int,ts = [.int i,.int j]∧(-(2 ^ 62)≤i∧i < 2 ^ 62∧-(2 ^ 62)≤j∧j < 2 ^ 62)∧Φ (HW i (j - i).toNat) O') (hg:Gl Z.X "range":=by rfl) (hs:starEach [a,b] Z.X.env = [(false,eval a Z.X.env),(false,eval b Z.X.env)]:=by rfl) (hs2:starEach [b] Z.X.env = [(false,eval b Z.X.env)]:=by rfl):WI Z ρ O tg (.Call (.Name "range" p) [a,b] [] pos) Φ :=
 PI.weak (LI hg hm h hs hs2) fun σ H R q => ⟨q.1,by
  rintro vs H' _ O' ⟨i,j,rfl,h1,p⟩ f r
  obtain ⟨v,w,rfl,r1,r2⟩:=r.two_inv
  exact ⟨i,j,by rw [r1.int_inv,r2.int_inv],h1,q.2 _ H' _ O' p f Id⟩⟩
def EI (Z:Zx) (ρ:List (Option T)) (O:AJ) (tg iter:Expr) (ts:List T):Prop:=∀ Φ:Jg,Φ ts O→WI Z ρ O tg iter Φ
theorem Cz {tg:Expr} (h:ET Z ρ O e (.lst ts)):EI Z ρ O tg e ts:=fun Φ p => Kf (h _ ⟨ts,rfl,p⟩)
theorem NV {tg:Expr} (h:ET Z ρ O e (.tup ts)):EI Z ρ O tg e ts:=fun Φ p => Rn (h _ ⟨ts,rfl,p⟩)
theorem BE {tg:Expr} {k:Int} (hm:Z.X.mg "range" = none) (h:ET Z ρ O a (.int k)) (h1 : -(2 ^ 62)≤k∧k < 2 ^ 62) (hg:Gl Z.X "range":=by rfl) (hs:starEach [a] Z.X.env = [(false,eval a Z.X.env)]:=by rfl):EI Z ρ O tg (.Call (.Name "range" p) [a] [] pos) (HW 0 k.toNat):=fun Φ q => Lh hm (AI h AE hs _ ⟨k,rfl,h1.1,h1.2,q⟩) hg hs
theorem GU {tg:Expr} {k l:Int} (hm:Z.X.mg "range" = none) (h:ET Z ρ O a (.int k)) (h2:ET Z ρ O b (.int l)) (h1 : -(2 ^ 62)≤k∧k < 2 ^ 62∧-(2 ^ 62)≤l∧l < 2 ^ 62) (hg:Gl Z.X "range":=by rfl) (hs:starEach [a,b] Z.X.env = [(false,eval a Z.X.env),(false,eval b Z.X.env)]:=by rfl) (hs2:starEach [b] Z.X.env = [(false,eval b Z.X.env)]:=by rfl):EI Z ρ O tg (.Call (.Name "range" p) [a,b] [] pos) (HW k (l - k).toNat) :=
 fun Φ q => Li hm (AI h (AI h2 AE hs2) (by rw [hs,hs2]) _ ⟨k,l,rfl,h1,q⟩) hg hs hs2
theorem Ck {tg iter:Expr} {body:List Stmt} (hp:PassesOwn (model Z.X.prog Z.X.w) Z.X.A Z.X.env Z.X.xe) (hc:Z.X.calm = true)
  (h:WI Z ρ O tg iter fun ts O1 => ∃ I:Nat→GT,I 0 ρ O1∧(∀ i t ρ' O',ts[i]? = some t→I i ρ' O'→∃ ρ2,WG Z Z.X.N.length ρ' O' tg t ρ2∧Ef Z ρ2 O' body { nx:=I (i + 1),rt:=Ψ.rt,bk:=Ψ.nx,ct:=I (i + 1) })∧∀ ρ' O',I ts.length ρ' O'→Ψ.nx ρ' O')
  (hs:∀ x,foldedSetIterable iter Z.X.env x = pure x:=by intro _; rfl):WS Z ρ O (.For tg iter body [] pos) Ψ:=by
 refine PS.weak (Qs hp hc h (Tf (n:=Z.X.N.length)) Ic hs) fun D σ H q => ⟨q.1,?_⟩
 rintro J H1 ts O1 ⟨I,i0,step,fin⟩ f1 it
 refine ⟨fun i m σ' H' => m = ts.length - i∧i≤ts.length∧∃ ρ' O',I i ρ' O'∧Asr Z ρ' O' σ' H'∧Kp O1 H1 O' H',⟨ts.length,by simp,Nat.zero_le _,ρ,O1,i0,q.1.step f1,.refl⟩,?_⟩
 rintro i m σ2 H2 ⟨rfl,hi,ρ2,O2,i2,a2,k2⟩
 obtain ⟨g1,g2,g3⟩:=it O2 H2 k2 a2.ok
 by_cases hlt:i < ts.length
 ·refine .inr ⟨g1 i hlt,fun σ' H' => ∃ ρ' O',I (i + 1) ρ' O'∧Asr Z ρ' O' σ' H'∧Kp O1 H1 O' H',fun σ' H' w => ⟨_,by omega,rfl,by omega,w⟩,fun x H3 y => ?_⟩
  obtain ⟨f3,r3⟩:=g2 i x H3 y ts[i] (by simp [hlt])
  obtain ⟨ρ3,wg,wb⟩:=step i ts[i] ρ2 O2 (by simp [hlt]) i2
  refine ⟨ρ2,O2,_,ρ3,wg,a2.step f3,r3,fun σ3 a3 _ => ⟨ρ3,O2,_,wb,a3,?_⟩⟩
  have kk:=(k2.trans f3.kp)
  exact ⟨fun ρ' O' σ' H' w a k => ⟨ρ',O',w,a,kk.trans k⟩,q.2.rt,fun ρ' O' σ' H' w a k => q.2.nx ρ' O' σ' H' w a (f1.kp.trans (kk.trans k)),fun ρ' O' σ' H' w a k => ⟨ρ',O',w,a,kk.trans k⟩⟩
 ·have:i = ts.length:=by omega
  subst this
  exact .inl ⟨g3 _ (Nat.le_refl _),q.2.nx ρ2 O2 σ2 H2 (fin ρ2 O2 i2) a2 (f1.kp.trans k2)⟩
end
def zc (X:Cx) (Oe:AJ) (He:Hp):Zx:=⟨X,Oe,He,fun _ _ => False⟩
def Fs (nc:List Str) (ρ:List (Option T)) (cap:List (Str × Nat)):List (Option T):=List.replicate nc.length none ++ cap.map fun q => (ρ[q.2]?).join
def UU (Z:Zx) (ρ:List (Option T)) (O:AJ) (ifs:List Expr) (Φ:Ht):Prop:=RJ Z.X ifs (SZ Z ρ O Φ)
theorem Ah {O:AJ} {p:Addr} {ts:List T} (h:O p = none):AW (AV O p ts) p = O:=by
 funext b
 by_cases hb:b = p
 ·rw [hb,Bc,h]
 ·rw [Bd hb,AQ hb]
theorem BN {O:AJ} {p a:Addr} {ts us:List T} (h:a≠p):AV (AV O p ts) a us = AV (AV O a us) p ts:=by
 funext b
 unfold AV
 by_cases h1:b = a
 ·subst h1; rw [if_pos rfl,if_neg h,if_pos rfl]
 ·rw [if_neg h1,if_neg h1]
section
variable {Z:Zx} {ρ:List (Option T)} {O:AJ} {elt tg iter:Expr} {ifs:List Expr} {csc:Scope} {nc:List Str} {cap:List (Str × Nat)} {Φ:BM} {pos:Pos}
theorem HX {Φ:Ht} (h:Φ true O):UU Z ρ O [] Φ:=fun pins s σ H Q I q => On pins s σ H Q I (q.2 true H O h q.1.refl)
theorem HY {Φ:Ht} {c:Expr} (h:WT Z ρ O c Φ):UU Z ρ O [c] Φ:=Oo h
theorem Tg {K:PySem.W.Frag} {H:Hp} {σ:St} (r:Rl K O H σ ρ):Rl K O H (Fr nc σ cap) (Fs nc ρ cap):=by
 refine ⟨by simp [Bm,Fs],fun i t e => ?_⟩
 unfold Fs at e
 have hi:nc.length≤i:=by
  by_cases hi:i < nc.length
  ·rw [List.getElem?_append_left (by simpa using hi),List.getElem?_replicate] at e
   split at e <;> cases e
  ·omega
 rw [List.getElem?_append_right (by simpa using hi),List.getElem?_map] at e
 simp only [List.length_replicate] at e
 cases hc:cap[i - nc.length]? with
 | none => rw [hc] at e; cases e
 | some q =>
  rw [hc] at e
  have e:(ρ[q.2]?).join = some t:=Option.some.inj e
  have e':ρ[q.2]? = some (some t):=by
   cases h:ρ[q.2]? with
   | none => rw [h] at e; cases e
   | some w => rw [h] at e; exact congrArg some e
  obtain ⟨v,h1,h2⟩:=r.2 q.2 t e'
  refine ⟨v,?_,h2⟩
  show (List.replicate nc.length (none:Option V) ++ Bm σ cap)[i]? = some (some v)
  rw [List.getElem?_append_right (by simpa using hi)]
  simp only [List.length_replicate]
  unfold Bm
  rw [List.getElem?_map,hc]
  show some (σ[q.2]?).join = _
  rw [h1]
  rfl
theorem HZ {X X':Cx} {Oe:AJ} {He:Hp} {Xi Xi':Value→AJ→Prop} {σ:St} {H:Hp} (hK:X'.K = X.K) (a:Asr ⟨X,Oe,He,Xi⟩ ρ O σ H):Asr ⟨X',Oe,He,Xi'⟩ ρ O σ H:=by
 obtain ⟨r,f⟩:=a
 refine ⟨?_,?_⟩
 ·show Rl X'.K O H σ ρ
  rw [hK]; exact r
 ·show Frm X'.K Oe He O H
  rw [hK]; exact f
def gA (Z:Zx) (csc:Scope) (nc:List Str) (cap:List (Str × Nat)) (tg:Expr):TG:=fun v σ H Q => ∃ Oe He ρ O t ρ',(∀ X',LcCx Z.X csc (As nc cap) X'→WG (zc X' Oe He) nc.length ρ O tg t ρ')∧tG (zc Z.X Oe He) nc.length ρ O t ρ' v σ H Q
def Uz (Z:Zx) (csc:Scope) (nc:List Str) (cap:List (Str × Nat)) (ifs:List Expr):TT:=fun σ H Q => ∃ Oe He ρ O Φ,(∀ X',LcCx Z.X csc (As nc cap) X'→UU (zc X' Oe He) ρ O ifs Φ)∧SZ (zc Z.X Oe He) ρ O Φ σ H Q
def eA (Z:Zx) (csc:Scope) (nc:List Str) (cap:List (Str × Nat)) (e:Expr):TE:=fun σ H Q => ∃ Oe He ρ O Φ,(∀ X',LcCx Z.X csc (As nc cap) X'→WE (zc X' Oe He) ρ O e Φ)∧tW (zc Z.X Oe He) ρ O Φ σ H Q
theorem Ro {X X':Cx} {N':List Str} (h:LcCx X csc N' X'):X'.K = X.K:=by
 obtain ⟨_,_,_,_,rfl⟩:=h
 rfl
theorem Ti:∀ X',LcCx Z.X csc (As nc cap) X'→PG X' tg (gA Z csc nc cap tg):=by
 rintro X' is pins s σ H v u Q I r ⟨Oe,He,ρ,O,t,ρ',w,a,rp,k⟩
 refine w X' is pins s σ H v u Q I r ⟨HZ (Ro is) a,?_,fun σ' a' h => k σ' (HZ (Ro is).symm a') h⟩
 show Rep X'.K O H v t
 rw [Ro is]; exact rp
theorem QR:∀ X',LcCx Z.X csc (As nc cap) X'→RJ X' ifs (Uz Z csc nc cap ifs):=by
 rintro X' is pins s σ H Q I ⟨Oe,He,ρ,O,Φ,w,a,k⟩
 refine w X' is pins s σ H Q I ⟨HZ (Ro is) a,?_⟩
 intro b H' O' p f
 refine k b H' O' p ?_
 have f:Frm X'.K O H O' H':=f
 rw [Ro is] at f; exact f
theorem Tj:∀ X',LcCx Z.X csc (As nc cap) X'→PE X' elt (eA Z csc nc cap elt):=by
 rintro X' is pins s σ H Q I ⟨Oe,He,ρ,O,Φ,w,a,k⟩
 refine w X' is pins s σ H Q I ⟨HZ (Ro is) a,?_⟩
 intro v H' t O' p f r
 have f:Frm X'.K O H O' H':=f
 have r:Rep X'.K O' H' v t:=r
 rw [Ro is] at f r
 exact k v H' t O' p f r
def QS (Z:Zx) (ρ:List (Option T)) (elt tg:Expr) (ifs:List Expr) (csc:Scope) (nc:List Str) (cap:List (Str × Nat)) (F:List T→AJ→Prop) (ts:List T) (O1:AJ):Prop :=
 ∃ I:Nat→List T→AJ→Prop,I 0 [] O1∧(∀ i t acc O' p,ts[i]? = some t→I i acc O'→O' p = none→∃ ρ4,∀ X' Oe He,LcCx Z.X csc (As nc cap) X'→WG (zc X' Oe He) nc.length (Fs nc ρ cap) (AV O' p acc) tg t ρ4 ∧
   UU (zc X' Oe He) ρ4 (AV O' p acc) ifs fun b O2 => if b = true then ∀ X' Oe He,LcCx Z.X csc (As nc cap) X'→WE (zc X' Oe He) ρ4 O2 elt fun y O3 => ∃ O4,O3 = AV O4 p acc∧O4 p = none∧acc.length < sizeLine∧I (i + 1) (acc ++ [y]) O4
    else ∃ O4,O2 = AV O4 p acc∧O4 p = none∧I (i + 1) acc O4)∧∀ acc O',I ts.length acc O'→F acc O'
theorem Rp {F:List T→AJ→Prop} {σ:St} {H:Hp} {Q:VK} (a:Asr Z ρ O σ H) (h:WI Z ρ O tg iter (QS Z ρ elt tg ifs csc nc cap F))
  (fin:∀ acc O' p H',F acc O'→O' p = none→Frm Z.K O H (AV O' p acc) H'→(∀ b us,O b = some us→b≠p)→Q (.ref p) H') :
  UT (fun σ H R => Asr Z ρ O σ H∧∀ J H' ts O',QS Z ρ elt tg ifs csc nc cap F ts O'→Frm Z.K O H O' H'→Jm Z.K J O' H' ts→R J H') nc cap (gA Z csc nc cap tg) (Uz Z csc nc cap ifs) (eA Z csc nc cap elt) σ H Q:=by
 refine ⟨a,?_⟩
 rintro J H1 ts O1 ⟨I,i0,step,done⟩ f1 it p hp
 have np:O1 p = none:=f1.ok.none_of hp
 have nb:∀ b us,O1 b = some us→b≠p:=fun b us e z => by rw [z,np] at e; cases e
 have fn:=Frm.newO (ts:=[]) (xs:=[]) f1.ok hp .nil
 refine ⟨fun i m H2 => m = ts.length - i∧i≤ts.length∧∃ acc O',I i acc O'∧O' p = none∧Frm Z.K O1 H1 (AV O' p acc) H2,⟨ts.length,by simp,Nat.zero_le _,[],O1,i0,np,fn⟩,?_⟩
 rintro i m H2 ⟨rfl,hi,acc,O2,i2,n2,f2⟩
 obtain ⟨g1,g2,g3⟩:=it _ H2 f2.kp f2.ok
 by_cases hlt:i < ts.length
 ·refine .inr ⟨g1 i hlt,fun H' => ∃ acc O',I (i + 1) acc O'∧O' p = none∧Frm Z.K O1 H1 (AV O' p acc) H',fun H' w => ⟨_,by omega,rfl,by omega,w⟩,fun x H3 y => ?_⟩
  obtain ⟨f3,r3⟩:=g2 i x H3 y ts[i] (by simp [hlt])
  obtain ⟨ρ4,st⟩:=step i ts[i] acc O2 p (by simp [hlt]) i2 n2
  have a3:Asr (zc Z.X (AV O2 p acc) H3) (Fs nc ρ cap) (AV O2 p acc) (Fr nc σ cap) H3:=⟨Tg ((a.rl.kp f1.kp a.ok).kp (f2.kp.trans f3.kp) f1.ok),.refl f3.ok⟩
  refine ⟨AV O2 p acc,H3,Fs nc ρ cap,AV O2 p acc,ts[i],ρ4,fun X' is => (st X' _ _ is).1,a3,r3,fun σ4 a4 hag => ⟨?_,?_⟩⟩
  ·refine ⟨σ4.take nc.length,?_,?_⟩
   ·rw [List.length_take,hag.1]
    simp
   ·have e1:σ4.drop nc.length = Bm σ cap:=by
     apply List.ext_getElem?
     intro m
     rw [List.getElem?_drop,hag.2 _ (by omega)]
     show (List.replicate nc.length (none:Option V) ++ Bm σ cap)[nc.length + m]? = _
     rw [List.getElem?_append_right (by simp)]
     simp
    rw [← e1,List.take_append_drop]
  ·refine ⟨AV O2 p acc,H3,ρ4,AV O2 p acc,_,fun X' is => (st X' _ _ is).2,a4,?_⟩
   intro b H5 O5 q5 f5
   cases b with
   | false =>
    rw [if_neg Bool.false_ne_true] at q5 ⊢
    obtain ⟨O4,rfl,n4,i4⟩:=q5
    exact ⟨acc,O4,i4,n4,f2.trans (f3.trans f5)⟩
   | true =>
    rw [if_pos rfl] at q5 ⊢
    refine ⟨AV O2 p acc,H3,ρ4,O5,_,fun X' is => q5 X' _ _ is,a4.step f5,?_⟩
    rintro y H6 t6 O6 ⟨O4,rfl,n4,hlen,i4⟩ f6 r6
    obtain ⟨ys,hys,rys⟩:=f6.ok p acc AF
    refine ⟨ys,hys,by rw [rys.length]; exact hlen,acc ++ [t6],O4,i4,n4,?_⟩
    have fp:=Frm.put (a:=p) f6.ok AF (rys.append (.one r6))
    rw [Aq] at fp
    exact f2.trans (f3.trans (f5.trans (f6.trans fp)))
 ·have:i = ts.length:=by omega
  subst this
  refine .inl ⟨g3 _ (Nat.le_refl _),fin acc O2 p H2 (done acc O2 i2) n2 (f1.trans f2) fun b us e => ?_⟩
  obtain ⟨us',e'⟩:=f1.own b us e
  exact nb b us' e'
theorem QT {σ:St} {H:Hp} {Q:VK} (h:WI Z ρ O tg iter (QS Z ρ elt tg ifs csc nc cap fun acc O' => Φ (.lst acc) O')) (q:tW Z ρ O Φ σ H Q) :
  UT (fun σ H R => Asr Z ρ O σ H∧∀ J H' ts O',QS Z ρ elt tg ifs csc nc cap (fun acc O' => Φ (.lst acc) O') ts O'→Frm Z.K O H O' H'→Jm Z.K J O' H' ts→R J H') nc cap (gA Z csc nc cap tg) (Uz Z csc nc cap ifs) (eA Z csc nc cap elt) σ H Q:=by
 refine Rp q.1 h fun acc O' p H' p1 n f nb => q.2 _ H' _ O' p1 ?_ ?_
 ·have e:=Ah (ts:=acc) n
  refine ⟨fun b o e1 e2 => ?_,fun b us e1 => ?_,?_⟩
  ·have:=f.kp.trans (BK (a:=p)) b o e1 e2
   rw [e] at this; exact this
  ·obtain ⟨us',e2⟩:=f.own b us e1
   rw [AQ (nb b us e1)] at e2
   exact ⟨us',e2⟩
  ·have:=f.ok.drop (a:=p)
   rw [e] at this; exact this
 ·have:=f.ok.rep (a:=p) AF
  rw [Ah n] at this
  exact this
theorem GV (hc:Z.X.calm = true) (ok:LcOk Z.X csc nc cap) (h:WI Z ρ O tg iter (QS Z ρ elt tg ifs csc nc cap fun acc O' => Φ (.lst acc) O'))
  (hs:∀ x,foldedSetIterable iter Z.X.env x = pure x:=by intro _; rfl):WE Z ρ O (.ListComp elt [⟨tg,iter,ifs,0⟩] csc pos) Φ :=
 PE.weak (TH hc ok h Ti QR Tj hs) fun σ H Q q => QT h q
theorem NW {i:Nat} {x:Str} {px spos:Pos} {Ψ:Es} (hsw:swapsWith (.ListComp elt [⟨tg,iter,ifs,0⟩] csc pos) (some (.Name x px)) spos.line Z.X.env = pure true) (hN:Z.X.N.Nodup) (hc:Z.X.calm = true) (ok:LcOk Z.X csc nc cap)
  (h:WI Z ρ O tg iter (QS Z ρ elt tg ifs csc nc cap fun acc O' => Ψ.nx (ρ.set i (some (.lst acc))) O')) (hx:Z.X.N[i]? = some x:=by rfl) (hk:Z.X.env.scope.names.lookup x = some .local:=by rfl)
  (hs:∀ x,foldedSetIterable iter Z.X.env x = pure x:=by intro _; rfl):WS Z ρ O (.Assign [.Name x px] (.ListComp elt [⟨tg,iter,ifs,0⟩] csc pos) spos) Ψ :=
 PS.weak (Ma hN hx hk hsw hc ok h Ti QR Tj hs) fun D σ H q => QT (Φ:=fun t O' => Ψ.nx (ρ.set i (some t)) O') h ⟨q.1,fun v H' t O' p f r => q.2.nx _ O' _ H' p ⟨(q.1.step f).rl.set r,(q.1.step f).fr⟩ f.kp⟩
end
def VA:T→String
 | .non => "NoneType" | .bl _ => "bool" | .int _ => "int" | .str _ => "str" | .tup _ => "tuple" | .lst _ => "list" | .frz _ => "list" | .dct => "dict" | .raw _ => "object"
def CZ:T→Bool
 | .raw _ => true
 | _ => false
def Ie:T→Bool
 | .int _ => true
 | .bl _ => true
 | _ => false
def FZ:T→Bool
 | .bl _ => true
 | _ => false
def DY:T→Bool
 | .tup _ => true
 | _ => false
def Lj (K:PySem.W.Frag) (c:String) (g:T→Bool):Prop:=∀ t,CZ t = false→PySem.W.kitOne K (.type (VA t)) (.type c) = some (g t)
section
variable {K:PySem.W.Frag} {O:AJ} {H:Hp} {v:V} {t:T}
theorem Rep.ty (r:Rep K O H v t) (hp:CZ t = false):TyOf K H v (.type (VA t)):=by
 cases r with
 | non => exact .non
 | bl b => exact .bl b
 | int i => exact .int i
 | str i => exact .str i
 | tup h => exact .tup h
 | lst h => exact .lst h
 | frz h => exact .frz h
 | dct h => exact .dK h
 | raw v => cases hp
theorem Vp (K:PySem.W.Frag):PySem.W.kitOne K (.type "NoneType") (.type "int") = some false:=by kernel_rfl
theorem Vq (K:PySem.W.Frag):PySem.W.kitOne K (.type "bool") (.type "int") = some true:=by kernel_rfl
theorem Vr (K:PySem.W.Frag):PySem.W.kitOne K (.type "int") (.type "int") = some true:=by rfl
theorem Vs (K:PySem.W.Frag):PySem.W.kitOne K (.type "str") (.type "int") = some false:=by kernel_rfl
theorem Vt (K:PySem.W.Frag):PySem.W.kitOne K (.type "tuple") (.type "int") = some false:=by kernel_rfl
theorem VV (K:PySem.W.Frag):PySem.W.kitOne K (.type "list") (.type "int") = some false:=by kernel_rfl
theorem Vu (K:PySem.W.Frag):PySem.W.kitOne K (.type "dict") (.type "int") = some false:=by kernel_rfl
theorem Ha:Lj K "int" Ie:=fun t h => by
 cases t with
 | non => exact Vp K
 | bl b => exact Vq K
 | int i => exact Vr K
 | str i => exact Vs K
 | tup i => exact Vt K
 | lst i => exact VV K
 | frz i => exact VV K
 | dct => exact Vu K
 | raw v => cases h
theorem Vv (K:PySem.W.Frag):PySem.W.kitOne K (.type "NoneType") (.type "bool") = some false:=by kernel_rfl
theorem Vw (K:PySem.W.Frag):PySem.W.kitOne K (.type "bool") (.type "bool") = some true:=by rfl
theorem Vx (K:PySem.W.Frag):PySem.W.kitOne K (.type "int") (.type "bool") = some false:=by kernel_rfl
theorem Vy (K:PySem.W.Frag):PySem.W.kitOne K (.type "str") (.type "bool") = some false:=by kernel_rfl
theorem Vz (K:PySem.W.Frag):PySem.W.kitOne K (.type "tuple") (.type "bool") = some false:=by kernel_rfl
theorem VW (K:PySem.W.Frag):PySem.W.kitOne K (.type "list") (.type "bool") = some false:=by kernel_rfl
theorem WB (K:PySem.W.Frag):PySem.W.kitOne K (.type "dict") (.type "bool") = some false:=by kernel_rfl
theorem Fa:Lj K "bool" FZ:=fun t h => by
 cases t with
 | non => exact Vv K
 | bl b => exact Vw K
 | int i => exact Vx K
 | str i => exact Vy K
 | tup i => exact Vz K
 | lst i => exact VW K
 | frz i => exact VW K
 | dct => exact WB K
 | raw v => cases h
theorem WC (K:PySem.W.Frag):PySem.W.kitOne K (.type "NoneType") (.type "tuple") = some false:=by kernel_rfl
theorem WD (K:PySem.W.Frag):PySem.W.kitOne K (.type "bool") (.type "tuple") = some false:=by kernel_rfl
theorem WF (K:PySem.W.Frag):PySem.W.kitOne K (.type "int") (.type "tuple") = some false:=by kernel_rfl
theorem WH (K:PySem.W.Frag):PySem.W.kitOne K (.type "str") (.type "tuple") = some false:=by kernel_rfl
theorem WJ (K:PySem.W.Frag):PySem.W.kitOne K (.type "tuple") (.type "tuple") = some true:=by rfl
theorem VX (K:PySem.W.Frag):PySem.W.kitOne K (.type "list") (.type "tuple") = some false:=by kernel_rfl
theorem WK (K:PySem.W.Frag):PySem.W.kitOne K (.type "dict") (.type "tuple") = some false:=by kernel_rfl
theorem CL:Lj K "tuple" DY:=fun t h => by
 cases t with
 | non => exact WC K
 | bl b => exact WD K
 | int i => exact WF K
 | str i => exact WH K
 | tup i => exact WJ K
 | lst i => exact VX K
 | frz i => exact VX K
 | dct => exact WK K
 | raw v => cases h
theorem Rq {c:String} {g:T→Bool} (hk:Lj K c g) (hp:CZ t = false):CP K (TK K) [t,.raw (.ty c)] O (.bl (g t)):=fun Φ p H vs Q ok r q => by
 obtain ⟨v,w,rfl,r1,r2⟩:=r.two_inv
 cases r2.raw_inv
 exact ⟨v,.ty c,.type (VA t),.type c,g t,rfl,rfl,.inl (r1.ty hp),hk t hp,q _ H _ O p (.refl ok) (.bl _)⟩
theorem PL:bootBuiltins "int" = some (.type "int"):=by decide +kernel
theorem NX:bootBuiltins "bool" = some (.type "bool"):=by decide +kernel
theorem CM:bootBuiltins "tuple" = some (.type "tuple"):=by decide +kernel
theorem NY:bootBuiltins "list" = some (.type "list"):=by decide +kernel
theorem VB:bootBuiltins "set" = some (.type "set"):=by decide +kernel
theorem Rs:bootBuiltins "range" = some (.type "range"):=by decide +kernel
theorem Ft:bootBuiltins "isinstance" = some (.builtin "isinstance"):=by decide +kernel
theorem Tk:bootBuiltins "max" = some (.builtin "max"):=by decide +kernel
theorem Tl:bootBuiltins "min" = some (.builtin "min"):=by decide +kernel
theorem PM:bootBuiltins "len" = some (.builtin "len"):=by decide +kernel
theorem VC:bootBuiltins "all" = some (.builtin "all"):=by decide +kernel
theorem PN:bootBuiltins "sorted" = some (.builtin "sorted"):=by decide +kernel
theorem Reps.bls:∀ {vs:List V} {ns:List Bool},Reps K O H vs (ns.map T.bl)→vs = ns.map V.bl
 | _,[],r => r.nil_inv
 | _,n :: ns,r => by
  obtain ⟨v,vs',rfl,h,r⟩:=Reps.cons_inv r
  rw [h.bl_inv,Reps.bls r]
  rfl
end
section
variable {Z:Zx} {ρ:List (Option T)} {O:AJ} {e a b c:Expr} {es:List Expr} {Φ:BM} {pos p:Pos} {t ta tb:T} {ts us:List T} {i j:Int} {x:Str} {lo hi:Expr}
theorem ED {cn:String} {g:T→Bool} (mI:Z.X.mg "isinstance" = none) (mC:Z.X.mg x = none) (bC:bootBuiltins x = some (.type cn)) (hk:Lj Z.K cn g) (h:ET Z ρ O e t) (hp:CZ t = false) {p1:Pos} (hgi:Gl Z.X "isinstance":=by rfl) (hgc:Gl Z.X x:=by rfl)
  (hn:x≠"__name__":=by decide) (hd:(x == ("__debug__" : Str)) = false:=by decide)
  (he:starEach [e,.Name x p1] Z.X.env = (false,eval e Z.X.env) :: starEach [.Name x p1] Z.X.env:=by rfl):ET Z ρ O (.Call (.Name "isinstance" p) [e,.Name x p1] [] pos) (.bl (g t)) :=
 BA Az mI Ft (AI h (AI (TY mC bC hgc hn hd) AE) he) (Rq hk hp) hgi (by decide) (by decide) he
theorem Cl {cn:String} {g:T→Bool} (mI:Z.X.mg "isinstance" = none) (mC:Z.X.mg x = none) (bC:bootBuiltins x = some (.type cn)) (hk:Lj Z.K cn g) (h:ET Z ρ O e t) (hp:CZ t = false) {p1:Pos} (hgi:Gl Z.X "isinstance":=by rfl) (hgc:Gl Z.X x:=by rfl)
  (hn:x≠"__name__":=by decide) (hd:(x == ("__debug__" : Str)) = false:=by decide)
  (he:starEach [e,.Name x p1] Z.X.env = (false,eval e Z.X.env) :: starEach [.Name x p1] Z.X.env:=by rfl):EB Z ρ O (.Call (.Name "isinstance" p) [e,.Name x p1] [] pos) (g t) :=
 Ci (ED mI mC bC hk h hp hgi hgc hn hd he)
theorem Eg (m:Z.X.mg "len" = none) (h:ET Z ρ O e (.tup ts)) (hg:Gl Z.X "len":=by rfl) (he:starEach [e] Z.X.env = (false,eval e Z.X.env) :: starEach [] Z.X.env:=by rfl):ET Z ρ O (.Call (.Name "len" p) [e] [] pos) (.int ts.length) :=
 BA BU m PM (AI h AE he) (fun Φ q H vs Q ok r k => by
  obtain ⟨v,rfl,r1⟩:=r.one_inv
  obtain ⟨a,xs,rfl,h1,r1⟩:=r1.tup_inv
  refine ⟨a,xs,rfl,.inr (.inl (.inl h1)),?_⟩
  rw [r1.length]
  exact k _ H _ O q (.refl ok) (.int _)) hg (by decide) (by decide) he
theorem Kg (m:Z.X.mg "len" = none) (h:ET Z ρ O e (.lst ts)) (hg:Gl Z.X "len":=by rfl) (he:starEach [e] Z.X.env = (false,eval e Z.X.env) :: starEach [] Z.X.env:=by rfl):ET Z ρ O (.Call (.Name "len" p) [e] [] pos) (.int ts.length) :=
 BA BU m PM (AI h AE he) (fun Φ q H vs Q ok r k => by
  obtain ⟨v,rfl,r1⟩:=r.one_inv
  obtain ⟨a,xs,rfl,h1,_,r1⟩:=r1.lst_inv
  refine ⟨a,xs,rfl,.inl (.inl (.inl h1)),?_⟩
  rw [r1.length]
  exact k _ H _ O q (.refl ok) (.int _)) hg (by decide) (by decide) he
theorem Hb {l:Addr} (m:Z.X.mg "len" = none) (h:ET Z ρ O e (.raw (.ref l))) (ho:O l = some ts) (hg:Gl Z.X "len":=by rfl) (he:starEach [e] Z.X.env = (false,eval e Z.X.env) :: starEach [] Z.X.env:=by rfl):ET Z ρ O (.Call (.Name "len" p) [e] [] pos) (.int ts.length) :=
 BA BU m PM (AI h AE he) (fun Φ q H vs Q ok r k => by
  obtain ⟨v,rfl,r1⟩:=r.one_inv
  cases r1.raw_inv
  obtain ⟨xs,h1,r1⟩:=ok l ts ho
  refine ⟨l,xs,rfl,.inl (.inl (.inl h1)),?_⟩
  rw [r1.length]
  exact k _ H _ O q (.refl ok) (.int _)) hg (by decide) (by decide) he
theorem Rt {bs:List Bool} (m:Z.X.mg "all" = none) (hc:Z.X.calm = true) (h:ET Z ρ O e (.lst (bs.map T.bl))) (hg:Gl Z.X "all":=by rfl) (he:starEach [e] Z.X.env = (false,eval e Z.X.env) :: starEach [] Z.X.env:=by rfl):ET Z ρ O (.Call (.Name "all" p) [e] [] pos) (.bl (bs.all id)) :=
 BA (ND hc) m VC (AI h AE he) (fun Φ q H vs Q ok r k => by
  obtain ⟨v,rfl,r1⟩:=r.one_inv
  obtain ⟨a,xs,rfl,h1,_,r1⟩:=r1.lst_inv
  cases r1.bls
  exact ⟨a,bs,rfl,.inl (.inl (.inl h1)),k _ H _ O q (.refl ok) (.bl _)⟩) hg (by decide) (by decide) he
theorem Kh (m:Z.X.mg "min" = none) (hc:Z.X.calm = true) (h:ET Z ρ O a (.int i)) (h2:ET Z ρ O b (.int j)) (hg:Gl Z.X "min":=by rfl) (he:starEach [a,b] Z.X.env = (false,eval a Z.X.env) :: starEach [b] Z.X.env:=by rfl) (he2:starEach [b] Z.X.env = (false,eval b Z.X.env) :: starEach [] Z.X.env:=by rfl) (hpl:(backTo pos (starEach [b] Z.X.env)).any (·.1) = false:=by rfl):ET Z ρ O (.Call (.Name "min" p) [a,b] [] pos) (.int (min i j)) :=
 BA (LL hc) m Tl (AI h (AI h2 AE he2) he) (fun Φ q H vs Q ok r k => by
  obtain ⟨v,w,rfl,r1,r2⟩:=r.two_inv
  cases r1.int_inv; cases r2.int_inv
  refine ⟨i,j,rfl,?_⟩
  have:(if j < i then j else i) = min i j:=by split <;> omega
  rw [this]
  exact k _ H _ O q (.refl ok) (.int _)) hg (by decide) (by decide) he hpl
theorem Hc (m:Z.X.mg "max" = none) (hc:Z.X.calm = true) (h:ET Z ρ O a (.int i)) (h2:ET Z ρ O b (.int j)) (hg:Gl Z.X "max":=by rfl) (he:starEach [a,b] Z.X.env = (false,eval a Z.X.env) :: starEach [b] Z.X.env:=by rfl) (he2:starEach [b] Z.X.env = (false,eval b Z.X.env) :: starEach [] Z.X.env:=by rfl) (hpl:(backTo pos (starEach [b] Z.X.env)).any (·.1) = false:=by rfl):ET Z ρ O (.Call (.Name "max" p) [a,b] [] pos) (.int (max i j)) :=
 BA (LK hc) m Tk (AI h (AI h2 AE he2) he) (fun Φ q H vs Q ok r k => by
  obtain ⟨v,w,rfl,r1,r2⟩:=r.two_inv
  cases r1.int_inv; cases r2.int_inv
  refine ⟨i,j,rfl,?_⟩
  have:(if j > i then j else i) = max i j:=by split <;> omega
  rw [this]
  exact k _ H _ O q (.refl ok) (.int _)) hg (by decide) (by decide) he hpl
theorem Ki (m:Z.X.mg "min" = none) (hc:Z.X.calm = true) (h:ET Z ρ O e (.tup [.int i,.int j])) (hg:Gl Z.X "min":=by rfl) (he:starEach [e] Z.X.env = (false,eval e Z.X.env) :: starEach [] Z.X.env:=by rfl):ET Z ρ O (.Call (.Name "min" p) [e] [] pos) (.int (min i j)) :=
 BA (Ld hc) m Tl (AI h AE he) (fun Φ q H vs Q ok r k => by
  obtain ⟨v,rfl,r1⟩:=r.one_inv
  obtain ⟨a,xs,rfl,h1,r1⟩:=r1.tup_inv
  cases Reps.ints (ns:=[i,j]) r1
  refine ⟨a,[i,j],rfl,.inr (.inl (.inl h1)),Nat.succ_pos _,fun n ⟨h1,h2⟩ => ?_⟩
  have e1:=h2 i (by simp)
  have e2:=h2 j (by simp)
  have:n = min i j:=by
   rcases List.mem_cons.mp h1 with rfl | h1
   ·omega
   ·have:=List.mem_singleton.mp h1
    omega
  rw [this]
  exact k _ H _ O q (.refl ok) (.int _)) hg (by decide) (by decide) he
theorem Kj (m:Z.X.mg "max" = none) (hc:Z.X.calm = true) (h:ET Z ρ O e (.tup [.int i,.int j])) (hg:Gl Z.X "max":=by rfl) (he:starEach [e] Z.X.env = (false,eval e Z.X.env) :: starEach [] Z.X.env:=by rfl):ET Z ρ O (.Call (.Name "max" p) [e] [] pos) (.int (max i j)) :=
 BA (Le hc) m Tk (AI h AE he) (fun Φ q H vs Q ok r k => by
  obtain ⟨v,rfl,r1⟩:=r.one_inv
  obtain ⟨a,xs,rfl,h1,r1⟩:=r1.tup_inv
  cases Reps.ints (ns:=[i,j]) r1
  refine ⟨a,[i,j],rfl,.inr (.inl (.inl h1)),Nat.succ_pos _,fun n ⟨h1,h2⟩ => ?_⟩
  have e1:=h2 i (by simp)
  have e2:=h2 j (by simp)
  have:n = max i j:=by
   rcases List.mem_cons.mp h1 with rfl | h1
   ·omega
   ·have:=List.mem_singleton.mp h1
    omega
  rw [this]
  exact k _ H _ O q (.refl ok) (.int _)) hg (by decide) (by decide) he
theorem PP {k:Bool} (m:Z.X.mg "int" = none) (h:ET Z ρ O e (.bl k)) (hg:Gl Z.X "int":=by rfl) (he:starEach [e] Z.X.env = (false,eval e Z.X.env) :: starEach [] Z.X.env:=by rfl):ET Z ρ O (.Call (.Name "int" p) [e] [] pos) (.int (if k then 1 else 0)) :=
 GS LM m PL (AI h AE he) (fun Φ q H vs Q ok r k => by
  obtain ⟨v,rfl,r1⟩:=r.one_inv
  cases r1.bl_inv
  exact .inr ⟨_,rfl,k _ H _ O q (.refl ok) (.int _)⟩) hg (by decide) (by decide) he
theorem BO (m:Z.X.mg "tuple" = none) (h:WE Z ρ O e fun t O' => ∃ ts,t = .lst ts∧Φ (.tup ts) O') (hg:Gl Z.X "tuple":=by rfl) (he:starEach [e] Z.X.env = (false,eval e Z.X.env) :: starEach [] Z.X.env:=by rfl):WE Z ρ O (.Call (.Name "tuple" p) [e] [] pos) Φ :=
 Cy EN m CM (BL (Cw h (by
  rintro t O' ⟨ts,rfl,q⟩
  refine AX fun H vs Q ok r k => ?_
  obtain ⟨v,rfl,r1⟩:=r.one_inv
  obtain ⟨a,xs,rfl,h1,_,r1⟩:=r1.lst_inv
  exact ⟨a,xs,rfl,.inl (.inl h1),fun p hp => k _ _ _ O' q (.new ok hp) (.tup AG (r1.kp (BG ok hp) ok))⟩)) he) hg (by decide) (by decide) he
theorem Fb (m:Z.X.mg "tuple" = none) (h:ET Z ρ O e (.lst ts)) (hg:Gl Z.X "tuple":=by rfl) (he:starEach [e] Z.X.env = (false,eval e Z.X.env) :: starEach [] Z.X.env:=by rfl):ET Z ρ O (.Call (.Name "tuple" p) [e] [] pos) (.tup ts):=fun Φ q => BO m (h _ ⟨ts,rfl,q⟩) hg he
theorem GW (m:Z.X.mg "list" = none) (h:ET Z ρ O e (.tup ts)) (q:∀ a,O a = none→Φ (.raw (.ref a)) (AV O a ts)) (hg:Gl Z.X "list":=by rfl) (he:starEach [e] Z.X.env = (false,eval e Z.X.env) :: starEach [] Z.X.env:=by rfl):WE Z ρ O (.Call (.Name "list" p) [e] [] pos) Φ :=
 Cy FQ m NY (AI h AE he _ (fun H vs Q ok r k => by
  obtain ⟨v,rfl,r1⟩:=r.one_inv
  obtain ⟨a,xs,rfl,h1,r1⟩:=r1.tup_inv
  exact ⟨a,xs,rfl,.inr (.inl (.inl h1)),fun p hp => k _ _ _ _ (q p (ok.none_of hp)) (.newO ok hp r1) (.raw _)⟩)) hg (by decide) (by decide) he
theorem Reps.rngs {K:PySem.W.Frag} {H:Hp}:∀ (ns:List Nat),Reps K O H (ns.map fun (i:Nat) => V.int i) (ns.map fun (i:Nat) => T.int i)
 | [] => .nil
 | n :: ns => .cons (.int _) (Reps.rngs ns)
theorem NZ {p1 p2 pos1:Pos} (m:Z.X.mg "list" = none) (m2:Z.X.mg "range" = none) (hc:Z.X.calm = true) (h:ET Z ρ O e (.int i)) (h0:0≤i) (h1:i≤1000) (q:∀ a,O a = none→Φ (.raw (.ref a)) (AV O a ((List.range i.toNat).map fun (i:Nat) => T.int i)))
  (hg:Gl Z.X "list":=by rfl) (hg2:Gl Z.X "range":=by rfl) (he:starEach [e] Z.X.env = (false,eval e Z.X.env) :: starEach [] Z.X.env:=by rfl) (he2:starEach [Expr.Call (.Name "range" p2) [e] [] pos1] Z.X.env = (false,eval (.Call (.Name "range" p2) [e] [] pos1) Z.X.env) :: starEach [] Z.X.env:=by rfl):WE Z ρ O (.Call (.Name "list" p) [.Call (.Name "range" p2) [e] [] pos1] [] pos) Φ:=by
 refine PE.weak (Cr (Jf hc) hg m NY (AK (Cr Ia hg2 m2 Rs (EX (ρ:=ρ)) (by decide) (by decide) he) Ao he2) (by decide) (by decide) he2) fun σ H Q k => ?_
 refine ⟨O,_,AI h AE he (fun ts O' => ts = [.int i]∧O' = O) ⟨rfl,rfl⟩,k.1,?_⟩
 rintro vs H1 _ _ ⟨rfl,rfl⟩ f r
 obtain ⟨v,rfl,r1⟩:=r.one_inv
 cases r1.int_inv
 refine ⟨i,rfl,fun p hp => ⟨p,i,rfl,AG,h0,h1,fun l hl => ?_⟩⟩
 have f1:=Frm.new (o:=.rng 0 i) f.ok hp
 exact k.2 _ _ _ _ (q l (f1.ok.none_of hl)) (f.trans (f1.trans (.newO f1.ok hl (Reps.rngs _)))) (.raw _)
end
def Ig (ts:List T) (lo hi:Option Int):List T:=(ts.drop (HT.Ew ts.length 0 lo)).take (HT.Ew ts.length ts.length hi - HT.Ew ts.length 0 lo)
section
variable {K:PySem.W.Frag} {O:AJ} {H:Hp}
theorem Reps.cut {vs:List V} {ts:List T} {lo hi:Option Int} (r:Reps K O H vs ts):Reps K O H (ID vs lo hi) (Ig ts lo hi):=by
 unfold ID Ig
 rw [r.length]
 exact (r.drop _).take _
end
section
variable {Z:Zx} {ρ:List (Option T)} {O:AJ} {e a b c:Expr} {es:List Expr} {Φ:BM} {pos p p2:Pos} {t ta tb:T} {ts us:List T} {i j:Int} {x:Str} {lo hi:Expr}
theorem Ru {p3 p4:Pos} (h:ET Z ρ O e (.tup ts)):ET Z ρ O (.Subscript e (.Slice none none (some (.UnaryOp .USub (.Constant (.int 1) 0 p3) p4)) p2) pos) (.tup ts.reverse):=fun Φ q => by
 refine PE.weak (PF (Aw (ρ:=ρ))) fun σ H Q k => ?_
 refine ⟨O,_,h (fun t O' => t = .tup ts∧O' = O) ⟨rfl,rfl⟩,k.1,?_⟩
 rintro v H1 _ _ ⟨rfl,rfl⟩ f r
 obtain ⟨a,xs,rfl,h1,r1⟩:=r.tup_inv
 exact ⟨a,xs,rfl,.inl (.inl h1),fun l hl => k.2 _ _ _ _ q (f.trans (.new f.ok hl)) (.tup AG (r1.rev.kp (BG f.ok hl) f.ok))⟩
theorem Eh (hl:ts.length + us.length≤sizeLine) {K:PySem.W.Frag}:RP K TD (.lst ts) (.lst us) O (.lst (ts ++ us)):=fun Φ p H v w Q ok r1 r2 q => by
 obtain ⟨a,xs,rfl,h1,_,r1⟩:=r1.lst_inv
 obtain ⟨b,ys,rfl,h2,_,r2⟩:=r2.lst_inv
 exact ⟨a,b,xs,ys,rfl,rfl,h1,h2,by rw [r1.length,r2.length]; exact hl,fun l hq => q _ _ _ O p (.new ok hq) (.lst AG (ok.none_of hq) ((r1.append r2).kp (BG ok hq) ok))⟩
theorem Hf (ha:ET Z ρ O a (.lst ts)) (hb:ET Z ρ O b (.lst us)) (hl:ts.length + us.length≤sizeLine):ET Z ρ O (.BinOp a .Add b pos) (.lst (ts ++ us)):=FR Ez (Eh hl) ha hb
theorem Ih {l:Addr} (hu:Z.X.A.units < cLine) (ho:O l = some ts) (ha:ET Z ρ O a (.raw (.ref l))) {p1:Pos}:EB Z ρ O (.Compare a [.NotEq] [.List [] p1] pos) (!ts.isEmpty):=CJ (NE hu) (Ak _) (fun Φ p H v w Q ok r1 r2 q => by
 cases r1.raw_inv
 obtain ⟨b,ys,rfl,h2,_,r2⟩:=r2.lst_inv
 cases r2.nil_inv
 obtain ⟨xs,h1,r1⟩:=ok l ts ho
 refine ⟨l,b,xs,rfl,rfl,.inl (.inl h1),.inl (.inl h2),?_⟩
 rw [r1.isEmpty]
 exact q _ H _ O p (.refl ok) (.bl _)) ha (Bf AE (Nat.zero_le _))
theorem Tm {n:Nat} (h0:0≤i) (h1:i < n):seqIndex? i n = some i.toNat:=by
 unfold seqIndex?
 have:¬ i < 0:=by omega
 simp only [if_neg this]
 rw [if_pos]
 simp
 omega
theorem Fc {o:Expr} {apos cpos:Pos} (h:WE Z ρ O o fun t O1 => ∃ l,t = .raw (.ref l)∧(∃ ts,O1 l = some ts)∧WE Z ρ O1 e fun u O2 => ∃ ts i y,u = .int i∧O2 l = some ts∧0≤i∧i < 2 ^ 63∧i < ts.length∧ts[i.toNat]? = some y∧Φ y (AV O2 l (ts.eraseIdx i.toNat)))
  (hbase:attributeBase o "pop" Z.X.env (eval o Z.X.env) = eval o Z.X.env:=by rfl)
  (hfew:((backTo cpos (starEach [e] Z.X.env)).all (fun x => !x.1) && (backToKw cpos (keywordEach [] Z.X.env)).all (fun x => x.1.isSome)
   && decide ([e].length + ([]:List Keyword).length + (if ([]:List Keyword).isEmpty then 0 else 1) < 30)) = true:=by rfl)
  (hline:(apos.endLine == cpos.line) = true:=by rfl) (hs:starEach [e] Z.X.env = (false,eval e Z.X.env) :: starEach [] Z.X.env:=by rfl) (hplain:(backTo cpos (starEach [] Z.X.env)).any (·.1) = false:=by rfl):WE Z ρ O (.Call (.Attribute o "pop" apos) [e] [] cpos) Φ:=by
 refine QP PySem.F.plainAttrs_list PySem.F.slot_list_pop PySem.F.type_list_pop MX (Cw h ?_) hbase hfew hline hs hplain
 rintro t O1 ⟨l,rfl,⟨ts,hts⟩,w⟩
 refine ⟨Kd hts,BL (Cw w ?_) hs⟩
 rintro u O2 ⟨us,i,y,rfl,h1,i0,i1,i2,hy,p⟩
 refine AX fun H v vs Q ok r1 r2 q => ?_
 cases r1.raw_inv
 obtain ⟨w,rfl,r3⟩:=r2.one_inv
 cases r3.int_inv
 obtain ⟨xs,hx,r⟩:=ok l us h1
 obtain ⟨v,hv,rv⟩:=r.get hy
 exact ⟨l,xs,i,i.toNat,v,rfl,rfl,hx,by omega,i1,by rw [r.length]; exact Tm i0 i2,hv,q _ _ _ _ p (.put ok h1 (r.eraseIdx _)) (rv.kp (HN h1) ok)⟩
end
def AB (p:Int × Int):T:=.tup [.int p.1,.int p.2]
def Ii (p q:Int × Int):Prop:=p.1 < q.1∨(p.1 = q.1∧p.2 < q.2)
section
variable {K:PySem.W.Frag} {O:AJ} {H:Hp}
theorem Fd:∀ {ps:List (Int × Int)} {xs:List V},Reps K O H xs (ps.map AB)→∃ qs:List (List Int × Addr),xs = qs.map (fun p => V.ref p.2)∧qs.map (·.1) = ps.map (fun p => [p.1,p.2])∧∀ k x,(k,x)∈qs→H x = some (.tup (k.map V.int))
 | [],xs,r => ⟨[],r.nil_inv,rfl,fun _ _ h => by cases h⟩
 | p :: ps,xs,r => by
  obtain ⟨v,vs',rfl,h,r'⟩:=Reps.cons_inv r
  obtain ⟨a,ys,rfl,ha,r2⟩:=h.tup_inv
  cases Reps.ints (ns:=[p.1,p.2]) r2
  obtain ⟨qs,rfl,e,hk⟩:=Fd r'
  refine ⟨([p.1,p.2],a) :: qs,rfl,by rw [List.map_cons,List.map_cons,e],fun k x h => ?_⟩
  rcases List.mem_cons.mp h with h | h
  ·cases h; exact ha
  ·exact hk k x h
theorem Fe:∀ {qs:List (List Int × Addr)} {ps:List (Int × Int)},qs.map (·.1) = ps.map (fun p => [p.1,p.2])→(∀ k x,(k,x)∈qs→H x = some (.tup (k.map V.int)))→Reps K O H (qs.map fun p => V.ref p.2) (ps.map AB)
 | [],[],_,_ => .nil
 | [],p :: ps,e,_ => by cases e
 | q :: qs,[],e,_ => by cases e
 | (k,x) :: qs,p :: ps,e,h => by
  rw [List.map_cons,List.map_cons] at e
  injection e with e1 e2
  have e1:k = [p.1,p.2]:=e1
  have hx:=h k x (List.mem_cons_self ..)
  rw [e1] at hx
  exact .cons (.tup hx (.cons (.int _) (.cons (.int _) .nil))) (Fe e2 fun k x hk => h k x (List.mem_cons_of_mem _ hk))
end
theorem Kl:∀ {ys:List (List Int × Addr)},(∀ k x,(k,x)∈ys→∃ i j:Int,k = [i,j])→∃ ps:List (Int × Int),ys.map (·.1) = ps.map (fun p => [p.1,p.2])
 | [],_ => ⟨[],rfl⟩
 | (k,x) :: ys,h => by
  obtain ⟨i,j,e⟩:=h k x (List.mem_cons_self ..)
  obtain ⟨ps,e2⟩:=Kl fun k x hk => h k x (List.mem_cons_of_mem _ hk)
  exact ⟨(i,j) :: ps,by rw [List.map_cons,List.map_cons,e,e2]⟩
section
variable {Z:Zx} {ρ:List (Option T)} {O:AJ} {e:Expr} {Φ:BM} {pos p p1 pos1:Pos}
theorem BW {ps:List (Int × Int)} (m:Z.X.mg "sorted" = none) (m2:Z.X.mg "set" = none) (hc:Z.X.calm = true) (hu:Z.X.A.units + 8 < cLine) (h:ET Z ρ O e (.lst (ps.map AB))) (hl:ps.length≤300) (hb:∀ q∈ps,0≤q.2∧q.2 < 65536)
  (k:∀ qs:List (Int × Int),qs.Pairwise Ii→(∀ q,q∈qs↔q∈ps)→qs.length≤ps.length→Φ (.lst (qs.map AB)) O) (hg:Gl Z.X "sorted":=by rfl) (hg2:Gl Z.X "set":=by rfl) (he:starEach [e] Z.X.env = (false,eval e Z.X.env) :: starEach [] Z.X.env:=by rfl)
  (he2:starEach [Expr.Call (.Name "set" p1) [e] [] pos1] Z.X.env = (false,eval (.Call (.Name "set" p1) [e] [] pos1) Z.X.env) :: starEach [] Z.X.env:=by rfl):WE Z ρ O (.Call (.Name "sorted" p) [.Call (.Name "set" p1) [e] [] pos1] [] pos) Φ:=by
 refine PE.weak (An (HL hc) hg m PN (AK (Cr (Lc hc hu) hg2 m2 VB (EX (ρ:=ρ)) (by decide) (by decide) he) Ao he2) (by decide) (by decide) he2) fun σ H Q q => ?_
 refine ⟨O,_,AI h AE he (fun ts O' => ts = [.lst (ps.map AB)]∧O' = O) ⟨rfl,rfl⟩,q.1,?_⟩
 rintro vs H1 _ _ ⟨rfl,rfl⟩ f r
 obtain ⟨v,rfl,r1⟩:=r.one_inv
 obtain ⟨a,xs,rfl,h1,_,r1⟩:=r1.lst_inv
 obtain ⟨qs,rfl,eq,hk⟩:=Fd r1
 have lq:qs.length = ps.length:=by
  have:=congrArg List.length eq
  simpa using this
 refine ⟨a,qs,rfl,.inl (.inl h1),fun k x hx => .inl (.inl (hk k x hx)),by omega,fun l xs hl1 so nd => ?_⟩
 obtain ⟨s1,s2,s3⟩:=so
 have f1:=Frm.new (o:=SetO Z.X.prog Z.X.w l xs) f.ok hl1
 have hk2:∀ k x,(k,x)∈xs→upd H1 l (SetO Z.X.prog Z.X.w l xs) x = some (.tup (k.map V.int)):=fun k x hx => by
  have:=hk k x (s1 _ hx)
  rw [AD (AL this hl1)]; exact this
 have mem1:∀ k x,(k,x)∈qs→∃ q∈ps,k = [q.1,q.2]:=fun k x hx => by
  have:k∈qs.map (·.1):=List.mem_map.mpr ⟨(k,x),hx,rfl⟩
  rw [eq] at this
  obtain ⟨q,h1,h2⟩:=List.mem_map.mp this
  exact ⟨q,h1,h2.symm⟩
 have two:∀ k x,(k,x)∈xs→∃ i j,k = [i,j]∧0≤j∧j < 65536:=fun k x hx => by
  obtain ⟨q,h1,h2⟩:=mem1 k x (s1 _ hx)
  exact ⟨q.1,q.2,h2,hb q h1⟩
 refine ⟨l,xs,rfl,AG,fun k x hx => .inl (.inl (hk2 k x hx)),by omega,two,fun d ys hd pm pw => ?_⟩
 obtain ⟨rs,er⟩:=Kl (ys:=ys) fun k x hx => by
  obtain ⟨i,j,e,_⟩:=two k x (pm.mem_iff.mp hx)
  exact ⟨i,j,e⟩
 have f2:=Frm.new (o:=.lst (ys.map fun p => V.ref p.2)) f1.ok hd
 have hk3:∀ k x,(k,x)∈ys→upd (upd H1 l (SetO Z.X.prog Z.X.w l xs)) d (.lst (ys.map fun p => V.ref p.2)) x = some (.tup (k.map V.int)):=fun k x hx => by
  have:=hk2 k x (pm.mem_iff.mp hx)
  rw [AD (AL this hd)]; exact this
 have memr:∀ z,z∈rs↔∃ x,([z.1,z.2],x)∈ys:=fun z => by
  constructor
  ·intro hz
   have:[z.1,z.2]∈ys.map (·.1):=by rw [er]; exact List.mem_map.mpr ⟨z,hz,rfl⟩
   obtain ⟨⟨k,x⟩,h1,h2⟩:=List.mem_map.mp this
   have h2:k = _:=h2
   subst h2
   exact ⟨x,h1⟩
  ·rintro ⟨x,hx⟩
   have:[z.1,z.2]∈ys.map (·.1):=List.mem_map.mpr ⟨_,hx,rfl⟩
   rw [er] at this
   obtain ⟨w,h1,h2⟩:=List.mem_map.mp this
   injection h2 with e1 e2
   injection e2 with e2 _
   have:w = z:=Prod.ext e1 e2
   rw [← this]; exact h1
 have ndy:(ys.map (·.1)).Nodup:=(pm.map _).nodup_iff.mpr nd
 refine q.2 _ _ _ _ (k rs ?_ (fun z => ?_) ?_) (f.trans (f1.trans f2)) (.lst AG (f1.ok.none_of hd) (Fe er hk3))
 ·-- strictly rising
  have pw':rs.Pairwise fun x y => 65536 * x.1 + x.2≤65536 * y.1 + y.2:=by
   have h3:(ys.map (·.1)).Pairwise fun x y => 65536 * x.getD 0 0 + x.getD 1 0≤65536 * y.getD 0 0 + y.getD 1 0:=List.pairwise_map.mpr pw
   rw [er] at h3
   exact (List.pairwise_map (f:=fun (p:Int × Int) => [p.1,p.2]) (R:=fun x y => 65536 * x.getD 0 0 + x.getD 1 0≤65536 * y.getD 0 0 + y.getD 1 0)).mp h3
  have nd':rs.Pairwise fun x y => x≠y:=by
   have h3:(ys.map (·.1)).Pairwise (·≠·):=ndy
   rw [er] at h3
   exact (List.pairwise_map.mp h3).imp fun hxy z => hxy (by rw [z])
  refine (pw'.and nd').imp_of_mem fun {x y} hx hy ⟨h1,h2⟩ => ?_
  have bnd:∀ z,z∈rs→0≤z.2∧z.2 < 65536:=fun z hz => by
   obtain ⟨v,hv⟩:=(memr z).mp hz
   obtain ⟨i,j,e,hj⟩:=two _ v (pm.mem_iff.mp hv)
   injection e with e1 e2
   injection e2 with e2 _
   omega
  have b1:=bnd x hx
  have b2:=bnd y hy
  unfold Ii
  have:¬ (x.1 = y.1∧x.2 = y.2):=fun z => h2 (Prod.ext z.1 z.2)
  omega
 ·rw [memr]
  constructor
  ·rintro ⟨x,hx⟩
   obtain ⟨w,h1,h2⟩:=mem1 _ x (s1 _ (pm.mem_iff.mp hx))
   injection h2 with e1 e2
   injection e2 with e2 _
   have:z = w:=Prod.ext e1 e2
   rw [this]; exact h1
  ·intro hz
   have:[z.1,z.2]∈qs.map (·.1):=by rw [eq]; exact List.mem_map.mpr ⟨z,hz,rfl⟩
   obtain ⟨⟨k,x⟩,h1,h2⟩:=List.mem_map.mp this
   have h2:k = _:=h2
   subst h2
   obtain ⟨x',hx'⟩:=s2 _ _ h1
   exact ⟨x',pm.mem_iff.mpr hx'⟩
 ·have e1:rs.length = ys.length:=by
   have:=congrArg List.length er
   simpa using this.symm
  have e2:=pm.length_eq
  omega
end
theorem XFly.mono {X:Cx} {W W':St→XK} (x:XFly X W) (h:∀ σ cls H',W' σ cls none H'→W σ cls none H'):XFly X W':=⟨fun pins σ H s e s' I c => x.fly pins σ H s e s' I (by
 obtain ⟨y,cls,H',e1,f,q⟩:=c
 exact ⟨y,cls,H',e1,f,h σ cls H' q⟩)⟩
theorem DZ {X:Cx} {Oe:AJ} {He:Hp}:XFly X (zc X Oe He).W:=⟨fun pins σ H s e s' I c => by
 obtain ⟨y,cls,H',e1,f,_,O',z,_⟩:=c
 exact z.elim⟩
abbrev zB (P:Program) (w:World) (K:PySem.W.Frag) (mg:Str→Option Value) (base:Heap) (N:List Str) (qual:Str) (sc:Scope) (f:Addr) (cdv:Value) (A:Around) (outer:List Env) (s:Shared) (H:Hp) (E:XK) (O:AJ) (Ξ:Value→AJ→Prop):Zx :=
 ⟨BY (CXe P w) P w K mg base N qual sc f cdv A outer s H E,O,H,Ξ⟩
def By (N:List Str) (ts:List T):List (Option T):=ts.map some ++ List.replicate (N.length - ts.length) none
theorem Da {K:PySem.W.Frag} {O:AJ} {H:Hp} {N:List Str} {vs:List V} {ts:List T} (r:Reps K O H vs ts):Rl K O H (start N vs) (By N ts):=by
 refine ⟨by simp [start,By,r.length],fun i t e => ?_⟩
 unfold By at e
 by_cases hi:i < ts.length
 ·rw [List.getElem?_append_left (by simpa using hi),List.getElem?_map] at e
  cases ht:ts[i]? with
  | none => rw [ht] at e; cases e
  | some u =>
   rw [ht] at e
   cases e
   obtain ⟨v,h1,h2⟩:=r.get ht
   refine ⟨v,?_,h2⟩
   unfold start
   rw [List.getElem?_append_left (by simpa [r.length] using hi),List.getElem?_map,h1]
   rfl
 ·rw [List.getElem?_append_right (by simpa using hi),List.getElem?_replicate] at e
  split at e <;> cases e
theorem Ax {P:Program} {w:World} {K:PySem.W.Frag} {mg:Str→Option Value} {base:Heap} {x qual:Str} {st:Stmt} {f:Addr} {fd:FuncData} {N ps:List Str} {k:Nat} {sp:DI} (F:Fun K x qual st f fd) (S:FnScope N ps (AA st)) (len:∀ ts O Φ Ξ,sp ts O Φ Ξ→ts.length = ps.length)
  (h:∀ (cdv:Value) (A:Around) (outer:List Env) (s:Shared) (H:Hp) (E:XK) (O:AJ) (Ξ:Value→AJ→Prop),Room k (A.deeper (envOfC qual (AA st) s.heap.objs.size f cdv))→XFly (zB P w K mg base N qual (AA st) f cdv A outer s H E O Ξ).X (zB P w K mg base N qual (AA st) f cdv A outer s H E O Ξ).W →
   ∀ ts Φ,sp ts O Φ Ξ→Ef (zB P w K mg base N qual (AA st) f cdv A outer s H E O Ξ) (By N ts) O (AT st) { nx:=fun _ O' => Φ .non O',rt:=Φ }):FnOk P w K mg base (CXe P w) (k + 1) f fd ps (EY K sp):=by
 refine F.okX S (fun vs H Q E h => ?_) (fun cdv A outer s H vs Q E hr h1 => ?_)
 ·obtain ⟨ts,O,Φ,Ξ,r,_,q,_⟩:=h
  rw [r.length]; exact len ts O Φ Ξ q
 ·obtain ⟨ts,O,Φ,Ξ,r,ok,q,acc,ex⟩:=h1
  refine ⟨_,h cdv A outer s H E O Ξ hr (XFly.mono BB.f ?_) ts Φ q,⟨Da r,.refl ok⟩,?_⟩
  ·rintro σ cls H' ⟨_,O',x,f⟩
   exact ex cls O' H' x f
  ·exact ⟨fun ρ' O' σ' H' p a _ => acc _ _ _ O' p a.fr .non,fun v H' t O' p f r => acc v H' t O' p f r,fun _ _ _ _ z => z.elim,fun _ _ _ _ z => z.elim⟩
theorem FnT.mono {P:Program} {w:World} {K:PySem.W.Frag} {mg:Str→Option Value} {base:Heap} {x:Str} {j k:Nat} {ps:List Str} {s:DI} (G:FnT P w K mg base x j ps s) (h:j≤k):FnT P w K mg base x k ps s:=by
 obtain ⟨f,fd,F,r⟩:=G.ex
 exact ⟨f,fd,F.mono h,r⟩
structure Fi (K:PySem.W.Frag) (x:Str) (st:Stmt) (f:Addr) (fd:FuncData):Prop where
 F:Fun K x x st f fd
 a:PySem.W.nsIn K mainGlobals x = some (some (.ref f))
def Fx (K:PySem.W.Frag) (x:Str) (st:Stmt):Prop:=∃ f fd,Fi K x st f fd
def Zn (K:PySem.W.Frag) (x:Str):Prop:=PySem.W.nsIn K mainGlobals x = some none
def Cn (K:PySem.W.Frag) (x:Str) (C:Addr):Prop:=PySem.W.nsIn K mainGlobals x = some (some (.ref C))
structure Mg (P:Program) (w:World) (K:PySem.W.Frag) (mg:Str→Option Value) (base:Heap):Prop where
 mm:∀ {x:Str} {v:Value},PySem.W.nsIn K mainGlobals x = some (some v)→mg x = some v
section
variable {P:Program} {w:World} {K:PySem.W.Frag} {mg:Str→Option Value} {base:Heap} {x:Str} {st:Stmt} {f:Addr} {fd:FuncData} {ps:List Str} {k:Nat}
theorem fi {oc:Value} {od:Option Addr} {kV doc pm:Value} {an:Option Addr} {cdv ct:Value} {osl:Array (Option Value)} (a:PySem.W.nsIn K mainGlobals x = some (some (.ref f))) (l:K.lookup f = some ⟨oc,od,.func (PySem.W.fnOf x x (Bl st) (AT st) (AA st) .none kV doc pm an cdv ct),osl⟩) (q:PySem.W.codeIn K cdv x = true) (h:PySem.W.keepIn K (.ref f) = true) :
  Fx K x st:=⟨f,_,⟨⟨⟨oc,od,kV,doc,pm,an,cdv,ct,osl,rfl,l,q⟩,h⟩,a⟩⟩
abbrev Bi (x:Str) (st:Stmt) (ps:List Str) (us:List Value):Prop:=∀ (kV doc pm:Value) (an:Option Addr) (cdv ct:Value),bindArgs (PySem.W.fnOf x x (Bl st) (AT st) (AA st) .none kV doc pm an cdv ct) ⟨us,[]⟩ = pure (ps.zip us)
theorem Fi.b1 (h:Fi K x st f fd) (hl:ps.length = 1) (q:∀ a,Bi x st ps [a]):Binds K fd ps []:=h.F.binds fun _ _ _ _ _ _ us e => match us,e.trans hl with | [a],_ => q a ..
theorem Fi.b2 (h:Fi K x st f fd) (hl:ps.length = 2) (q:∀ a b,Bi x st ps [a,b]):Binds K fd ps []:=h.F.binds fun _ _ _ _ _ _ us e => match us,e.trans hl with | [a,b],_ => q a b ..
theorem Fi.b3 (h:Fi K x st f fd) (hl:ps.length = 3) (q:∀ a b c,Bi x st ps [a,b,c]):Binds K fd ps []:=h.F.binds fun _ _ _ _ _ _ us e => match us,e.trans hl with | [a,b,c],_ => q a b c ..
theorem Fi.t {s:DI} (h:Fi K x st f fd) (M:Mg P w K mg base) (ok:FnOk P w K mg base (CXe P w) k f fd ps (EY K s)) (b:Binds K fd ps []):FnT P w K mg base x k ps s:=⟨f,fd,ok,M.mm h.a,h.F.kp,b⟩
structure Xk (K:PySem.W.Frag) (C CR c0 c1 c2 c3 c4 c5 c6 c7:Addr) (b0 b1 b2 b3 b4 b5 b6 b7:Bool):Prop where
 e0:PySem.W.kitOne K (.ref C) (.ref c0) = some b0
 e1:PySem.W.kitOne K (.ref C) (.ref c1) = some b1
 e2:PySem.W.kitOne K (.ref C) (.ref c2) = some b2
 e3:PySem.W.kitOne K (.ref C) (.ref c3) = some b3
 e4:PySem.W.kitOne K (.ref C) (.ref c4) = some b4
 e5:PySem.W.kitOne K (.ref C) (.ref c5) = some b5
 e6:PySem.W.kitOne K (.ref C) (.ref c6) = some b6
 e7:PySem.W.kitOne K (.ref C) (.ref c7) = some b7
 kR:PySem.W.kitOne K (.ref C) (.ref CR) = some true
 nR:(Value.ref C == Value.ref CR) = false
 ve:PySem.W.kitOne K (.ref C) (.type "ValueError") = some true
 g1:PySem.W.findIn K (.ref C) "__getattribute__" = some (some (.builtin "BaseException.__getattribute__"))
 g2:PySem.W.findIn K (.ref C) "__getattr__" = some none
 g3:PySem.W.mroIn K C (.type "BaseException") = some true
 g4:PySem.W.mroIn K C (.type "object") = some true
 g5:PySem.W.findIn K (.ref C) "__class__" = some (some (.builtin "object.__class__"))
structure Xg (K:PySem.W.Frag) (CR:Addr):Prop where
 bR:PySem.W.mroIn K CR (.type "BaseException") = some true
 g6:PySem.W.specialIn K (.builtin "object.__class__") "__get__" = some (some (.builtin "getset_descriptor.__get__"))
 g7:PySem.W.takesIn K (.builtin "object.__class__") = some true
theorem Xk.kit {C CR c0 c1 c2 c3 c4 c5 c6 c7:Addr} {b0 b1 b2 b3 b4 b5 b6 b7:Bool} (x:Xk K C CR c0 c1 c2 c3 c4 c5 c6 c7 b0 b1 b2 b3 b4 b5 b6 b7):PySem.W.kitCls K (.ref C) (.ref CR) = some true:=by
 have h:=x.kR
 unfold PySem.W.kitOne at h
 rw [x.nR,if_neg Bool.false_ne_true] at h
 exact h
end
def QU (S:Scope) (N:List Str) (csc:Scope) (cap:List (Str × Nat)):Bool :=
 decide (csc.kind = .function) && csc.names.all (fun y => decide (y.2 = .cell→csc.names.lookup y.1 = some .cell)) && csc.names.all (fun y => decide (y.2 = .local→csc.names.lookup y.1 = some .local)) && csc.names.all (fun y => decide (y.2 = .free→S.names.lookup y.1 = some .cell∨S.names.lookup y.1 = some .free)) && cap.all (fun p => decide (N[p.2]? = some p.1∧csc.names.lookup p.1 = some .free))
theorem EZ {X:Cx} {csc:Scope} {nc:List Str} {cap:List (Str × Nat)} (S:Scope) (N:List Str) (chk:QU S N csc cap = true) (h1:X.env.scope = S:=by rfl) (h2:X.N = N:=by rfl):LcOk X csc nc cap:=by
 unfold QU at chk
 simp only [Bool.and_eq_true,List.all_eq_true,decide_eq_true_eq] at chk
 obtain ⟨⟨⟨⟨c1,c2⟩,c3⟩,c4⟩,c5⟩:=chk
 exact ⟨c1,c2,c3,by rw [h1]; exact c4,by rw [h2]; exact c5⟩
section
variable {Z:Zx} {ρ:List (Option T)} {O:AJ} {elt tg iter:Expr} {ifs:List Expr} {csc:Scope} {nc:List Str} {cap:List (Str × Nat)} {Φ:BM} {pos:Pos} {α:Type}
theorem Ij {F:List T→AJ→Prop} (xs:List α) (f g:α→T) (hl:xs.length≤sizeLine) (h:∀ x,x∈xs→∃ ρ4,∀ X' Oe He,LcCx Z.X csc (As nc cap) X'→∀ O',(WG (zc X' Oe He) nc.length (Fs nc ρ cap) O' tg (f x) ρ4∧ET (zc X' Oe He) ρ4 O' elt (g x))) (fin:F (xs.map g) O):QS Z ρ elt tg [] csc nc cap F (xs.map f) O:=by
 refine ⟨fun i acc O' => O' = O∧acc = (xs.take i).map g,⟨rfl,by simp⟩,?_,?_⟩
 ·rintro i t acc O' p e ⟨rfl,rfl⟩ np
  rw [List.getElem?_map] at e
  cases ex:xs[i]? with
  | none => rw [ex] at e; cases e
  | some x =>
   rw [ex] at e
   cases e
   obtain ⟨ρ4,w⟩:=h x (List.mem_of_getElem? ex)
   have hi:=(List.getElem?_eq_some_iff.mp ex).1
   refine ⟨ρ4,fun X' Oe He is => ⟨(w X' Oe He is _).1,HX (IG fun X' Oe He is => (w X' Oe He is _).2 _ ⟨_,rfl,np,?_,rfl,?_⟩)⟩⟩
   ·simp; omega
   ·rw [List.take_add_one,ex]; simp
 ·rintro acc O' ⟨rfl,rfl⟩
  rw [List.length_map,List.take_length]
  exact fin
theorem Ik {F:List T→AJ→Prop} {c:Expr} (xs:List α) (f g:α→T) (q:α→Bool) (hl:xs.length≤sizeLine) (h:∀ x,x∈xs→∃ ρ4,∀ X' Oe He,LcCx Z.X csc (As nc cap) X'→∀ O',(WG (zc X' Oe He) nc.length (Fs nc ρ cap) O' tg (f x) ρ4∧EB (zc X' Oe He) ρ4 O' c (q x)∧(q x = true→ET (zc X' Oe He) ρ4 O' elt (g x)))) (fin:F ((xs.filter q).map g) O):QS Z ρ elt tg [c] csc nc cap F (xs.map f) O:=by
 refine ⟨fun i acc O' => O' = O∧acc = ((xs.take i).filter q).map g,⟨rfl,by simp⟩,?_,?_⟩
 ·rintro i t acc O' p e ⟨rfl,rfl⟩ np
  rw [List.getElem?_map] at e
  cases ex:xs[i]? with
  | none => rw [ex] at e; cases e
  | some x =>
   rw [ex] at e
   cases e
   obtain ⟨ρ4,w⟩:=h x (List.mem_of_getElem? ex)
   have hi:=(List.getElem?_eq_some_iff.mp ex).1
   refine ⟨ρ4,fun X' Oe He is => ⟨(w X' Oe He is _).1,HY ((w X' Oe He is _).2.1 _ ?_)⟩⟩
   cases hq:q x with
   | true =>
    refine IG fun X' Oe He is => (w X' Oe He is _).2.2 hq _ ⟨_,rfl,np,?_,rfl,?_⟩
    ·have:=List.length_filter_le q (xs.take i)
     simp at this ⊢; omega
    ·rw [List.take_add_one,ex]; simp [hq]
   | false =>
    refine JL ⟨_,rfl,np,rfl,?_⟩
    rw [List.take_add_one,ex]; simp [hq]
 ·rintro acc O' ⟨rfl,rfl⟩
  rw [List.length_map,List.take_length]
  exact fin
theorem EE (nc:List Str) (cap:List (Str × Nat)) (xs:List α) (f g:α→T) (hc:Z.X.calm = true) (ok:LcOk Z.X csc nc cap) (hi:EI Z ρ O tg iter (xs.map f)) (hl:xs.length≤sizeLine) (h:∀ x,x∈xs→∃ ρ4,∀ X' Oe He,LcCx Z.X csc (As nc cap) X'→∀ O',(WG (zc X' Oe He) nc.length (Fs nc ρ cap) O' tg (f x) ρ4∧ET (zc X' Oe He) ρ4 O' elt (g x)))
  (hs:∀ x,foldedSetIterable iter Z.X.env x = pure x:=by intro _; rfl):ET Z ρ O (.ListComp elt [⟨tg,iter,[],0⟩] csc pos) (.lst (xs.map g)):=fun Φ p => GV hc ok (hi _ (Ij xs f g hl h p)) hs
theorem Rv (nc:List Str) (cap:List (Str × Nat)) {c:Expr} (xs:List α) (f g:α→T) (q:α→Bool) (hc:Z.X.calm = true) (ok:LcOk Z.X csc nc cap) (hi:EI Z ρ O tg iter (xs.map f)) (hl:xs.length≤sizeLine) (h:∀ x,x∈xs→∃ ρ4,∀ X' Oe He,LcCx Z.X csc (As nc cap) X'→∀ O',(WG (zc X' Oe He) nc.length (Fs nc ρ cap) O' tg (f x) ρ4∧EB (zc X' Oe He) ρ4 O' c (q x)∧(q x = true→ET (zc X' Oe He) ρ4 O' elt (g x))))
  (hs:∀ x,foldedSetIterable iter Z.X.env x = pure x:=by intro _; rfl):ET Z ρ O (.ListComp elt [⟨tg,iter,[c],0⟩] csc pos) (.lst ((xs.filter q).map g)):=fun Φ p => GV hc ok (hi _ (Ik xs f g q hl h p)) hs
end
mutual
def JA:T→Bool
 | .tup ts => plBs ts
 | .lst ts => plBs ts
 | .frz ts => plBs ts
 | .raw _ => false
 | .non => true
 | .bl _ => true
 | .int _ => true
 | .str _ => true
 | .dct => true
def plBs:List T→Bool
 | [] => true
 | t :: ts => JA t && plBs ts
end
theorem Db {t:T} (h:JA t = true):CZ t = false:=by
 cases t <;> first | rfl | (unfold JA at h; cases h)
theorem Il:∀ {ts:List T},plBs ts = true↔∀ t∈ts,JA t = true
 | [] => by unfold plBs; simp
 | t :: ts => by unfold plBs; simp [Il (ts:=ts)]
theorem Hg {ts:List T}:JA (.tup ts) = true↔∀ t∈ts,JA t = true:=by
 have e:JA (.tup ts) = plBs ts:=by rw [JA]
 rw [e]; exact Il
theorem Na (p:Int × Int):JA (AB p) = true:=by
 unfold AB
 rw [Hg]
 intro t h
 rcases List.mem_cons.mp h with rfl | h
 ·rfl
 ·rw [List.mem_singleton.mp h]; rfl
section
variable {Z:Zx} {ρ:List (Option T)} {O:AJ} {e:Expr} {es:List Expr} {Φ:BM} {Ψ:Es} {pos p:Pos} {ts:List T} {x:Str}
theorem EA.wa {Φ:Jg} (h:EA Z ρ O es ts) (p:Φ ts O):WA Z ρ O es Φ:=h Φ p
theorem EI.wi {tg iter:Expr} {Φ:Jg} (h:EI Z ρ O tg iter ts) (p:Φ ts O):WI Z ρ O tg iter Φ:=h Φ p
theorem Bp {l:Addr} (hl:Z.Oe l = none) (h:WE Z ρ O e fun t O' => Ψ.rt t (AW O' l)):WS Z ρ O (.Return (some e) pos) Ψ:=PS.weak (Dn h) fun D σ H q => ⟨q.1,fun v H' t O' p f r => by
 have f':=q.1.fr.trans f
 refine q.2.rt v H' t _ p ⟨f'.kp.trans BK,fun b us e => ?_,f'.ok.drop⟩ (r.kp BK f'.ok)
 obtain ⟨us',e'⟩:=f'.own b us e
 have:b≠l:=fun z => by rw [z,hl] at e; cases e
 exact ⟨us',by rw [Bd this]; exact e'⟩⟩
theorem Lk {l:Addr} (m:Z.X.mg "tuple" = none) (ho:O l = some ts) (h:ET Z ρ O e (.raw (.ref l))) (hg:Gl Z.X "tuple":=by rfl) (he:starEach [e] Z.X.env = (false,eval e Z.X.env) :: starEach [] Z.X.env:=by rfl):ET Z ρ O (.Call (.Name "tuple" p) [e] [] pos) (.tup ts) :=
 GS EN m CM (AI h AE he) (fun Φ q H vs Q ok r k => by
  obtain ⟨v,rfl,r1⟩:=r.one_inv
  cases r1.raw_inv
  obtain ⟨xs,h1,r1⟩:=ok l ts ho
  exact ⟨l,xs,rfl,.inl (.inl h1),fun p hp => k _ _ _ O q (.new ok hp) (.tup AG (r1.kp (BG ok hp) ok))⟩) hg (by decide) (by decide) he
theorem Nb {k:Nat} {f:Addr} {fd:FuncData} {ps:List Str} {sp:Sp} (F:FnOk Z.X.prog Z.X.w Z.X.K Z.X.mg Z.X.base (CXe Z.X.prog Z.X.w) k f fd ps sp) (hm:Z.X.mg x = some (.ref f)) (hk:PySem.W.keepIn Z.X.K (.ref f) = true) (hb:Binds Z.X.K fd ps []) (hr:Room k Z.X.A) (xf:XFly Z.X Z.W) (h:EA Z ρ O (e :: es) ts)
  (w:∀ σ H vs Q,Asr Z ρ O σ H→Reps Z.K O H vs ts→Acc Z.K O H Φ Q→sp vs H Q (Z.W σ)) (hg:Gl Z.X x:=by rfl)
  (hdb:(x == ("__debug__" : Str)) = false:=by decide) (he:starEach (e :: es) Z.X.env = (false,eval e Z.X.env) :: starEach es Z.X.env:=by rfl) (hpl:(backTo pos (starEach es Z.X.env)).any (·.1) = false:=by rfl):WE Z ρ O (.Call (.Name x p) (e :: es) [] pos) Φ:=by
 refine PE.weak (DR xf F hr hg hm hk hb (EX (ρ:=ρ)) hdb he hpl) fun σ H Q q => ?_
 refine ⟨O,_,h (fun us O' => us = ts∧O' = O) ⟨rfl,rfl⟩,q.1,?_⟩
 rintro vs H1 _ _ ⟨rfl,rfl⟩ f r
 exact w σ H1 vs Q (q.1.step f) r (q.2.step f)
end
def BD:Expr→Bool
 | .Starred .. => false
 | _ => true
theorem BJ {e:Expr} {es:List Expr} {env:Env} (h:BD e = true):starEach (e :: es) env = (false,eval e env) :: starEach es env:=by
 cases e <;> first | rfl | cases h
section
variable {Z:Zx} {ρ:List (Option T)} {O:AJ} {e:Expr} {es:List Expr} {t:T} {ts:List T}
theorem AU (h:ET Z ρ O e t) (hr:EA Z ρ O es ts) (hn:BD e = true:=by rfl):EA Z ρ O (e :: es) (t :: ts):=AI h hr (BJ hn)
theorem BQ {Φ:Jg} (h:WE Z ρ O e fun t O1 => WA Z ρ O1 es fun ts O2 => Φ (t :: ts) O2) (hn:BD e = true:=by rfl):WA Z ρ O (e :: es) Φ:=BL h (BJ hn)
theorem CO {a b:Expr} {i j:Int} {k:Nat} {pos:Pos} (ha:ET Z ρ O a (.int i)) (hb:ET Z ρ O b (.int j)) (h1:BD a = true:=by rfl) (h2:BD b = true:=by rfl):ET Z ρ O (.Tuple [a,b] k pos) (AB (i,j)):=Bx (AU ha (AU hb AE h2) h1) (by show 2≤sizeLine; decide)
theorem VD {p:Int × Int} {ps:List (Int × Int)} (h:ET Z ρ O e (AB p)) (hr:EA Z ρ O es (ps.map AB)) (hn:BD e = true:=by rfl):EA Z ρ O (e :: es) ((p :: ps).map AB):=AU h hr hn
end
theorem GX {O:AJ} {p l:Addr} {xs ys:List T} (h:O l = none) (hp:p≠l):AW (AV (AV O p xs) l ys) l = AV O p xs:=by
 refine Ah ?_
 rw [AQ (Ne.symm hp)]; exact h
theorem Ff {O:AJ} {p:Addr} {xs:List T} (h:O p = some xs):AV O p xs = O:=by
 funext b
 by_cases hb:b = p
 ·rw [hb,AF,h]
 ·rw [AQ hb]
theorem Fg {O:AJ} {p l:Addr} {xs:List T} (h:O p = some xs) (hl:O l = none):p≠l:=fun z => by rw [z,hl] at h; cases h
def Rw:Expr→Bool
 | .ListComp .. => false
 | .SetComp .. => false
 | .DictComp .. => false
 | _ => true
theorem Nc {e:Expr} {t:Option Expr} {l:Nat} {env:Env} (h:Rw e = true):swapsWith e t l env = pure false:=by
 cases e <;> first | rfl | cases h
section
variable {Z:Zx} {ρ:List (Option T)} {O:AJ} {e:Expr} {es:List Expr} {t:T} {ts:List T} {Φ:BM} {Ψ:Es} {pos p2:Pos} {x:Str}
theorem PQ (i:Nat) (h:EA Z ρ O es ts) (hl:ts.length≤sizeLine) (k:Ψ.nx (ρ.set i (some (.lst ts))) O) (hN:Z.X.N.Nodup) {pos':Pos} (hi:Z.X.N[i]? = some x:=by rfl) (hx:OP Z.X.env.scope x:=by first | exact Or.inl rfl | exact Or.inr rfl)
  (hf:Z.X.fn x = true∨Z.X.env.scope.names.lookup x = some .local:=by first | exact .inl rfl | exact .inr rfl):WS Z ρ O (.Assign [.Name x pos'] (.List es p2) pos) Ψ :=
 AS i (ET.we (Bf h hl) k) hN hi hx (Nc rfl) hf
inductive CPs:List Expr→List (Int × Int)→Prop
 | nil:CPs [] []
 | cons {a b:Int} {k1 k2 k3:Nat} {q1 q2 q3:Pos} {es:List Expr} {ps:List (Int × Int)}:CPs es ps→CPs (.Tuple [.Constant (.int a) k1 q1,.Constant (.int b) k2 q2] k3 q3 :: es) ((a,b) :: ps)
theorem CPs.ea {ps:List (Int × Int)} (h:CPs es ps):EA Z ρ O es (ps.map AB):=by
 induction h with
 | nil => exact AE
 | cons _ ih => exact VD (CO AC AC) ih
structure HEA (Z:Zx) (ρ:List (Option T)) (O:AJ) (es:List Expr) (ts:List T):Prop where
 out:EA Z ρ O es ts
structure HET (Z:Zx) (ρ:List (Option T)) (O:AJ) (e:Expr) (t:T):Prop where
 out:ET Z ρ O e t
theorem HEA.nil:HEA Z ρ O [] []:=⟨AE⟩
theorem HEA.cons (h:HET Z ρ O e t) (hr:HEA Z ρ O es ts) (hn:BD e = true:=by rfl):HEA Z ρ O (e :: es) (t :: ts):=⟨AU h.out hr.out hn⟩
theorem HET.tup {k:Nat} (h:HEA Z ρ O es ts) (hl:ts.length≤sizeLine):HET Z ρ O (.Tuple es k pos) (.tup ts):=⟨Bx h.out hl⟩
theorem HET.lst (h:HEA Z ρ O es ts) (hl:ts.length≤sizeLine):HET Z ρ O (.List es pos) (.lst ts):=⟨Bf h.out hl⟩
theorem HET.var (i:Nat) (e:ρ[i]? = some (some t):=by rfl) (hN:Z.X.N[i]? = some x:=by rfl) (hv:SW Z.X.env.scope x:=by first | exact Or.inl rfl | exact Or.inr (Or.inl rfl) | exact Or.inr (Or.inr rfl)) (hd:(x == ("__debug__" : Str)) = false:=by decide)
  (hcd:(x == ("__classdict__" : Str)) = false:=by decide):HET Z ρ O (.Name x pos) t:=⟨ev i e hN hv hd hcd⟩
theorem HET.int {i:Int} {j:Nat}:HET Z ρ O (.Constant (.int i) j pos) (.int i):=⟨AC⟩
theorem HET.bl {i:Bool} {j:Nat}:HET Z ρ O (.Constant (.bool i) j pos) (.bl i):=⟨Kb⟩
theorem HET.non {j:Nat}:HET Z ρ O (.Constant .none j pos) .non:=⟨Be⟩
theorem HET.str {y:Str} {j:Nat}:HET Z ρ O (.Constant (.str y) j pos) (.str y):=⟨Jh⟩
theorem CPs.hea {ps:List (Int × Int)} (h:CPs es ps):HEA Z ρ O es (ps.map AB):=⟨h.ea⟩
theorem Km (i:Nat) (h:HEA Z ρ O es ts) (hl:ts.length≤sizeLine) (k:Ψ.nx (ρ.set i (some (.lst ts))) O) (hN:Z.X.N.Nodup) {pos':Pos} (hi:Z.X.N[i]? = some x) (hx:OP Z.X.env.scope x)
  (hf:Z.X.fn x = true∨Z.X.env.scope.names.lookup x = some .local):WS Z ρ O (.Assign [.Name x pos'] (.List es p2) pos) Ψ:=PQ i h.out hl k hN hi hx hf
structure HS (Z:Zx) (ρ:List (Option T)) (O:AJ) (ss:List Stmt) (Ψ:Es):Prop where
 out:Ef Z ρ O ss Ψ
theorem Af {s:Stmt} {ss:List Stmt} (h:WS Z ρ O s { Ψ with nx:=fun ρ' O' => HS Z ρ' O' ss Ψ }):HS Z ρ O (s :: ss) Ψ :=
 ⟨AH (Ke h (fun _ _ z => z.out) (fun _ _ z => z) (fun _ _ z => z) (fun _ _ z => z))⟩
theorem Hi {s:Stmt} (h:WS Z ρ O s Ψ):HS Z ρ O [s] Ψ:=⟨AN h⟩
theorem Im {k:Bool} {c:Expr} {ea ss:List Stmt} (hc:EB Z ρ O c k) (h1:k = true→HS Z ρ O ea { Ψ with nx:=fun ρ' O' => HS Z ρ' O' ss Ψ }) (h2:k = false→HS Z ρ O ss Ψ):HS Z ρ O (.If c ea [] pos :: ss) Ψ :=
 Af (Am hc (fun h => (h1 h).out) (fun h => Ap (h2 h)))
theorem PR {P:Program} {w:World} {K:PySem.W.Frag} {mg:Str→Option Value} {base:Heap} {x qual:Str} {st:Stmt} {f:Addr} {fd:FuncData} {N ps:List Str} {k:Nat} {sp:DI} (F:Fun K x qual st f fd) (S:FnScope N ps (AA st)) (len:∀ ts O Φ Ξ,sp ts O Φ Ξ→ts.length = ps.length)
  (h:∀ (cdv:Value) (A:Around) (outer:List Env) (s:Shared) (H:Hp) (E:XK) (O:AJ) (Ξ:Value→AJ→Prop),Room k (A.deeper (envOfC qual (AA st) s.heap.objs.size f cdv))→XFly (zB P w K mg base N qual (AA st) f cdv A outer s H E O Ξ).X (zB P w K mg base N qual (AA st) f cdv A outer s H E O Ξ).W →
   ∀ ts Φ,sp ts O Φ Ξ→HS (zB P w K mg base N qual (AA st) f cdv A outer s H E O Ξ) (By N ts) O (AT st) { nx:=fun _ O' => Φ .non O',rt:=Φ }):FnOk P w K mg base (CXe P w) (k + 1) f fd ps (EY K sp) :=
 Ax F S len fun cdv A outer s H E O Ξ hr xf ts Φ q => (h cdv A outer s H E O Ξ hr xf ts Φ q).out
end
section
variable {X:Cx} {a b c d:Expr} {ta tb tc td:TE} {pos:Pos}
end
section
variable {Z:Zx} {ρ:List (Option T)} {O:AJ} {a b c d:Expr} {pos:Pos} {i j k l:Int}
end
end L2.TL
namespace L2
open PySem PySem.Spec PySem.Calls PyProof.Rows
section
variable {prog:Program} {w:World} {A:Around} {E:Value→Shared→Prop} {s:Shared}
end
section
variable {X:Cx}
end
end L2
namespace L2.TL
open PySem PySem.Spec PySem.Calls PyProof.Rows
mutual
def dT:T→PyData
 | .non => .none
 | .bl b => .bool b
 | .int i => .int i
 | .str x => .str x
 | .tup ts => .tuple (dTs ts)
 | .lst ts => .list (dTs ts)
 | .frz _ => .none
 | .dct => .none
 | .raw _ => .none
def dTs:List T→List PyData
 | [] => []
 | t :: ts => dT t :: dTs ts
end
mutual
def GY:T→Bool
 | .non => true
 | .bl _ => true
 | .int i => decide (i.natAbs < 10 ^ 12)
 | .str _ => false
 | .tup ts => shBs ts
 | .lst ts => shBs ts
 | .frz _ => false
 | .dct => false
 | .raw _ => false
def shBs:List T→Bool
 | [] => true
 | t :: ts => GY t && shBs ts
end
mutual
theorem Kn:∀ (t:T),GY t = true→(dT t).showable = true∧(dT t).hasDict = false∧(dT t).leavesShort 13 = true
 | .non,_ => ⟨rfl,rfl,rfl⟩
 | .bl _,_ => ⟨rfl,rfl,rfl⟩
 | .int i,h => by
  have hb:i.natAbs < 10 ^ 12:=by unfold GY at h; simpa using h
  refine ⟨?_,rfl,?_⟩
  ·show decide (i.natAbs.log2 < 1920) = true
   refine decide_eq_true ?_
   by_cases h0:i.natAbs = 0
   ·rw [h0]; decide
   ·exact (Nat.log2_lt h0).mpr (Nat.lt_of_lt_of_le hb (by decide +kernel))
  ·show decide _ = true
   exact decide_eq_true (PyData.shown_int_le hb)
 | .str _,h => by unfold GY at h; cases h
 | .tup ts,h => by
  have h':shBs ts = true:=by unfold GY at h; exact h
  exact shs_show ts h'
 | .lst ts,h => by
  have h':shBs ts = true:=by unfold GY at h; exact h
  exact shs_show ts h'
 | .frz _,h => by unfold GY at h; cases h
 | .dct,h => by unfold GY at h; cases h
 | .raw _,h => by unfold GY at h; cases h
theorem shs_show:∀ (ts:List T),shBs ts = true→PyData.showableAll (dTs ts) = true∧PyData.hasDictAll (dTs ts) = false∧PyData.leavesShortAll 13 (dTs ts) = true
 | [],_ => ⟨rfl,rfl,rfl⟩
 | t :: ts,h => by
  unfold shBs at h
  rw [Bool.and_eq_true] at h
  obtain ⟨a1,a2,a3⟩:=Kn t h.1
  obtain ⟨b1,b2,b3⟩:=shs_show ts h.2
  refine ⟨?_,?_,?_⟩
  ·show (PyData.showable (dT t) && PyData.showableAll (dTs ts)) = true
   rw [a1,b1]; rfl
  ·show (PyData.hasDict (dT t) || PyData.hasDictAll (dTs ts)) = false
   rw [a2,b2]; rfl
  ·show (PyData.leavesShort 13 (dT t) && PyData.leavesShortAll 13 (dTs ts)) = true
   rw [a3,b3]; rfl
end
section
variable {K:PySem.W.Frag} {O:AJ} {H:Hp} {P:Program} {w:World} {h:Heap}
mutual
theorem Rep.reads (hok:HOk P w H h):∀ {v:V} {t:T} {u:Value},Rep K O H v t→GY t = true→RelV v u→∃ as,Reads h u (dT t) as
 | _,_,_,.non,_,r => by cases r; exact ⟨_,.none⟩
 | _,_,_,.bl b,_,r => by cases r; exact ⟨_,.bool b⟩
 | _,_,_,.int i,_,r => by obtain ⟨t,rfl⟩:=r; exact ⟨_,.int i t⟩
 | _,_,_,.str x,g,_ => by unfold GY at g; cases g
 | _,_,_,.tup (ts:=ts) e q,g,r => by
  cases r
  obtain ⟨_,its,rv,⟨o,e1,e2,n,e3⟩⟩:=(show ObjOk P w H h _ (.tup _) from hok _ _ e)
  obtain ⟨as,ra⟩:=Reps.reads hok q (by unfold GY at g; exact g) rv
  exact ⟨_,.tuple (vs:=its.toArray) e1 e2 e3 (by simpa using ra)⟩
 | _,_,_,.lst (ts:=ts) e _ q,g,r => by
  cases r
  obtain ⟨_,its,n,rv,e1⟩:=(show ObjOk P w H h _ (.lst _) from hok _ _ e)
  obtain ⟨as,ra⟩:=Reps.reads hok q (by unfold GY at g; exact g) rv
  exact ⟨_,.list (vs:=its.toArray) e1 rfl rfl (by simpa using ra)⟩
 | _,_,_,.frz _ _,g,_ => by unfold GY at g; cases g
 | _,_,_,.dct _,g,_ => by unfold GY at g; cases g
 | _,_,_,.raw v,g,_ => by unfold GY at g; cases g
theorem Reps.reads (hok:HOk P w H h):∀ {vs:List V} {ts:List T} {us:List Value},Reps K O H vs ts→shBs ts = true→Vals vs us→∃ as,ReadsAll h us (dTs ts) as
 | _,_,_,.nil,_,r => by cases r; exact ⟨_,.nil⟩
 | _,_,_,.cons a b,g,.cons r1 r2 => by
  unfold shBs at g
  rw [Bool.and_eq_true] at g
  obtain ⟨as,x⟩:=Rep.reads hok a g.1 r1
  obtain ⟨bs,y⟩:=Reps.reads hok b g.2 r2
  exact ⟨_,.cons x y⟩
end
end
section
variable {X:Cx}
end
theorem Io:∀ {ps:List (Int × Int)},(∀ p∈ps,p.1.natAbs < 10 ^ 12∧p.2.natAbs < 10 ^ 12)→shBs (ps.map AB) = true
 | [],_ => rfl
 | p :: ps,h => by
  show (GY (AB p) && shBs (ps.map AB)) = true
  rw [Io fun q hq => h q (List.mem_cons_of_mem _ hq),Bool.and_true]
  have:=h p (List.mem_cons_self ..)
  show (decide (p.1.natAbs < 10 ^ 12) && (decide (p.2.natAbs < 10 ^ 12) && true)) = true
  simp [this.1,this.2]
theorem DJ {i:Int} (h:i.natAbs < 10 ^ 12):(dT (.int i)).weight≤42:=by
 have hl:i.natAbs.log2 < 40:=by
  by_cases h0:i.natAbs = 0
  ·rw [h0]; decide
  ·exact (Nat.log2_lt h0).mpr (Nat.lt_of_lt_of_le h (by decide +kernel))
 simp only [dT,PyData.weight]
 split <;> omega
theorem Dc:∀ {ps:List (Int × Int)},(∀ p∈ps,p.1.natAbs < 10 ^ 12∧p.2.natAbs < 10 ^ 12)→PyData.weightAll (dTs (ps.map AB))≤100 * ps.length
 | [],_ => by simp [dTs,PyData.weightAll]
 | p :: ps,h => by
  have ih:=Dc (ps:=ps) fun q hq => h q (List.mem_cons_of_mem _ hq)
  have h1:=DJ (h p (List.mem_cons_self ..)).1
  have h2:=DJ (h p (List.mem_cons_self ..)).2
  simp only [dT] at h1 h2
  have e:PyData.weightAll (dTs ((p :: ps).map AB)) = PyData.weightAll (dTs [AB p]) + PyData.weightAll (dTs (ps.map AB)):=by
   simp [dTs,PyData.weightAll,AB,dT,PyData.weight]
  have e2:PyData.weightAll (dTs [AB p])≤100:=by
   simp only [dTs,PyData.weightAll,AB,dT]
   rw [PyData.weight]
   simp only [PyData.weightAll]
   omega
  rw [e,List.length_cons]
  omega
theorem EQ:∀ {ps:List (Int × Int)},PyData.depthAll (dTs (ps.map AB))≤2
 | [] => by decide
 | p :: ps => by
  have ih:=EQ (ps:=ps)
  show max (dT (AB p)).depth (PyData.depthAll (dTs (ps.map AB)))≤2
  refine Nat.max_le.mpr ⟨?_,ih⟩
  simp [AB,dT,dTs,PyData.depth,PyData.depthAll]
theorem Rx {n:Int} {ps:List (Int × Int)} (hn:n.natAbs < 10 ^ 12) (hp:∀ p∈ps,p.1.natAbs < 10 ^ 12∧p.2.natAbs < 10 ^ 12):shBs [.int n,.tup (ps.map AB)] = true:=by
 show (decide (n.natAbs < 10 ^ 12) && (shBs (ps.map AB) && true)) = true
 rw [Io hp,decide_eq_true hn]; rfl
theorem Jn {n:Int} {ps:List (Int × Int)} (hn:n.natAbs < 10 ^ 12) (hp:∀ p∈ps,p.1.natAbs < 10 ^ 12∧p.2.natAbs < 10 ^ 12) (hl:ps.length≤1000):(dT (.tup [.int n,.tup (ps.map AB)])).weight≤2 ^ 20:=by
 have h:=Dc hp
 have h1:=DJ hn
 simp only [dT] at h1
 have e2:(dT (.tup [.int n,.tup (ps.map AB)])).weight≤100 + PyData.weightAll (dTs (ps.map AB)):=by
  simp only [dT,dTs]
  rw [PyData.weight]
  simp only [PyData.weightAll]
  rw [PyData.weight.eq_def (.tuple _)]
  dsimp only
  omega
 have e4:(100 + 100 * 1000:Nat)≤2 ^ 20:=by decide
 omega
theorem Ll {n:Int} {ps:List (Int × Int)}:(dT (.tup [.int n,.tup (ps.map AB)])).depth≤100:=by
 have h:=EQ (ps:=ps)
 simp [dT,dTs,PyData.depth,PyData.depthAll]
 omega
theorem XOk.mono {X:Cx} {W W':St→XK} (x:XOk X W) (h:∀ σ cls H',W' σ cls none H'→W σ cls none H'):XOk X W' :=
 ⟨fun pins σ H s h' y C I m q => x.made pins σ H s h' y C I m (h σ _ H q),(XFly.mono x.f h).fly,x.own,fun pins σ H s y C t dx fs I a b c d q => x.madeF pins σ H s y C t dx fs I a b c d (h σ _ H q)⟩
theorem PU {P:Program} {w:World} {K:PySem.W.Frag} {mg:Str→Option Value} {base:Heap} {x qual:Str} {st:Stmt} {f:Addr} {fd:FuncData} {N ps:List Str} {k:Nat} {sp:DI} (F:Fun K x qual st f fd) (S:FnScope N ps (AA st)) (len:∀ ts O Φ Ξ,sp ts O Φ Ξ→ts.length = ps.length)
  (h:∀ (cdv:Value) (A:Around) (outer:List Env) (s:Shared) (H:Hp) (E:XK) (O:AJ) (Ξ:Value→AJ→Prop),Room k (A.deeper (envOfC qual (AA st) s.heap.objs.size f cdv))→XOk (zB P w K mg base N qual (AA st) f cdv A outer s H E O Ξ).X (zB P w K mg base N qual (AA st) f cdv A outer s H E O Ξ).W →
   ∀ ts Φ,sp ts O Φ Ξ→Ef (zB P w K mg base N qual (AA st) f cdv A outer s H E O Ξ) (By N ts) O (AT st) { nx:=fun _ O' => Φ .non O',rt:=Φ }):FnOk P w K mg base (CXe P w) (k + 1) f fd ps (EY K sp):=by
 refine F.okX S (fun vs H Q E h => ?_) (fun cdv A outer s H vs Q E hr h1 => ?_)
 ·obtain ⟨ts,O,Φ,Ξ,r,_,q,_⟩:=h
  rw [r.length]; exact len ts O Φ Ξ q
 ·obtain ⟨ts,O,Φ,Ξ,r,ok,q,acc,ex⟩:=h1
  refine ⟨_,h cdv A outer s H E O Ξ hr (XOk.mono BB ?_) ts Φ q,⟨Da r,.refl ok⟩,?_⟩
  ·rintro σ cls H' ⟨_,O',x,f⟩
   exact ex cls O' H' x f
  ·exact ⟨fun ρ' O' σ' H' p a _ => acc _ _ _ O' p a.fr .non,fun v H' t O' p f r => acc v H' t O' p f r,fun _ _ _ _ z => z.elim,fun _ _ _ _ z => z.elim⟩
theorem Frm.same {K:PySem.W.Frag} {O O':AJ} {H H' H'':Hp} (f:Frm K O H O' H') (s:Same H' H''):Frm K O H O' H'' where
 kp:=fun b o h n => ⟨s b o (f.kp b o h n).1,(f.kp b o h n).2⟩
 own:=f.own
 ok:=fun a ts e => by
  obtain ⟨xs,h,r⟩:=f.ok a ts e
  exact ⟨xs,s _ _ h,r.mono (fun b o h _ => s b o h) fun b xs h n => ⟨s b _ h,n⟩⟩
theorem GZ {K:PySem.W.Frag} {O:AJ} {H:Hp}:∀ (ns:List Int),Reps K O H (ns.map V.int) (ns.map T.int)
 | [] => .nil
 | n :: ns => .cons (.int n) (GZ ns)
section
variable {Z:Zx} {ρ:List (Option T)} {O:AJ} {e a b:Expr} {es:List Expr} {Ψ:Es} {Φ:BM} {pos p:Pos} {t:T} {ts:List T}
def Hj (C:Addr) (y:Str):Sp:=fun vs H Q _ => ∃ x,vs = [.ref x]∧Rd H x (DE C x)∧∀ H',Same H H'→Q (.str y) H'
theorem _root_.L2.Rd.upd {H:Hp} {x p:Addr} {u o:HO} (h:Rd H x u) (hp:H p = none):Rd (upd H p o) x u:=by
 rcases h with h | ⟨o',h⟩
 ·exact .inl (by rw [AD (AL h hp)]; exact h)
 ·exact .inr ⟨o',by rw [AD (AL h hp)]; exact h⟩
theorem _root_.L2.Rd.same {H H':Hp} {x:Addr} {u:HO} (h:Rd H x u) (s:Same H H'):Rd H' x u:=by
 rcases h with h | ⟨o',h⟩
 ·exact .inl (s _ _ h)
 ·exact .inr ⟨o',s _ _ h⟩
end
section
variable {Z:Zx} {ρ:List (Option T)} {O:AJ} {e:Expr} {es:List Expr} {t:T} {ts us:List T} {Φ:BM} {Ψ:Es} {pos p2 p3 p4:Pos} {x:Str}
end
section
variable {Z:Zx} {ρ:List (Option T)} {O:AJ} {es:List Expr} {ts:List T} {Ψ:Es} {pos p:Pos} {tg iter:Expr} {body:List Stmt}
theorem PV (hp:PassesOwn (model Z.X.prog Z.X.w) Z.X.A Z.X.env Z.X.xe) (hc:Z.X.calm = true) (h:HEA Z ρ O es ts) (hl:ts.length≤sizeLine) (I:Nat→GT) (i0:I 0 ρ O)
  (st:∀ i t ρ' O',ts[i]? = some t→I i ρ' O'→∃ ρ2,WG Z Z.X.N.length ρ' O' tg t ρ2∧HS Z ρ2 O' body { nx:=I (i + 1),rt:=Ψ.rt,bk:=Ψ.nx,ct:=I (i + 1) }) (fin:∀ ρ' O',I ts.length ρ' O'→Ψ.nx ρ' O'):WS Z ρ O (.For tg (.List es p) body [] pos) Ψ :=
 Ck hp hc (EI.wi (Cz (Bf h.out hl)) ⟨I,i0,fun i t ρ' O' e x => by
  obtain ⟨ρ2,a,b⟩:=st i t ρ' O' e x
  exact ⟨ρ2,a,b.out⟩,fin⟩) (by intro _; rfl)
structure HWE (Z:Zx) (ρ:List (Option T)) (O:AJ) (e:Expr) (Φ:BM):Prop where
 out:WE Z ρ O e Φ
theorem PX (hp:PassesOwn (model Z.X.prog Z.X.w) Z.X.A Z.X.env Z.X.xe) (hc:Z.X.calm = true) (h:HWE Z ρ O iter fun t O' => ∃ ts,t = .lst ts∧∃ I:Nat→GT,I 0 ρ O' ∧
  (∀ i t ρ' O',ts[i]? = some t→I i ρ' O'→∃ ρ2,WG Z Z.X.N.length ρ' O' tg t ρ2∧HS Z ρ2 O' body { nx:=I (i + 1),rt:=Ψ.rt,bk:=Ψ.nx,ct:=I (i + 1) })∧∀ ρ' O',I ts.length ρ' O'→Ψ.nx ρ' O')
  (hs:∀ x,foldedSetIterable iter Z.X.env x = pure x):WS Z ρ O (.For tg iter body [] pos) Ψ :=
 Ck hp hc (Kf (Cw h.out (by
  rintro t O' ⟨ts,e,I,i0,st,fin⟩
  refine ⟨ts,e,I,i0,fun i t ρ' O' e x => ?_,fin⟩
  obtain ⟨ρ2,a,b⟩:=st i t ρ' O' e x
  exact ⟨ρ2,a,b.out⟩))) hs
theorem Tn {P:Program} {w:World} {K:PySem.W.Frag} {mg:Str→Option Value} {base:Heap} {x qual:Str} {st:Stmt} {f:Addr} {fd:FuncData} {N ps:List Str} {k:Nat} {sp:Sp} (F:Fun K x qual st f fd) (S:FnScope N ps (AA st)) (len:∀ vs H Q E,sp vs H Q E→vs.length = ps.length)
  (h:∀ (cdv:Value) (A:Around) (outer:List Env) (s:Shared) (H:Hp) (vs:List V) (Q:VK) (E:XK),Room k (A.deeper (envOfC qual (AA st) s.heap.objs.size f cdv))→sp vs H Q E →
   ∃ ts O Φ Ξ,Reps K O H vs ts∧OwnOk K O H∧(XFly (zB P w K mg base N qual (AA st) f cdv A outer s H E O Ξ).X (zB P w K mg base N qual (AA st) f cdv A outer s H E O Ξ).W→HS (zB P w K mg base N qual (AA st) f cdv A outer s H E O Ξ) (By N ts) O (AT st) { nx:=fun _ O' => Φ .non O',rt:=Φ })∧Acc K O H Φ Q∧∀ cls O' H',Ξ cls O'→Frm K O H O' H'→E cls none H'):FnOk P w K mg base (CXe P w) (k + 1) f fd ps sp:=by
 refine F.okX S len (fun cdv A outer s H vs Q E hr h1 => ?_)
 obtain ⟨ts,O,Φ,Ξ,r,ok,q,acc,ex⟩:=h cdv A outer s H vs Q E hr h1
 refine ⟨_,(q (XFly.mono BB.f ?_)).out,⟨Da r,.refl ok⟩,?_⟩
 ·rintro σ cls H' ⟨_,O',x,f⟩
  exact ex cls O' H' x f
 ·exact ⟨fun ρ' O' σ' H' p a _ => acc _ _ _ O' p a.fr .non,fun v H' t O' p f r => acc v H' t O' p f r,fun _ _ _ _ z => z.elim,fun _ _ _ _ z => z.elim⟩
end
theorem Eb {L:List T} {r:Int} (h0:0≤r) (h1:r < L.length):∃ t,atI L r = some t∧t∈L:=by
 obtain ⟨j,rfl⟩:=Int.eq_ofNat_of_zero_le h0
 have hj:j < L.length:=by omega
 exact ⟨L[j],DO (by rw [List.getElem?_eq_getElem hj]),List.getElem_mem hj⟩
def OR:AJ:=fun _ => none
theorem Nd {K:PySem.W.Frag} {H:Hp}:OwnOk K OR H:=fun a ts e => by cases e
theorem QV {K:PySem.W.Frag} {H H':Hp} {O':AJ} {a:Addr} {xs:List V} (k:Kp OR H O' H') (h:SqL K H a xs):SqL K H' a xs:=by
 rcases h with h | h
 ·refine .inl ?_
  rcases h with h | ⟨o,h⟩
  ·exact .inl (k a _ h rfl).1
  ·exact .inr ⟨o,(k a _ h rfl).1⟩
 ·exact .inr h
section
variable {Z:Zx} {ρ:List (Option T)} {O:AJ} {e lo hi:Expr} {p p2 pos:Pos} {Φ:BM}
theorem Ry {a:Addr} {ns:List Int} {i j:Int} (ho:Z.Oe = OR) (hS:SqL Z.K Z.He a (ns.map V.int)) (h:ET Z ρ O e (.raw (.ref a))) (h1:ET Z ρ O lo (.int i)) (h2:ET Z ρ O hi (.int j))
  (k:∀ ms:List Int,ms.length≤ns.length→Φ (.lst (ms.map T.int)) O):WE Z ρ O (.Subscript e (.Slice (some lo) (some hi) none p2) pos) Φ:=by
 refine PE.weak (Ex Gy (Aw (ρ:=ρ)) (Ea (Aw (ρ:=ρ))) (Ea (Aw (ρ:=ρ)))) fun σ H0 Q q => ?_
 refine ⟨O,_,h (fun t O' => t = .raw (.ref a)∧O' = O) ⟨rfl,rfl⟩,q.1,?_⟩
 rintro v H1 _ _ ⟨rfl,rfl⟩ f1 r1
 refine ⟨_,_,h1 (fun t O' => t = .int i∧O' = _) ⟨rfl,rfl⟩,q.1.step f1,?_⟩
 rintro v2 H2 _ _ ⟨rfl,rfl⟩ f2 r2
 refine ⟨i,r2.int_inv,_,_,h2 (fun t O' => t = .int j∧O' = _) ⟨rfl,rfl⟩,q.1.step (f1.trans f2),?_⟩
 rintro v3 H3 _ _ ⟨rfl,rfl⟩ f3 r3
 refine ⟨j,r3.int_inv,a,ns.map V.int,r1.raw_inv,QV (ho ▸ (q.1.step (f1.trans (f2.trans f3))).fr.kp) hS,fun l hl => ?_⟩
 have ff:=f1.trans (f2.trans f3)
 have e:ID (ns.map V.int) (some i) (some j) = ((ns.drop (HT.Ew (ns.map V.int).length 0 (some i))).take (HT.Ew (ns.map V.int).length (ns.map V.int).length (some j) - HT.Ew (ns.map V.int).length 0 (some i))).map V.int:=by
  unfold ID
  rw [← List.map_drop,← List.map_take]
 rw [e]
 refine q.2 _ _ _ _ (k _ ?_) (ff.trans (.new ff.ok hl)) (.lst AG (ff.ok.none_of hl) ((GZ _).kp (BG ff.ok hl) ff.ok))
 rw [List.length_take,List.length_drop]
 omega
theorem Rz {K:PySem.W.Frag} {x y:Str}:RP K UR (.str x) (.str y) O (.bl (!decide (x = y))):=fun Φ p H v w Q ok r1 r2 q => by
 cases r1.str_inv
 cases r2.str_inv
 have e:decide (V.str x = V.str y) = decide (x = y):=by
  by_cases h:x = y
  ·subst h; simp
  ·have:V.str x≠V.str y:=fun z => h (by injection z)
   simp [h]
 refine ⟨rfl,?_⟩
 rw [e]
 exact q _ H _ O p (.refl ok) (.bl _)
theorem To:bootBuiltins "repr" = some (.builtin "repr"):=by decide +kernel
end
theorem PY:∀ {ps qs:List (Int × Int)},ps.Pairwise Ii→qs.Pairwise Ii→(∀ z,z∈ps↔z∈qs)→ps = qs:=by
 intro ps qs h1 h2 h3
 have nd:∀ {l:List (Int × Int)},l.Pairwise Ii→l.Nodup:=fun h => h.imp fun {a b} h z => by
  subst z
  unfold Ii at h
  omega
 have pm:ps.Perm qs:=by
  refine List.perm_iff_count.mpr fun a => ?_
  have c1:=(nd h1).count (a:=a)
  have c2:=(nd h2).count (a:=a)
  rw [c1,c2]
  by_cases h:a∈ps
  ·rw [if_pos h,if_pos ((h3 a).mp h)]
  ·rw [if_neg h,if_neg fun z => h ((h3 a).mpr z)]
 exact List.Perm.eq_of_pairwise (fun a b _ _ x y => by unfold Ii at x y; omega) h1 h2 pm
mutual
def Dk:T→Bool
 | .non => true
 | .bl _ => true
 | .int _ => true
 | .str x => PyData.strOk x
 | .tup ts => rdBs ts
 | .lst ts => rdBs ts
 | .frz _ => false
 | .dct => false
 | .raw _ => false
def rdBs:List T→Bool
 | [] => true
 | t :: ts => Dk t && rdBs ts
end
theorem Ip:∀ {ts:List T},rdBs ts = true↔∀ t∈ts,Dk t = true
 | [] => by unfold rdBs; simp
 | t :: ts => by unfold rdBs; simp [Ip (ts:=ts)]
mutual
theorem Hl:∀ (t:T),Dk t = true→(dT t).canLay0 = true
 | .non,_ => rfl
 | .bl _,_ => rfl
 | .int _,_ => rfl
 | .str x,h => by unfold Dk at h; exact h
 | .tup ts,h => rds_lay ts (by unfold Dk at h; exact h)
 | .lst ts,h => rds_lay ts (by unfold Dk at h; exact h)
 | .frz _,h => by unfold Dk at h; cases h
 | .dct,h => by unfold Dk at h; cases h
 | .raw _,h => by unfold Dk at h; cases h
theorem rds_lay:∀ (ts:List T),rdBs ts = true→PyData.canLayAll0 (dTs ts) = true
 | [],_ => rfl
 | t :: ts,h => by
  unfold rdBs at h
  rw [Bool.and_eq_true] at h
  show (PyData.canLay0 (dT t) && PyData.canLayAll0 (dTs ts)) = true
  rw [Hl t h.1,rds_lay ts h.2]; rfl
end
section
variable {K:PySem.W.Frag} {O:AJ} {H:Hp} {P:Program} {w:World} {h:Heap}
mutual
theorem Rep.rd (hok:HOk P w H h):∀ {v:V} {t:T} {u:Value},Rep K O H v t→Dk t = true→RelV v u→∃ as,Reads h u (dT t) as
 | _,_,_,.non,_,r => by cases r; exact ⟨_,.none⟩
 | _,_,_,.bl b,_,r => by cases r; exact ⟨_,.bool b⟩
 | _,_,_,.int i,_,r => by obtain ⟨t,rfl⟩:=r; exact ⟨_,.int i t⟩
 | _,_,_,.str x,_,r => by obtain ⟨t,rfl⟩:=r; exact ⟨_,.str x t⟩
 | _,_,_,.tup (ts:=ts) e q,g,r => by
  cases r
  obtain ⟨_,its,rv,⟨o,e1,e2,n,e3⟩⟩:=(show ObjOk P w H h _ (.tup _) from hok _ _ e)
  obtain ⟨as,ra⟩:=Reps.rd hok q (by unfold Dk at g; exact g) rv
  exact ⟨_,.tuple (vs:=its.toArray) e1 e2 e3 (by simpa using ra)⟩
 | _,_,_,.lst (ts:=ts) e _ q,g,r => by
  cases r
  obtain ⟨_,its,n,rv,e1⟩:=(show ObjOk P w H h _ (.lst _) from hok _ _ e)
  obtain ⟨as,ra⟩:=Reps.rd hok q (by unfold Dk at g; exact g) rv
  exact ⟨_,.list (vs:=its.toArray) e1 rfl rfl (by simpa using ra)⟩
 | _,_,_,.frz _ _,g,_ => by unfold Dk at g; cases g
 | _,_,_,.dct _,g,_ => by unfold Dk at g; cases g
 | _,_,_,.raw v,g,_ => by unfold Dk at g; cases g
theorem Reps.rd (hok:HOk P w H h):∀ {vs:List V} {ts:List T} {us:List Value},Reps K O H vs ts→rdBs ts = true→Vals vs us→∃ as,ReadsAll h us (dTs ts) as
 | _,_,_,.nil,_,r => by cases r; exact ⟨_,.nil⟩
 | _,_,_,.cons a b,g,.cons r1 r2 => by
  unfold rdBs at g
  rw [Bool.and_eq_true] at g
  obtain ⟨as,x⟩:=Rep.rd hok a g.1 r1
  obtain ⟨bs,y⟩:=Reps.rd hok b g.2 r2
  exact ⟨_,.cons x y⟩
end
end
section
variable {X:Cx}
def rD (K:PySem.W.Frag) (g:PyData→PyData→Bool):R2:=fun x y H Q => ∃ O t u,Rep K O H x t∧Rep K O H y u∧Dk t = true∧Dk u = true∧(dT t).depth≤100∧Q (.bl (g (dT t) (dT u))) H
theorem Nf (hu:X.A.units + 101 < cLine):Cb X (compareOp .NotEq) (rD X.K fun a b => !PyData.eqv a b):=by
 intro pins s σ H x y v u Q I rx ry h
 obtain ⟨O,t,t',r1,r2,g1,g2,hd,q⟩:=h
 obtain ⟨as,ra⟩:=Rep.rd I.hok r1 g1 rx
 obtain ⟨bs,rb⟩:=Rep.rd I.hok r2 g2 ry
 exact SeqAt.compareNe_reads ra rb (Hl t g1) (Hl t' g2) (by omega) ⟨.bl _,H,I,rfl,q⟩
end
section
variable {K:PySem.W.Frag} {O:AJ} {t u:T} {us:List T}
theorem VE {g:PyData→PyData→Bool} (h1:Dk t = true) (h2:Dk u = true) (hd:(dT t).depth≤100):RP K (rD K g) t u O (.bl (g (dT t) (dT u))):=fun Φ p H v w Q ok r1 r2 q =>
 ⟨O,t,u,r1,r2,h1,h2,hd,q _ H _ O p (.refl ok) (.bl _)⟩
end
theorem PZ (p:Int × Int):Dk (AB p) = true:=by simp [AB,Dk,rdBs]
abbrev Hm (n:Int) (ps:List (Int × Int)):T:=.tup [.int n,.tup (ps.map AB)]
end L2.TL
namespace L2
open PySem PySem.Spec PySem.Calls PyProof.Rows
section
variable {X:Cx}
variable {e:Expr} {te:TE} {p2 p3 p4 pos:Pos}
end
end L2
namespace L2.TL
open PySem PySem.Spec PySem.Calls PyProof.Rows
section
variable {Z:Zx} {ρ:List (Option T)} {O:AJ} {e a b:Expr} {es:List Expr} {Ψ:Es} {Φ:BM} {pos p p1 pos1 p2 p3 p4:Pos} {t ta tb:T} {ts us:List T} {x:Str}
theorem EB.wt {k:Bool} {Φ:Ht} (h:EB Z ρ O e k) (p:Φ k O):WT Z ρ O e Φ:=h Φ p
def QW:T→Bool
 | .non => true
 | _ => false
def VF (C:Addr) (t:T):Sp:=fun vs H Q _ => ∃ x,vs = [.ref x]∧Rd H x (DE C x)∧∀ v H',Same H H'→(∀ (K:PySem.W.Frag) (O:AJ),Rep K O H' v t)→Q v H'
end
section
variable {Z:Zx} {ρ:List (Option T)} {O O1 O2:AJ} {c:Expr} {body ss:List Stmt} {Ψ:Es} {pos:Pos}
def VG (Z:Zx) (e:Expr):TT:=fun σ H Q => ∃ ρ O Φ,WT Z ρ O e Φ∧SZ Z ρ O Φ σ H Q
theorem Tp {e:Expr}:PT Z.X e (VG Z e):=fun pins s σ H Q I ⟨_,_,_,w,q⟩ => w pins s σ H Q I q
theorem Ng (hp:PassesOwn (model Z.X.prog Z.X.w) Z.X.A Z.X.env Z.X.xe) (I:Nat→GT) (i0:∃ m,I m ρ O)
  (step:∀ m ρ' O',I m ρ' O'→WT Z ρ' O' c fun b O1 => if b = true then Ef Z ρ' O1 body { nx:=fun ρ2 O2 => ∃ m',m' < m∧I m' ρ2 O2,rt:=Ψ.rt,bk:=Ψ.nx,ct:=fun ρ2 O2 => ∃ m',m' < m∧I m' ρ2 O2 } else Ψ.nx ρ' O1):WS Z ρ O (.While c body [] pos) Ψ:=by
 refine PS.weak (MK hp Tp Ic) fun D σ H q => ?_
 obtain ⟨m0,i0⟩:=i0
 refine ⟨fun m σ' H' => ∃ ρ' O',I m ρ' O'∧Asr Z ρ' O' σ' H'∧Kp O H O' H',⟨m0,ρ,O,i0,q.1,.refl⟩,?_⟩
 rintro m σ1 H1 ⟨ρ1,O1,i1,a1,k1⟩
 refine ⟨ρ1,O1,_,step m ρ1 O1 i1,a1,fun b H2 O2 p f => ?_⟩
 have kk:=k1.trans f.kp
 cases b with
 | true =>
  rw [if_pos rfl] at p
  show if true = true then _ else _
  rw [if_pos rfl]
  refine ⟨fun σ2 H3 => ∃ ρ2 O3,(∃ m',m' < m∧I m' ρ2 O3)∧Asr Z ρ2 O3 σ2 H3∧Kp O H O3 H3,?_,ρ1,O2,_,p,a1.step f,?_⟩
  ·rintro σ2 H3 ⟨ρ2,O3,⟨m',hm,i2⟩,a2,k2⟩
   exact ⟨m',hm,ρ2,O3,i2,a2,k2⟩
  ·exact ⟨fun ρ' O' σ' H' w a k => ⟨ρ',O',w,a,kk.trans k⟩,q.2.rt,fun ρ' O' σ' H' w a k => q.2.nx ρ' O' σ' H' w a (kk.trans k),fun ρ' O' σ' H' w a k => ⟨ρ',O',w,a,kk.trans k⟩⟩
 | false =>
  rw [if_neg Bool.false_ne_true] at p
  show if false = true then _ else _
  rw [if_neg Bool.false_ne_true]
  exact q.2.nx ρ1 O2 σ1 H2 p (a1.step f) kk
end
section
variable {O:AJ} {rs:List (Addr × List T)} {r:Addr × List T} {p q l:Addr} {us vs:List T}
end
section
variable {X:Cx}
end
section
variable {Z:Zx} {ρ:List (Option T)} {O:AJ} {a b:Expr} {t:T} {Φ:BM} {pos:Pos} {i:Int}
end
section
variable {Z:Zx} {ρ:List (Option T)} {O:AJ} {body:List Stmt} {Ψ:Es} {pos:Pos}
end
end L2.TL
namespace L2
open PySem PySem.Spec PySem.Calls PyProof.Rows Builtin.ObjectAttr
structure XfC (K:PySem.W.Frag) (C f:Addr):Prop where
 ob:∃ nm q N R sn sub ab col dd k0 k1 k2 k3 k5,K.lookup C = some (excClassObj nm q C N [.ref R] (.ref R :: EU) true sn sub ab col dd k0 k1 k2 k3 k5 "ValueError.__new__")∧PySem.W.excIn K R EU "ValueError.__new__" = true
 ini:PySem.W.findIn K (.ref C) "__init__" = some (some (.ref f))
 fn:PySem.W.typeIn K (.ref f) = some (.type "function")
 sa:PySem.W.findIn K (.ref C) "__setattr__" = some (some (.builtin "object.__setattr__"))
section
variable {prog:Program} {w:World} {A:Around} {E:Value→Shared→Prop} {s:Shared} {K:PySem.W.Frag} {x dx C f:Addr} {name:Str} {v:Value}
theorem XfC.cls (c:XfC K C f):∃ cd R,PySem.W.clsIn K C = some cd∧cd.hasDict = true∧cd.mro = .ref C :: .ref R :: EU:=by
 obtain ⟨nm,q,N,R,sn,sub,ab,col,dd,k0,k1,k2,k3,k5,e,_⟩:=c.ob
 have z:PySem.W.clsIn K C = some { name:=nm,bases:=[.ref R],mro:=.ref C :: .ref R :: EU,ns:=N,qualname:=q,hasDict:=true,slotNames:=sn,subclasses:=sub,abstract:=ab,collection:=col,hasDel:=false }:=by
  unfold PySem.W.clsIn; rw [e]
 exact ⟨_,R,z,rfl,rfl⟩
theorem Jo (self:Value) (C R:Addr):refuseLoop self "__setattr__" (.ref C :: .ref R :: EU) = pure ():=by
 rw [refuseLoop_ref,refuseLoop_ref]
 exact PySem.F.store_ValueError.passes self
theorem Pa {R:Result→Shared→Prop} {ox:Obj} {od:Option Obj} {tk:Tok} (X:K.In s.heap) (I:PySem.W.InstAt s.heap x ox C od) (c:XfC K C f) (ht:PySem.W.findIn K (.ref C) name = some none)
  (h:wpAny (model prog w) A.in1 (storeInOwnDict (.ref x) (.ref C) (.str name tk) name v false) (fun fin s' => match fin with | .done f => R (.ok f) s' | .again c' => c'.quiet = true∧codeAny (model prog w) A c' R s') (fun e s' => R (.error e) s') s) :
  codeAny (model prog w) A (.call (.builtin "object.__setattr__") ⟨[.ref x,.str name tk,v],[]⟩) R s:=by
 obtain ⟨cd,Rr,hc,hd,hm⟩:=c.cls
 have z:PySem.W.mroIn K C (.type "object") = some true:=by
  unfold PySem.W.mroIn; rw [hc,Option.bind_some,hm]; rfl
 have yes:PySem.W.Looks (model prog w) s.heap (isInstance (.ref x) (.type "object")) true:=I.type.andThen (PySem.W.looks_mroIn X z)
 have ck:∀ {Q:Unit→Shared→Prop} {E':Value→Shared→Prop},Q () s→wpAny (model prog w) A.in1 (checkBuiltinCall "object.__setattr__" ⟨[.ref x,.str name tk,v],[]⟩) Q E' s:=fun {Q E'} q =>
  @PySem.W.check_slot (model prog w) A.in1 E' s "object.__setattr__" "object" "__setattr__" (.ref x) [.str name tk,v] [] Q PySem.F.store_ValueError.kind PySem.F.store_ValueError.split yes (PySem.F.store_ValueError.args (.ref x) (.str name tk) v) q
 refine codeAny_call_builtin PySem.F.store_ValueError.slot.plain PySem.F.store_ValueError.entry (ck ?_)
 have lm:PySem.W.Looks (model prog w) s.heap (mroOf (.ref C)) cd.mro:=(PySem.W.looks_clsIn X hc).andThen .now
 rw [PySem.W.osa_eq,refuse_eq]
 refine wpAny_bind (wpAny_bind (I.type.here (wpAny_bind (lm.here ?_))))
 rw [hm,Jo]
 refine wpAny_pure (wpAny_bind (I.type.here (wpAny_bind ((PySem.W.looks_findIn X ht).here (wpAny_bind (wpAny_pure ?_))))))
 exact h
abbrev Fh (C:Addr) (d:Option Addr) (vs:Array Value):Obj:=⟨.ref C,d,.fields vs,#[]⟩
theorem Nh {vs:Array Value} {Q:Unit→Shared→Prop} (X:K.In s.heap) (hx:s.heap.get? x = some (Fh C none vs)) (c:XfC K C f) (ht:PySem.W.findIn K (.ref C) name = some none)
  (h:∀ h' d tk,s.heap.objs.size≤d→d≠x→h'.get? x = some (Fh C (some d) vs)→h'.Ns1 d (fun y => if y = name then some v else none)→(∀ b o,b≠x→s.heap.get? b = some o→h'.get? b = some o)→Q () { s with heap:=h',toks:=tk }) :
  wpAny (model prog w) A (setAttr (.ref x) name v) Q E s:=by
 obtain ⟨cd,Rr,hc,hd,hm⟩:=c.cls
 have I:PySem.W.InstAt s.heap x (Fh C none vs) C none:=⟨hx,rfl,rfl,trivial⟩
 refine PySem.W.set_plain X I c.sa ?_
 refine Pa (s:={ s with toks:=s.toks + 1 }) X I c ht ?_
 unfold storeInOwnDict
 refine wpAny_bind (wpAny_pure ?_)
 rw [if_neg (show ¬ (Value.ref C == Value.type "module") = true from by simp)]
 refine wpAny_bind ?_
 show wpAny _ _ (instanceDict x true) _ _ _
 unfold instanceDict
 refine wpAny_bind (wpAny_loadPart hx ?_)
 refine wpAny_bind (PySem.W.Looks.here (s:={ s with toks:=s.toks + 1 }) (PySem.W.looks_clsIn X hc) ?_)
 rw [hd,if_neg (by decide)]
 have hx1:(s.heap.push { cls:=.type "dict",data:=.dict #[] }).get? x = some (Fh C none vs):=Heap.get?_push_of_some _ hx
 have ne:s.heap.objs.size≠x:=Nat.ne_of_gt (Heap.lt_size hx)
 dsimp only
 rw [if_neg (by simp [typeHasDict])]
 refine wpAny_bind (wpAny_alloc (wpAny_bind (wpAny_update hx1 (wpAny_pure (a:=some s.heap.objs.size) ?_))))
 have hd1:((s.heap.push { cls:=.type "dict",data:=.dict #[] }).update x fun o => { o with dict:=some s.heap.objs.size }).get? s.heap.objs.size = some { cls:=.type "dict",data:=.dict #[] } :=
  (Heap.get?_update_other _ _ ne.symm).trans (Heap.get?_push_size _ rfl)
 have hx2:((s.heap.push { cls:=.type "dict",data:=.dict #[] }).update x fun o => { o with dict:=some s.heap.objs.size }).get? x = some (Fh C (some s.heap.objs.size) vs):=Heap.get?_update_self _ hx1 rfl
 show wpAny _ _ (storeInDict s.heap.objs.size (.str name s.toks) name v) _ _ _
 unfold storeInDict newKeyGuard
 refine wpAny_bind (wpAny_pure (wpAny_bind (wpAny_nsSet1 (Heap.Ns1.of_empty ⟨_,#[],_,hd1,rfl,fun e he => absurd he (by simp),fun _ => rfl⟩) fun h' n' sb => ?_)))
 obtain ⟨oD,esD,epD,hoD,hdD,hcD⟩:=n'.count (Within.cons name v Within.nil)
 refine wpAny_bind (wpAny_lookBehind hoD (by rw [hdD]; exact pastItsLine_dict (Nat.le_trans hcD (by rw [List.length_cons,List.length_nil,sizeLine_eq]; omega))) ?_)
 refine wpAny_pure (h h' s.heap.objs.size _ (Nat.le_refl _) ne ((sb.2 x ne.symm).trans hx2) n' fun b o hb e => ?_)
 have hbs:b≠s.heap.objs.size:=Nat.ne_of_lt (Heap.lt_size e)
 exact (sb.2 b hbs).trans ((Heap.get?_update_other _ _ (Ne.symm hb)).trans (Heap.get?_push_of_some _ e))
end
section
variable {prog:Program} {w:World} {A:Around} {E:Value→Shared→Prop} {s:Shared} {K:PySem.W.Frag} {x dx C f:Addr} {name:Str} {v:Value}
theorem Pb {ox:Obj} {mA:Str→Option Value} {b:Bool} {Q:Value→Shared→Prop} (X:K.In s.heap) (k:ExcCls K C) (hx:s.heap.get? x = some ox) (hc:ox.cls = .ref C) (hno:PySem.W.notCls ox = true) (hd:ox.dict = some dx) (hn:s.heap.Ns1 dx mA) (hh:PySem.W.hasDictIn K C = true)
  (ha:PySem.W.findIn K (.ref C) name = some none) (hv:mA name = some v) (hv':PySem.W.handedIn v = true) (h:Q v { s with toks:=s.toks + 1 }):wpAny (model prog w) A (getAttr (.ref x) name b) Q E s:=by
 obtain ⟨od,hod,hl⟩:=Fw hn
 have J:PySem.W.InstAt s.heap x ox C (some od):=⟨hx,hc,hno,by rw [hd]; exact hod⟩
 have L4:=PySem.W.looks_find (M:=model prog w) X J (PySem.W.findObj_own hh ha rfl (by rw [hl,hv]))
 have L0:=J.type (M:=model prog w)
 have L1:=PySem.W.looks_findIn (M:=model prog w) X k.ga
 have L2:=PySem.W.looks_findIn (M:=model prog w) X k.gn
 have L3:=PySem.W.looks_mroIn (M:=model prog w) X k.be
 obtain ⟨hp,g,d,t,os⟩:=s
 have hb:bindSpecial (.builtin "BaseException.__getattribute__") (.ref x) = pure (.builtin "BaseException.__getattribute__",[.ref x]):=PySem.F.excAttr_ValueError.ga.bind _
 have e1:builtinKind "BaseException.__getattribute__" = some .slot:=by decide +kernel
 have e2:splitId "BaseException.__getattribute__" = some ("BaseException","__getattribute__"):=by decide +kernel
 have e3:(Value.builtin "BaseException.__getattribute__" == Value.builtin "object.__getattribute__") = false:=by decide +kernel
 unfold getAttr getAttrBy
 refine wpAny_bind (wpAny_mkText (wpAny_holding (wpAny_bind (L0.at (wpAny_bind (L1.at ?_))))))
 dsimp only
 rw [e3,Bool.and_false,if_neg Bool.false_ne_true]
 unfold getAttrByItsOwn hookBefore
 refine wpAny_bind (L2.at ?_)
 refine wpAny_bind (wpAny_attempt (wpAny_holding ?_))
 unfold callGetattribute
 rw [show onTheHeap (.builtin "BaseException.__getattribute__") = false from rfl,Bool.and_false,if_neg Bool.false_ne_true]
 unfold boundAndCalled
 rw [hb]
 show wpAny _ _ (call (.builtin "BaseException.__getattribute__") [.ref x,.str name t]) _ _ _
 refine wpAny_call (codeAny_call_builtin PySem.F.excAttr_ValueError.ga.plain PySem.F.entry_bexc_ga ?_)
 have e4:=PySem.F.args_bexc_ga (.ref x) (.str name t)
 simp only [checkBuiltinCall,e1,e2]
 refine wpAny_bind ?_
 unfold isInstance
 refine wpAny_bind (L0.at (L3.at ?_))
 rw [if_neg (by decide)]
 refine wpAny_of_eq e4 ?_
 show wpAny _ _ (typeOf (.ref x) >>= fun tp => Builtin.ObjectAttr.find (.ref x) tp name >>= _) _ _ _
 refine wpAny_bind (L0.at (wpAny_bind (L4.at (wpAny_pure ?_))))
 show wpAny _ _ (handedOut v) _ _ _
 rw [PySem.W.handedOut_of hv']
 exact wpAny_pure h
end
section
variable {prog:Program} {w:World} {A:Around} {E:Value→Shared→Prop} {s:Shared} {K:PySem.W.Frag} {C f:Addr}
theorem XfC.own (c:XfC K C f) {h:Heap} (X:K.In h):∃ nm q N R sn sub ab col dd k0 k1 k2 k3 k5,h.get? C = some (excClassObj nm q C N [.ref R] (.ref R :: EU) true sn sub ab col dd k0 k1 k2 k3 k5 "ValueError.__new__")∧OwnTail h EU (.ref R :: EU):=by
 obtain ⟨nm,q,N,R,sn,sub,ab,col,dd,k0,k1,k2,k3,k5,e,r⟩:=c.ob
 obtain ⟨bm,N',nm',qn',bs',hd',sn',sub',ab',col',dd',j0,j1,j2,j3,j5,mN,hC,hN,hni,T⟩:=Oq X r
 exact ⟨nm,q,N,R,sn,sub,ab,col,dd,k0,k1,k2,k3,k5,X _ _ e,.own hC hN hni .base⟩
theorem Pc {us:List Value} {Q:Value→Shared→Prop} (X:K.In s.heap) (c:XfC K C f) (hl:us.length≤sizeLine)
  (h:codeAny (model prog w) (A.under (.builtin "type.__call__" ⟨.ref C :: us,[]⟩)) (.call (.ref f) ⟨.ref (s.heap.objs.size + 1) :: us,[]⟩)
   (fun r s' => match r with | .ok (.ret u) => u = .none∧Q (.ref (s.heap.objs.size + 1)) s' | .ok _ => False | .error e => E e s')
   { s with heap:=(s.heap.push { cls:=.type "tuple",data:=.seq us.toArray }).push (Fh C none #[.ref s.heap.objs.size,.none,.none,.none,.bool false,.none]) }) :
  wpAny (model prog w) A (call (.ref C) us) Q E s:=by
 obtain ⟨nm,q,N,R,sn,sub,ab,col,dd,k0,k1,k2,k3,k5,hC,T⟩:=c.own X
 have F:=PySem.F.excBase_ValueError
 obtain ⟨hp,g,d,t,os⟩:=s
 have f1:=tc_lookup
 have f2:=tc_bind (.ref C)
 have hT:(⟨hp,g,d,t,os⟩:Shared).TypeIs (.ref C) "type":=⟨_,hC,rfl⟩
 refine wpAny_call (codeAny_of_tree ?_)
 show wpAny _ _ (callAny (.ref C) _) _ _ _
 repeat (any_goals (first | assumption | (with_reducible refine wpAny_loadPart_at hC ?_) | wp_step))
 refine ⟨rfl,?_⟩
 refine codeAny_call_builtin_at (Code.quiet_builtin _ (by decide +kernel)) entry_typeCall (wpAny_check_type_call_sub hC ?_)
 repeat (first | (with_reducible refine wpAny_loadPart_at hC ?_) | (with_reducible refine wpAny_madeBy_exc hC ?_) | wp_step)
 refine codeAny_call_builtin_code (Code.quiet_builtin _ F.quiet) (wpAny_check_new_subT F T hC ?_)
 refine codeAny_exc_new_subT F T hC ?_ hl
 have kp:∀ b o,hp.get? b = some o→((hp.push { cls:=.type "tuple",data:=.seq us.toArray }).push (Fh C none #[.ref hp.objs.size,.none,.none,.none,.bool false,.none])).get? b = some o:=fun b o e => Heap.get?_push_of_some _ (Heap.get?_push_of_some _ e)
 have X2:K.In ((hp.push { cls:=.type "tuple",data:=.seq us.toArray }).push (Fh C none #[.ref hp.objs.size,.none,.none,.none,.bool false,.none])):=X.keeps kp
 have hx:((hp.push { cls:=.type "tuple",data:=.seq us.toArray }).push (Fh C none #[.ref hp.objs.size,.none,.none,.none,.bool false,.none])).get? (hp.objs.size + 1) = some (Fh C none #[.ref hp.objs.size,.none,.none,.none,.bool false,.none]):=by
  have z:=Heap.get?_push_size (hp.push { cls:=.type "tuple",data:=.seq us.toArray }) (o:=Fh C none #[.ref hp.objs.size,.none,.none,.none,.bool false,.none]) rfl
  rw [Heap.size_push] at z
  exact z
 have I2:PySem.W.InstAt ((hp.push { cls:=.type "tuple",data:=.seq us.toArray }).push (Fh C none #[.ref hp.objs.size,.none,.none,.none,.bool false,.none])) (hp.objs.size + 1) (Fh C none #[.ref hp.objs.size,.none,.none,.none,.bool false,.none]) C none:=⟨hx,rfl,rfl,trivial⟩
 show wpAny _ _ (isInstance (.ref (hp.objs.size + 1)) (.ref C) >>= _) _ _ _
 refine wpAny_bind ?_
 unfold isInstance
 refine wpAny_bind (I2.type.at ?_)
 refine wpAny_isSubtype_exc (kp _ _ hC) ?_
 rw [show (Value.ref C :: .ref R :: EU).contains (.ref C) = true from by simp,Bool.not_true,if_neg Bool.false_ne_true]
 refine wpAny_bind (wpAny_holding ?_)
 refine PySem.W.special_fn X2 I2 c.ini c.fn ?_
 refine wpAny_call (codeAny_mono h fun r s' z => ?_)
 cases r with
 | error e => exact z
 | ok fl =>
  cases fl with
  | ret u =>
   obtain ⟨rfl,z⟩:=z
   exact wpAny_pure z
  | next => exact z.elim
  | brk => exact z.elim
  | cont => exact z.elim
end
def VH (C x:Addr) (d:Option Addr) (vs:Array Value) (h:Heap):Prop:=h.get? x = some (Fh C d vs)
def Ga (C x:Addr) (d:Option Addr) (vs:Array Value):HO:=.ext (VH C x d vs)
abbrev Gc (t:Addr):Array Value:=#[.ref t,.none,.none,.none,.bool false,.none]
theorem Ni {P:Program} {w:World} {H:Hp} {h:Heap} {C x:Addr} {d:Option Addr} {vs:Array Value} (e:h.get? x = some (Fh C d vs)):ObjOk P w H h x (Ga C x d vs):=⟨e,⟨_,e⟩,fun _ _ q k => k _ q⟩
section
variable {X:Cx} {pins:List (Addr × Obj)} {σ:St} {H:Hp} {s:Shared}
theorem Inv.untrack {x:Addr} {o:HO} {φ:Heap→Prop} (I:Inv X pins σ (upd H x o) s) (hx:H x = none) (ho:o = .ext φ) (hs0:X.s₀.heap.get? x = none):Inv X pins σ H s:=by
 subst ho
 have ne:∀ b u,(upd H x (.ext φ)) b = some u→(∀ z,u≠.ext z)→b≠x∧H b = some u:=fun b u e z => by
  have n:b≠x:=fun q => by rw [q,AG] at e; exact z φ (Option.some.inj e).symm
  exact ⟨n,by rw [AD n] at e; exact e⟩
 have nn:∀ b,(upd H x (.ext φ)) b = none→H b = none:=fun b e => by
  have n:b≠x:=fun q => by rw [q,AG] at e; cases e
  rw [AD n] at e; exact e
 refine ⟨I.ok,I.os,I.bare,⟨I.base.keep,I.base.slot,fun b o e n hb => nn b (I.base.free b o e n hb),I.base.there,fun b xs e => (ne b _ (I.base.tups b xs e) (fun _ z => nomatch z)).2,fun b o u e => (ne b _ (I.base.frzs b o u e) (fun _ z => nomatch z)).2,fun b ps e => ?_⟩,I.loc,I.cell,nn _ I.free,fun y c e => nn _ (I.freeC y c e),fun p hp => ?_,fun b u e => ?_,I.len⟩
 ·obtain ⟨m,q⟩:=I.base.tbls b ps e
  exact ⟨m,(ne b _ q fun _ z => nomatch z).2⟩
 ·obtain ⟨a,b,r⟩:=I.pin p hp
  exact ⟨a,nn _ b,r⟩
 ·have n:b≠x:=fun q => by rw [q,hx] at e; cases e
  exact (I.hok b u (by rw [AD n]; exact e)).stay (fun _ _ _ q => q) (fun c q => (ne c _ q fun _ z => nomatch z).2) fun c xs q => (ne c _ q fun _ z => nomatch z).2
theorem Inv.dicted {C x d:Addr} {vs:Array Value} {fs:List (Str × V)} {h':Heap} {t':Nat} (I:Inv X pins σ H s) (hx:H x = some (Ga C x none vs)) (hd:s.heap.objs.size≤d) (dn:d≠x) (e1:h'.get? x = some (Fh C (some d) vs)) (e2:RN d fs h') (k:∀ b o,b≠x→s.heap.get? b = some o→h'.get? b = some o) :
  Inv X pins σ (upd (upd H x (Ga C x (some d) vs)) d (Hs d fs)) { s with heap:=h',toks:=t' }:=by
 have hdn:H d = none:=I.hok.fresh hd
 have nx:∀ b u,H b = some u→(∀ z,u≠.ext z)→b≠x∧b≠d:=fun b u e z => ⟨fun q => by rw [q,hx] at e; exact z _ (Option.some.inj e).symm,fun q => by rw [q,hdn] at e; cases e⟩
 have st:∀ b u,H b = some u→(∀ z,u≠.ext z)→upd (upd H x (Ga C x (some d) vs)) d (Hs d fs) b = some u:=fun b u e z => by rw [AD (nx b u e z).2,AD (nx b u e z).1]; exact e
 refine I.un ⟨fun b o e n _ _ => k b o (fun q => by rw [q,hx] at n; cases n) e,fun b o e n _ _ => ⟨o.slots,k b o (fun q => by rw [q,hx] at n; cases n) e⟩,fun b o e n _ => ?_,fun b o e _ => ?_,fun b xs e => st b _ e (fun _ z => nomatch z),fun b o u e => st b _ e (fun _ z => nomatch z),fun b ps e => ⟨#[],by rw [st b _ e fun _ z => nomatch z]; simp⟩⟩ ?_
 ·rw [AD (Nat.ne_of_lt (Nat.lt_of_lt_of_le (Heap.lt_size e) hd)),AD (fun q => by rw [q,hx] at n; cases n)]
  exact n
 ·by_cases q:b = x
  ·exact ⟨_,by rw [q]; exact e1⟩
  ·exact ⟨o,k b o q e⟩
 ·intro b u e
  by_cases q:b = d
  ·rw [q,AG] at e; cases e
   rw [q]; exact RO e2
  ·rw [AD q] at e
   by_cases q2:b = x
   ·rw [q2,AG] at e; cases e
    rw [q2]; exact Ni e1
   ·rw [AD q2] at e
    refine (I.hok b u e).stay (fun c v hc z => k c v ?_ z) (fun c z => st c _ z fun _ z => nomatch z) fun c xs z => st c _ z fun _ z => nomatch z
    rintro rfl
    rcases hc with rfl | hc
    ·exact q2 rfl
    ·rw [hx] at hc; cases hc
end
section
variable {X:Cx} {o value:Expr} {n:Str} {pos pos':Pos} {ta tv:TE}
def VI (K:PySem.W.Frag) (ta tv:TE) (n:Str):TS:=fun D σ H => tv σ H fun y H1 => ta σ H1 fun u H2 => ∃ x C f vs,u = .ref x∧H2 x = some (Ga C x none vs)∧XfC K C f∧PySem.W.findIn K (.ref C) n = some none∧∀ d,H2 d = none→d≠x→D.nx σ (upd (upd H2 x (Ga C x (some d) vs)) d (Hs d [(n,y)]))
theorem SA (ha:PE X o ta) (hv:PE X value tv) (hs:swapsWith value (some (.Attribute o n pos')) pos.line X.env = pure false):PS X (.Assign [.Attribute o n pos'] value pos) (VI X.K ta tv n):=by
 intro pins s σ H D I h
 refine plainObj_wpAny_Assign_Attribute (Ac (hv pins s σ H _ I h) fun u s1 ⟨y,H1,I1,ry,q⟩ => Ac (ha pins s1 σ H1 _ I1 q) fun ov s2 ⟨z,H2,I2,rz,x,C,f,vs,ex,hx,c,hn,q2⟩ => ?_) hs
 subst ex
 obtain rfl:ov = Value.ref x:=rz
 obtain ⟨e,_,_⟩:=(show ObjOk X.prog X.w H2 s2.heap x (Ga C x none vs) from I2.hok x _ hx)
 refine Nh I2.kIn e c hn fun h' d tk hd dn e1 e2 k => ⟨σ,_,I2.dicted hx hd dn e1 ⟨_,e2,fun g => ?_,fun g hg => ?_⟩ k,q2 d (I2.hok.fresh hd) dn⟩
 ·show MC (List.lookup g [(n,y)]) (if g = n then some u else none)
  by_cases q:g = n
  ·rw [if_pos q,q]
   simp only [List.lookup,beq_self_eq_true]
   exact ry
  ·rw [if_neg q]
   have b:(g == n) = false:=beq_eq_false_iff_ne.mpr q
   simp only [List.lookup,b]
   trivial
 ·by_cases q:g = n
  ·rw [q]; simp
  ·exact absurd (if_neg q) hg
end
def Nj (C:Addr) (ns:List Str):Sp:=fun vs H Q _ => ∃ (x t:Addr) (is:List Int),vs = .ref x :: is.map V.int∧is.length = ns.length∧H x = some (Ga C x none (Gc t))∧∀ d,H d = none→d≠x→Q .non (upd (upd H x (Ga C x (some d) (Gc t))) d (Hs d (ns.zip (is.map V.int))))
theorem Jp {M:Model} {A:Around} {E:Value→Shared→Prop} {env:Env} {s:Shared} {x:Sem Value} {Q:Flow→Shared→Prop} {K:PySem.W.Frag} {C f:Addr} (c:XfC K C f) (hh:A.handled = none)
  (h:wpAny M A x (fun v s1 => ∃ e t d,v = .ref e∧K.In s1.heap∧s1.heap.get? e = some (Fh C d (Gc t))∧E (.ref e) s1) E s):wpAny M A (raiseStmt env (some x) none) Q E s:=by
 unfold raiseStmt
 refine wpAny_bind (wpAny_mono h (fun v s1 h1 => ?_) fun _ _ z => z)
 obtain ⟨e,t,dd,rfl,X,he,hE⟩:=h1
 obtain ⟨nm,q,N,R,sn,sub,ab,col,dd',k0,k1,k2,k3,k5,hC,T⟩:=c.own X
 obtain ⟨hp,g,d,tk,os⟩:=s1
 have hcB:(Value.ref C :: .ref R :: EU).contains (.type "BaseException") = true:=by simp
 repeat (first | (with_reducible refine wpAny_loadPart_at he ?_) | (with_reducible refine wpAny_loadPart_at hC ?_) | ((with_reducible refine wpAny_isSubtype_exc hC ?_); rw [hcB]) | wp_step)
 exact wpAny_raiseNew_none hh hE
theorem Lm {X:Cx} {W:St→XK} {x:Str} {C f:Addr} {fd:FuncData} {ps ns:List Str} {k:Nat} {np cpos pos:Pos} {e:Expr} {es:List Expr} {t:TA} (xo:XOk X W) (hc:X.calm = true) (c:XfC X.K C f) (hkp:PySem.W.keepIn X.K (.ref C) = true)
  (F:FnOk X.prog X.w X.K X.mg X.base (CXe X.prog X.w) k f fd ps (Nj C ns)) (hr:Room (k + 1) X.A) (hb:Binds X.K fd ps []) (hl:ns.length≤10) (hg:Gl X x) (hm:X.mg x = some (.ref C)) (ha:PA X (e :: es) t)
  (hdb:(x == ("__debug__" : Str)) = false:=by decide) (he:starEach (e :: es) X.env = (false,eval e X.env) :: starEach es X.env:=by rfl) (hpl:(backTo cpos (starEach es X.env)).any (·.1) = false:=by rfl) :
  PS X (.Raise (some (.Call (.Name x np) (e :: es) [] cpos)) none pos) (fun D σ H => t σ H fun vs H1 => ∃ (is:List Int) (fs:Str),vs = is.map V.int∧is.length = ns.length∧QF fs = ns.zip (is.map V.int)∧∀ d,H1 d = none→W σ (.str fs C) none (upd H1 d (Hs d (QF fs)))):=by
 intro pins s σ H D I h
 rw [arm_exec_Raise]
 refine wpAny_bind (wpAny_standAt (Jp c (I.ok.hd hc) (wpAny_bind (Ac (Q:=fun v s1 => ∃ e t d,v = .ref e∧X.K.In s1.heap∧s1.heap.get? e = some (Fh C d (Gc t))∧X.xe (.ref e) s1) ?_ fun v s3 q3 => wpAny_bind (wpAny_standAt (wpAny_pure q3))))))
 refine wpAny_Call_Name_kw (DN I hg hm ?_ hdb)
 refine PySem.W.callWith_K (h₀:=X.base) I.ok.mod.kin hkp (Ac (ha cpos pins s σ H _ I h) fun us s1 ⟨vs,H1,I1,r,is,fs,ev,el,ef,q⟩ => ⟨I1.kIn,?_⟩) he hpl
 subst ev
 have lu:us.length = ns.length:=by rw [← r.length,List.length_map]; exact el
 have hx0:H1 (s1.heap.objs.size + 1) = none:=I1.hok.fresh (Nat.le_succ _)
 have kp:∀ b o,s1.heap.get? b = some o→((s1.heap.push { cls:=.type "tuple",data:=.seq us.toArray }).push (Fh C none (Gc s1.heap.objs.size))).get? b = some o:=fun b o z => Heap.get?_push_of_some _ (Heap.get?_push_of_some _ z)
 have gx:((s1.heap.push { cls:=.type "tuple",data:=.seq us.toArray }).push (Fh C none (Gc s1.heap.objs.size))).get? (s1.heap.objs.size + 1) = some (Fh C none (Gc s1.heap.objs.size)):=by
  have z:=Heap.get?_push_size (s1.heap.push { cls:=.type "tuple",data:=.seq us.toArray }) (o:=Fh C none (Gc s1.heap.objs.size)) rfl
  rw [Heap.size_push] at z
  exact z
 have I2:Inv X pins σ (upd H1 (s1.heap.objs.size + 1) (Ga C (s1.heap.objs.size + 1) none (Gc s1.heap.objs.size))) { s1 with heap:=(s1.heap.push { cls:=.type "tuple",data:=.seq us.toArray }).push (Fh C none (Gc s1.heap.objs.size)) } :=
  I1.laid (t':=s1.toks) kp (Nat.le_succ _) (Ni gx)
 have r2:Vals (V.ref (s1.heap.objs.size + 1) :: is.map V.int) (Value.ref (s1.heap.objs.size + 1) :: us):=.cons rfl r
 have hsp:Nj C ns (V.ref (s1.heap.objs.size + 1) :: is.map V.int) (upd H1 (s1.heap.objs.size + 1) (Ga C (s1.heap.objs.size + 1) none (Gc s1.heap.objs.size))) (fun v H' => v = .non∧∃ d,H1 d = none∧d≠s1.heap.objs.size + 1∧H' = upd (upd H1 (s1.heap.objs.size + 1) (Ga C (s1.heap.objs.size + 1) (some d) (Gc s1.heap.objs.size))) d (Hs d (ns.zip (is.map V.int)))) E0:=by
  refine ⟨_,_,is,rfl,el,AG,fun d hd dn => ⟨rfl,d,?_,dn,?_⟩⟩
  ·rw [AD dn] at hd; exact hd
  ·rw [OS]
 have hlp:(Value.ref (s1.heap.objs.size + 1) :: us ++ []).length = ps.length:=by
  have z:=F.len _ _ _ _ hsp
  rw [List.append_nil,← z,List.length_cons,List.length_cons,List.length_map,lu,el]
 show wpAny _ _ (call (.ref C) us) _ _ _
 refine Pc I1.kIn c (by rw [lu,sizeLine_eq]; omega) ?_
 refine codeAny_mono (F.run _ X.stack _ _ ⟨Value.ref (s1.heap.objs.size + 1) :: us,[]⟩ (Value.ref (s1.heap.objs.size + 1) :: us) _ _ E0 (hr.make C us []) (I2.env0.make C us []) (by
  have z:=hb _ (Value.ref (s1.heap.objs.size + 1) :: us) I2.kIn hlp
  rw [List.append_nil] at z; exact z) r2 hsp) fun r' s' hq' => ?_
 cases r' with
 | error e => exact (CXe.never hq').elim
 | ok fl =>
  cases fl with
  | ret u =>
   obtain ⟨v,H',I3,rv,ev,d,hd,dn,eH⟩:=I2.after hq'
   subst ev eH
   refine ⟨rv,_,s1.heap.objs.size,some d,rfl,I3.kIn,?_,?_⟩
   ·have z:upd (upd H1 (s1.heap.objs.size + 1) (Ga C (s1.heap.objs.size + 1) (some d) (Gc s1.heap.objs.size))) d (Hs d (ns.zip (is.map V.int))) (s1.heap.objs.size + 1) = some (Ga C (s1.heap.objs.size + 1) (some d) (Gc s1.heap.objs.size)):=by rw [AD (Ne.symm dn),AG]
    obtain ⟨z,_,_⟩:=(show ObjOk X.prog X.w _ s'.heap _ (Ga C (s1.heap.objs.size + 1) (some d) (Gc s1.heap.objs.size)) from I3.hok _ _ z)
    exact z
   ·have hs0:X.s₀.heap.get? (s1.heap.objs.size + 1) = none:=Heap.get?_none_of_le (Nat.le_trans I1.sz (Nat.le_succ _))
    have ec:upd (upd H1 (s1.heap.objs.size + 1) (Ga C (s1.heap.objs.size + 1) (some d) (Gc s1.heap.objs.size))) d (Hs d (ns.zip (is.map V.int))) = upd (upd H1 d (Hs d (ns.zip (is.map V.int)))) (s1.heap.objs.size + 1) (Ga C (s1.heap.objs.size + 1) (some d) (Gc s1.heap.objs.size)):=by
     funext b
     unfold upd
     by_cases q1:b = d
     ·rw [if_pos q1,if_neg (fun z => dn (q1.symm.trans z)),if_pos q1]
     ·rw [if_neg q1,if_neg q1]
    have z:upd (upd H1 (s1.heap.objs.size + 1) (Ga C (s1.heap.objs.size + 1) (some d) (Gc s1.heap.objs.size))) d (Hs d (ns.zip (is.map V.int))) (s1.heap.objs.size + 1) = some (Ga C (s1.heap.objs.size + 1) (some d) (Gc s1.heap.objs.size)):=by rw [AD (Ne.symm dn),AG]
    obtain ⟨gx',_,_⟩:=(show ObjOk X.prog X.w _ s'.heap _ (Ga C (s1.heap.objs.size + 1) (some d) (Gc s1.heap.objs.size)) from I3.hok _ _ z)
    rw [ec] at I3
    have hx1:upd H1 d (Hs d (ns.zip (is.map V.int))) (s1.heap.objs.size + 1) = none:=by rw [AD (Ne.symm dn)]; exact hx0
    have I4:=I3.untrack hx1 rfl hs0
    rw [← ef] at I4 hx1
    exact xo.madeF pins σ _ s' _ C _ d fs I4 hx1 hs0 gx' AG (q d hd)
  | next => exact False.elim hq'
  | brk => exact False.elim hq'
  | cont => exact False.elim hq'
end L2
namespace L2.TL
open PySem PySem.Spec PySem.Calls PyProof.Rows
structure XCl (P:Program) (w:World) (K:PySem.W.Frag) (mg:Str→Option Value) (base:Heap) (x:Str) (C f:Addr) (ns:List Str):Prop where
 c:XfC K C f
 kp:PySem.W.keepIn K (.ref C) = true
 m:mg x = some (.ref C)
 fn:∃ fd ps,FnOk P w K mg base (CXe P w) 1 f fd ps (Nj C ns)∧Binds K fd ps []
 ek:ExcCls K C
 nf:∀ n∈ns,PySem.W.findIn K (.ref C) n = some none
 len:ns.length≤10
theorem XCl.hd {P:Program} {w:World} {K:PySem.W.Frag} {mg:Str→Option Value} {base:Heap} {x:Str} {C f:Addr} {ns:List Str} (c:XCl P w K mg base x C f ns):PySem.W.hasDictIn K C = true:=by
 obtain ⟨cd,R,h1,h2,_⟩:=c.c.cls
 unfold PySem.W.hasDictIn
 rw [h1]; exact h2
theorem Ei (i:Int):QF ⟨([0,TJ i]:List Nat).toArray⟩ = [(("number" : Str),V.int i)]:=by show [(("number" : Str),V.int (RM (TJ i)))] = _; rw [Op]
abbrev Nk (C:Addr) (i:Int):Value:=.str ⟨([0,TJ i]:List Nat).toArray⟩ C
section
variable {Z:Zx} {ρ:List (Option T)} {O:AJ} {e a b:Expr} {es:List Expr} {Ψ:Es} {Φ:BM} {pos p:Pos} {t:T} {ts:List T} {x:Str}
theorem Ge {C f:Addr} {ns:List Str} {is:List Int} {fs:Str} {np cpos:Pos} (xo:XOk Z.X Z.W) (hc:Z.X.calm = true) (c:XCl Z.X.prog Z.X.w Z.X.K Z.X.mg Z.X.base x C f ns) (hr:Room 2 Z.X.A) (ha:EA Z ρ O (e :: es) (is.map T.int)) (hil:is.length = ns.length) (hfs:QF fs = ns.zip (is.map V.int)) (h:Z.Xi (.str fs C) O) (hg:Gl Z.X x:=by rfl)
  (hdb:(x == ("__debug__" : Str)) = false:=by decide) (he:starEach (e :: es) Z.X.env = (false,eval e Z.X.env) :: starEach es Z.X.env:=by rfl) (hpl:(backTo cpos (starEach es Z.X.env)).any (·.1) = false:=by rfl):WS Z ρ O (.Raise (some (.Call (.Name x np) (e :: es) [] cpos)) none pos) Ψ:=by
 obtain ⟨fd,ps,F,hb⟩:=c.fn
 refine PS.weak (Lm xo hc c.c c.kp F hr hb c.len hg c.m (EX (ρ:=ρ)) hdb he hpl) fun D σ H q => ?_
 refine ⟨O,_,ha (fun ts O' => ts = is.map T.int∧O' = O) ⟨rfl,rfl⟩,q.1,fun vs H1 ts O1 p f r => ?_⟩
 obtain ⟨rfl,rfl⟩:=p
 exact ⟨is,fs,r.ints,hil,hfs,fun d hd => ⟨rfl,O1,h,(q.1.fr.trans f).trans (.new f.ok hd)⟩⟩
def _root_.L2.TL.Zx.Wr (Z:Zx) (ρ:List (Option T)):St→XK:=fun σ cls d H' => d = none∧∃ O',Z.Xi cls O'∧Frm Z.K Z.Oe Z.He O' H'∧Rl Z.K O' H' σ ρ
theorem Nl {k:Nat} {ps:List Str} {s:DI} (G:FnT Z.X.prog Z.X.w Z.X.K Z.X.mg Z.X.base x k ps s) (hr:Room k Z.X.A) (xf:XFly Z.X (Z.Wr ρ)) (h:WA Z ρ O (e :: es) fun ts O1 => s ts O1 Φ Z.Xi) (hg:Gl Z.X x:=by rfl)
  (hdb:(x == ("__debug__" : Str)) = false:=by decide) (he:starEach (e :: es) Z.X.env = (false,eval e Z.X.env) :: starEach es Z.X.env:=by rfl) (hpl:(backTo pos (starEach es Z.X.env)).any (·.1) = false:=by rfl):WE Z ρ O (.Call (.Name x p) (e :: es) [] pos) Φ:=by
 obtain ⟨f,fd,F,hm,hk,hb⟩:=G.ex
 refine PE.weak (DR xf F hr hg hm hk hb (EX (ρ:=ρ)) hdb he hpl) fun σ H Q q => ?_
 exact ⟨O,_,h,q.1,fun vs H1 ts O1 p f r => ⟨ts,O1,Φ,Z.Xi,r,f.ok,p,q.2.step f,fun cls O' H' x f' => ⟨rfl,O',x,(q.1.fr.trans f).trans f',(q.1.rl.kp f.kp q.1.ok).kp f'.kp f.ok⟩⟩⟩
theorem Rl.unset {K:PySem.W.Frag} {O:AJ} {H:Hp} {σ:St} {ρ:List (Option T)} {i:Nat} (r:Rl K O H σ ρ):Rl K O H (σ.set i none) (ρ.set i none):=⟨by simpa using r.1,fun j u e => by
 by_cases hj:j = i
 ·subst hj
  have hl:j < ρ.length:=by
   have:=(List.getElem?_eq_some_iff.mp e).1
   simpa using this
  rw [List.getElem?_set_self hl] at e
  cases e
 ·rw [List.getElem?_set_ne (Ne.symm hj)] at e ⊢
  exact r.2 j u e⟩
def VY (i:Nat) (Ψ:Es):Es:={ nx:=fun ρ' O' => Ψ.nx (ρ'.set i none) O',rt:=Ψ.rt,bk:=fun ρ' O' => Ψ.bk (ρ'.set i none) O',ct:=fun ρ' O' => Ψ.ct (ρ'.set i none) O' }
abbrev zH (Z:Zx) (x:Addr) (O:AJ) (H:Hp):Zx:=⟨QG Z.X x,O,H,fun _ _ => False⟩
theorem Ko {i:Nat} {n bx:Str} {B:Addr} {np hpos:Pos} {body suite:List Stmt} {b₀:Stmt} (Cs:Value→AJ→Prop)
  (hbody:∀ pins E' H,Frm Z.K Z.Oe Z.He O H→XFly (Bn Z.X pins E') (Zx.Wr ⟨Bn Z.X pins E',O,H,Cs⟩ ρ)→Ef ⟨Bn Z.X pins E',O,H,Cs⟩ ρ O body Ψ)
  (kc:∀ cls O',Cs cls O'→∃ C,(cls = .ref C∨∃ fs,cls = .str fs C)∧PySem.W.kitCls Z.X.K (.ref C) (.ref B) = some true)
  (hsuite:∀ y cls O' C x o H',Cs cls O'→HK cls C x H' o→Frm Z.K Z.Oe Z.He O' H'→H' x = none→Ef (zH Z y O' (upd H' x o)) (ρ.set i (some (.raw (.ref x)))) O' (b₀ :: suite) (VY i Ψ))
  (hst:Z.X.stack = Z.X.env :: Z.X.outer) (hex:Z.X.ex = []) (hfr:Z.X.env.frame = some Z.X.env.locals) (hN:Z.X.N.Nodup) (hi:Z.X.N[i]? = some n) (hk:Z.X.env.scope.names.lookup n = some .local) (hmB:Z.X.mg bx = some (.ref B)) (hbe:PySem.W.mroIn Z.X.K B (.type "BaseException") = some true)
  (hgB:Gl Z.X bx) (hd2:(bx == ("__debug__" : Str)) = false) :
  WS Z ρ O (.Try body [.ExceptHandler (some (.Name bx np)) (some n) (b₀ :: suite) hpos] [] [] pos) Ψ:=by
 have hb1:∀ (W:St→XK) (X':Cx),TryIs Z.X X'→XFly X' W→PSs X' body (fun D σ H => tS Z ρ O Ψ D σ H∧∀ (σ':St) cls O' H',Cs cls O'→Frm Z.K O H O' H'→Rl Z.K O' H' σ' ρ→W σ' cls none H'):=by
  rintro W X' ⟨pins0,E',rfl⟩ xf
  intro pins s σ H D I ⟨⟨a,acc⟩,hw⟩
  refine hbody pins0 E' H a.fr ⟨fun pins1 σ1 H1 s1 e s2 I1 c => xf.fly pins1 σ1 H1 s1 e s2 I1 ?_⟩ pins s σ H D I ⟨⟨a.rl,.refl a.ok⟩,⟨fun ρ' O' σ' H' p a' k => acc.nx ρ' O' σ' H' p ⟨a'.rl,a.fr.trans a'.fr⟩ k,fun v H' t O' p f r => acc.rt v H' t O' p (a.fr.trans f) r,fun ρ' O' σ' H' p a' k => acc.bk ρ' O' σ' H' p ⟨a'.rl,a.fr.trans a'.fr⟩ k,fun ρ' O' σ' H' p a' k => acc.ct ρ' O' σ' H' p ⟨a'.rl,a.fr.trans a'.fr⟩ k⟩⟩
  obtain ⟨x,cls,H',e1,fl,_,O',hc,f,rl⟩:=c
  exact ⟨x,cls,H',e1,fl,hw σ1 cls O' H' hc f rl⟩
 have hh1:∀ y,PSs (QG Z.X y) (b₀ :: suite) (fun D σ H => ∃ z cls O' C o H',Cs cls O'∧HK cls C z H' o∧Frm Z.K Z.Oe Z.He O' H'∧H' z = none∧tS (zH Z z O' (upd H' z o)) (ρ.set i (some (.raw (.ref z)))) O' (VY i Ψ) D σ H):=by
  rintro y pins s σ H D I ⟨z,cls,O',C,o,H',c,hk',f,hz,q⟩
  exact hsuite y cls O' C z o H' c hk' f hz pins s σ _ D I ⟨⟨q.1.rl,q.1.fr⟩,⟨fun ρ' O' σ' H' p a k => q.2.nx ρ' O' σ' H' p ⟨a.rl,a.fr⟩ k,q.2.rt,fun ρ' O' σ' H' p a k => q.2.bk ρ' O' σ' H' p ⟨a.rl,a.fr⟩ k,fun ρ' O' σ' H' p a k => q.2.ct ρ' O' σ' H' p ⟨a.rl,a.fr⟩ k⟩⟩
 refine PS.weak (Mf (i:=i) hst hex hfr hN hi hk hgB hmB hbe hb1 hh1 hd2) fun D σ H q => ?_
 refine ⟨q,?_⟩
 intro σ' cls O' H' hc f rl
 obtain ⟨C,h1,h2⟩:=kc cls O' hc
 refine ⟨C,h1,h2,fun z o hz hk' => ⟨z,cls,O',C,o,H',hc,hk',q.1.fr.trans f,hz,⟨(rl.kp (BG f.ok hz) f.ok).set (.raw _),.refl (Frm.new f.ok hz).ok⟩,?_⟩⟩
 have g:Frm Z.K Z.Oe Z.He O' (upd H' z o):=(q.1.fr.trans f).trans (.new f.ok hz)
 have k0:TL.Kp O H O' (upd H' z o):=f.kp.trans (BG f.ok hz)
 exact ⟨fun ρ2 O2 σ2 H2 p a2 k2 => q.2.nx _ O2 _ H2 p ⟨Rl.unset a2.rl,g.trans a2.fr⟩ (k0.trans k2),fun v H2 t O2 p f2 r => q.2.rt v H2 t O2 p (g.trans f2) r,
  fun ρ2 O2 σ2 H2 p a2 k2 => q.2.bk _ O2 _ H2 p ⟨Rl.unset a2.rl,g.trans a2.fr⟩ (k0.trans k2),fun ρ2 O2 σ2 H2 p a2 k2 => q.2.ct _ O2 _ H2 p ⟨Rl.unset a2.rl,g.trans a2.fr⟩ (k0.trans k2)⟩
end
end L2.TL
namespace L2
open PySem PySem.Spec PySem.Calls PyProof.Rows
theorem Pd {X:Cx} {e:Expr} {f:Str} {pos:Pos} {te:TE} (he:PE X e te) (hb:attributeBase e f X.env (eval e X.env) = eval e X.env):PE X (.Attribute e f pos) (fun σ H Q => te σ H fun u H1 => ∃ (x C:Addr) (ox:Obj) (dx:Addr) (vs:Array Value) (fs:List (Str × V)) (i:Int),u = .ref x∧H1 x = some (.frz ox (DE C x))∧ox = ⟨.ref C,some dx,.fields vs,ox.slots⟩∧H1 dx = some (Hs dx fs)∧ExcCls X.K C∧PySem.W.hasDictIn X.K C = true∧PySem.W.findIn X.K (.ref C) f = some none∧fs.lookup f = some (.int i)∧Q (.int i) H1):=by
 intro pins s σ H Q I h
 refine Od hb (Ac (he pins s σ H _ I h) fun u s1 ⟨z,H1,I1,rz,x,C,ox,dx,vs,fs,i,ez,hx,eo,hdx,k,hh,hn,hl,q⟩ => ?_)
 subst ez
 obtain rfl:u = Value.ref x:=rz
 obtain ⟨e1,_⟩:=(show ObjOk X.prog X.w H1 s1.heap x (.frz ox (DE C x)) from I1.hok x _ hx)
 obtain ⟨⟨mA,n1,r,_⟩,_,_⟩:=(show ObjOk X.prog X.w H1 s1.heap dx (Hs dx fs) from I1.hok dx _ hdx)
 have rf:=r f
 rw [hl] at rf
 cases em:mA f with
 | none => rw [em] at rf; exact rf.elim
 | some u =>
  rw [em] at rf
  obtain ⟨tk,rfl⟩:=(show ∃ tk,u = Value.int i tk from rf)
  have eo1:ox.cls = .ref C:=by rw [eo]
  have eo2:PySem.W.notCls ox = true:=by rw [eo]; rfl
  have eo3:ox.dict = some dx:=by rw [eo]
  exact Pb I1.kIn k e1 eo1 eo2 eo3 n1 hh hn em rfl ⟨.int i,H1,I1.tok _,⟨tk,rfl⟩,q⟩
end L2
namespace L2.TL
open PySem PySem.Spec PySem.Calls PyProof.Rows
structure ExF (Z:Zx) (x C:Addr) (fs:List (Str × V)):Prop where
 ex:∃ ox dx vs,Z.He x = some (.frz ox (DE C x))∧ox = ⟨.ref C,some dx,.fields vs,ox.slots⟩∧Z.He dx = some (Hs dx fs)∧Z.Oe x = none∧Z.Oe dx = none
structure ExC (Z:Zx) (x C:Addr):Prop where
 rd:Rd Z.He x (DE C x)
 no:Z.Oe x = none
section
variable {Z:Zx} {ρ:List (Option T)} {O O':AJ} {e a b:Expr} {es:List Expr} {Ψ:Es} {Φ:BM} {pos p:Pos} {t:T} {ts:List T} {x y C D:Addr} {H':Hp} {o:HO} {cls:Value} {fs:Str}
theorem HK.exc (h:HK cls C x H' o) (f:Frm Z.K Z.Oe Z.He O' H') (hz:H' x = none):ExC (zH Z y O' (upd H' x o)) x C:=by
 refine ⟨?_,f.ok.none_of hz⟩
 rcases h with ⟨_,rfl⟩ | ⟨_,ox,_,_,_,rfl,_⟩
 ·exact .inl AG
 ·exact .inr ⟨ox,AG⟩
theorem HK.cls_of (h:HK (.str fs C) D x H' o):D = C:=by
 rcases h with ⟨e,_⟩ | ⟨_,_,_,_,e,_⟩
 ·cases e
 ·cases e; rfl
theorem HK.exf (h:HK (.str fs C) D x H' o) (f:Frm Z.K Z.Oe Z.He O' H') (hz:H' x = none):ExF (zH Z y O' (upd H' x o)) x C (QF fs):=by
 rcases h with ⟨e,_⟩ | ⟨_,ox,dx,vs,e,rfl,eo,hd⟩
 ·cases e
 ·cases e
  exact ⟨ox,dx,vs,AG,eo,by show upd H' x _ dx = _; rw [AD (AL hd hz)]; exact hd,f.ok.none_of hz,f.ok.free hd (fun _ z => nomatch z)⟩
theorem Ej {n:Str} {i:Int} {gs:List (Str × V)} (k:ExcCls Z.K C) (hh:PySem.W.hasDictIn Z.K C = true) (hn:PySem.W.findIn Z.K (.ref C) n = some none) (hx:ExF Z x C gs) (h:ET Z ρ O e (.raw (.ref x))) (hl:gs.lookup n = some (.int i)) (hb:attributeBase e n Z.X.env (eval e Z.X.env) = eval e Z.X.env:=by rfl):ET Z ρ O (.Attribute e n pos) (.int i):=fun Φ p =>
 PE.weak (Pd (Aw (ρ:=ρ)) hb) fun σ H Q q => by
  refine ⟨O,_,h (fun t O' => t = .raw (.ref x)∧O' = O) ⟨rfl,rfl⟩,q.1,fun v H1 t O1 p1 f r => ?_⟩
  obtain ⟨rfl,rfl⟩:=p1
  obtain ⟨ox,dx,vs,h1,h2,h3,h4,h5⟩:=hx.ex
  have kk:=(q.1.fr.trans f).kp
  exact ⟨x,C,ox,dx,vs,gs,i,r.raw_inv,(kk _ _ h1 h4).1,h2,(kk _ _ h3 h5).1,k,hh,hn,hl,q.2 _ _ _ O1 p f (.int i)⟩
theorem Gf {k:Nat} {f:Addr} {fd:FuncData} {ps:List Str} {sp:Sp} {g:Str} (F:FnH Z.X.prog Z.X.w Z.X.K Z.X.mg Z.X.base k f fd ps sp) (hm:Z.X.mg g = some (.ref f)) (hk:PySem.W.keepIn Z.X.K (.ref f) = true) (hb:Binds Z.X.K fd ps []) (hr:RoomH k Z.X.A) (h:EA Z ρ O (e :: es) ts)
  (w:∀ σ H vs Q,Asr Z ρ O σ H→Reps Z.K O H vs ts→Acc Z.K O H Φ Q→sp vs H Q E0) (hg:Gl Z.X g:=by rfl) (hdb:(g == ("__debug__" : Str)) = false:=by decide) (he:starEach (e :: es) Z.X.env = (false,eval e Z.X.env) :: starEach es Z.X.env:=by rfl) (hpl:(backTo pos (starEach es Z.X.env)).any (·.1) = false:=by rfl) :
  WE Z ρ O (.Call (.Name g p) (e :: es) [] pos) Φ:=by
 refine PE.weak (Mh F hr hg hm hk hb (EX (ρ:=ρ)) hdb he hpl) fun σ H Q q => ?_
 refine ⟨O,_,h (fun ts' O' => ts' = ts∧O' = O) ⟨rfl,rfl⟩,q.1,fun vs H1 ts1 O1 p1 f1 r => ?_⟩
 obtain ⟨rfl,rfl⟩:=p1
 exact w σ H1 vs Q (q.1.step f1) r (q.2.step f1)
theorem Nm {k:Nat} {f:Addr} {fd:FuncData} {ps:List Str} {g:Str} (F:FnH Z.X.prog Z.X.w Z.X.K Z.X.mg Z.X.base k f fd ps (VF C t)) (hm:Z.X.mg g = some (.ref f)) (hk:PySem.W.keepIn Z.X.K (.ref f) = true) (hb:Binds Z.X.K fd ps []) (hr:RoomH k Z.X.A) (hx:ExC Z x C) (h:ET Z ρ O e (.raw (.ref x)))
  (hg:Gl Z.X g:=by rfl) (hdb:(g == ("__debug__" : Str)) = false:=by decide) (he:starEach [e] Z.X.env = (false,eval e Z.X.env) :: starEach [] Z.X.env:=by rfl) (hpl:(backTo pos (starEach [] Z.X.env)).any (·.1) = false:=by rfl):ET Z ρ O (.Call (.Name g p) [e] [] pos) t:=fun Φ p =>
 Gf F hm hk hb hr (AI h AE he) (fun σ H vs Q a r acc => by
  obtain ⟨v,rfl,r1⟩:=r.one_inv
  cases r1.raw_inv
  have rd:Rd H x (DE C x):=by
   rcases hx.rd with z | ⟨o',z⟩
   ·exact .inl (a.fr.kp _ _ z hx.no).1
   ·exact .inr ⟨o',(a.fr.kp _ _ z hx.no).1⟩
  exact ⟨x,rfl,rd,fun v H2 sm rp => acc v H2 t O p (Frm.same (.refl a.ok) sm) (rp _ _)⟩) hg hdb he hpl
structure FnHT (P:Program) (w:World) (K:PySem.W.Frag) (mg:Str→Option Value) (base:Heap) (x:Str) (k:Nat) (ps:List Str) (s:DI):Prop where
 ex:∃ f fd,FnH P w K mg base k f fd ps (EY K s)∧mg x = some (.ref f)∧PySem.W.keepIn K (.ref f) = true∧Binds K fd ps []
theorem Nn {k:Nat} {ps:List Str} {g:Str} {φ:List T→T→Prop} (G:FnHT Z.X.prog Z.X.w Z.X.K Z.X.mg Z.X.base g k ps (Te φ)) (hr:RoomH k Z.X.A) (h:EA Z ρ O (e :: es) ts) (hs:φ ts t) (hg:Gl Z.X g:=by rfl) (hdb:(g == ("__debug__" : Str)) = false:=by decide)
  (he:starEach (e :: es) Z.X.env = (false,eval e Z.X.env) :: starEach es Z.X.env:=by rfl) (hpl:(backTo pos (starEach es Z.X.env)).any (·.1) = false:=by rfl):ET Z ρ O (.Call (.Name g p) (e :: es) [] pos) t:=fun Φ p => by
 obtain ⟨f,fd,F,hm,hk,hb⟩:=G.ex
 exact Gf F hm hk hb hr h (fun σ H vs Q a r acc => ⟨ts,O,Φ,fun _ _ => False,r,a.ok,⟨t,hs,p⟩,acc,fun _ _ _ z => z.elim⟩) hg hdb he hpl
end
abbrev zD (P:Program) (w:World) (K:PySem.W.Frag) (mg:Str→Option Value) (base:Heap) (N:List Str) (qual:Str) (sc:Scope) (f:Addr) (cdv:Value) (A:Around) (outer:List Env) (s:Shared) (H:Hp) (O:AJ):Zx:=⟨Os P w K mg base N qual sc f cdv A outer s H,O,H,fun _ _ => False⟩
theorem Tq {P:Program} {w:World} {K:PySem.W.Frag} {mg:Str→Option Value} {base:Heap} {x qual:Str} {st:Stmt} {f:Addr} {fd:FuncData} {N ps:List Str} {k:Nat} {sp:Sp} (F:Fun K x qual st f fd) (S:FnScope N ps (AA st)) (len:∀ vs H Q E,sp vs H Q E→vs.length = ps.length)
  (h:∀ (cdv:Value) (A:Around) (outer:List Env) (s:Shared) (H:Hp) (vs:List V) (Q:VK),RoomH k (A.deeper (envOfC qual (AA st) s.heap.objs.size f cdv))→sp vs H Q E0 →
   ∃ ts O Φ,Reps K O H vs ts∧OwnOk K O H∧Ef (zD P w K mg base N qual (AA st) f cdv A outer s H O) (By N ts) O (AT st) { nx:=fun _ O' => Φ .non O',rt:=Φ }∧Acc K O H Φ Q):FnH P w K mg base (k + 1) f fd ps sp:=by
 refine F.okH S len fun cdv A outer s H vs Q hr hsp => ?_
 obtain ⟨ts,O,Φ,r,ok,q,acc⟩:=h cdv A outer s H vs Q hr hsp
 exact ⟨_,q,⟨Da r,.refl ok⟩,⟨fun ρ' O' σ' H' p a _ => acc _ _ _ O' p a.fr .non,fun v H' t O' p f r => acc v H' t O' p f r,fun _ _ _ _ z => z.elim,fun _ _ _ _ z => z.elim⟩⟩
theorem Pe {P:Program} {w:World} {K:PySem.W.Frag} {mg:Str→Option Value} {base:Heap} {x qual:Str} {st:Stmt} {f:Addr} {fd:FuncData} {N ps:List Str} {k:Nat} {sp:DI} (F:Fun K x qual st f fd) (S:FnScope N ps (AA st)) (len:∀ ts O Φ Ξ,sp ts O Φ Ξ→ts.length = ps.length)
  (h:∀ (cdv:Value) (A:Around) (outer:List Env) (s:Shared) (H:Hp) (O:AJ),RoomH k (A.deeper (envOfC qual (AA st) s.heap.objs.size f cdv))→∀ ts Φ Ξ,sp ts O Φ Ξ→Ef (zD P w K mg base N qual (AA st) f cdv A outer s H O) (By N ts) O (AT st) { nx:=fun _ O' => Φ .non O',rt:=Φ }):FnH P w K mg base (k + 1) f fd ps (EY K sp) :=
 Tq F S (fun vs H Q E ⟨ts,O,Φ,Ξ,r,_,s,_⟩ => r.length.trans (len ts O Φ Ξ s)) fun cdv A outer s H vs Q hr ⟨ts,O,Φ,Ξ,r,ok,sp,acc,_⟩ => ⟨ts,O,Φ,r,ok,h cdv A outer s H O hr ts Φ Ξ sp,acc⟩
section
variable {P:Program} {w:World} {K:PySem.W.Frag} {mg:Str→Option Value} {base:Heap}
theorem No {C:Addr} {ns:List Str} {ps:List Str} (h:ps.length = ns.length + 1):∀ vs H Q E,Nj C ns vs H Q E→vs.length = ps.length:=fun vs H Q E ⟨x,t,is,e,l,_⟩ => by
 rw [e,List.length_cons,List.length_map,l,h]
end
def Tr:Stmt→List Stmt
 | .ClassDef _ _ _ b _ _ _ _ _ _ _ => b
 | _ => []
structure Ini (K:PySem.W.Frag) (C:Addr) (q:Str) (st:Stmt) (f:Addr) (fd:FuncData):Prop where
 F:Fun K "__init__" q st f fd
 c:XfC K C f
 kp:PySem.W.keepIn K (.ref C) = true
def VZ (K:PySem.W.Frag) (C:Addr) (q:Str) (st:Stmt):Prop:=∃ f fd,Ini K C q st f fd
section
variable {P:Program} {w:World} {K:PySem.W.Frag} {mg:Str→Option Value} {base:Heap} {C R f:Addr} {q x:Str} {st:Stmt} {fd:FuncData}
theorem ini {nm qn:Str} {N:Addr} {sn:List Str} {sub:List Value} {ab:Bool} {col:Option Bool} {dd:Option Addr} {k0 k1 k2 k3 k5:Option Value} {oc:Value} {od:Option Addr} {kV doc pm:Value} {an:Option Addr} {cdv ct:Value} {osl:Array (Option Value)}
  (l:K.lookup C = some (excClassObj nm qn C N [.ref R] (.ref R :: EU) true sn sub ab col dd k0 k1 k2 k3 k5 "ValueError.__new__")) (r:PySem.W.excIn K R EU "ValueError.__new__" = true) (i:PySem.W.findIn K (.ref C) "__init__" = some (some (.ref f))) (t:PySem.W.typeIn K (.ref f) = some (.type "function"))
  (s:PySem.W.findIn K (.ref C) "__setattr__" = some (some (.builtin "object.__setattr__"))) (k:PySem.W.keepIn K (.ref C) = true) (fl:K.lookup f = some ⟨oc,od,.func (PySem.W.fnOf "__init__" q (Bl st) (AT st) (AA st) .none kV doc pm an cdv ct),osl⟩) (fq:PySem.W.codeIn K cdv q = true) (fk:PySem.W.keepIn K (.ref f) = true):VZ K C q st :=
 ⟨f,_,⟨⟨⟨oc,od,kV,doc,pm,an,cdv,ct,osl,rfl,fl,fq⟩,fk⟩,⟨⟨nm,qn,N,R,sn,sub,ab,col,dd,k0,k1,k2,k3,k5,l,r⟩,i,t,s⟩,k⟩⟩
abbrev Bj (q:Str) (st:Stmt) (ps:List Str) (us:List Value):Prop:=∀ (kV doc pm:Value) (an:Option Addr) (cdv ct:Value),bindArgs (PySem.W.fnOf "__init__" q (Bl st) (AT st) (AA st) .none kV doc pm an cdv ct) ⟨us,[]⟩ = pure (ps.zip us)
theorem Ini.bt {ps:List Str} (h:Ini K C q st f fd) (hl:ps.length = 2) (b:∀ a b,Bj q st ps [a,b]):Binds K fd ps []:=h.F.binds fun _ _ _ _ _ _ us e => match us,e.trans hl with | [a,c],_ => b a c ..
end
end L2.TL
namespace K02
open PySem L2
def kE (P:Params) (x:Str) (n:Tok) (v:Value):DictEntry:=⟨PyData.keyHash P x,.str x n,v⟩
def tp (i:Nat):Stmt:=PySem.Challenge.pw_noshortring_k02_webs_made.main.body.getD i (.Pass ⟨0,0,0,0⟩)
def kF (x:Str) (i:Nat) (m:Str) (t:Tok) (c:Addr):Obj:=⟨.type "function",none,.func (PySem.W.fnOf x x (Bl (tp i)) (AT (tp i)) (AA (tp i)) .none .none .none (.str m t) none (.ref c) .none),#[]⟩
def ti (i:Nat):Stmt:=(L2.TL.Tr (tp i)).getD 0 (.Pass ⟨0,0,0,0⟩)
def kG (x:Str) (i:Nat) (m:Str) (t:Tok) (c:Addr):Obj:=⟨.type "function",none,.func (PySem.W.fnOf "__init__" x (Bl (ti i)) (AT (ti i)) (AA (ti i)) .none .none .none (.str m t) none (.ref c) .none),#[]⟩
def kC (x:Str) (a b c:Tok) (vs:List Value):Obj:=⟨.type "code",none,.fields ((Value.str x a :: .str x b :: .str "/claim/cut.py" c :: vs).toArray),#[]⟩
def kD (x:Str) (a b c:Tok) (l n:Int) (r:Addr) (g:Int) (q:Addr) (z:Int) (k:Tok) (vs:List Value):Obj:=kC x a b c (.int l 0 :: .int n 0 :: .int 0 0 :: .int 0 0 :: .int 3 0 :: .ref r :: .bool true :: .int g 0 :: .ref q :: (vs ++ [.int z 0,.int l 0,.str "/claim/cut.py" k]))
def Kk:Params→PySem.W.Frag:=fun P => (nat_lit 3,⟨(.type "dict"),none,(.dict #[kE P "__name__" 165 (.str "law_noshortring_k02_webs_made" 401),kE P "__doc__" 166 .none,kE P "__package__" 167 .none,kE P "__loader__" 168 (.builtin "__main__.__loader__#opaque"),kE P "__spec__" 169 .none,kE P "__annotations__" 170 (.ref 6),kE P "__builtins__" 171 (.ref 4),kE P "__file__" 173 (.str "/claim/cut.py" 172),kE P "__cached__" 174 .none,kE P "RingError" 206 (.ref 24),kE P "NoPlace" 222 (.ref 37),kE P "NoNumber" 238 (.ref 49),kE P "NoLine" 254 (.ref 61),kE P "NoRing" 270 (.ref 73),kE P "NotEven" 286 (.ref 85),kE P "NoWeb" 311 (.ref 104),kE P "NoText" 336 (.ref 123),kE P "TooGreat" 363 (.ref 142),kE P "is_whole" 374 (.ref 151),kE P "MOST_PLACES" 378 (.int 16 377),kE P "is_pair" 384 (.ref 156),kE P "web_of" 394 (.ref 163),kE P "ties_of" 400 (.ref 168),kE P "_law_cell_at" 410 (.ref 175),kE P "_law_next" 417 (.ref 182),kE P "_law_pen_of" 425 (.ref 189),kE P "_law_draw" 434 (.ref 196),kE P "_law_whole" 441 (.ref 203),kE P "_law_kind_of" 449 (.ref 210),kE P "_law_named" 455 (.ref 215),kE P "_law_names_by" 461 (.ref 220),kE P "_law_turned" 473 (.ref 227),kE P "_law_shape" 479 (.ref 232),kE P "_law_web_by" 491 (.ref 239),kE P "_law_due" 502 (.ref 246),kE P "_law_mixed" 513 (.ref 253),kE P "_law_right" 527 (.ref 260),kE P "_law_no_number" 535 (.ref 267),kE P "law" 551 (.ref 274)] 39),#[]⟩) ::
  (nat_lit 23,⟨(.type "dict"),none,(.dict #[kE P "__module__" 196 (.str "noshortring.errors" 187),kE P "__firstlineno__" 200 (.int 2 199),kE P "__static_attributes__" 201 (.ref 22),kE P "__weakref__" 203 (.ref 25),kE P "__doc__" 204 .none] 3),#[]⟩) ::
  (nat_lit 24,⟨(.type "type"),none,(.cls ⟨"RingError",[(.type "ValueError")],[(.ref 24),(.type "ValueError"),(.type "Exception"),(.type "BaseException"),(.type "object")],23,"RingError",true,[],[(.ref 37),(.ref 49),(.ref 61),(.ref 73),(.ref 85),(.ref 104),(.ref 123),(.ref 142)],false,none,false⟩),#[(some (.ref 15)),none,(some (.str "RingError" 189)),(some (.str "RingError" 197)),(some (.builtin "ValueError.__new__")),(some (.bool true))]⟩) ::
  (nat_lit 37,⟨(.type "type"),none,(.cls ⟨"NoPlace",[(.ref 24)],[(.ref 37),(.ref 24),(.type "ValueError"),(.type "Exception"),(.type "BaseException"),(.type "object")],36,"NoPlace",true,[],[],false,none,false⟩),#[(some (.ref 28)),none,(some (.str "NoPlace" 207)),(some (.str "NoPlace" 215)),(some (.builtin "ValueError.__new__")),(some (.bool true))]⟩) ::
  (nat_lit 49,⟨(.type "type"),none,(.cls ⟨"NoNumber",[(.ref 24)],[(.ref 49),(.ref 24),(.type "ValueError"),(.type "Exception"),(.type "BaseException"),(.type "object")],48,"NoNumber",true,[],[],false,none,false⟩),#[(some (.ref 40)),none,(some (.str "NoNumber" 223)),(some (.str "NoNumber" 231)),(some (.builtin "ValueError.__new__")),(some (.bool true))]⟩) ::
  (nat_lit 61,⟨(.type "type"),none,(.cls ⟨"NoLine",[(.ref 24)],[(.ref 61),(.ref 24),(.type "ValueError"),(.type "Exception"),(.type "BaseException"),(.type "object")],60,"NoLine",true,[],[],false,none,false⟩),#[(some (.ref 52)),none,(some (.str "NoLine" 239)),(some (.str "NoLine" 247)),(some (.builtin "ValueError.__new__")),(some (.bool true))]⟩) ::
  (nat_lit 73,⟨(.type "type"),none,(.cls ⟨"NoRing",[(.ref 24)],[(.ref 73),(.ref 24),(.type "ValueError"),(.type "Exception"),(.type "BaseException"),(.type "object")],72,"NoRing",true,[],[],false,none,false⟩),#[(some (.ref 64)),none,(some (.str "NoRing" 255)),(some (.str "NoRing" 263)),(some (.builtin "ValueError.__new__")),(some (.bool true))]⟩) ::
  (nat_lit 85,⟨(.type "type"),none,(.cls ⟨"NotEven",[(.ref 24)],[(.ref 85),(.ref 24),(.type "ValueError"),(.type "Exception"),(.type "BaseException"),(.type "object")],84,"NotEven",true,[],[],false,none,false⟩),#[(some (.ref 76)),none,(some (.str "NotEven" 271)),(some (.str "NotEven" 279)),(some (.builtin "ValueError.__new__")),(some (.bool true))]⟩) ::
  (nat_lit 100,⟨(.type "code"),none,(.fields #[(.str "__init__" 299),(.str "NoWeb.__init__" 300),(.str "/claim/cut.py" 301),(.int 16 0),(.int 2 0),(.int 0 0),(.int 0 0),(.int 3 0),(.ref 95),(.bool true),(.int 181 0),(.ref 96),.none,(.ref 97),(.ref 98),(.ref 99),(.int 304 0),(.int 16 0),(.str "/claim/cut.py" 305)]),#[]⟩) ::
  (nat_lit 101,kG "NoWeb.__init__" 7 "noshortring.errors" 187 100) ::
  (nat_lit 103,⟨(.type "dict"),none,(.dict #[kE P "__module__" 294 (.str "noshortring.errors" 187),kE P "__firstlineno__" 298 (.int 14 297),kE P "__init__" 306 (.ref 101),kE P "__static_attributes__" 308 (.ref 102),kE P "__doc__" 309 .none] 2),#[]⟩) ::
  (nat_lit 104,⟨(.type "type"),none,(.cls ⟨"NoWeb",[(.ref 24)],[(.ref 104),(.ref 24),(.type "ValueError"),(.type "Exception"),(.type "BaseException"),(.type "object")],103,"NoWeb",true,[],[],false,none,false⟩),#[(some (.ref 88)),none,(some (.str "NoWeb" 287)),(some (.str "NoWeb" 295)),(some (.builtin "ValueError.__new__")),(some (.bool true))]⟩) ::
  (nat_lit 123,⟨(.type "type"),none,(.cls ⟨"NoText",[(.ref 24)],[(.ref 123),(.ref 24),(.type "ValueError"),(.type "Exception"),(.type "BaseException"),(.type "object")],122,"NoText",true,[],[],false,none,false⟩),#[(some (.ref 107)),none,(some (.str "NoText" 312)),(some (.str "NoText" 320)),(some (.builtin "ValueError.__new__")),(some (.bool true))]⟩) ::
  (nat_lit 142,⟨(.type "type"),none,(.cls ⟨"TooGreat",[(.ref 24)],[(.ref 142),(.ref 24),(.type "ValueError"),(.type "Exception"),(.type "BaseException"),(.type "object")],141,"TooGreat",true,[],[],false,none,false⟩),#[(some (.ref 126)),none,(some (.str "TooGreat" 337)),(some (.str "TooGreat" 345)),(some (.builtin "ValueError.__new__")),(some (.bool true))]⟩) ::
  (nat_lit 150,kD "is_whole" 366 367 368 28 3 145 181 146 372 373 [.none,(.ref 147),(.ref 148),(.ref 149)]) ::
  (nat_lit 151,kF "is_whole" 11 "noshortring.common" 364 150) ::
  (nat_lit 155,kD "is_pair" 379 380 381 34 2 152 181 153 382 383 [.none,.none,.none,(.ref 154)]) ::
  (nat_lit 156,kF "is_pair" 14 "noshortring.webs" 375 155) ::
  (nat_lit 162,kD "web_of" 385 386 387 38 2 157 181 158 392 393 [.none,(.ref 159),(.ref 160),(.ref 161)]) ::
  (nat_lit 163,kF "web_of" 15 "noshortring.webs" 375 162) ::
  (nat_lit 167,kD "ties_of" 395 396 397 45 1 164 181 165 398 399 [.none,.none,.none,(.ref 166)]) ::
  (nat_lit 168,kF "ties_of" 16 "noshortring.webs" 375 167) ::
  (nat_lit 174,kD "_law_cell_at" 403 404 405 48 2 169 181 170 408 409 [.none,(.ref 171),(.ref 172),(.ref 173)]) ::
  (nat_lit 175,kF "_law_cell_at" 18 "law_noshortring_k02_webs_made" 401 174) ::
  (nat_lit 181,kD "_law_next" 411 412 413 52 1 176 181 177 415 416 [.none,(.ref 178),(.ref 179),(.ref 180)]) ::
  (nat_lit 182,kF "_law_next" 19 "law_noshortring_k02_webs_made" 401 181) ::
  (nat_lit 188,kD "_law_pen_of" 418 419 420 55 1 183 181 184 423 424 [.none,(.ref 185),(.ref 186),(.ref 187)]) ::
  (nat_lit 189,kF "_law_pen_of" 20 "law_noshortring_k02_webs_made" 401 188) ::
  (nat_lit 195,kD "_law_draw" 426 427 428 58 2 190 181 191 432 433 [.none,(.ref 192),(.ref 193),(.ref 194)]) ::
  (nat_lit 196,kF "_law_draw" 21 "law_noshortring_k02_webs_made" 401 195) ::
  (nat_lit 202,kD "_law_whole" 435 436 437 65 1 197 181 198 439 440 [.none,(.ref 199),(.ref 200),(.ref 201)]) ::
  (nat_lit 203,kF "_law_whole" 22 "law_noshortring_k02_webs_made" 401 202) ::
  (nat_lit 209,kD "_law_kind_of" 442 443 444 67 1 204 181 205 447 448 [.none,(.ref 206),(.ref 207),(.ref 208)]) ::
  (nat_lit 210,kF "_law_kind_of" 23 "law_noshortring_k02_webs_made" 401 209) ::
  (nat_lit 214,kD "_law_named" 450 451 452 73 2 211 181 212 453 454 [.none,.none,.none,(.ref 213)]) ::
  (nat_lit 215,kF "_law_named" 24 "law_noshortring_k02_webs_made" 401 214) ::
  (nat_lit 219,kD "_law_names_by" 456 457 458 76 2 216 181 217 459 460 [.none,.none,.none,(.ref 218)]) ::
  (nat_lit 220,kF "_law_names_by" 25 "law_noshortring_k02_webs_made" 401 219) ::
  (nat_lit 226,kD "_law_turned" 462 463 464 79 2 221 181 222 471 472 [.none,(.ref 223),(.ref 224),(.ref 225)]) ::
  (nat_lit 227,kF "_law_turned" 26 "law_noshortring_k02_webs_made" 401 226) ::
  (nat_lit 231,kD "_law_shape" 474 475 476 86 2 228 181 229 477 478 [.none,.none,.none,(.ref 230)]) ::
  (nat_lit 232,kF "_law_shape" 27 "law_noshortring_k02_webs_made" 401 231) ::
  (nat_lit 238,kD "_law_web_by" 480 481 482 105 2 233 181 234 489 490 [.none,(.ref 235),(.ref 236),(.ref 237)]) ::
  (nat_lit 239,kF "_law_web_by" 28 "law_noshortring_k02_webs_made" 401 238) ::
  (nat_lit 245,kD "_law_due" 492 493 494 115 2 240 181 241 500 501 [.none,(.ref 242),(.ref 243),(.ref 244)]) ::
  (nat_lit 246,kF "_law_due" 29 "law_noshortring_k02_webs_made" 401 245) ::
  (nat_lit 252,kD "_law_mixed" 503 504 505 125 2 247 181 248 511 512 [.none,(.ref 249),(.ref 250),(.ref 251)]) ::
  (nat_lit 253,kF "_law_mixed" 30 "law_noshortring_k02_webs_made" 401 252) ::
  (nat_lit 259,kD "_law_right" 514 515 516 134 2 254 181 255 525 526 [.none,(.ref 256),(.ref 257),(.ref 258)]) ::
  (nat_lit 260,kF "_law_right" 31 "law_noshortring_k02_webs_made" 401 259) ::
  (nat_lit 266,kD "_law_no_number" 528 529 530 149 1 261 181 262 533 534 [.none,(.ref 263),(.ref 264),(.ref 265)]) ::
  (nat_lit 267,kF "_law_no_number" 32 "law_noshortring_k02_webs_made" 401 266) ::
  (nat_lit 273,kD "law" 536 537 538 155 1 268 181 269 549 550 [.none,(.ref 270),(.ref 271),(.ref 272)]) ::
  (nat_lit 274,kF "law" 33 "law_noshortring_k02_webs_made" 401 273) :: []
def ka:List Addr:=[3,23,24,37,49,61,73,85,100,101,103,104,123,142,150,151,155,156,162,163,167,168,174,175,181,182,188,189,195,196,202,203,209,210,214,215,219,220,226,227,231,232,238,239,245,246,252,253,259,260,266,267,273,274]
abbrev kq:Program:=PySem.W.view PySem.Challenge.pw_noshortring_k02_webs_made [1,2,3,4,5,6,7,8,9,11,13,14,15,16,18,19,20,21,22,23,24,25,26,27,28,29,30,31,32,33]
theorem VJ:(fun (_:Params→PySem.W.Frag) (_:Program) => true) Kk PySem.Challenge.pw_noshortring_k02_webs_made = true:=by k_qdec
theorem left:PySem.W.LeftO PySem.Challenge.pw_noshortring_k02_webs_made kq [] (fun s => PySem.W.xlAt kq [] s && PySem.W.recOk [] s) (fun s => ka.map s.heap.get?) (fun w => (Kk w.params).map fun (p:Addr × Obj) => some p.2) 5412:=by
 intro w
 delta kq
 rw [PySem.W.Fast.te7664128024901267953,PySem.W.Fast.te7689347498331921895,PySem.W.Fast.te14364793385576792824,PySem.W.Fast.te4187177175401517315,PySem.W.Fast.te5923862056798008813]
 kernel_rfl
end K02
namespace L2
open PySem PySem.Spec PyProof.Rows
def VL (K:PySem.W.Frag) (a:Addr):It:=⟨fun i H => ∃ xs x,SqL K H a xs∧xs[i]? = some x,
 fun i H v H' => ∃ p x,H p = none∧v = .ref p∧H' = upd H p (.tup [.int i,x])∧∀ xs,SqL K H a xs→xs[i]? = some x,fun i H => ∃ xs,SqL K H a xs∧xs.length≤i⟩
section
variable {X:Cx}
theorem Ln {P:Program} {w:World} {K:PySem.W.Frag} {es:List Expr} {k:Nat} {pos:Pos} {e it a:Addr} (hne:e≠it) :
  Turn P w K (.Tuple es k pos) (VL K a) [e,it] e (fun i h => (∃ old,IsEnum h e it (i:Int) old)∧h.IsListIter it a i) where
 mem:=by simp
 obj:=fun i h st b hb => by
  obtain ⟨⟨old,s1⟩,⟨o2,e2,c2,d2⟩⟩:=st
  simp only [List.mem_cons,List.not_mem_nil,or_false] at hb
  rcases hb with rfl | rfl
  ·exact ⟨_,s1,fun v q => by have q:Data.fields _ = Data.cell v:=q; cases q⟩
  ·exact ⟨o2,e2,fun v q => by rw [d2] at q; cases q⟩
 keep:=fun i h h' st kk => by
  obtain ⟨⟨old,s1⟩,s2⟩:=st
  exact ⟨⟨old,kk e (by simp) _ s1⟩,s2.at fun o q => kk it (by simp) o q⟩
 item:=by
  intro X hP hw hK hc i pins s σ H E I hf st hg
  subst hP hw hK
  obtain ⟨xs,x,hq,hx⟩:=hg
  obtain ⟨its,rv,p,hz⟩:=I.list hq
  obtain ⟨u,hu,ru⟩:=rv.get hx
  obtain ⟨⟨old,s1⟩,s2⟩:=st
  refine wpAny_pyNext_enum_item s1 s2 p.isList (x:=u) (by simpa using hu) hne fun h1 z1 a1 n1 sz1 k1 => ?_
  refine ⟨_,rfl,wpAny_letOwnedTupleGo_enum (s:={ s with heap:=h1,toks:=s.toks + 1 }) z1 fun h2 z2 sb2 => ?_⟩
  have hlt:∀ v o,s.heap.get? v = some o→v≠s.heap.objs.size:=fun v o q => Nat.ne_of_lt (Heap.lt_size q)
  have zs:e≠s.heap.objs.size:=hlt e _ s1
  have up2:∀ v o,v≠e→h1.get? v = some o→h2.get? v = some o:=fun v o hv q => (sb2.2 v hv).trans q
  have hT:H s.heap.objs.size = none:=I.hok.fresh (Nat.le_refl _)
  have kk:∀ v o,v ∉ [e,it]→s.heap.get? v = some o→h2.get? v = some o:=fun v o hv q => by
   simp only [List.mem_cons,List.not_mem_nil,or_false,not_or] at hv
   exact up2 v o hv.1 (k1 v o hv.1 hv.2 q)
  have I1:Inv X pins σ (upd H s.heap.objs.size (.tup [.int i,x])) { s with heap:=h2,toks:=s.toks + 1 }:=by
   have ne:∀ v o,s.heap.get? v = some o→upd H s.heap.objs.size (.tup [.int i,x]) v = H v:=fun v o q => AD (hlt v o q)
   refine I.call' (s':={ s with heap:=h2,toks:=s.toks + 1 }) (ch:=[e,it]) rfl ⟨fun v o q _ _ hv => kk v o hv q,fun v o q _ _ hv => ⟨o.slots,kk v o hv q⟩,fun v o q n _ => by rw [ne v o q]; exact n,fun v o q hv => ⟨o,kk v o hv q⟩,fun v xs q => ?_,fun v o xs q => ?_,fun v ps q => ?_⟩ ?_ I.bare fun v hv => ?_
   ·rw [AD (AL q hT)]; exact q
   ·rw [AD (AL q hT)]; exact q
   ·exact ⟨#[],by rw [AD (AL q hT),q]; simp⟩
   ·intro v o q
    by_cases hv:v = s.heap.objs.size
    ·subst hv
     rw [AG] at q; cases q
     exact ⟨by show 2≤sizeLine; decide,[.int i s.toks,u],.cons ⟨_,rfl⟩ (.cons ru .nil),⟨_,up2 _ _ (Ne.symm zs) n1,rfl,_,rfl⟩⟩
    ·rw [AD hv] at q
     refine (I.hok v o q).stay (fun c w' hc' r => kk c w' (fun hm => ?_) r) (fun c r => by rw [AD (AL r hT)]; exact r) fun c xs r => by rw [AD (AL r hT)]; exact r
     have hn:=(hf c hm).1
     rcases hc' with rfl | hc'
     ·rw [q] at hn; cases hn
     ·rw [hc'] at hn; cases hn
   ·obtain ⟨_,q2,q3,q4,q5,q6⟩:=hf v hv
    exact ⟨q4,q2,q5,q6⟩
  refine ⟨.ref s.heap.objs.size,_,I1,rfl,⟨_,x,hT,rfl,rfl,fun xs' q => by rw [I.list_inj q hq]; exact hx⟩,⟨⟨_,z2⟩,a1.at fun o q => up2 it o (Ne.symm hne) q⟩,fun v hv => ?_⟩
  have hvo:∃ o,s.heap.get? v = some o:=by
   simp only [List.mem_cons,List.not_mem_nil,or_false] at hv
   rcases hv with rfl | rfl
   ·exact ⟨_,s1⟩
   ·obtain ⟨o,q,_⟩:=s2; exact ⟨o,q⟩
  obtain ⟨o,q⟩:=hvo
  rw [AD (hlt v o q)]
  exact (hf v hv).1
 done:=by
  intro X hP hw hK hc i pins s σ H E I hf st hg
  subst hP hw hK
  obtain ⟨xs,hq,hl⟩:=hg
  obtain ⟨its,rv,p,hz⟩:=I.list hq
  have l1:=rv.length
  obtain ⟨⟨old,s1⟩,s2⟩:=st
  refine wpAny_pyNext_enum_end (I.ok.hd hc) s1 s2 p.isList (by simp; omega) fun h' k1 => ⟨rfl,I.turns (t':=s.toks) hf fun v o hv q => ?_⟩
  simp only [List.mem_cons,List.not_mem_nil,or_false,not_or] at hv
  exact k1 v o hv.2 q
 self:=fun _ _ _ _ _ st h => by obtain ⟨⟨old,s1⟩,_⟩:=st; exact wpAny_pyIter_enum s1 h
theorem Lo:bootBuiltins "enumerate" = some (.type "enumerate"):=by decide +kernel
def Ts (K:PySem.W.Frag) (ta:TA):TI:=fun σ H R => ta σ H fun vs H1 => ∃ t,vs = [.ref t]∧(∃ xs,SqL K H1 t xs)∧R (VL K t) H1
theorem Pf {a:Expr} {ta:TA} {p pos tpos:Pos} {es:List Expr} {k:Nat} (hg:Gl X "enumerate") (hm:X.mg "enumerate" = none) (ha:PA X [a] ta) (hs:starEach [a] X.env = [(false,eval a X.env)]:=by rfl) :
  PI X (.Tuple es k tpos) (.Call (.Name "enumerate" p) [a] [] pos) (Ts X.K ta):=by
 intro pins s σ H R I h
 refine Call_ (Dm I hg hm Lo (PyProof.Rows.callWith_type1 (Ac (ha pos pins s σ H _ I h) fun us s1 ⟨vs,H1,I1,r1,q1⟩ => ?_) (by rw [hs]; rfl) rfl))
 obtain ⟨t,rfl,⟨xs,h1⟩,q⟩:=q1
 obtain ⟨v1,rfl,e1⟩:=Cd r1
 cases e1
 obtain ⟨its,rv,p1,_⟩:=I1.list h1
 refine call_enumerate_list p1.isList fun h' z1 z2 hsz kp => ?_
 refine wpAny_pyIter_enum z1 ?_
 refine ⟨_,_,_,_,H1,rfl,I1.kept (t':=s1.toks) kp,Ln (Nat.succ_ne_self _),⟨⟨_,z1⟩,z2⟩,fun b hb => ?_,q⟩
 have hge:s1.heap.objs.size≤b:=by
  simp only [List.mem_cons,List.not_mem_nil,or_false] at hb
  rcases hb with rfl | rfl <;> omega
 exact I1.fpOk hge (I1.hok.fresh hge)
end
end L2
namespace L2.TL
open PySem PySem.Spec PyProof.Rows
section
variable {Z:Zx} {ρ:List (Option T)} {O:AJ} {a:Expr} {ts:List T} {p pos:Pos}
def ER (ts:List T):List T:=ts.zipIdx.map fun x => .tup [.int (x.2:Nat),x.1]
theorem Lp {K:PySem.W.Frag} {H:Hp} {l:Addr} {xs:List V} (ok:OwnOk K O H) (h1:H l = some (.lst xs)) (n:O l = none) (r1:Reps K O H xs ts):Jm K (VL K l) O H (ER ts):=fun O' H' k ok' => by
 have g1:SqL K H' l xs:=.inl (.inl (k.lst h1 n).1)
 have q1:=r1.kp k ok
 have hl:(ER ts).length = ts.length:=by simp [ER]
 refine ⟨fun i hi => ?_,fun i x H'' y t e => ?_,fun i hi => ⟨xs,g1,?_⟩⟩
 ·rw [hl] at hi
  obtain ⟨v,e1,_⟩:=q1.get (i:=i) (t:=ts[i]'hi) (by simp)
  exact ⟨xs,v,g1,e1⟩
 ·obtain ⟨p,v,hp,rfl,rfl,a1⟩:=y
  unfold ER at e
  rw [List.getElem?_map,List.getElem?_zipIdx] at e
  cases et:ts[i]? with
  | none => rw [et] at e; cases e
  | some t1 =>
   rw [et] at e
   have e:T.tup [.int ((0 + i:Nat):Int),t1] = t:=Option.some.inj e
   rw [Nat.zero_add] at e
   subst e
   obtain ⟨v',e1,rv⟩:=q1.get et
   have z1:=a1 xs g1
   rw [e1] at z1; cases z1
   exact ⟨.new ok' hp,.tup AG ((Reps.cons (.int _) (.one rv)).kp (BG ok' hp) ok')⟩
 ·rw [hl] at hi
  rw [r1.length]
  omega
theorem Pg {tes:List Expr} {tk:Nat} {tpos:Pos} (hm:Z.X.mg "enumerate" = none) (h1:ET Z ρ O a (.lst ts)) (hg:Gl Z.X "enumerate":=by rfl) (hs:starEach [a] Z.X.env = [(false,eval a Z.X.env)]:=by rfl):EI Z ρ O (.Tuple tes tk tpos) (.Call (.Name "enumerate" p) [a] [] pos) (ER ts):=fun Φ q =>
 PI.weak (Pf hg hm (AI h1 AE hs (fun vs O' => vs = [.lst ts]∧O' = O) ⟨rfl,rfl⟩) hs) fun σ H R k => ⟨k.1,by
  rintro vs H' _ _ ⟨rfl,rfl⟩ f r
  obtain ⟨v,rfl,r1⟩:=r.one_inv
  obtain ⟨l,xs,rfl,g1,n,r1⟩:=r1.lst_inv
  exact ⟨l,rfl,⟨xs,.inl (.inl g1)⟩,k.2 _ H' _ _ q f (Lp f.ok g1 n r1)⟩⟩
end
end L2.TL
namespace K02
open PySem L2 L2.TL PySem.Spec PyProof.Rows
def top (i:Nat):Stmt:=PySem.Challenge.pw_noshortring_k02_webs_made.main.body.getD i (.Pass ⟨0,0,0,0⟩)
abbrev Jq:Stmt:=top 11
abbrev Dd:Stmt:=top 16
abbrev Kq:Stmt:=top 23
abbrev Jr:Stmt:=top 15
abbrev Ph:Stmt:=top 29
abbrev Js:Stmt:=top 30
abbrev DL:Stmt:=top 31
abbrev Hn:Stmt:=top 32
abbrev Lq:Stmt:=top 33
structure Txt (mg:Str→Option Value):Prop where
 nInt:mg "int" = none
 nBool:mg "bool" = none
 nTuple:mg "tuple" = none
 nList:mg "list" = none
 nSet:mg "set" = none
 nRange:mg "range" = none
 nIsi:mg "isinstance" = none
 nMax:mg "max" = none
 nMin:mg "min" = none
 nLen:mg "len" = none
 nAll:mg "all" = none
 nSorted:mg "sorted" = none
 nRepr:mg "repr" = none
 nVE:mg "ValueError" = none
 nEnum:mg "enumerate" = none
 iMP:∃ t:Tok,mg "MOST_PLACES" = some (.int 16 t)
def Hu (t:T) (a b:Int):Bool:=match t with
 | .int i => decide (a≤i) && decide (i≤b)
 | _ => false
def AO (n:Int) (p:Int × Int):Prop:=0≤p.1∧p.1 < p.2∧p.2 < n
theorem EW.cast {Z:Zx} {ρ:List (Option T)} {O:AJ} {e:Expr} {k l:Bool} (h:EW Z ρ O e k) (z:k = l):EW Z ρ O e l:=z ▸ h
theorem ET.cast {Z:Zx} {ρ:List (Option T)} {O:AJ} {e:Expr} {k l:T} (h:ET Z ρ O e k) (z:k = l):ET Z ρ O e l:=z ▸ h
section
variable {P:Program} {w:World} {K:PySem.W.Frag} {mg:Str→Option Value} {base:Heap}
def Ho:DI:=Te fun ts r => ∃ t a b,ts = [t,.int a,.int b]∧CZ t = false∧r = .bl (Hu t a b)
theorem Pi:FnScope ["thing","least","most"] ["thing","least","most"] (AA Jq):=⟨rfl,rfl,rfl,by decide +kernel,rfl,by decide +kernel,by decide +kernel⟩
theorem Np {f:Addr} {fd:FuncData} (F:Fun K "is_whole" "is_whole" Jq f fd) (T:Txt mg):FnOk P w K mg base (CXe P w) 1 f fd ["thing","least","most"] (EY K Ho):=by
 refine Ax F Pi ?_ ?_
 ·rintro ts O Φ Ξ ⟨r,⟨t,a,b,rfl,_⟩,_⟩
  rfl
 ·rintro cdv A outer s H E O Ξ hr xf _ Φ ⟨_,⟨t,a,b,rfl,ht,rfl⟩,q⟩
  refine AH (Am (EW.eb (BS (Al (Cl T.nIsi T.nInt PL Ha (ev 0) ht)) fun _ => CK (Cl T.nIsi T.nBool NX Fa (ev 0) ht))) (fun h => AN (AY (Kb _ ?_))) (fun h => Ap ?_))
  ·have:Hu t a b = false:=by
    cases t <;> first | rfl | cases h
   rw [this] at q; exact q
  ·cases t with
   | int i => exact AN (AY (PJ (ev 1) (ev 0) (ev 2) (by with_unfolding_all rfl) _ q))
   | bl i => cases h
   | raw i => cases ht
   | _ => cases h
theorem De {t:T} {a b:Int} (h:Hu t a b = true):∃ i,t = .int i:=by
 cases t <;> first | exact ⟨_,rfl⟩ | cases h
end
abbrev Nq:Stmt:=top 18
abbrev Nr:Stmt:=top 19
abbrev SB:Stmt:=top 20
abbrev Nt:Stmt:=top 21
abbrev Ek:Stmt:=top 22
def Ca (xs:List T):Prop:=∃ a b c:Int,xs = [.int a,.int b,.int c]∧0≤a∧0≤c∧c < 2147483648
section
variable {P:Program} {w:World} {K:PySem.W.Frag} {mg:Str→Option Value} {base:Heap}
def Fj (K:PySem.W.Frag):Sp:=fun vs H Q _ => ∃ (a:Addr) (ns:List Int),vs = [.ref a,.int 0]∧SqL K H a (ns.map V.int)∧∀ i,Q (.int i) H
theorem SC:FnScope ["_law_script","_law_k"] ["_law_script","_law_k"] (AA Nq):=⟨rfl,rfl,rfl,by decide +kernel,rfl,by decide +kernel,by decide +kernel⟩
theorem Pj {f:Addr} {fd:FuncData} (F:Fun K "_law_cell_at" "_law_cell_at" Nq f fd) (T:Txt mg):FnOk P w K mg base (CXe P w) 1 f fd ["_law_script","_law_k"] (Fj K):=by
 refine F.okX SC (fun vs H Q E h => ?_) (fun cdv A outer s H vs Q E hr h => ?_)
 ·obtain ⟨a,ns,rfl,_⟩:=h
  rfl
 ·obtain ⟨a,ns,rfl,hS,k⟩:=h
  refine ⟨_,Cc (MI (Gw KH (pv 1) (An BU (by rfl) T.nLen PM (AK (pv 0) Ao)) (Ak _)) (Cq (Dn (MU Cv (pv 0) (pv 1) (fun _ _ => rfl)))) Gr) (Cq (Dn Gq)),?_⟩
  refine ⟨_,rfl,_,rfl,a,_,rfl,.inl hS,_,_,rfl,rfl,_,rfl,?_⟩
  refine RG (fun h1 => ?_) (fun h1 => ?_)
  ·have h1:(0:Int) < ((ns.map V.int).length:Int):=by simpa using h1
   cases ns with
   | nil => simp at h1
   | cons n ns => exact ⟨_,rfl,_,rfl,a,_,0,.int n,rfl,rfl,hS,DO (j:=0) rfl,k n⟩
  ·exact k 0
def Nu:DI:=fun ts O Φ _ => ∃ n:Int,ts = [.int n]∧∀ m:Int,0≤m→m < 2147483629→Φ (.int m) O
theorem Nv:FnScope ["_law_seed"] ["_law_seed"] (AA Nr):=⟨rfl,rfl,rfl,by decide +kernel,rfl,by decide +kernel,by decide +kernel⟩
theorem Pk {f:Addr} {fd:FuncData} (F:Fun K "_law_next" "_law_next" Nr f fd):FnOk P w K mg base (CXe P w) 1 f fd ["_law_seed"] (EY K Nu):=by
 refine Ax F Nv ?_ ?_
 ·rintro ts O Φ Ξ ⟨n,rfl,_⟩
  rfl
 ·rintro cdv A outer s H E O Ξ hr xf _ Φ ⟨n,rfl,q⟩
  have b1:=Int.emod_nonneg (n + 7919) (show (2147483647:Int)≠0 by decide)
  have b2:=Int.emod_lt_of_pos (n + 7919) (show (0:Int) < 2147483647 by decide)
  refine AH (AS 0 (ET.we (Dy (CI (ev 0) AC) AC (by decide)) ?_) Nv.nd)
  exact AN (AY (ET.we (Dy (CI (CI (NI (ev 0) (ev 0) (.inl ⟨by omega,by omega⟩)) (NI AC (ev 0) (.inl ⟨by decide,by decide⟩))) AC) AC (by decide)) (q _ (Int.emod_nonneg _ (by decide)) (Int.emod_lt_of_pos _ (by decide)))))
def QX:DI:=fun ts O Φ _ => ∃ c:Int,ts = [.int c]∧∀ (p:Addr) (xs:List T),O p = none→Ca xs→Φ (.raw (.ref p)) (AV O p xs)
theorem QY:FnScope ["_law_cell","_law_left"] ["_law_cell"] (AA SB):=⟨rfl,rfl,rfl,by decide +kernel,rfl,by decide +kernel,by decide +kernel⟩
theorem SD {f:Addr} {fd:FuncData} (F:Fun K "_law_pen_of" "_law_pen_of" SB f fd) (T:Txt mg):FnOk P w K mg base (CXe P w) 1 f fd ["_law_cell"] (EY K QX):=by
 refine Ax F QY ?_ ?_
 ·rintro ts O Φ Ξ ⟨n,rfl,_⟩
  rfl
 ·rintro cdv A outer s H E O Ξ hr xf _ Φ ⟨n,rfl,q⟩
  refine AH (AS 1 (ET.we (Hc T.nMax rfl (ev 0) (FT AC (ev 0))) ?_) QY.nd)
  refine AN (AY (Ee (EA.wa (AI (ev 1) (AI (PP T.nInt (TZ (ev 1) (NJ AC AC ⟨by decide,by decide,by decide⟩))) (AI (Dy (ev 1) AC (by decide)) AE))) ⟨by show 3≤sizeLine; decide,fun a ha => q a _ ha ?_⟩)))
  have b1:=Int.emod_nonneg (max n (0 - n)) (show (1000003:Int)≠0 by decide)
  have b2:=Int.emod_lt_of_pos (max n (0 - n)) (show (0:Int) < 1000003 by decide)
  exact ⟨_,_,_,rfl,by omega,b1,by omega⟩
def Ai:DI:=fun ts O Φ _ => ∃ (p:Addr) (xs:List T) (m:Int),ts = [.raw (.ref p),.int m]∧O p = some xs∧Ca xs∧0 < m∧m < 1000∧∀ (r:Int) (xs':List T),0≤r→r < m→Ca xs'→Φ (.int r) (AV O p xs')
theorem Nw:FnScope ["_law_pen","_law_many","_law_found"] ["_law_pen","_law_many"] (AA Nt):=⟨rfl,rfl,rfl,by decide +kernel,rfl,by decide +kernel,by decide +kernel⟩
theorem Pl {f:Addr} {fd:FuncData} (F:Fun K "_law_draw" "_law_draw" Nt f fd) (G:FnT P w K mg base "_law_next" 1 ["_law_seed"] Nu):FnOk P w K mg base (CXe P w) 2 f fd ["_law_pen","_law_many"] (EY K Ai):=by
 refine Ax F Nw ?_ ?_
 ·rintro ts O Φ Ξ ⟨p,xs,m,rfl,_⟩
  rfl
 ·rintro cdv A outer s H E O Ξ hr xf _ Φ ⟨p,_,m,rfl,hp,⟨a,b,c,rfl,a0,c0,c1⟩,m0,m1,q⟩
  refine AH (Am (Cj (FX hp (ev 0) AC) AC) (fun h => ?_) (fun h => Ap ?_))
  ·refine AH (AS 2 (ET.we (Dy (FX hp (ev 0) AC) (ev 1) m0) ?_) Nw.nd)
   refine AH (NT (ET.we (HQ (FX hp (ev 0) AC) (ev 1) ⟨m0,by omega⟩) (ET.we (ev 0) ⟨p,rfl,ET.we AC ⟨_,0,0,rfl,hp,rfl,?_⟩⟩)))
   exact AN (AY (ET.we (ev 2) (q _ _ (Int.emod_nonneg _ (by omega)) (Int.emod_lt_of_pos _ m0) ⟨a / m,b,c,rfl,Int.ediv_nonneg a0 (by omega),c0,c1⟩)))
  ·refine AH (NT (Ad G hr xf (BL (DC Do (Ad G hr xf (EA.wa (AI (FX hp (ev 0) AC) AE) ⟨c,rfl,fun u u0 u1 => ?_⟩))))))
   refine ET.we AC (FS _ (AX ⟨u + 7,rfl,fun r r0 r1 => ET.we (ev 0) ⟨p,rfl,ET.we AC ⟨_,2,2,rfl,hp,rfl,?_⟩⟩⟩))
   exact AN (AY (ET.we (Dy (HQ (FX AF (ev 0) AC) AC ⟨by decide,by decide⟩) (ev 1) m0) (q _ _ (Int.emod_nonneg _ (by omega)) (Int.emod_lt_of_pos _ m0) ⟨a,b,r,rfl,a0,r0,by omega⟩)))
def Df:DI:=Te fun ts r => ∃ t,ts = [t]∧CZ t = false∧r = .bl (Ie t && !FZ t)
theorem Iq:FnScope ["_law_found"] ["_law_found"] (AA Ek):=⟨rfl,rfl,rfl,by decide +kernel,rfl,by decide +kernel,by decide +kernel⟩
theorem Lr {f:Addr} {fd:FuncData} (F:Fun K "_law_whole" "_law_whole" Ek f fd) (T:Txt mg):FnOk P w K mg base (CXe P w) 1 f fd ["_law_found"] (EY K Df):=by
 refine Ax F Iq ?_ ?_
 ·rintro ts O Φ Ξ ⟨r,⟨t,rfl,_⟩,_⟩
  rfl
 ·rintro cdv A outer s H E O Ξ hr xf _ Φ ⟨_,⟨t,rfl,ht,rfl⟩,q⟩
  exact AN (AY (ET.we (EC (ED T.nIsi T.nInt PL Ha (ev 0) ht) fun _ => Dz (NQ (ED T.nIsi T.nBool NX Fa (ev 0) ht))) q))
end
abbrev EG:Stmt:=top 24
abbrev Dg:Stmt:=top 25
abbrev El:Stmt:=top 26
def JB (ns:List Int) (i:Int):Int:=ns.getD i.toNat 0
def nm (ns:List Int) (p:Int × Int):Int × Int:=(min (JB ns p.1) (JB ns p.2),max (JB ns p.1) (JB ns p.2))
theorem Ir {ns:List Int} {i:Int} (h0:0≤i) (h1:i < ns.length):atI (ns.map T.int) i = some (.int (JB ns i)):=by
 obtain ⟨j,rfl⟩:=Int.eq_ofNat_of_zero_le h0
 have hj:j < ns.length:=by omega
 have:=DO (xs:=ns.map T.int) (j:=j) (v:=.int (ns.getD j 0)) (by
  rw [List.getElem?_map,List.getElem?_eq_getElem hj]
  simp [List.getD,hj])
 exact this
theorem EH {α β:Type} (f:α→β):∀ (l:List α) (i:Nat),(l.eraseIdx i).map f = (l.map f).eraseIdx i
 | [],_ => rfl
 | _ :: _,0 => rfl
 | a :: l,i + 1 => by
  show f a :: (l.eraseIdx i).map f = f a :: (l.map f).eraseIdx i
  rw [EH f l i]
theorem Fk {α:Type}:∀ (l:List α) (i:Nat) (h:i < l.length),(l[i] :: l.eraseIdx i).Perm l
 | _ :: _,0,_ => .refl _
 | a :: l,i + 1,h => (List.Perm.swap a (l[i]'(by simpa using h)) (l.eraseIdx i)).trans ((Fk l i (by simpa using h)).cons a)
section
variable {P:Program} {w:World} {K:PySem.W.Frag} {mg:Str→Option Value} {base:Heap}
def Hq:DI:=fun ts O Φ _ => ∃ (n:Int) (ps:List (Int × Int)) (ns:List Int),ts = [.tup [.int n,.tup (ps.map AB)],.tup (ns.map T.int)]∧ps.length≤300∧(∀ p∈ps,0≤p.1∧p.1 < ns.length∧0≤p.2∧p.2 < ns.length)∧(∀ z∈ns,0≤z∧z < 65536) ∧
 ∀ qs:List (Int × Int),qs.Pairwise Ii→(∀ q,q∈qs↔q∈ps.map (nm ns))→qs.length≤ps.length→Φ (.tup [.int n,.tup (qs.map AB)]) O
theorem Kr:FnScope ["_law_web","_law_names","_law_ties"] ["_law_web","_law_names"] (AA EG):=⟨rfl,rfl,rfl,by decide +kernel,rfl,by decide +kernel,by decide +kernel⟩
theorem Tt:(As ["_law_one","_law_other"] [(("_law_names" : Str),1)]).Nodup:=by decide +kernel
theorem Tu:(As ["_law_tie"] []).Nodup:=by decide +kernel
theorem Em {ns:List Int} {i:Int} (h0:0≤i) (h1:i < ns.length):JB ns i∈ns:=by
 unfold JB
 have:i.toNat < ns.length:=by omega
 simp [List.getD,this]
theorem Ny {f:Addr} {fd:FuncData} (F:Fun K "_law_named" "_law_named" EG f fd) (Tx:Txt mg):FnOk P w K mg base (CXe P w) 2 f fd ["_law_web","_law_names"] (EY K Hq):=by
 refine Ax F Kr ?_ ?_
 ·rintro ts O Φ Ξ ⟨n,ps,ns,rfl,_⟩
  rfl
 ·rintro cdv A outer s H E O Ξ hr xf _ Φ ⟨n,ps,ns,rfl,hl,hp,hn,q⟩
  have hu:(A.deeper (envOfC "_law_named" (AA EG) s.heap.objs.size f cdv)).units + 8 < cLine:=by have:=hr.un; omega
  have hz:ps.length≤sizeLine:=Nat.le_trans hl (by decide)
  refine AH (NW (i:=2) (nc:=["_law_one","_law_other"]) (cap:=[("_law_names",1)]) (by rfl) Kr.nd rfl (EZ (AA EG) ["_law_web","_law_names","_law_ties"] (by decide +kernel)) (NV (BP (ev 0) AC) _ (Ij ps AB (fun p => AB (JB ns p.1,JB ns p.2)) hz (fun x hx => ⟨[some (.int x.1),some (.int x.2),some (.tup (ns.map T.int))],fun X' Oe He is O' => ?_⟩) ?_)))
  ·obtain ⟨cl,s',H',fp,rfl⟩:=is
   have:=hp x hx
   exact ⟨Bo 0 1 rfl Tt (by decide) (by decide),Bx (AI (BP (ev 2) (ev 0) (Ir this.1 this.2.1)) (AI (BP (ev 2) (ev 1) (Ir this.2.2.1 this.2.2.2)) AE))⟩
  ·refine AN (AY (BH (BL (ET.we (BP (ev 0) AC) (BL (BO Tx.nTuple (BW (ps:=ps.map (nm ns)) Tx.nSorted Tx.nSet rfl hu ?_ (by simpa using hl) ?_ fun qs h1 h2 h3 => ⟨_,rfl,AX ⟨by show 2≤sizeLine; decide,q qs h1 h2 (by simpa using h3)⟩⟩)))))))
   ·rw [List.map_map]
    refine EE ["_law_tie"] [] ps (fun p => AB (JB ns p.1,JB ns p.2)) _ rfl (EZ (AA EG) ["_law_web","_law_names","_law_ties"] (by decide +kernel)) (Cz (ev 2)) hz fun x hx => ⟨[some (AB (JB ns x.1,JB ns x.2))],fun X' Oe He is O' => ?_⟩
    obtain ⟨cl,s',H',fp,rfl⟩:=is
    exact ⟨Ae 0 Tu (by decide),Bx (AI (Ki Tx.nMin rfl (ev 0)) (AI (Kj Tx.nMax rfl (ev 0)) AE))⟩
   ·intro z hz
    obtain ⟨p,h1,rfl⟩:=List.mem_map.mp hz
    have:=hp p h1
    have e1:=hn _ (Em this.1 this.2.1)
    have e2:=hn _ (Em this.2.2.1 this.2.2.2)
    show 0≤max _ _∧max _ _ < 65536
    omega
def EJ:DI:=fun ts O Φ _ => ∃ (p:Addr) (xs:List T) (m:Int),ts = [.raw (.ref p),.int m]∧O p = some xs∧Ca xs∧0≤m∧m < 100∧∀ (ns:List Int) (xs':List T),ns.Perm ((List.range m.toNat).map fun (i:Nat) => (i:Int))→Ca xs'→Φ (.tup (ns.map T.int)) (AV O p xs')
theorem Gg:FnScope ["_law_pen","_law_many","_law_left"] ["_law_pen","_law_many"] (AA Dg):=⟨rfl,rfl,rfl,by decide +kernel,rfl,by decide +kernel,by decide +kernel⟩
theorem Tv:(As ["_law_place"] [(("_law_left" : Str),2),(("_law_pen" : Str),0)]).Nodup:=by decide +kernel
theorem Is {f:Addr} {fd:FuncData} (F:Fun K "_law_names_by" "_law_names_by" Dg f fd) (Tx:Txt mg) (G:FnT P w K mg base "_law_draw" 2 ["_law_pen","_law_many"] Ai):FnOk P w K mg base (CXe P w) 3 f fd ["_law_pen","_law_many"] (EY K EJ):=by
 refine Ax F Gg ?_ ?_
 ·rintro ts O Φ Ξ ⟨p,xs,m,rfl,_⟩
  rfl
 ·rintro cdv A outer s H E O Ξ hr xf _ Φ ⟨p,xs,m,rfl,hp,px,m0,m1,q⟩
  refine AH (AS 2 (NZ (p1:=⟨0,0,0,0⟩) Tx.nList Tx.nRange rfl (ev 1) m0 (by omega) fun l hl => ?_) Gg.nd)
  have pl:p≠l:=Fg hp hl
  refine AN (Bp (l:=l) hl (BO Tx.nTuple (GV (nc:=["_law_place"]) (cap:=[("_law_left",2),("_law_pen",0)]) rfl (EZ (AA Dg) ["_law_pen","_law_many","_law_left"] (by decide +kernel)) (EI.wi (BE Tx.nRange (ev 1) ⟨by omega,by omega⟩) ?_))))
  refine ⟨fun i acc O' => i≤m.toNat∧∃ (as rs:List Int) (xs':List T),acc = as.map T.int∧as.length = i∧(as ++ rs).Perm ((List.range m.toNat).map fun (i:Nat) => (i:Int))∧Ca xs'∧O' = AV (AV O p xs') l (rs.map T.int),⟨Nat.zero_le _,[],(List.range m.toNat).map fun (i:Nat) => (i:Int),xs,rfl,rfl,.refl _,px,?_⟩,?_,?_⟩
  ·rw [Ff hp,List.map_map]
   rfl
  ·rintro i t acc O' c e ⟨_,as,rs,xs',rfl,hi,pm,px',rfl⟩ hc
   obtain ⟨hi2,rfl⟩:=Bg e
   have hcl:c≠l:=fun z => by rw [z,AF] at hc; cases hc
   have hcp:c≠p:=fun z => by rw [z,AQ pl,AF] at hc; cases hc
   refine ⟨[some (.int (0 + i)),some (.raw (.ref l)),some (.raw (.ref p))],fun X' Oe He is => ?_⟩
   have hlen:as.length + rs.length = m.toNat:=by
    have:=pm.length_eq
    simpa using this
   refine ⟨?_,HX (IG fun X' Oe He is => ?_)⟩
   ·obtain ⟨cl,s',H',fp,rfl⟩:=is
    exact Ae 0 Tv (by decide)
   ·obtain ⟨cl,s',H',fp,rfl⟩:=is
    have ol:(AV (AV (AV O p xs') l (rs.map T.int)) c (as.map T.int)) l = some (rs.map T.int):=by rw [AQ (Ne.symm hcl),AF]
    have op:(AV (AV (AV O p xs') l (rs.map T.int)) c (as.map T.int)) p = some xs':=by rw [AQ (Ne.symm hcp),AQ pl,AF]
    refine Fc (ET.we (ev 1) ⟨l,rfl,⟨_,ol⟩,Ad G hr DZ (EA.wa (AI (ev 2) (AI (Hb Tx.nLen (ev 1) ol) AE)) ⟨p,xs',_,rfl,op,px',by simp; omega,by simp; omega,fun r xs2 r0 r1 px2 => ?_⟩)⟩)
    have r1:r < rs.length:=by simpa using r1
    have hr':r.toNat < rs.length:=by omega
    refine ⟨rs.map T.int,r,.int rs[r.toNat],rfl,?_,r0,by omega,by simpa using r1,by rw [List.getElem?_map,List.getElem?_eq_getElem hr']; rfl,?_⟩
    ·rw [AQ (Ne.symm pl),ol]
    ·refine ⟨AV (AV O p xs2) l ((rs.eraseIdx r.toNat).map T.int),?_,?_,?_,?_⟩
     ·have e1:(rs.map T.int).eraseIdx r.toNat = (rs.eraseIdx r.toNat).map T.int:=(EH _ _ _).symm
      rw [e1]
      rw [BN (p:=c) (a:=p) (Ne.symm hcp),BN (p:=c) (a:=l) (Ne.symm hcl),BN (p:=l) (a:=p) pl,Aq,Aq]
     ·rw [AQ hcl,AQ hcp]
      rw [AQ hcl,AQ hcp] at hc
      exact hc
     ·rw [List.length_map]
      have:(1000:Nat) < sizeLine:=by decide
      omega
     ·refine ⟨hi2,as ++ [rs[r.toNat]],rs.eraseIdx r.toNat,xs2,by simp,by simp [hi],?_,px2,rfl⟩
      refine List.Perm.trans ?_ pm
      rw [List.append_assoc]
      exact (Fk rs _ hr').append_left as
  ·rintro acc O' ⟨_,as,rs,xs',rfl,hi,pm,px',rfl⟩
   rw [Au] at hi
   have hlen:as.length + rs.length = m.toNat:=by
    have:=pm.length_eq
    simpa using this
   have:rs = []:=List.length_eq_zero_iff.mp (by omega)
   subst this
   rw [List.append_nil] at pm
   refine ⟨_,rfl,?_⟩
   rw [GX hl pl]
   exact q as xs' pm px'
end
section
variable {P:Program} {w:World} {K:PySem.W.Frag} {mg:Str→Option Value} {base:Heap}
def Cm:DI:=fun ts O Φ _ => ∃ (m:Int) (ss:List Int),ts = [.int m,.lst (ss.map T.int)]∧0 < m∧m≤16∧ss.length≤16∧(∀ s∈ss,1≤s∧s < m) ∧
 ∀ qs:List (Int × Int),qs.Pairwise Ii→(∀ q∈qs,AO m q)→qs.length≤256→Φ (.tup [.int m,.tup (qs.map AB)]) O
theorem Co:FnScope ["_law_many","_law_steps","_law_ties","_law_step","_law_place","_law_other"] ["_law_many","_law_steps"] (AA El):=⟨rfl,rfl,rfl,by decide +kernel,rfl,by decide +kernel,by decide +kernel⟩
theorem Gh {m s j:Int} (hs:1≤s∧s < m) (hj:0≤j∧j < m):AO m (min j ((j + s) % m),max j ((j + s) % m)):=by
 unfold AO
 by_cases h:j + s < m
 ·rw [Int.emod_eq_of_lt (by omega) h]
  show 0≤min _ _∧min _ _ < max _ _∧max _ _ < _
  omega
 ·have e:j + s = (j + s - m) + m * 1:=by omega
  rw [e,Int.add_mul_emod_self_left,Int.emod_eq_of_lt (by omega) (by omega)]
  show 0≤min _ _∧min _ _ < max _ _∧max _ _ < _
  omega
theorem Av:(1000:Nat) < sizeLine:=by decide
theorem Ls {f:Addr} {fd:FuncData} (F:Fun K "_law_turned" "_law_turned" El f fd) (Tx:Txt mg):FnOk P w K mg base (CXe P w) 2 f fd ["_law_many","_law_steps"] (EY K Cm):=by
 refine Ax F Co ?_ ?_
 ·rintro ts O Φ Ξ ⟨m,ss,rfl,_⟩
  rfl
 ·rintro cdv A outer s H E O Ξ hr xf _ Φ ⟨m,ss,rfl,m0,m1,hn,hs,q⟩
  have hu:(A.deeper (envOfC "_law_turned" (AA El) s.heap.objs.size f cdv)).units + 8 < cLine:=by have:=hr.un; omega
  have sb:=Av
  refine AH (AS 2 (Ee (AX ⟨Nat.zero_le _,fun l hl => ?_⟩)) Co.nd)
  refine AH (Ck BB.own rfl (Cz (ev 1) _ ⟨fun i ρ' O' => ∃ (qs:List (Int × Int)) (v3 v4 v5:Option T),ρ' = [some (.int m),some (.lst (ss.map T.int)),some (.raw (.ref l)),v3,v4,v5]∧O' = AV O l (qs.map AB)∧(∀ q∈qs,AO m q)∧qs.length≤16 * i,⟨[],none,none,none,rfl,rfl,by simp,by simp⟩,?_,?_⟩))
  ·rintro i t _ _ e ⟨qs,v3,v4,v5,rfl,rfl,hq,hz⟩
   rw [List.getElem?_map] at e
   cases es:ss[i]? with
   | none => rw [es] at e; cases e
   | some st =>
    rw [es] at e
    cases e
    have hst:=hs st (List.mem_of_getElem? es)
    have hi:=(List.getElem?_eq_some_iff.mp es).1
    refine ⟨[some (.int m),some (.lst (ss.map T.int)),some (.raw (.ref l)),some (.int st),v4,v5],Ae 3 Co.nd (by show 3 < 6; decide),AN (Ck BB.own rfl (EI.wi (BE Tx.nRange (ev 0) ⟨by omega,by omega⟩) ⟨fun j ρ' O' => ∃ (qs:List (Int × Int)) (v4 v5:Option T),ρ' = [some (.int m),some (.lst (ss.map T.int)),some (.raw (.ref l)),some (.int st),v4,v5]∧O' = AV O l (qs.map AB)∧(∀ q∈qs,AO m q)∧qs.length≤16 * i + j,⟨qs,v4,v5,rfl,rfl,hq,by omega⟩,?_,?_⟩))⟩
    ·rintro j t _ _ e ⟨qs,v4,v5,rfl,rfl,hq,hz⟩
     obtain ⟨hj,rfl⟩:=Bg e
     refine ⟨[some (.int m),some (.lst (ss.map T.int)),some (.raw (.ref l)),some (.int st),some (.int (0 + j)),v5],Ae 4 Co.nd (by show 4 < 6; decide),?_⟩
     refine AH (AS 5 (ET.we (Dy (CI (ev 4) (ev 3)) (ev 0) m0) ?_) Co.nd)
     refine AN (BV (BI (ET.we (ev 2) ⟨l,rfl,⟨_,AF⟩,ET.we (Bx (AI (Kh Tx.nMin rfl (ev 4) (ev 5)) (AI (Hc Tx.nMax rfl (ev 4) (ev 5)) AE))) ⟨_,AF,?_,?_⟩⟩)))
     ·rw [List.length_map]; omega
     ·refine ⟨qs ++ [(min (0 + (j:Int)) ((0 + (j:Int) + st) % m),max (0 + (j:Int)) ((0 + (j:Int) + st) % m))],_,_,rfl,?_,fun z hz => ?_,by simp; omega⟩
      ·rw [Aq,List.map_append]; rfl
      ·rcases List.mem_append.mp hz with hz | hz
       ·exact hq z hz
       ·rw [List.mem_singleton.mp hz]
        exact Gh hst ⟨by omega,by omega⟩
    ·rintro _ _ ⟨qs,v4,v5,rfl,rfl,hq,hz⟩
     rw [Au] at hz
     exact ⟨qs,_,_,_,rfl,rfl,hq,by omega⟩
  ·rintro _ _ ⟨qs,v3,v4,v5,rfl,rfl,hq,hz⟩
   rw [List.length_map] at hz
   refine FY (p:=l) (n:=2) (ts:=qs.map AB) AF hl rfl ?_
   rw [Ah hl]
   refine AN (AY (BH (BL (ET.we (ev 0) (BL (BO Tx.nTuple (BW (ps:=qs) Tx.nSorted Tx.nSet rfl hu (ev 2) (by omega) (fun z hz => ?_) fun rs h1 h2 h3 => ⟨_,rfl,AX ⟨by show 2≤sizeLine; decide,q rs h1 (fun z hz => hq z ((h2 z).mp hz)) (by omega)⟩⟩)))))))
   have:=hq z hz
   unfold AO at this
   omega
end
abbrev BR:Stmt:=top 27
def PO (O0:AJ) (p:Addr) (O:AJ):Prop:=∃ xs,O = AV O0 p xs∧Ca xs
theorem PO.at {O0 O:AJ} {p:Addr} (h:PO O0 p O):∃ xs,O p = some xs∧Ca xs:=by
 obtain ⟨xs,rfl,px⟩:=h
 exact ⟨xs,AF,px⟩
theorem PO.step {O0 O:AJ} {p:Addr} {xs:List T} (h:PO O0 p O) (px:Ca xs):PO O0 p (AV O p xs):=by
 obtain ⟨ys,rfl,_⟩:=h
 exact ⟨xs,Aq,px⟩
theorem PO.start {O:AJ} {p:Addr} {xs:List T} (h:O p = some xs) (px:Ca xs):PO O p O:=⟨xs,(Ff h).symm,px⟩
section
variable {P:Program} {w:World} {K:PySem.W.Frag} {mg:Str→Option Value} {base:Heap}
section
variable {Z:Zx} {ρ:List (Option T)} {O O0 O1:AJ} {a b:Expr} {Φ:BM} {pos q:Pos} {p c:Addr} {m:Int} {acc:List T}
theorem CQ (G:FnT Z.X.prog Z.X.w Z.X.K Z.X.mg Z.X.base "_law_draw" 2 ["_law_pen","_law_many"] Ai) (hr:Room 2 Z.X.A) (xf:XFly Z.X Z.W) (po:PO O0 p O) (ha:ET Z ρ O a (.raw (.ref p))) (hb:ET Z ρ O b (.int m)) (m0:0 < m) (m1:m < 1000) (k:∀ r O',0≤r→r < m→PO O0 p O'→Φ (.int r) O') (hg:Gl Z.X "_law_draw":=by rfl)
  (he:starEach [a,b] Z.X.env = (false,eval a Z.X.env) :: starEach [b] Z.X.env:=by rfl) (he2:starEach [b] Z.X.env = (false,eval b Z.X.env) :: starEach [] Z.X.env:=by rfl) (hpl:(backTo pos (starEach [b] Z.X.env)).any (·.1) = false:=by rfl):WE Z ρ O (.Call (.Name "_law_draw" q) [a,b] [] pos) Φ:=by
 obtain ⟨xs,hp,px⟩:=po.at
 exact Ad G hr xf (EA.wa (AI ha (AI hb AE he2) he) ⟨p,xs,m,rfl,hp,px,m0,m1,fun r xs' r0 r1 px' => k r _ r0 r1 (po.step px')⟩) hg (by decide) he hpl
theorem Bh (G:FnT Z.X.prog Z.X.w Z.X.K Z.X.mg Z.X.base "_law_draw" 2 ["_law_pen","_law_many"] Ai) (hr:Room 2 Z.X.A) (xf:XFly Z.X Z.W) (po:PO O0 p O) (hc:O c = none) (ha:ET Z ρ (AV O c acc) a (.raw (.ref p))) (hb:ET Z ρ (AV O c acc) b (.int m)) (m0:0 < m) (m1:m < 1000) (k:∀ r O',0≤r→r < m→PO O0 p O'→O' c = none→Φ (.int r) (AV O' c acc)) (hg:Gl Z.X "_law_draw":=by rfl)
  (he:starEach [a,b] Z.X.env = (false,eval a Z.X.env) :: starEach [b] Z.X.env:=by rfl) (he2:starEach [b] Z.X.env = (false,eval b Z.X.env) :: starEach [] Z.X.env:=by rfl) (hpl:(backTo pos (starEach [b] Z.X.env)).any (·.1) = false:=by rfl):WE Z ρ (AV O c acc) (.Call (.Name "_law_draw" q) [a,b] [] pos) Φ:=by
 obtain ⟨xs,hp,px⟩:=po.at
 have hpc:p≠c:=Fg hp hc
 refine Ad G hr xf (EA.wa (AI ha (AI hb AE he2) he) ⟨p,xs,m,rfl,by rw [AQ hpc]; exact hp,px,m0,m1,fun r xs' r0 r1 px' => ?_⟩) hg (by decide) he hpl
 rw [BN hpc]
 exact k r _ r0 r1 (po.step px') (by rw [AQ (Ne.symm hpc)]; exact hc)
end
def Ks:DI:=fun ts O Φ _ => ∃ (p:Addr) (xs:List T) (most:Int),ts = [.raw (.ref p),.int most]∧O p = some xs∧Ca xs∧1≤most∧most≤16∧∀ (n:Int) (ps:List (Int × Int)) (O':AJ),1≤n→n≤most→(∀ q∈ps,AO n q)→ps.length≤256→PO O p O'→Φ (.tup [.int n,.tup (ps.map AB)]) O'
def CS:List Str:=["_law_pen","_law_most","_law_way","_law_many","_law_every","_law_other","_law_side","_law_ring"]
theorem Bq:FnScope CS ["_law_pen","_law_most"] (AA BR):=⟨rfl,rfl,rfl,by decide +kernel,rfl,by decide +kernel,by decide +kernel⟩
theorem Tw:(As ["_law_one"] [(("_law_other" : Str),5)]).Nodup:=by decide +kernel
theorem Ty:(As ["_law_pair"] [(("_law_pen" : Str),0),(("_law_way" : Str),2)]).Nodup:=by decide +kernel
theorem Tz:(As ["_law_step"] [(("_law_pen" : Str),0)]).Nodup:=by decide +kernel
theorem UA:(As ["_law_one","_law_other"] [(("_law_side" : Str),6)]).Nodup:=by decide +kernel
theorem QZ:(As ["_law_place"] []).Nodup:=by decide +kernel
theorem UB:(As ["_law_place"] [(("_law_pen" : Str),0)]).Nodup:=by decide +kernel
theorem UC {r:Int} (r0:0≤r) (r1:r < 3):∃ m:Int,atI [T.int 2,T.int 3,T.int 6] r = some (.int m)∧0 < m∧m < 1000:=by
 have:r = 0∨r = 1∨r = 2:=by omega
 rcases this with rfl | rfl | rfl
 ·exact ⟨2,rfl,by decide,by decide⟩
 ·exact ⟨3,rfl,by decide,by decide⟩
 ·exact ⟨6,rfl,by decide,by decide⟩
def EK (i:Nat):Stmt:=(AT BR).getD i (.Pass ⟨0,0,0,0⟩)
def UD:Stmt→List Stmt
 | .If _ a _ _ => a
 | _ => []
abbrev zS (P:Program) (w:World) (K:PySem.W.Frag) (mg:Str→Option Value) (base:Heap) (f:Addr) (cdv:Value) (A:Around) (outer:List Env) (s:Shared) (H:Hp) (E:XK) (O:AJ) (Ξ:Value→AJ→Prop):Zx:=zB P w K mg base CS "_law_shape" (AA BR) f cdv A outer s H E O Ξ
abbrev DM (p:Addr) (most way n:Int) (es:List (Int × Int)) (v5:Option T):List (Option T):=[some (.raw (.ref p)),some (.int most),some (.int way),some (.int n),some (.lst (es.map AB)),v5,none,none]
end
abbrev CU:Stmt:=top 28
section
variable {P:Program} {w:World} {K:PySem.W.Frag} {mg:Str→Option Value} {base:Heap}
def Ab (n:Int) (p:Int × Int):Prop:=0≤p.1∧p.1 < n∧0≤p.2∧p.2 < n∧p.1≠p.2
def Kt:DI:=fun ts O Φ _ => ∃ (p:Addr) (xs:List T) (most:Int),ts = [.raw (.ref p),.int most]∧O p = some xs∧Ca xs∧1≤most∧most≤16∧∀ (n:Int) (ps:List (Int × Int)) (O':AJ),1≤n→n≤most→(∀ q∈ps,AO n q)→ps.Pairwise Ii→ps.length≤257→PO O p O'→Φ (.tup [.int n,.tup (ps.map AB)]) O'
def Fl:List Str:=["_law_pen","_law_most","_law_many","_law_ties","_law_way","_law_one"]
theorem Dh:FnScope Fl ["_law_pen","_law_most"] (AA CU):=⟨rfl,rfl,rfl,by decide +kernel,rfl,by decide +kernel,by decide +kernel⟩
theorem Jt {n:Int} {ns:List Int} (n0:0≤n) (pm:ns.Perm ((List.range n.toNat).map fun (i:Nat) => (i:Int))):(ns.length:Int) = n∧(∀ z∈ns,0≤z∧z < n)∧ns.Nodup:=by
 refine ⟨?_,fun z hz => ?_,?_⟩
 ·have:=pm.length_eq
  simp at this
  omega
 ·obtain ⟨i,hi,rfl⟩:=List.mem_map.mp (pm.mem_iff.mp hz)
  have:=List.mem_range.mp hi
  omega
 ·refine pm.nodup_iff.mpr ?_
  show List.Pairwise _ _
  rw [List.pairwise_map]
  exact (List.nodup_range).imp fun h z => h (Int.ofNat.inj z)
theorem SE {ns:List Int} (nd:ns.Nodup) {i j:Int} (hi:0≤i∧i < ns.length) (hj:0≤j∧j < ns.length) (h:i≠j):JB ns i≠JB ns j:=by
 unfold JB
 have h1:i.toNat < ns.length:=by omega
 have h2:j.toNat < ns.length:=by omega
 have e1:ns.getD i.toNat 0 = ns[i.toNat]:=by simp [List.getD,h1]
 have e2:ns.getD j.toNat 0 = ns[j.toNat]:=by simp [List.getD,h2]
 rw [e1,e2]
 intro z
 have pw:=List.pairwise_iff_getElem.mp nd
 rcases Nat.lt_or_gt_of_ne (show i.toNat≠j.toNat by omega) with hl | hl
 ·exact pw _ _ h1 h2 hl z
 ·exact pw _ _ h2 h1 hl z.symm
theorem Pm {n:Int} {ns:List Int} (hl:(ns.length:Int) = n) (hb:∀ z∈ns,0≤z∧z < n) (nd:ns.Nodup) {q:Int × Int} (h:Ab n q):AO n (nm ns q):=by
 obtain ⟨h1,h2,h3,h4,h5⟩:=h
 have e1:=hb _ (Em (ns:=ns) h1 (by omega))
 have e2:=hb _ (Em (ns:=ns) h3 (by omega))
 have e3:=SE nd (i:=q.1) (j:=q.2) ⟨h1,by omega⟩ ⟨h3,by omega⟩ h5
 unfold AO nm
 show 0≤min _ _∧min _ _ < max _ _∧max _ _ < n
 omega
theorem Nz {f:Addr} {cdv:Value} {A:Around} {outer:List Env} {s:Shared} {H:Hp} {E:XK} {O0 O1:AJ} {Ξ:Value→AJ→Prop} {p l:Addr} {most n:Int} {v4 v5:Option T} {Φ:BM} {qs:List (Int × Int)}
  (hr:Room 3 (zB P w K mg base Fl "_law_web_by" (AA CU) f cdv A outer s H E O0 Ξ).X.A) (xf:XFly (zB P w K mg base Fl "_law_web_by" (AA CU) f cdv A outer s H E O0 Ξ).X (zB P w K mg base Fl "_law_web_by" (AA CU) f cdv A outer s H E O0 Ξ).W)
  (Tx:Txt mg) (Gn:FnT P w K mg base "_law_named" 2 ["_law_web","_law_names"] Hq) (Gb:FnT P w K mg base "_law_names_by" 3 ["_law_pen","_law_many"] EJ)
  (po:PO O0 p O1) (hl:O0 l = none) (hpl:p≠l) (n0:1≤n) (n1:n≤16) (hq:∀ q∈qs,Ab n q) (hz:qs.length≤257)
  (q:∀ (ps:List (Int × Int)) (O':AJ),(∀ q∈ps,AO n q)→ps.Pairwise Ii→ps.length≤257→PO O0 p O'→Φ (.tup [.int n,.tup (ps.map AB)]) O') :
  Ef (zB P w K mg base Fl "_law_web_by" (AA CU) f cdv A outer s H E O0 Ξ) [some (.raw (.ref p)),some (.int most),some (.int n),some (.raw (.ref l)),v4,v5] (AV O1 l (qs.map AB)) [(AT CU).getD 5 (.Pass ⟨0,0,0,0⟩)] { nx:=fun _ O' => Φ .non O',rt:=Φ }:=by
 obtain ⟨xs,rfl,px⟩:=po
 have hp:AV (AV O0 p xs) l (qs.map AB) p = some xs:=by rw [AQ hpl,AF]
 refine AN (Bp (l:=l) hl (Ad Gn (hr.mono (by decide)) xf (BQ (ET.we (Bx (AU (ev 2) (AU (Lk Tx.nTuple AF (ev 3)) AE))) (BQ (Ad Gb hr xf (EA.wa (AU (ev 0) (AU (ev 2) AE)) ⟨p,xs,n,rfl,hp,px,by omega,by omega,fun ns xs' pm px' => AX ?_⟩)))))))
 obtain ⟨h1,h2,h3⟩:=Jt (by omega) pm
 refine ⟨n,qs,ns,rfl,by omega,fun z hz => ?_,fun z hz => ?_,fun rs r1 r2 r3 => ?_⟩
 ·have:=hq z hz
  unfold Ab at this
  omega
 ·have:=h2 z hz
  omega
 ·have e:AW (AV (AV (AV O0 p xs) l (qs.map AB)) p xs') l = AV O0 p xs':=by
   rw [BN hpl,Aq,GX hl hpl]
  show Φ _ (AW (AV (AV (AV O0 p xs) l (qs.map AB)) p xs') l)
  rw [e]
  refine q rs _ (fun z hz => ?_) r1 (by omega) ⟨xs',rfl,px'⟩
  obtain ⟨y,hy,rfl⟩:=List.mem_map.mp ((r2 z).mp hz)
  exact Pm h1 h2 h3 (hq y hy)
theorem Lu {f:Addr} {fd:FuncData} (F:Fun K "_law_web_by" "_law_web_by" CU f fd) (Tx:Txt mg) (G:FnT P w K mg base "_law_draw" 2 ["_law_pen","_law_many"] Ai) (Gs:FnT P w K mg base "_law_shape" 3 ["_law_pen","_law_most"] Ks) (Gn:FnT P w K mg base "_law_named" 2 ["_law_web","_law_names"] Hq) (Gb:FnT P w K mg base "_law_names_by" 3 ["_law_pen","_law_many"] EJ) :
  FnOk P w K mg base (CXe P w) 4 f fd ["_law_pen","_law_most"] (EY K Kt):=by
 refine Ax F Dh ?_ ?_
 ·rintro ts O Φ Ξ ⟨p,xs,m,rfl,_⟩
  rfl
 ·rintro cdv A outer s H E O0 Ξ hr xf _ Φ ⟨p,xs,most,rfl,hp,px,t0,t1,q⟩
  have hu:(A.deeper (envOfC "_law_web_by" (AA CU) s.heap.objs.size f cdv)).units < cLine:=by have:=hr.un; omega
  refine AH (Jl (n:=6) (Ad Gs hr xf (EA.wa (AU (ev 0) (AU (ev 1) AE)) ⟨p,xs,most,rfl,hp,px,t0,t1,fun n ps O1 n0 n1 hps hz po1 => ⟨[some (.raw (.ref p)),some (.int most),some (.int n),some (.tup (ps.map AB)),none,none],Bo 2 3 rfl Dh.nd (by decide) (by decide),?_⟩⟩)))
  have q':∀ (ps:List (Int × Int)) (O':AJ),(∀ q∈ps,AO n q)→ps.Pairwise Ii→ps.length≤257→PO O0 p O'→Φ (.tup [.int n,.tup (ps.map AB)]) O':=fun ps O' a b c d => q n ps O' n0 n1 a b c d
  refine AH (AS 3 (GW Tx.nList (ev 3) fun l hl1 => ?_) Dh.nd)
  have hl:O0 l = none:=by
   obtain ⟨ys,rfl,_⟩:=po1
   by_cases hb:l = p
   ·rw [hb,AF] at hl1; cases hl1
   ·rw [AQ hb] at hl1; exact hl1
  have hpl:p≠l:=Fg hp hl
  have hD:∀ q∈ps,Ab n q:=fun z hz => by
   have:=hps z hz
   unfold AO at this
   unfold Ab
   omega
  refine AH (AS 4 (Bh G (hr.mono (by decide)) xf po1 hl1 (ev 0) AC (by decide) (by decide) fun way O2 w0 w1 po2 hc2 => ?_) Dh.nd)
  refine AH (Ke (Ψ:={ nx:=fun ρ' O' => ∃ (qs:List (Int × Int)) (O3:AJ),ρ' = [some (.raw (.ref p)),some (.int most),some (.int n),some (.raw (.ref l)),some (.int way),none]∧O' = AV O3 l (qs.map AB)∧O3 l = none∧PO O0 p O3∧(∀ q∈qs,Ab n q)∧qs.length≤256,rt:=Φ }) (Am (EW.eb (FW (Cj (ev 4) AC) fun _ => DX (Ih hu AF (ev 3)))) (fun h => ?_) (fun h => Ap ⟨ps,O2,rfl,rfl,hc2,po2,hD,hz⟩)) ?_ (fun _ _ z => z) (fun _ _ z => z) (fun _ _ z => z))
  ·have h:(decide (way = 0) && !(ps.map AB).isEmpty) = true:=h
   have hne:0 < ps.length:=by
    simp at h
    exact List.length_pos_iff.mpr h.2
   refine AN (BV (Fc (ET.we (ev 3) ⟨l,rfl,⟨_,AF⟩,Bh G (hr.mono (by decide)) xf po2 hc2 (ev 0) (Hb Tx.nLen (ev 3) AF) (by simp; omega) (by simp; omega) fun r O3 r0 r1 po3 hc3 => ?_⟩)))
   have r1:r < ps.length:=by simpa using r1
   have hr':r.toNat < ps.length:=by omega
   refine ⟨ps.map AB,r,AB ps[r.toNat],rfl,AF,r0,by omega,by simpa using r1,by rw [List.getElem?_map,List.getElem?_eq_getElem hr']; rfl,?_⟩
   refine ⟨ps.eraseIdx r.toNat,O3,rfl,by rw [Aq,EH],hc3,po3,fun z hz => hD z (List.mem_of_mem_eraseIdx hz),?_⟩
   have:=List.length_eraseIdx_le ps r.toNat
   omega
  ·rintro _ _ ⟨qs,O3,rfl,rfl,hc3,po3,hq,hz3⟩
   refine AH (Am (EW.eb (FW (Cj (ev 4) AC) fun _ => DX (Kc (ev 2) AC))) (fun h => ?_) (fun h => Ap (Nz hr xf Tx Gn Gb po3 hl hpl n0 (by omega) hq (by omega) q')))
   have h:(decide (way = 1) && decide (1 < n)) = true:=h
   have n2:1 < n:=by simp at h; exact h.2
   refine AH (AS 5 (Bh G (hr.mono (by decide)) xf po3 hc3 (ev 0) (ev 2) (by omega) (by omega) fun one O4 o0 o1 po4 hc4 => ?_) Dh.nd)
   refine AN (BV (BI (ET.we (ev 3) ⟨l,rfl,⟨_,AF⟩,?_⟩)))
   refine BH (BQ (ET.we (ev 5) (BQ ?_)))
   refine DC MM (DC Do (ET.we (CI (ev 5) AC) ?_))
   refine Bh G (hr.mono (by decide)) xf po4 hc4 (ev 0) (FT (ev 2) AC) (by omega) (by omega) fun r O5 r0 r1 po5 hc5 => ?_
   refine FS _ (ET.we (ev 2) (NH (C:=fun _ j => 0 < j) (show 0 < n by omega) _ ?_))
   refine AX ⟨by show 2≤sizeLine; decide,_,AF,?_,?_⟩
   ·rw [List.length_map]
    have:=Av
    omega
   ·rw [Aq]
    have e:(qs.map AB ++ [T.tup [.int one,.int ((one + 1 + r) % n)]]) = (qs ++ [(one,(one + 1 + r) % n)]).map AB:=by rw [List.map_append]; rfl
    rw [e]
    refine Nz hr xf Tx Gn Gb po5 hl hpl n0 (by omega) (fun z hz => ?_) (by simp; omega) q'
    rcases List.mem_append.mp hz with hz | hz
    ·exact hq z hz
    ·rw [List.mem_singleton.mp hz]
     have:=Gh (m:=n) (s:=1 + r) (j:=one) ⟨by omega,by omega⟩ ⟨o0,o1⟩
     unfold AO at this
     have e2:one + 1 + r = one + (1 + r):=by omega
     rw [e2]
     have b0:=Int.emod_nonneg (one + (1 + r)) (show n≠0 by omega)
     have b1:=Int.emod_lt_of_pos (one + (1 + r)) (show 0 < n by omega)
     show 0≤one∧one < n∧0≤(one + (1 + r)) % n∧(one + (1 + r)) % n < n∧one≠(one + (1 + r)) % n
     omega
end
abbrev Ku:Stmt:=top 14
def Ju:T→Int
 | .int i => i
 | _ => 0
def Ar (n:Int) (t:T):Bool:=match t with
 | .tup [a,b] => ([a,b].map fun t => Hu t 0 (n - 1)).all id && !decide (Ju a = Ju b)
 | _ => false
theorem Jv (t:T):(∃ a b,t = .tup [a,b])∨DY t = false∨∃ ts:List T,t = .tup ts∧ts.length≠2:=by
 cases t with
 | tup ts =>
  match ts with
  | [] => exact .inr (.inr ⟨_,rfl,by simp⟩)
  | [_] => exact .inr (.inr ⟨_,rfl,by simp⟩)
  | [a,b] => exact .inl ⟨a,b,rfl⟩
  | _ :: _ :: _ :: _ => exact .inr (.inr ⟨_,rfl,by simp⟩)
 | _ => exact .inr (.inl rfl)
theorem Fm {n:Int} {t:T} (h:DY t = false∨∃ ts:List T,t = .tup ts∧ts.length≠2):Ar n t = false:=by
 rcases h with h | ⟨ts,rfl,h⟩
 ·cases t <;> first | rfl | cases h
 ·match ts,h with
  | [],_ => rfl
  | [_],_ => rfl
  | [a,b],h => simp at h
  | _ :: _ :: _ :: _,_ => rfl
section
variable {P:Program} {w:World} {K:PySem.W.Frag} {mg:Str→Option Value} {base:Heap}
def OA:DI:=Te fun ts r => ∃ t n,ts = [.int n,t]∧JA t = true∧r = .bl (Ar n t)
theorem SF:FnScope ["many","thing"] ["many","thing"] (AA Ku):=⟨rfl,rfl,rfl,by decide +kernel,rfl,by decide +kernel,by decide +kernel⟩
theorem SG:(As ["end"] [(("many" : Str),0)]).Nodup:=by decide +kernel
theorem Pn {f:Addr} {fd:FuncData} (F:Fun K "is_pair" "is_pair" Ku f fd) (T:Txt mg) (G:FnT P w K mg base "is_whole" 1 ["thing","least","most"] Ho):FnOk P w K mg base (CXe P w) 2 f fd ["many","thing"] (EY K OA):=by
 refine Ax F SF ?_ ?_
 ·rintro ts O Φ Ξ ⟨r,⟨t,n,rfl,_⟩,_⟩
  rfl
 ·rintro cdv A outer s H E O Ξ hr xf _ Φ ⟨_,⟨t,n,rfl,ht,rfl⟩,q⟩
  rcases Jv t with ⟨a,b,rfl⟩ | h2
  ·rw [Hg] at ht
   refine AH (Am (EW.eb (BS (Al (Cl T.nIsi T.nTuple CM CL (ev 1) rfl)) fun _ => CK (FV (Eg T.nLen (ev 1)) AC))) (fun h => by cases h) (fun h => Ap ?_))
   refine AN (AY (EC (Rt (bs:=[a,b].map fun t => Hu t 0 (n - 1)) T.nAll rfl ?_) (y:=!decide (Ju a = Ju b)) (fun h => Dz ?_) _ q))
   ·refine EE ["end"] [("many",0)] [a,b] id (fun t => .bl (Hu t 0 (n - 1))) rfl (EZ (AA Ku) ["many","thing"] (by decide +kernel)) (NV (ev 1)) (by show 2≤sizeLine; decide) fun x hx => ⟨[some x,some (.int n)],fun X' Oe He is O' => ?_⟩
    obtain ⟨cl,s',H',fp,rfl⟩:=is
    exact ⟨Ae 0 SG (by decide),Ib G hr DZ (AI (ev 0) (AI AC (AI (FT (ev 1) AC) AE))) ⟨x,0,n - 1,rfl,Db (ht x hx),rfl⟩⟩
   ·have h:(Hu a 0 (n - 1) && (Hu b 0 (n - 1) && true)) = true:=h
    rw [Bool.and_true,Bool.and_eq_true] at h
    obtain ⟨i,rfl⟩:=De h.1
    obtain ⟨j,rfl⟩:=De h.2
    exact Rf (BP (ev 1) AC) (BP (ev 1) AC)
  ·rw [Fm h2] at q
   refine AH (Am (k:=true) (EW.eb ?_) (fun h => AN (AY (Kb _ q))) (fun h => by cases h))
   rcases h2 with h2 | ⟨ts,rfl,h2⟩
   ·refine EW.cast (BS (y:=true) (Al (Cl T.nIsi T.nTuple CM CL (ev 1) (Db ht))) fun h => ?_) (by rw [h2]; rfl)
    rw [h2] at h; cases h
   ·exact EW.cast (BS (Al (Cl T.nIsi T.nTuple CM CL (ev 1) rfl)) fun _ => CK (FV (Eg T.nLen (ev 1)) AC)) (by simp [DY]; omega)
theorem Iu {n:Int} {t:T} (h:Ar n t = true):∃ p:Int × Int,t = AB p∧0≤p.1∧p.1 < n∧0≤p.2∧p.2 < n∧p.1≠p.2:=by
 rcases Jv t with ⟨a,b,rfl⟩ | h2
 ·have h:((Hu a 0 (n - 1) && (Hu b 0 (n - 1) && true)) && !decide (Ju a = Ju b)) = true:=h
  rw [Bool.and_true,Bool.and_eq_true,Bool.and_eq_true] at h
  obtain ⟨⟨h1,h2⟩,h3⟩:=h
  obtain ⟨i,rfl⟩:=De h1
  obtain ⟨j,rfl⟩:=De h2
  have h1:(decide (0≤i) && decide (i≤n - 1)) = true:=h1
  have h2:(decide (0≤j) && decide (j≤n - 1)) = true:=h2
  have h3:(!decide (i = j)) = true:=h3
  simp at h1 h2 h3
  exact ⟨(i,j),rfl,h1.1,by show i < n; omega,h2.1,by show j < n; omega,h3⟩
 ·rw [Fm h2] at h; cases h
theorem EL {n:Int} {p:Int × Int}:Ar n (AB p) = true↔0≤p.1∧p.1 < n∧0≤p.2∧p.2 < n∧p.1≠p.2:=by
 constructor
 ·intro h
  obtain ⟨q,e,h⟩:=Iu h
  have:p = q:=by
   unfold AB at e
   injection e with e
   injection e with e1 e2
   injection e2 with e2 _
   injection e1 with e1
   injection e2 with e2
   exact Prod.ext e1 e2
  rw [this]; exact h
 ·rintro ⟨h1,h2,h3,h4,h5⟩
  show (((decide (0≤p.1) && decide (p.1≤n - 1)) && ((decide (0≤p.2) && decide (p.2≤n - 1)) && true)) && !decide (p.1 = p.2)) = true
  simp
  omega
theorem Iv {n:Int}:∀ {ts:List T},(ts.map (Ar n)).all id = true→∃ ps:List (Int × Int),ts = ps.map AB∧∀ p∈ps,Ar n (AB p) = true
 | [],_ => ⟨[],rfl,fun _ h => by cases h⟩
 | t :: ts,h => by
  have h:(Ar n t && (ts.map (Ar n)).all id) = true:=h
  rw [Bool.and_eq_true] at h
  obtain ⟨p,rfl,_⟩:=Iu h.1
  obtain ⟨ps,rfl,h2⟩:=Iv h.2
  exact ⟨p :: ps,rfl,fun q hq => by
   rcases List.mem_cons.mp hq with rfl | hq
   ·exact h.1
   ·exact h2 q hq⟩
theorem Lv {p q:Int × Int} (e:AB p = AB q):p = q:=by
 unfold AB at e
 injection e with e
 injection e with e1 e2
 injection e2 with e2 _
 injection e1 with e1
 injection e2 with e2
 exact Prod.ext e1 e2
theorem Gi:∀ {ps qs:List (Int × Int)},ps.map AB = qs.map AB→ps = qs
 | [],[],_ => rfl
 | [],_ :: _,e => by cases e
 | _ :: _,[],e => by cases e
 | p :: ps,q :: qs,e => by
  rw [List.map_cons,List.map_cons] at e
  injection e with e1 e2
  rw [Lv e1,Gi e2]
end
def mm (p:Int × Int):Int × Int:=(min p.1 p.2,max p.1 p.2)
section
variable {P:Program} {w:World} {K:PySem.W.Frag} {mg:Str→Option Value} {base:Heap} {CP:Addr}
theorem SH:(As ["a","b"] []).Nodup:=by decide +kernel
def Iw:DI:=fun ts O Φ _ => ∃ ps:List (Int × Int),ts = [.lst (ps.map AB)]∧ps.length≤300∧(∀ p∈ps,(0≤p.1∧p.1 < 65536)∧0≤p.2∧p.2 < 65536) ∧
 ∀ qs:List (Int × Int),qs.Pairwise Ii→(∀ q,q∈qs↔q∈ps.map mm)→qs.length≤ps.length→Φ (.tup (qs.map AB)) O
theorem OB:FnScope ["pairs"] ["pairs"] (AA Dd):=⟨rfl,rfl,rfl,by decide +kernel,rfl,by decide +kernel,by decide +kernel⟩
theorem Jw {f:Addr} {fd:FuncData} (F:Fun K "ties_of" "ties_of" Dd f fd) (Tx:Txt mg):FnOk P w K mg base (CXe P w) 1 f fd ["pairs"] (EY K Iw):=by
 refine Ax F OB ?_ ?_
 ·rintro ts O Φ Ξ ⟨ps,rfl,_⟩
  rfl
 ·rintro cdv A outer s H E O Ξ hr xf _ Φ ⟨ps,rfl,hl,hp,q⟩
  have hu:(A.deeper (envOfC "ties_of" (AA Dd) s.heap.objs.size f cdv)).units + 8 < cLine:=by have:=hr.un; omega
  have hz:ps.length≤sizeLine:=Nat.le_trans hl (by decide)
  refine AN (AY (BO Tx.nTuple (BW (ps:=ps.map mm) Tx.nSorted Tx.nSet rfl hu ?_ (by simpa using hl) ?_ fun qs h1 h2 h3 => ⟨_,rfl,q qs h1 h2 (by simpa using h3)⟩)))
  ·rw [List.map_map]
   refine EE ["a","b"] [] ps AB _ rfl (EZ (AA Dd) ["pairs"] (by decide +kernel)) (Cz (ev 0)) hz fun x hx => ⟨[some (.int x.1),some (.int x.2)],fun X' Oe He is O' => ?_⟩
   obtain ⟨cl,s',H',fp,rfl⟩:=is
   exact ⟨Bo 0 1 rfl SH (by decide) (by decide),Bx (AU (Kh Tx.nMin rfl (ev 0) (ev 1)) (AU (Hc Tx.nMax rfl (ev 0) (ev 1)) AE))⟩
  ·intro z hz
   obtain ⟨p,h1,rfl⟩:=List.mem_map.mp hz
   have:=hp p h1
   show 0≤max _ _∧max _ _ < 65536
   omega
structure Ask (n:Int) (ps:List (Int × Int)) (t:T):Prop where
 n0:1≤n
 n1:n≤16
 hp:∀ p∈ps,AO n p
 hl:ps.length≤300
 pl:JA t = true
 sz:∀ us,t = .tup us→us.length≤60
end
theorem WL:bootBuiltins "ValueError" = some (.type "ValueError"):=by decide +kernel
theorem Di {H H':Hp} {p:Addr} {o:HO} (s:Same H H') (hp:H' p = none):Same H (upd H' p o):=fun b u e => by
 rw [AD (AL (s b u e) hp)]; exact s b u e
structure Asks (K:PySem.W.Frag) (mg:Str→Option Value) (CN:Addr) (x:Str) (b:Bool):Prop where
 ex:∃ C,mg x = some (.ref C)∧PySem.W.kitOne K (.ref CN) (.ref C) = some b
structure Kinds (K:PySem.W.Frag) (mg:Str→Option Value) (CN:Addr) (b0 b1 b2 b3 b4 b5 b6 b7:Bool):Prop where
 a0:Asks K mg CN "NoPlace" b0
 a1:Asks K mg CN "NoNumber" b1
 a2:Asks K mg CN "NoLine" b2
 a3:Asks K mg CN "NoRing" b3
 a4:Asks K mg CN "NotEven" b4
 a5:Asks K mg CN "NoWeb" b5
 a6:Asks K mg CN "NoText" b6
 a7:Asks K mg CN "TooGreat" b7
 ve:PySem.W.kitOne K (.ref CN) (.type "ValueError") = some true
 eN:ExcCls K CN
section
variable {P:Program} {w:World} {K:PySem.W.Frag} {mg:Str→Option Value} {base:Heap} {CP:Addr}
theorem Jx:FnScope ["_law_e","_law_marks"] ["_law_e"] (AA Kq):=⟨rfl,rfl,rfl,by decide +kernel,rfl,by decide +kernel,by decide +kernel⟩
theorem Po {f:Addr} {fd:FuncData} {b0 b1 b2 b3 b4 b5 b6 b7:Bool} {y:Str} {j:Nat} (F:Fun K "_law_kind_of" "_law_kind_of" Kq f fd) (T:Txt mg) (U:Kinds K mg CP b0 b1 b2 b3 b4 b5 b6 b7) (hc:(([.bl b0,.bl b1,.bl b2,.bl b3] ++ [.bl b4,.bl b5,.bl b6,.bl b7]:List V).countP fun z => Iz z (.bl true)) = 1) (hj:([.bl b0,.bl b1,.bl b2,.bl b3] ++ [.bl b4,.bl b5,.bl b6,.bl b7]:List V)[j]? = some (.bl true)) (hno:∀ m z,m < j→([.bl b0,.bl b1,.bl b2,.bl b3] ++ [.bl b4,.bl b5,.bl b6,.bl b7]:List V)[m]? = some z→Iz z (.bl true) = false) (hw:([.str "place",.str "number",.str "line",.str "ring",.str "even",.str "web",.str "text",.str "great"]:List V)[j]? = some (.str y)):FnH P w K mg base 1 f fd ["_law_e"] (Hj CP y):=by
 obtain ⟨c0,m0,k0⟩:=U.a0.ex
 obtain ⟨c1,m1,k1⟩:=U.a1.ex
 obtain ⟨c2,m2,k2⟩:=U.a2.ex
 obtain ⟨c3,m3,k3⟩:=U.a3.ex
 obtain ⟨c4,m4,k4⟩:=U.a4.ex
 obtain ⟨c5,m5,k5⟩:=U.a5.ex
 obtain ⟨c6,m6,k6⟩:=U.a6.ex
 obtain ⟨c7,m7,k7⟩:=U.a7.ex
 refine F.okH Jx (fun vs H Q E h => ?_) (fun cdv A outer s H vs Q hr h => ?_)
 ·obtain ⟨x,rfl,_⟩:=h
  rfl
 ·obtain ⟨x,rfl,hx,k⟩:=h
  refine ⟨_,Cc (JC (i:=1) Jx.nd rfl (Or.inl rfl) (Ev
    (AK (An Az (by rfl) T.nIsi Ft (AK (pv 0) (AK (BT (v:=.ref c0) (by rfl) m0 rfl) Ao)))
    (AK (An Az (by rfl) T.nIsi Ft (AK (pv 0) (AK (BT (v:=.ref c1) (by rfl) m1 rfl) Ao)))
    (AK (An Az (by rfl) T.nIsi Ft (AK (pv 0) (AK (BT (v:=.ref c2) (by rfl) m2 rfl) Ao)))
    (AK (An Az (by rfl) T.nIsi Ft (AK (pv 0) (AK (BT (v:=.ref c3) (by rfl) m3 rfl) Ao))) Ao))))))
   (Cc (JC (i:=1) Jx.nd rfl (Or.inl rfl) (QB Ez (pv 1) (Ev
    (AK (An Az (by rfl) T.nIsi Ft (AK (pv 0) (AK (BT (v:=.ref c4) (by rfl) m4 rfl) Ao)))
    (AK (An Az (by rfl) T.nIsi Ft (AK (pv 0) (AK (BT (v:=.ref c5) (by rfl) m5 rfl) Ao)))
    (AK (An Az (by rfl) T.nIsi Ft (AK (pv 0) (AK (BT (v:=.ref c6) (by rfl) m6 rfl) Ao)))
    (AK (An Az (by rfl) T.nIsi Ft (AK (pv 0) (AK (BT (v:=.ref c7) (by rfl) m7 rfl) Ao))) Ao)))))))
   (Cc (MI (Pz (MH (Hz (An Az (by rfl) T.nIsi Ft (AK (pv 0) (AK (KC (v:=.ty "ValueError") (by rfl) T.nVE WL rfl) Ao))) (fun _ => rfl)))
     (MG (Gw Hy (MW PySem.F.plainAttrs_list PySem.F.slot_list_count PySem.F.type_list_count Mi (pv 1) (AK MF Ao)) Gq (Ak _)))).pt
     (Cq (Dn Br)) Gr)
   (Cq (Dn (MU Cv (Ev (AK Br (AK Br (AK Br (AK Br (AK Br (AK Br (AK Br (AK Br Ao)))))))))
    (MW PySem.F.plainAttrs_list PySem.F.slot_list_index PySem.F.type_list_index Mj (pv 1) (AK MF Ao)) (fun _ _ => rfl)))))),?_⟩
  refine ⟨_,rfl,_,.ref c0,_,_,b0,rfl,rfl,.inr ⟨x,CP,rfl,rfl,hx,U.eN⟩,k0,?_⟩
  refine ⟨_,rfl,_,.ref c1,_,_,b1,rfl,rfl,.inr ⟨x,CP,rfl,rfl,hx,U.eN⟩,k1,?_⟩
  refine ⟨_,rfl,_,.ref c2,_,_,b2,rfl,rfl,.inr ⟨x,CP,rfl,rfl,hx,U.eN⟩,k2,?_⟩
  refine ⟨_,rfl,_,.ref c3,_,_,b3,rfl,rfl,.inr ⟨x,CP,rfl,rfl,hx,U.eN⟩,k3,(by show 4≤sizeLine; decide),fun p hp => ?_⟩
  have hx1:Rd (upd H p (.lst [.bl b0,.bl b1,.bl b2,.bl b3])) x (DE CP x):=hx.upd hp
  refine ⟨_,rfl,?_⟩
  refine ⟨_,rfl,_,.ref c4,_,_,b4,rfl,rfl,.inr ⟨x,CP,rfl,rfl,hx1,U.eN⟩,k4,?_⟩
  refine ⟨_,rfl,_,.ref c5,_,_,b5,rfl,rfl,.inr ⟨x,CP,rfl,rfl,hx1,U.eN⟩,k5,?_⟩
  refine ⟨_,rfl,_,.ref c6,_,_,b6,rfl,rfl,.inr ⟨x,CP,rfl,rfl,hx1,U.eN⟩,k6,?_⟩
  refine ⟨_,rfl,_,.ref c7,_,_,b7,rfl,rfl,.inr ⟨x,CP,rfl,rfl,hx1,U.eN⟩,k7,(by show 4≤sizeLine; decide),fun p2 hp2 => ?_⟩
  have np:p≠p2:=fun z => by rw [z,AG] at hp2; cases hp2
  refine ⟨p,p2,_,_,rfl,rfl,(by rw [AD np]; exact AG),AG,(by show 8≤sizeLine; decide),fun p3 hp3 => ?_⟩
  have s1:Same H (upd H p (.lst [.bl b0,.bl b1,.bl b2,.bl b3])):=Di (Same.refl H) hp
  have s2:=Di (o:=.lst [.bl b4,.bl b5,.bl b6,.bl b7]) s1 hp2
  have s3:=Di (o:=.lst ([.bl b0,.bl b1,.bl b2,.bl b3] ++ [.bl b4,.bl b5,.bl b6,.bl b7])) s2 hp3
  refine ⟨_,rfl,_,.ty "ValueError",_,_,true,rfl,rfl,.inr ⟨x,CP,rfl,rfl,hx.same s3,U.eN⟩,U.ve,true,rfl,?_⟩
  refine JL ?_
  refine ⟨_,rfl,.inl ⟨rfl,_,SqL.of AG⟩,p3,_,_,rfl,rfl,SqL.of AG,rfl,rfl,rfl,_,rfl,?_⟩
  have ec:(!decide (V.int ((([.bl b0,.bl b1,.bl b2,.bl b3] ++ [.bl b4,.bl b5,.bl b6,.bl b7]:List V).countP fun z => Iz z (.bl true):Nat):Int) = V.int 1)) = false:=by rw [hc]; rfl
  rw [ec]
  refine JL ?_
  refine ⟨(by show 8≤sizeLine; decide),fun p4 hp4 => ?_⟩
  have n4:p3≠p4:=fun z => by rw [z,AG] at hp4; cases hp4
  refine ⟨_,rfl,.inl ⟨rfl,_,SqL.of (by rw [AD n4]; exact AG)⟩,p3,_,_,j,rfl,rfl,SqL.of (by rw [AD n4]; exact AG),rfl,rfl,⟨.bl true,hj,rfl⟩,hno,?_⟩
  exact ⟨p4,_,(j:Int),_,rfl,rfl,SqL.of AG,DO hw,k _ (Di s3 hp4)⟩
theorem UE {xs:List V} {j:Nat} (h:((List.range j).all fun m => match xs[m]? with | some z => !Iz z (.bl true) | none => true) = true):∀ m z,m < j→xs[m]? = some z→Iz z (.bl true) = false:=fun m z hm e => by
 have:=List.all_eq_true.mp h m (List.mem_range.mpr hm)
 rw [e] at this
 simpa using this
theorem Ix {f:Addr} {fd:FuncData} (F:Fun K "_law_kind_of" "_law_kind_of" Kq f fd) (T:Txt mg) (U:Kinds K mg CP false false false false false true false false):FnH P w K mg base 1 f fd ["_law_e"] (Hj CP "web"):=Po (j:=5) F T U rfl rfl (UE (by decide)) rfl
end
end K02
namespace L2.TL
open PySem PySem.Spec PySem.Calls PyProof.Rows
mutual
def noL:T→Bool
 | .tup ts => noLs ts
 | .lst _ => false
 | .frz _ => false
 | _ => true
def noLs:List T→Bool
 | [] => true
 | t :: ts => noL t && noLs ts
end
section
variable {K:PySem.W.Frag} {O O':AJ} {H:Hp}
mutual
theorem Rep.noL:∀ {v:V} {t:T},noL t = true→Rep K O H v t→Rep K O' H v t
 | _,_,_,.non => .non
 | _,_,_,.bl b => .bl b
 | _,_,_,.int i => .int i
 | _,_,_,.str x => .str x
 | _,_,e,.tup h r => .tup h (Reps.noL (by unfold TL.noL at e; exact e) r)
 | _,_,e,.lst _ _ _ => by unfold TL.noL at e; cases e
 | _,_,e,.frz _ _ => by unfold TL.noL at e; cases e
 | _,_,_,.dct h => .dct h
 | _,_,_,.raw v => .raw v
theorem Reps.noL:∀ {v:List V} {t:List T},noLs t = true→Reps K O H v t→Reps K O' H v t
 | _,_,_,.nil => .nil
 | _,_,e,.cons h r => by
  unfold TL.noLs at e
  rw [Bool.and_eq_true] at e
  exact .cons (Rep.noL e.1 h) (Reps.noL e.2 r)
end
theorem Frm.lent {H':Hp} {p:Addr} {us:List T} (w:OwnOk K O H) (hp:O p = some us) (hO:∀ a vs,O a = some vs→a≠p→noLs vs = true) (f:Frm K (AW O p) H (AW O p) H'):Frm K O H O H':=by
 have kp:TL.Kp O H O H':=fun b o h n => by
  have nb:b≠p:=fun z => by rw [z,hp] at n; cases n
  exact ⟨(f.kp b o h (by rw [Bd nb]; exact n)).1,n⟩
 refine ⟨kp,fun b ts e => ⟨ts,e⟩,fun a ts e => ?_⟩
 by_cases ha:a = p
 ·subst ha
  obtain ⟨xs,h,r⟩:=w a ts e
  exact ⟨xs,(f.kp a _ h Bc).1,r.kp kp w⟩
 ·obtain ⟨xs,h,r⟩:=f.ok a ts (by rw [Bd ha]; exact e)
  exact ⟨xs,h,r.noL (hO a ts e ha)⟩
inductive Lent (p:Addr) (us:List T):List T→List T→Prop
 | nil:Lent p us [] []
 | same {t:T} {ts ts':List T}:Lent p us ts ts'→Lent p us (t :: ts) (t :: ts')
 | lent {ts ts':List T}:Lent p us ts ts'→Lent p us (.raw (.ref p) :: ts) (.lst us :: ts')
theorem Lent.reps {p:Addr} {us:List T} (w:OwnOk K O H) (hp:O p = some us):∀ {ts ts':List T} {vs:List V},Lent p us ts ts'→Reps K O H vs ts→Reps K (AW O p) H vs ts'
 | _,_,_,.nil,.nil => .nil
 | _,_,_,.same l,.cons h r => .cons (h.kp BK w) (l.reps w hp r)
 | _,_,_,.lent l,.cons h r => by
  cases h.raw_inv
  exact .cons (w.rep hp) (l.reps w hp r)
end
section
variable {Z:Zx} {ρ:List (Option T)} {O:AJ} {e a b:Expr} {es:List Expr} {Ψ:Es} {Φ:BM} {pos p:Pos} {t:T} {ts ts' us:List T} {x:Str} {l:Addr}
theorem Lw {k:Nat} {ps:List Str} {s:DI} (G:FnT Z.X.prog Z.X.w Z.X.K Z.X.mg Z.X.base x k ps s) (hr:Room k Z.X.A) (xf:XFly Z.X (Z.Wr ρ)) (hl:O l = some us) (hO:∀ a vs,O a = some vs→a≠l→noLs vs = true) (h:EA Z ρ O (e :: es) ts) (lt:Lent l us ts ts')
  (hs:s ts' (AW O l) (fun t O' => O' = AW O l∧noL t = true∧Φ t O) (fun cls O' => O' = AW O l∧Z.Xi cls O)) (hg:Gl Z.X x:=by rfl)
  (hdb:(x == ("__debug__" : Str)) = false:=by decide) (he:starEach (e :: es) Z.X.env = (false,eval e Z.X.env) :: starEach es Z.X.env:=by rfl) (hpl:(backTo pos (starEach es Z.X.env)).any (·.1) = false:=by rfl):WE Z ρ O (.Call (.Name x p) (e :: es) [] pos) Φ:=by
 obtain ⟨f,fd,F,hm,hk,hb⟩:=G.ex
 refine PE.weak (DR xf F hr hg hm hk hb (EX (ρ:=ρ)) hdb he hpl) fun σ H Q q => ?_
 refine ⟨O,_,h (fun ts1 O1 => ts1 = ts∧O1 = O) ⟨rfl,rfl⟩,q.1,fun vs H1 ts1 O1 p1 f1 r => ?_⟩
 obtain ⟨rfl,rfl⟩:=p1
 refine ⟨ts',AW O1 l,_,_,lt.reps f1.ok hl r,f1.ok.drop,hs,fun v H' t O' pp f' r' => ?_,fun cls O' H' xx f' => ?_⟩
 ·obtain ⟨rfl,nl,pp⟩:=pp
  exact q.2 v H' t O1 pp (f1.trans (Frm.lent f1.ok hl hO f')) (r'.noL nl)
 ·obtain ⟨rfl,xx⟩:=xx
  have g:=Frm.lent f1.ok hl hO f'
  exact ⟨rfl,O1,xx,(q.1.fr.trans f1).trans g,(q.1.rl.kp f1.kp q.1.ok).kp g.kp f1.ok⟩
theorem UF {K:PySem.W.Frag} {g:PyData→PyData→Bool} {u:T} (hl:O l = some us) (h1:rdBs us = true) (h2:Dk u = true) (hd:(dT (.lst us)).depth≤100):RP K (rD K g) (.raw (.ref l)) u O (.bl (g (dT (.lst us)) (dT u))):=fun Φ p H v w Q ok r1 r2 acc => by
 cases r1.raw_inv
 exact ⟨AW O l,.lst us,u,ok.rep hl,r2.kp BK ok,(by unfold Dk; exact h1),h2,hd,acc _ _ _ O p (.refl ok) (.bl _)⟩
theorem OC {u:T} (hu:Z.X.A.units + 101 < cLine) (hl:O l = some us) (h1:rdBs us = true) (h2:Dk u = true) (hd:(dT (.lst us)).depth≤100) (ha:ET Z ρ O a (.raw (.ref l))) (hb:ET Z ρ O b u) (hm:behindInMarks .NotEq b = false:=by rfl):EB Z ρ O (.Compare a [.NotEq] [b] pos) (!PyData.eqv (dT (.lst us)) (dT u)) :=
 CJ (Nf hu) hm (UF hl h1 h2 hd) ha hb
end
end L2.TL
namespace K02
open PySem L2 L2.TL PySem.Spec PyProof.Rows
abbrev SI:Stmt:=(Tr (top 7)).getD 0 (.Pass ⟨0,0,0,0⟩)
section
variable {P:Program} {w:World} {K:PySem.W.Frag} {mg:Str→Option Value} {base:Heap} {C fi:Addr}
theorem UG:FnScope ["self","number"] ["self","number"] (AA SI):=⟨rfl,rfl,rfl,by decide +kernel,rfl,by decide +kernel,by decide +kernel⟩
theorem SJ {f:Addr} {fd:FuncData} (F:Fun K "__init__" "NoWeb.__init__" SI f fd) (c:XfC K C f) (hn:PySem.W.findIn K (.ref C) "number" = some none):FnOk P w K mg base (CXe P w) 1 f fd ["self","number"] (Nj C ["number"]):=by
 refine F.okX UG (No rfl) fun cdv A outer s H vs Q E hr h => ?_
 obtain ⟨x,t,is,rfl,hl,hx,k⟩:=h
 obtain ⟨i,rfl⟩:∃ i,is = [i]:=by
  cases is with
  | nil => cases hl
  | cons a r => cases r with
   | nil => exact ⟨a,rfl⟩
   | cons _ _ => cases hl
 refine ⟨_,Cq (SA (pv 0) (pv 1) rfl),?_⟩
 exact ⟨_,rfl,_,rfl,x,C,f,_,rfl,hx,c,hn,fun d hd dn => k d hd dn⟩
structure Made (n:Int) (us:List T) (O:AJ) (X:Int→Prop) (Y:List (Int × Int)→Prop):Prop where
 bad:∀ (i:Nat) (u:T),us[i]? = some u→(∀ (j:Nat) (v:T),j < i→us[j]? = some v→Ar n v = true)→Ar n u = false→X i
 good:∀ ps:List (Int × Int),us = ps.map AB→(∀ p∈ps,Ab n p)→∀ rs:List (Int × Int),rs.Pairwise Ii→(∀ q,q∈rs↔q∈ps.map mm)→rs.length≤ps.length→Y rs
def En (C:Addr):DI:=fun ts O Φ Ξ => ∃ (t:T) (us:List T),ts = [t,.lst us]∧CZ t = false∧(∀ u∈us,JA u = true)∧us.length≤300∧(Hu t 1 16 = false→Ξ (Nk C (-1)) O) ∧
 ∀ n:Int,t = .int n→1≤n→n≤16→Made n us O (fun i => Ξ (Nk C i) O) (fun rs => Φ (Hm n rs) O)
theorem Kv:FnScope ["many","things","number","thing"] ["many","things"] (AA Jr):=⟨rfl,rfl,rfl,by decide +kernel,rfl,by decide +kernel,by decide +kernel⟩
theorem Lx {n:Int} {us:List T} (h:∀ (j:Nat) (v:T),us[j]? = some v→Ar n v = true):∃ ps:List (Int × Int),us = ps.map AB∧∀ p∈ps,Ab n p:=by
 obtain ⟨ps,e,hp⟩:=Iv (n:=n) (ts:=us) (by
  rw [List.all_eq_true]
  intro b hb
  obtain ⟨u,hu,rfl⟩:=List.mem_map.mp hb
  obtain ⟨j,ej⟩:=List.getElem?_of_mem hu
  exact h j u ej)
 exact ⟨ps,e,fun p h => EL.mp (hp p h)⟩
theorem Jy {f:Addr} {fd:FuncData} (F:Fun K "web_of" "web_of" Jr f fd) (Tx:Txt mg) (c:XCl P w K mg base "NoWeb" C fi ["number"]) (G:FnT P w K mg base "is_whole" 2 ["thing","least","most"] Ho) (G2:FnT P w K mg base "is_pair" 2 ["many","thing"] OA) (G3:FnT P w K mg base "ties_of" 2 ["pairs"] Iw) :
  FnOk P w K mg base (CXe P w) 3 f fd ["many","things"] (EY K (En C)):=by
 refine PU F Kv ?_ ?_
 ·rintro ts O Φ Ξ ⟨t,us,rfl,_⟩
  rfl
 ·rintro cdv A outer s H E O Ξ hr xo _ Φ ⟨t,us,rfl,ht,hp,hl,q1,q2⟩
  have xf:=xo.f
  refine AH (Am (k:=!Hu t 1 16) (Al (Ci (Ib G hr xf (AU (ev 0) (AU AC (AU (PH Tx.iMP) AE))) ⟨t,1,16,rfl,ht,rfl⟩))) (fun h => ?_) (fun h => Ap ?_))
  ·refine AN (Ge xo rfl c (hr.mono (by decide)) (is:=[-1]) (AU (HR AC) AE) rfl (Ei (-1)) (q1 ?_))
   simpa using h
  have hw:Hu t 1 16 = true:=by simpa using h
  obtain ⟨n,rfl⟩:=De hw
  have hw':1≤n∧n≤16:=by
   have h:(decide (1≤n) && decide (n≤16)) = true:=hw
   simpa using h
  obtain ⟨q2,q3⟩:=q2 n rfl hw'.1 hw'.2
  refine AH (Ck BB.own rfl (EI.wi (Pg Tx.nEnum (ev 1)) ⟨fun i ρ' O' => O' = O∧(∃ v2 v3,ρ' = [some (.int n),some (.lst us),v2,v3])∧∀ j v,j < i→us[j]? = some v→Ar n v = true,⟨rfl,⟨none,none,rfl⟩,fun j t h => by omega⟩,?_,?_⟩))
  ·rintro i u _ _ e ⟨rfl,⟨v2,v3,rfl⟩,hj⟩
   obtain ⟨u',eu,rfl⟩:∃ u',us[i]? = some u'∧u = .tup [.int (i:Nat),u']:=by
    unfold ER at e
    rw [List.getElem?_map,List.getElem?_zipIdx] at e
    cases z:us[i]? with
    | none => rw [z] at e; cases e
    | some y => rw [z] at e; refine ⟨y,rfl,?_⟩; simpa using e.symm
   refine ⟨[some (.int n),some (.lst us),some (.int (i:Nat)),some u'],Bo 2 3 rfl Kv.nd (by show 2 < 4; decide) (by show 3 < 4; decide),?_⟩
   refine AN (Am (k:=!Ar n u') (Al (Ci (Ib G2 hr xf (AU (ev 0) (AU (ev 3) AE)) ⟨u',n,rfl,hp u' (List.mem_of_getElem? eu),rfl⟩))) (fun h => ?_) (fun h => Ap ?_))
   ·exact AN (Ge xo rfl c (hr.mono (by decide)) (is:=[(i:Int)]) (AU (ev 2) AE) rfl (Ei i) (q2 i u' eu hj (by simpa using h)))
   ·refine ⟨rfl,⟨_,_,rfl⟩,fun j z hj' ez => ?_⟩
    by_cases hji:j = i
    ·subst hji
     rw [eu] at ez; cases ez
     simpa using h
    ·exact hj j z (by omega) ez
  ·rintro _ _ ⟨rfl,⟨v2,v3,rfl⟩,hj⟩
   rw [show (ER us).length = us.length from by simp [ER]] at hj
   obtain ⟨ps,rfl,hpp⟩:=Lx (n:=n) (us:=us) fun j v e => hj j v (List.getElem?_eq_some_iff.mp e).1 e
   refine AN (AY (BH (BQ (ET.we (ev 0) (BQ (Ad G3 hr xf (EA.wa (AU (ev 1) AE) ⟨ps,rfl,by simpa using hl,fun p h => ?_,fun rs h1 h2 h3 => AX ⟨by show 2≤sizeLine; decide,q3 ps rfl hpp rs h1 h2 h3⟩⟩)))))))
   have:=hpp p h
   unfold Ab at this
   omega
end
theorem Gj {α:Type} [DecidableEq α]:∀ {L S:List α},L.Nodup→(∀ z∈L,z∈S)→L.length≤S.length
 | [],_,_,_ => Nat.zero_le _
 | a :: L,S,hn,h => by
  have hn':=List.nodup_cons.mp hn
  have ha:a∈S:=h a (List.mem_cons_self ..)
  have:=Gj (S:=S.erase a) hn'.2 fun z hz => (List.mem_erase_of_ne (fun e => hn'.1 (by rw [← e]; exact hz))).mpr (h z (List.mem_cons_of_mem _ hz))
  have e:=List.length_erase_of_mem ha
  have:0 < S.length:=List.length_pos_of_mem ha
  rw [List.length_cons]
  omega
def UH:List (Int × Int):=(List.range 16).flatMap fun (b:Nat) => (List.range b).map fun (a:Nat) => ((a:Int),(b:Int))
theorem OD:UH.length = 120:=by decide +kernel
theorem OE {n:Int} {ps:List (Int × Int)} (n1:n≤16) (hp:∀ p∈ps,AO n p) (pw:ps.Pairwise Ii):ps.length≤120:=by
 rw [← OD]
 refine Gj (pw.imp fun {a b} h e => ?_) fun p h => ?_
 ·subst e
  unfold Ii at h
  omega
 ·have:=hp p h
  unfold AO at this
  unfold UH
  refine List.mem_flatMap.mpr ⟨p.2.toNat,List.mem_range.mpr (by omega),List.mem_map.mpr ⟨p.1.toNat,List.mem_range.mpr (by omega),?_⟩⟩
  refine Prod.ext ?_ ?_ <;> simp <;> omega
section
variable {P:Program} {w:World} {K:PySem.W.Frag} {mg:Str→Option Value} {base:Heap}
variable {Z:Zx} {ρ:List (Option T)} {O:AJ} {a b c:Expr} {pos:Pos}
theorem Kw {i j k:Int} (ha:ET Z ρ O a (.int i)) (hb:ET Z ρ O b (.int j)) (hc:ET Z ρ O c (.int k)) (hm:lastMarks [CmpOp.LtE,.Lt] [b,c] = false:=by with_unfolding_all rfl):EB Z ρ O (.Compare a [.LtE,.Lt] [b,c] pos) (decide (i≤j) && decide (j < k)):=NP MO KH EO (fun _ => EO) ha hb (fun _ => hc) hm
def Qa:DI:=fun ts O Φ _ => ∃ (n:Int) (us:List T),ts = [.int n,.lst us]∧1≤n∧n≤16∧(∀ u∈us,JA u = true)∧us.length≤300∧Made n us O (fun i => Φ (.tup [.int i,.non]) O) (fun rs => Φ (.tup [.non,Hm n rs]) O)
theorem Kx:FnScope ["_law_many","_law_things","_law_found","_law_spot","_law_pair"] ["_law_many","_law_things"] (AA Ph):=⟨rfl,rfl,rfl,by decide +kernel,rfl,by decide +kernel,by decide +kernel⟩
theorem SK {f:Addr} {fd:FuncData} (F:Fun K "_law_due" "_law_due" Ph f fd) (Tx:Txt mg) (G:FnT P w K mg base "_law_whole" 1 ["_law_found"] Df):FnOk P w K mg base (CXe P w) 2 f fd ["_law_many","_law_things"] (EY K Qa):=by
 refine Ax F Kx ?_ ?_
 ·rintro ts O Φ Ξ ⟨n,us,rfl,_⟩
  rfl
 ·rintro cdv A outer s H E O Ξ hr xf _ Φ ⟨n,us,rfl,n0,n1,hp,hl,q1,q2⟩
  have hu:(A.deeper (envOfC "_law_due" (AA Ph) s.heap.objs.size f cdv)).units + 8 < cLine:=by have:=hr.un; omega
  have hz:(300:Nat) < sizeLine:=by decide
  refine AH (AS 2 (Ee (AX ⟨Nat.zero_le _,fun l hlO => ?_⟩)) Kx.nd)
  refine AH (Ck BB.own rfl (EI.wi (BE Tx.nRange (Kg Tx.nLen (ev 1)) ⟨by omega,by omega⟩) ⟨fun i ρ' O' => ∃ (v3 v4:Option T) (qs:List (Int × Int)),ρ' = [some (.int n),some (.lst us),some (.raw (.ref l)),v3,v4]∧O' = AV O l ((qs.map mm).map AB)∧us.take i = qs.map AB∧∀ p∈qs,Ab n p,⟨none,none,[],rfl,rfl,by simp,by simp⟩,?_,?_⟩))
  ·rintro i t _ _ e ⟨v3,v4,qs,rfl,rfl,hq,hpd⟩
   obtain ⟨hi,rfl⟩:=Bg e
   have hi:i < us.length:=by simpa using hi
   have ei:us[i]? = some us[i]:=List.getElem?_eq_getElem hi
   have hpu:JA us[i] = true:=hp _ (List.getElem_mem hi)
   have ahead:∀ (j:Nat) (v:T),j < i→us[j]? = some v→Ar n v = true:=fun j v hj ej => by
    have z:(us.take i)[j]? = some v:=by rw [List.getElem?_take,if_pos hj]; exact ej
    rw [hq,List.getElem?_map] at z
    cases y:qs[j]? with
    | none => rw [y] at z; cases z
    | some p => rw [y] at z; cases z; exact EL.mpr (hpd p (List.mem_of_getElem? y))
   generalize hu':us[i] = u at *
   refine ⟨[some (.int n),some (.lst us),some (.raw (.ref l)),some (.int (0 + i)),v4],Ae 3 Kx.nd (by show 3 < 5; decide),?_⟩
   have e0:(0 + (i:Int)) = i:=by omega
   rw [e0]
   refine AH (AS 4 (ET.we (NR (t:=u) (ev 1) (ev 3) (DO ei)) ?_) Kx.nd)
   rcases Jv u with ⟨a,b,rfl⟩ | h2
   ·rw [Hg] at hpu
    have pa:=hpu a (by simp)
    have pb:=hpu b (by simp)
    refine AH (Am (EW.eb (BS (Al (Cl Tx.nIsi Tx.nTuple CM CL (ev 4) rfl)) fun _ => BS (FV (Eg Tx.nLen (ev 4)) AC) fun _ => BS (Al (Ci (Ib G hr xf (AU (BP (ev 4) AC) AE) ⟨a,rfl,Db pa,rfl⟩))) fun _ => CK (Al (Ci (Ib G hr xf (AU (BP (ev 4) AC) AE) ⟨b,rfl,Db pb,rfl⟩))))) (fun h => ?_) (fun h => Ap ?_))
    ·refine AN (Bp hlO (ET.we (Bx (AU (ev 3) (AU Be AE))) ?_))
     show Φ _ (AW _ l)
     rw [Ah hlO]
     refine q1 i _ ei ahead ?_
     cases a <;> cases b <;> first | (simp [Ar,Hu]; done) | (simp [DY,TL.Ie,FZ] at h)
    ·obtain ⟨x,rfl⟩:∃ x,a = .int x:=by cases a <;> first | exact ⟨_,rfl⟩ | (simp [DY,TL.Ie,FZ] at h)
     obtain ⟨y,rfl⟩:∃ y,b = .int y:=by cases b <;> first | exact ⟨_,rfl⟩ | (simp [DY,TL.Ie,FZ] at h)
     have pbi:Ar n (.tup [.int x,.int y]) = ((decide (0≤x) && decide (x < n)) && (decide (0≤y) && decide (y < n)) && !decide (x = y)):=by
      have e1:decide (x≤n - 1) = decide (x < n):=decide_eq_decide.mpr (by omega)
      have e2:decide (y≤n - 1) = decide (y < n):=decide_eq_decide.mpr (by omega)
      simp only [Ar,Hu,Ju,List.map_cons,List.map_nil,List.all_cons,List.all_nil,id,Bool.and_true,e1,e2]
      congr
     refine AH (Am (EW.eb (BS (Al (Kw AC (BP (ev 4) AC) (ev 0))) fun _ => BS (Al (Kw AC (BP (ev 4) AC) (ev 0))) fun _ => CK (Cj (BP (ev 4) AC) (BP (ev 4) AC)))) (fun h2 => ?_) (fun h2 => Ap ?_))
     ·refine AN (Bp hlO (ET.we (Bx (AU (ev 3) (AU Be AE))) ?_))
      show Φ _ (AW _ l)
      rw [Ah hlO]
      refine q1 i _ ei ahead ?_
      rw [pbi]
      cases z1:(decide (0≤x) && decide (x < n)) <;> cases z2:(decide (0≤y) && decide (y < n)) <;> cases z3:decide (x = y) <;> simp [z1,z2,z3] at h2 ⊢
     ·have gd:Ab n (x,y):=by
       unfold Ab
       simp at h2 ⊢
       omega
      refine AN (BV (BI (ET.we (ev 2) ⟨l,rfl,⟨_,AF⟩,ET.we (CO (Ki Tx.nMin rfl (ev 4)) (Kj Tx.nMax rfl (ev 4))) ⟨_,AF,?_,?_⟩⟩)))
      ·have:qs.length = (us.take i).length:=by rw [hq,List.length_map]
       rw [List.length_take] at this
       simp only [List.length_map]
       omega
      ·refine ⟨_,_,qs ++ [(x,y)],rfl,?_,?_,?_⟩
       ·rw [Aq]
        simp [mm]
       ·rw [List.take_add_one,ei,hq]
        simp [AB]
       ·intro p hp
        rcases List.mem_append.mp hp with h | h
        ·exact hpd p h
        ·rw [List.mem_singleton.mp h]; exact gd
   ·have nb:=Fm (n:=n) h2
    refine AH (Am (k:=true) (EW.eb ?_) (fun h => ?_) (fun h => by cases h))
    ·rcases h2 with h2 | ⟨ts,rfl,h2⟩
     ·refine EW.cast (BS (y:=true) (Al (Cl Tx.nIsi Tx.nTuple CM CL (ev 4) (Db hpu))) fun h => ?_) (by rw [h2]; rfl)
      rw [h2] at h; cases h
     ·refine EW.cast (BS (Al (Cl Tx.nIsi Tx.nTuple CM CL (ev 4) rfl)) fun _ => BS (y:=true) (FV (Eg Tx.nLen (ev 4)) AC) fun h => ?_) (by simp [DY])
      have:(ts.length:Int) = 2:=by simpa using h
      omega
    ·refine AN (Bp hlO (ET.we (Bx (AU (ev 3) (AU Be AE))) ?_))
     show Φ _ (AW _ l)
     rw [Ah hlO]
     refine q1 i _ ei ahead nb
  ·rintro _ _ ⟨v3,v4,qs,rfl,rfl,hq,hpd⟩
   have hql:us = qs.map AB:=by
    rw [← hq,Au]
    simp
   refine FY (p:=l) (n:=2) (ts:=(qs.map mm).map AB) AF hlO rfl ?_
   rw [Ah hlO]
   have lq:qs.length≤300:=by
    have:=congrArg List.length hql
    rw [List.length_map] at this
    omega
   refine AN (AY (BH (BQ (ET.we Be (BQ (BH (BQ (ET.we (ev 0) (BQ (BO Tx.nTuple (BW (ps:=qs.map mm) Tx.nSorted Tx.nSet rfl hu (ev 2) (by simpa using lq) ?_ fun rs h1 h2 h3 => ⟨_,rfl,AX ⟨by show 2≤sizeLine; decide,AX ⟨by show 2≤sizeLine; decide,q2 qs hql hpd rs h1 h2 (by simpa using h3)⟩⟩⟩)))))))))))
   intro z hz
   obtain ⟨p,h1,rfl⟩:=List.mem_map.mp hz
   have:=hpd p h1
   unfold Ab at this
   unfold mm
   simp only
   omega
end
def O3 (O:AJ) (p a c:Addr) (xs rs fs:List T):AJ:=AV (AV (AV O p xs) a rs) c fs
section
variable {O:AJ} {p a c:Addr} {xs rs fs ys:List T}
theorem WM (h1:p≠a) (h2:p≠c):O3 O p a c xs rs fs p = some xs:=by unfold O3; rw [AQ h2,AQ h1,AF]
theorem UV (h3:a≠c):O3 O p a c xs rs fs a = some rs:=by unfold O3; rw [AQ h3,AF]
theorem UI:O3 O p a c xs rs fs c = some fs:=by unfold O3; rw [AF]
theorem WN (h1:p≠a) (h2:p≠c):AV (O3 O p a c xs rs fs) p ys = O3 O p a c ys rs fs:=by unfold O3; rw [BN h2,BN h1,Aq]
theorem WO (h3:a≠c):AV (O3 O p a c xs rs fs) a ys = O3 O p a c xs ys fs:=by unfold O3; rw [BN h3,Aq]
theorem Va:AV (O3 O p a c xs rs fs) c ys = O3 O p a c xs rs ys:=by unfold O3; rw [Aq]
end
section
variable {P:Program} {w:World} {K:PySem.W.Frag} {mg:Str→Option Value} {base:Heap}
def Qb:DI:=fun ts O Φ _ => ∃ (p:Addr) (xs:List T) (n:Int) (ps:List (Int × Int)),ts = [.tup (ps.map AB),.raw (.ref p)]∧O p = some xs∧Ca xs∧(∀ q∈ps,Ab n q)∧ps.length≤120∧∀ (qs:List (Int × Int)) (O':AJ),(∀ q∈qs,Ab n q)→qs.length≤240→PO O p O'→Φ (.lst (qs.map AB)) O'
def Pp:List Str:=["_law_ties","_law_pen","_law_left","_law_found","_law_pair"]
theorem Ky:FnScope Pp ["_law_ties","_law_pen"] (AA Js):=⟨rfl,rfl,rfl,by decide +kernel,rfl,by decide +kernel,by decide +kernel⟩
theorem Fn {α β:Type} (f:α→β):∀ (l:List α) (i:Nat),(l.map f).eraseIdx i = (l.eraseIdx i).map f
 | [],_ => rfl
 | _ :: _,0 => rfl
 | a :: l,i + 1 => by simp [Fn f l i]
theorem SL {f:Addr} {fd:FuncData} (F:Fun K "_law_mixed" "_law_mixed" Js f fd) (Tx:Txt mg) (G:FnT P w K mg base "_law_draw" 2 ["_law_pen","_law_many"] Ai):FnOk P w K mg base (CXe P w) 3 f fd ["_law_ties","_law_pen"] (EY K Qb):=by
 refine Ax F Ky ?_ ?_
 ·rintro ts O Φ Ξ ⟨p,xs,n,ps,rfl,_⟩
  rfl
 ·rintro cdv A outer s H E O Ξ hr xf _ Φ ⟨p,xs,n,ps,rfl,hp,px,hd,hl,q⟩
  have hu:(A.deeper (envOfC "_law_mixed" (AA Js) s.heap.objs.size f cdv)).units < cLine:=by have:=hr.un; omega
  have hz:(1000:Nat) < sizeLine:=by decide
  refine AH (AS 2 (GW Tx.nList (ev 0) fun a ha => ?_) Ky.nd)
  have pa:p≠a:=Fg hp ha
  refine AH (AS 3 (Ee (AX ⟨Nat.zero_le _,fun c hc => ?_⟩)) Ky.nd)
  have ac:a≠c:=fun z => by rw [← z,AF] at hc; cases hc
  have hcO:O c = none:=by rw [AQ (Ne.symm ac)] at hc; exact hc
  have pc:p≠c:=Fg hp hcO
  have e0:AV (AV O a (ps.map AB)) c [] = O3 O p a c xs (ps.map AB) []:=by unfold O3; rw [Ff hp]
  rw [e0]
  have drw:∀ {ρ:List (Option T)} {e1 e2:Expr} {q1 q2:Pos} {xs rs fs:List T} {m:Int} {Φ':BM},Ca xs→ET (zB P w K mg base Pp "_law_mixed" (AA Js) f cdv A outer s H E O Ξ) ρ (O3 O p a c xs rs fs) e1 (.raw (.ref p))→ET (zB P w K mg base Pp "_law_mixed" (AA Js) f cdv A outer s H E O Ξ) ρ (O3 O p a c xs rs fs) e2 (.int m)→0 < m→m < 1000→(∀ r xs',0≤r→r < m→Ca xs'→Φ' (.int r) (O3 O p a c xs' rs fs))→BD e1 = true→BD e2 = true→WE (zB P w K mg base Pp "_law_mixed" (AA Js) f cdv A outer s H E O Ξ) ρ (O3 O p a c xs rs fs) (.Call (.Name "_law_draw" q1) [e1,e2] [] q2) Φ':=by
   intro ρ e1 e2 q1 q2 xs rs fs m Φ' px h1 h2 m0 m1 k n1 n2
   refine Ad G hr xf (EA.wa (AU h1 (AU h2 AE n2) n1) ⟨p,xs,m,rfl,WM pa pc,px,m0,m1,fun r xs' r0 r1 px' => ?_⟩) rfl (by decide) (BJ n1) (by
    rw [BJ n2]; rfl)
   rw [WN pa pc]
   exact k r xs' r0 r1 px'
  refine AH (Ng BB.own (fun m ρ' O' => ∃ (v4:Option T) (xs':List T) (rs qs:List (Int × Int)),ρ' = [some (.tup (ps.map AB)),some (.raw (.ref p)),some (.raw (.ref a)),some (.raw (.ref c)),v4]∧O' = O3 O p a c xs' (rs.map AB) (qs.map AB)∧Ca xs'∧(∀ z∈rs,Ab n z)∧(∀ z∈qs,Ab n z)∧qs.length + 2 * rs.length≤240∧m = rs.length) ⟨_,none,xs,ps,[],rfl,rfl,px,hd,by simp,by simp; omega,rfl⟩ ?_)
  rintro m _ _ ⟨v4,xs',rs,qs,rfl,rfl,px',hrs,hqs,hlen,rfl⟩
  refine EB.wt (Ih hu (UV ac) (ev 2)) ?_
  cases rs with
  | nil =>
   show if (false = true) then _ else _
   rw [if_neg Bool.false_ne_true]
   refine FY (p:=c) (n:=3) (ts:=qs.map AB) UI hcO rfl ?_
   refine AN (Bp ha (ET.we (ev 3) ?_))
   have e1:AW (AW (O3 O p a c xs' [] (qs.map AB)) c) a = AV O p xs':=by
    unfold O3
    rw [Ah (by rw [AQ (Ne.symm ac),AQ (Ne.symm pc)]; exact hcO),Ah (by rw [AQ (Ne.symm pa)]; exact ha)]
   show Φ _ (AW (AW (O3 O p a c xs' [] (qs.map AB)) c) a)
   rw [e1]
   exact q qs _ hqs (by simpa using hlen) ⟨xs',rfl,px'⟩
  | cons z0 rs0 =>
   generalize hrs1:z0 :: rs0 = rs1 at *
   have hlp:0 < rs1.length:=by rw [← hrs1]; simp
   show if ((!(rs1.map AB).isEmpty) = true) then _ else _
   rw [if_pos (by rw [← hrs1]; rfl)]
   refine AH (AS 4 (Fc (ET.we (ev 2) ⟨a,rfl,⟨_,UV ac⟩,drw px' (ev 1) (Hb Tx.nLen (ev 2) (UV ac)) (by simp; omega) (by simp; omega) (fun r xs2 r0 r1 px2 => ?_) rfl rfl⟩)) Ky.nd)
   have r1':r < rs1.length:=by simpa using r1
   have hrt:r.toNat < rs1.length:=by omega
   refine ⟨rs1.map AB,r,AB rs1[r.toNat],rfl,UV ac,r0,by omega,by simpa using r1',by rw [List.getElem?_map,List.getElem?_eq_getElem hrt]; rfl,?_⟩
   rw [WO ac,Fn]
   have hz1:Ab n rs1[r.toNat]:=hrs _ (List.getElem_mem hrt)
   have le1:(rs1.eraseIdx r.toNat).length + 1 = rs1.length:=by rw [List.length_eraseIdx,if_pos hrt]; omega
   have he1:∀ z∈rs1.eraseIdx r.toNat,Ab n z:=fun z h => hrs z (List.mem_of_mem_eraseIdx h)
   generalize rs1[r.toNat] = z1 at *
   have hsw:Ab n (z1.2,z1.1):=by unfold Ab at hz1 ⊢; simp only; omega
   refine AH (BV (BI (ET.we (ev 3) ⟨c,rfl,⟨_,UI⟩,NF Cv (fun _ _ => rfl) (ET.we (Bf (AU (ev 4) (AU (Ru (ts:=[.int z1.1,.int z1.2]) (ev 4)) AE)) (by show 2≤sizeLine; decide)) (drw px2 (ev 1) AC (by decide) (by decide) (fun r xs3 r0 r1 px3 => ?_) rfl rfl))⟩)))
   obtain ⟨z2,e2,h2⟩:∃ z2:Int × Int,atI [AB z1,T.tup ([T.int z1.1,.int z1.2].reverse)] r = some (AB z2)∧Ab n z2:=by
    have:r = 0∨r = 1:=by omega
    rcases this with rfl | rfl
    ·exact ⟨z1,rfl,hz1⟩
    ·exact ⟨(z1.2,z1.1),rfl,hsw⟩
   refine Jj e2 _ ⟨_,UI,by simp; omega,?_⟩
   rw [Va]
   have e3:qs.map AB ++ [AB z2] = (qs ++ [z2]).map AB:=by simp
   rw [e3]
   have hq2:∀ z∈qs ++ [z2],Ab n z:=fun z h => by
    rcases List.mem_append.mp h with h | h
    ·exact hqs z h
    ·rw [List.mem_singleton.mp h]; exact h2
   refine AN (QQ (HU Fv (Ak _) (drw px3 (ev 1) AC (by decide) (by decide) (fun r xs4 r0 r1 px4 => ET.we AC (FU _ ⟨_,rfl,?_⟩)) rfl rfl)))
   by_cases h0:r = 0
   ·rw [if_pos (by simpa using h0)]
    refine AN (BV (BI (ET.we (ev 3) ⟨c,rfl,⟨_,UI⟩,ET.we (ev 4) ⟨_,UI,by simp; omega,?_⟩⟩)))
    rw [Va]
    have e4:(qs ++ [z2]).map AB ++ [AB z1] = (qs ++ [z2] ++ [z1]).map AB:=by simp
    rw [e4]
    refine ⟨_,?_,_,xs4,_,qs ++ [z2] ++ [z1],rfl,rfl,px4,he1,fun z h => ?_,by simp; omega,rfl⟩
    ·omega
    ·rcases List.mem_append.mp h with h | h
     ·exact hq2 z h
     ·rw [List.mem_singleton.mp h]; exact hz1
   ·rw [if_neg (by simpa using h0)]
    exact Ap ⟨_,by omega,_,xs4,_,qs ++ [z2],rfl,rfl,px4,he1,hq2,by simp; omega,rfl⟩
end
end K02
namespace L2.TL
open PySem PySem.Spec PyProof.Rows
section
variable {Z:Zx} {ρ:List (Option T)} {O:AJ} {elt tg iter:Expr} {csc:Scope} {nc:List Str} {cap:List (Str × Nat)} {pos:Pos}
end
open PySem.Calls
def UJ:T→Bool
 | .tup _ => true
 | .lst _ => true
 | _ => false
section
variable {X:Cx}
def SM (K:PySem.W.Frag):List V→Hp→VK→Prop:=fun xs H Q => ∃ v O t,xs = [v]∧Rep K O H v t∧UJ t = true∧GY t = true∧(dT t).weight≤2 ^ 20∧(dT t).depth≤100∧Q (.str (dT t).shown) H
theorem Jz (hg:X.A.guards = some []) (hu:X.A.units + 101 < cLine):Ay X (.builtin "repr") (SM X.K):=by
 intro pins s σ H xs us Q I r h
 obtain ⟨v,O,t,rfl,rep,sq,sh,hw,hd,q⟩:=h
 obtain ⟨u,rfl,ru⟩:=Vals.one r
 obtain ⟨as,rd⟩:=Rep.reads I.hok rep sh ru
 obtain ⟨s1,s2,s3⟩:=Kn t sh
 have hv:∃ a,v = .ref a:=by
  cases t with
  | tup ts => obtain ⟨a,_,rfl,_⟩:=rep.tup_inv; exact ⟨a,rfl⟩
  | lst ts => obtain ⟨a,_,rfl,_⟩:=rep.lst_inv; exact ⟨a,rfl⟩
  | _ => cases sq
 obtain ⟨a,rfl⟩:=hv
 cases ru
 exact repr_of_reads' rd s1 (PyData.noDict_hsm s2) hg (by omega) (fun _ _ e => e) (fun h' u tk hk => ⟨.str _,H,I.kept hk,⟨u,rfl⟩,q⟩) (PyData.shown_fits (by decide) (by decide) s3 hw)
end
section
variable {Z:Zx} {ρ:List (Option T)} {O:AJ} {e a b hi:Expr} {p p2 pos:Pos} {t:T} {ts:List T} {i:Int} {Φ:BM}
theorem Pq (hg:Z.X.A.guards = some []) (hu:Z.X.A.units + 101 < cLine) (m:Z.X.mg "repr" = none) (h:ET Z ρ O e t) (sq:UJ t = true) (sh:GY t = true) (hw:(dT t).weight≤2 ^ 20) (hd:(dT t).depth≤100)
  (hgl:Gl Z.X "repr":=by rfl) (he:starEach [e] Z.X.env = (false,eval e Z.X.env) :: starEach [] Z.X.env:=by rfl):ET Z ρ O (.Call (.Name "repr" p) [e] [] pos) (.str (dT t).shown) :=
 BA (Jz hg hu) m To (AI h AE he) (fun Φ q H vs Q ok r k => by
  obtain ⟨v,rfl,r1⟩:=r.one_inv
  exact ⟨v,O,t,rfl,r1,sq,sh,hw,hd,k _ H _ O q (.refl ok) (.str _)⟩) hgl (by decide) (by decide) he
theorem SN (h:ET Z ρ O e (.lst ts)) (h2:ET Z ρ O hi (.int i)):ET Z ρ O (.Subscript e (.Slice none (some hi) none p2) pos) (.lst (Ig ts none (some i))):=fun Φ k => by
 refine PE.weak (Ex Gy (Aw (ρ:=ρ)) KJ (Ea (Aw (ρ:=ρ)))) fun σ H0 Q q => ?_
 refine ⟨O,_,h (fun t O' => t = .lst ts∧O' = O) ⟨rfl,rfl⟩,q.1,?_⟩
 rintro v H1 _ _ ⟨rfl,rfl⟩ f1 r1
 refine ⟨_,_,h2 (fun t O' => t = .int i∧O' = _) ⟨rfl,rfl⟩,q.1.step f1,?_⟩
 rintro v2 H2 _ _ ⟨rfl,rfl⟩ f2 r2
 obtain ⟨a,xs,rfl,h1,_,r1⟩:=(r1.kp f2.kp f1.ok).lst_inv
 have ff:=f1.trans f2
 exact ⟨i,r2.int_inv,a,xs,rfl,.inl (.inl h1),fun l hl => q.2 _ _ _ _ k (ff.trans (.new ff.ok hl)) (.lst AG (ff.ok.none_of hl) ((r1.cut).kp (BG ff.ok hl) ff.ok))⟩
end
open PySem.Builtin PySem.Builtin.Str
section
variable {X:Cx}
end
section
variable {Z:Zx} {ρ:List (Option T)} {O:AJ} {a b o e:Expr} {t:T} {Φ:BM} {pos p apos cpos:Pos} {i j:Str} {xs:List Str}
end
section
variable {X:Cx}
end
section
variable {Z:Zx} {ρ:List (Option T)} {O:AJ} {a b o e:Expr} {t:T} {Φ:BM} {pos p apos cpos:Pos} {i j:Str} {xs:List Str}
inductive EF (Z:Zx) (ρ:List (Option T)) (O:AJ):List Expr→List Str→Prop
 | nil:EF Z ρ O [] []
 | cons {e:Expr} {x:Str} {es:List Expr} {xs:List Str} (h:ET Z ρ O e (.str x)) (hs:EF Z ρ O es xs):EF Z ρ O (e :: es) (x :: xs)
end
section
variable {Z:Zx} {ρ:List (Option T)} {O:AJ} {e elt tg iter:Expr} {ifs:List Expr} {csc:Scope} {nc:List Str} {cap:List (Str × Nat)} {Φ:BM} {pos:Pos}
end
end L2.TL
namespace L2
open PySem PySem.Spec PySem.Calls PyProof.Rows
section
variable {prog:Program} {w:World} {A:Around} {R:Result→Shared→Prop} {I:Addr} {fp wr:List Addr} {n:Nat} {P:Nat→Value→Prop} {St:Nat→Heap→Prop}
end
section
variable {prog:Program} {w:World} {A:Around} {E:Value→Shared→Prop} {s:Shared}
end
section
variable {M:Model} {A:Around} {E:Value→Shared→Prop} {s:Shared}
end
section
variable {X:Cx}
end
end L2
namespace L2.TL
open PySem PySem.Spec PySem.Calls PyProof.Rows
section
variable {Z:Zx} {ρ:List (Option T)} {O:AJ} {e:Expr} {p pos kp np:Pos} {ns:List Int} {j:Nat}
end
end L2.TL
namespace L2
open PySem PySem.Spec PySem.Calls PyProof.Rows
section
variable {prog:Program} {w:World} {A:Around} {R:Result→Shared→Prop} {I:Addr} {fp wr:List Addr} {n:Nat} {P:Nat→Value→Prop} {St:Nat→Heap→Prop}
end
section
variable {prog:Program} {w:World} {A:Around} {E:Value→Shared→Prop} {s:Shared}
end
section
variable {X:Cx}
end
end L2
namespace L2.TL
open PySem PySem.Spec PySem.Calls PyProof.Rows
section
variable {Z:Zx} {ρ:List (Option T)} {O:AJ} {e:Expr} {p pos kp np:Pos} {ns:List Int} {j:Nat}
end
end L2.TL
namespace L2
open PySem PySem.Spec PyProof.Rows
open Sem (wp)
section
variable {prog:Program} {w:World} {A:Around} {E:Value→Shared→Prop} {s:Shared}
end
section
variable {prog:Program} {w:World} {A:Around} {E:Value→Shared→Prop} {s:Shared}
end
section
variable {prog:Program} {w:World} {A:Around} {E:Value→Shared→Prop} {s:Shared}
end
section
variable {M:Model} {A:Around} {E:Value→Shared→Prop} {s:Shared}
end
section
variable {X:Cx}
end
section
variable {X:Cx} {tg:Expr}
end
end L2
namespace L2.TL
open PySem PySem.Spec PyProof.Rows
section
variable {Z:Zx} {ρ:List (Option T)} {O:AJ} {a tg:Expr} {ts:List T} {p pos:Pos}
end
open PySem.Builtin PySem.Builtin.Str
section
variable {Z:Zx} {ρ:List (Option T)} {O:AJ} {a b e:Expr} {p pos:Pos} {x y:Str} {i:Int} {K:PySem.W.Frag}
theorem SO:RP K Um (.str x) (.str y) O (.bl (x == y)):=fun Φ p H v w Q ok r1 r2 q => by
 cases r1.str_inv; cases r2.str_inv
 refine ⟨rfl,?_⟩
 rw [Gv]
 exact q _ H _ O p (.refl ok) (.bl _)
theorem OF (ha:ET Z ρ O a (.str x)) (hb:ET Z ρ O b (.str y)):ET Z ρ O (.Compare a [.Eq] [b] pos) (.bl (x == y)):=Dx Fv (Ak _) SO ha hb
theorem SQ (ha:ET Z ρ O a (.str x)) (hb:ET Z ρ O b (.str y)):EB Z ρ O (.Compare a [.NotEq] [b] pos) (!(x == y)):=CJ Hy (Ak _) Rz ha hb
end
end L2.TL
namespace L2
open PySem PySem.Spec
theorem FnH.imp {P:Program} {w:World} {K:PySem.W.Frag} {mg:Str→Option Value} {base:Heap} {k:Nat} {f:Addr} {fd:FuncData} {ps:List Str} {sp sp':Sp} (F:FnH P w K mg base k f fd ps sp) (h:∀ vs H Q E,sp' vs H Q E→sp vs H Q E):FnH P w K mg base k f fd ps sp' :=
 ⟨fun vs H Q E s => F.len vs H Q E (h _ _ _ _ s),fun A outer s H args us vs Q r e b v q => F.run A outer s H args us vs Q r e b v (h _ _ _ _ q)⟩
end L2
namespace L2.TL
open PySem PySem.Spec PyProof.Rows
theorem Ps {P:Program} {w:World} {K:PySem.W.Frag} {mg:Str→Option Value} {base:Heap} {k:Nat} {f C:Addr} {fd:FuncData} {ps:List Str} {y:Str} (F:FnH P w K mg base k f fd ps (Hj C y)):FnH P w K mg base k f fd ps (VF C (.str y)) :=
 F.imp fun _ _ _ _ ⟨x,e,r,q⟩ => ⟨x,e,r,fun H' s => q _ H' s fun _ _ => .str y⟩
theorem Iy {Z:Zx} {ρ:List (Option T)} {O:AJ} {a:Expr} {t:T} {j:Nat} {p1 pos:Pos} (hr:CZ t = false) (ha:ET Z ρ O a t):ET Z ρ O (.Compare a [.IsNot] [.Constant .none j p1] pos) (.bl (!QW t)):=Dx Oa (Ak _) (fun Φ p H v w Q ok r1 r2 q => by
 refine ⟨r2.non_inv,?_⟩
 have:decide (v = .non) = QW t:=by
  cases r1 <;> first | rfl | cases hr
 rw [this]
 exact q _ H _ O p (.refl ok) (.bl _)) ha Be
structure Hk (P:Program) (w:World) (K:PySem.W.Frag) (mg:Str→Option Value) (base:Heap) (g:Str) (k:Nat) (ps:List Str) (C:Addr) (t:T):Prop where
 ex:∃ f fd,FnH P w K mg base k f fd ps (VF C t)∧mg g = some (.ref f)∧PySem.W.keepIn K (.ref f) = true∧Binds K fd ps []
theorem Qc {Z:Zx} {ρ:List (Option T)} {O:AJ} {e:Expr} {t:T} {x C:Addr} {g:Str} {k:Nat} {ps:List Str} {p pos:Pos} (G:Hk Z.X.prog Z.X.w Z.X.K Z.X.mg Z.X.base g k ps C t) (hr:RoomH k Z.X.A) (hx:ExC Z x C) (h:ET Z ρ O e (.raw (.ref x))) (hg:Gl Z.X g:=by rfl) (hdb:(g == ("__debug__" : Str)) = false:=by decide)
  (he:starEach [e] Z.X.env = (false,eval e Z.X.env) :: starEach [] Z.X.env:=by rfl) (hpl:(backTo pos (starEach [] Z.X.env)).any (·.1) = false:=by rfl):ET Z ρ O (.Call (.Name g p) [e] [] pos) t:=by
 obtain ⟨f,fd,F,hm,hk,hb⟩:=G.ex
 exact Nm F hm hk hb hr hx h hg hdb he hpl
end L2.TL
namespace K02
open PySem L2 L2.TL PySem.Spec PyProof.Rows
section
variable {P:Program} {w:World} {K:PySem.W.Frag} {mg:Str→Option Value} {base:Heap} {CW CR fi:Addr}
theorem KA {f:Addr} {fd:FuncData} (F:Fun K "_law_whole" "_law_whole" Ek f fd) (T:Txt mg):FnH P w K mg base 1 f fd ["_law_found"] (EY K Df):=by
 refine Pe F Iq ?_ ?_
 ·rintro ts O Φ Ξ ⟨r,⟨t,rfl,_⟩,_⟩
  rfl
 ·rintro cdv A outer s H O hr _ Φ Ξ ⟨_,⟨t,rfl,ht,rfl⟩,q⟩
  exact AN (AY (ET.we (EC (ED T.nIsi T.nInt PL Ha (ev 0) ht) fun _ => Dz (NQ (ED T.nIsi T.nBool NX Fa (ev 0) ht))) q))
structure Cat (P:Program) (w:World) (K:PySem.W.Frag) (mg:Str→Option Value) (base:Heap) (CW CR fi:Addr):Prop where
 c:XCl P w K mg base "NoWeb" CW fi ["number"]
 hk:Hk P w K mg base "_law_kind_of" 1 ["_law_e"] CW (.str "web")
 wh:FnHT P w K mg base "_law_whole" 1 ["_law_found"] Df
 mR:mg "RingError" = some (.ref CR)
 bR:PySem.W.mroIn K CR (.type "BaseException") = some true
 kt:PySem.W.kitCls K (.ref CW) (.ref CR) = some true
def Kz:DI:=fun ts O Φ _ => ∃ t,ts = [t]∧CZ t = false∧Hu t 1 16 = false∧Φ (.bl true) O
theorem LA:FnScope ["_law_many","_law_e"] ["_law_many"] (AA Hn):=⟨rfl,rfl,rfl,by decide +kernel,rfl,by decide +kernel,by decide +kernel⟩
theorem Ly {f:Addr} {fd:FuncData} (F:Fun K "_law_no_number" "_law_no_number" Hn f fd) (B:Cat P w K mg base CW CR fi) (G:FnT P w K mg base "web_of" 3 ["many","things"] (En CW)):FnOk P w K mg base (CXe P w) 4 f fd ["_law_many"] (EY K Kz):=by
 refine Ax F LA ?_ ?_
 ·rintro ts O Φ Ξ ⟨t,rfl,_⟩
  rfl
 ·rintro cdv A outer s H E O Ξ hr xf _ Φ ⟨t,rfl,ht,hw,q⟩
  have hk:=B.c.ek
  refine AH (Ko (i:=1) (fun cls O' => cls = Nk CW (-1)∧O' = O) (fun pins E' H1 fr xf1 => ?_) (fun cls O' ⟨e,_⟩ => ⟨CW,.inr ⟨_,e⟩,B.kt⟩) (fun y cls O' C x o H1 hc h1 fr hz => ?_) rfl rfl rfl LA.nd rfl rfl B.mR B.bR rfl (by decide))
  ·refine AN (BV (Nl G hr xf1 (EA.wa (AU (ev 0) (AU (Bf (AU Be AE) (by show 1≤sizeLine; decide)) AE)) ⟨t,[.non],rfl,ht,fun u hu => ?_,by simp,fun _ => ⟨rfl,rfl⟩,fun n e n0 n1 => ?_⟩)))
   ·rw [List.mem_singleton.mp hu]; rfl
   ·subst e
    have hw:(decide (1≤n) && decide (n≤16)) = false:=hw
    simp at hw
    omega
  ·obtain ⟨rfl,rfl⟩:=hc
   obtain rfl:=HK.cls_of h1
   have exc:=HK.exc (y:=y) h1 fr hz
   have exf:=HK.exf (y:=y) h1 fr hz
   rw [Ei] at exf
   have rH:RoomH 1 (zH (zB P w K mg base ["_law_many","_law_e"] "_law_no_number" (AA Hn) f cdv A outer s H E O' Ξ) y O' (upd H1 x o)).X.A:=(Room.toH (hr.mono (by decide)))
   refine AN (AY (ET.we (t:=.bl true) (ET.cast (EC (OF (Qc B.hk rH exc (ev 1)) Jh) fun _ => EC (Nn B.wh rH (AU (Ej hk B.c.hd (B.c.nf _ (by simp)) exf (ev 1) rfl) AE) ⟨_,rfl,rfl,rfl⟩) fun _ => Dz (Re (Ej hk B.c.hd (B.c.nf _ (by simp)) exf (ev 1) rfl) (HR AC))) rfl) q))
end
theorem Gk {n:Nat}:∀ {us:List T},(∀ u∈us,(dT u).depth≤n)→PyData.depthAll (dTs us)≤n
 | [],_ => Nat.zero_le _
 | u :: us,h => by
  show max (dT u).depth (PyData.depthAll (dTs us))≤n
  exact Nat.max_le.mpr ⟨h u (List.mem_cons_self ..),Gk fun z hz => h z (List.mem_cons_of_mem _ hz)⟩
def Th (u:T):Prop:=JA u = true∧Dk u = true∧(dT u).depth≤5
theorem KB {n:Int} {us:List T} {i j:Nat} {u v:T} (e:us[i]? = some u) (ah:∀ (k:Nat) (y:T),k < i→us[k]? = some y→Ar n y = true) (b:Ar n u = false) (e':us[j]? = some v) (ah':∀ (k:Nat) (y:T),k < j→us[k]? = some y→Ar n y = true) (b':Ar n v = false):i = j:=by
 rcases Nat.lt_trichotomy i j with h | h | h
 ·have:=ah' i u h e; rw [b] at this; cases this
 ·exact h
 ·have:=ah j v h e'; rw [b'] at this; cases this
theorem Fo {n:Int} {ps:List (Int × Int)} (hp:∀ p∈ps,Ab n p) {j:Nat} {v:T} (e:(ps.map AB)[j]? = some v):Ar n v = true:=by
 rw [List.getElem?_map] at e
 cases y:ps[j]? with
 | none => rw [y] at e; cases e
 | some p => rw [y] at e; cases e; exact EL.mpr (hp p (List.mem_of_getElem? y))
section
variable {P:Program} {w:World} {K:PySem.W.Frag} {mg:Str→Option Value} {base:Heap} {CW CR fi:Addr}
def LB:DI:=fun ts O Φ _ => ∃ (n:Int) (us:List T),ts = [.int n,.lst us]∧1≤n∧n≤16∧(∀ u∈us,Th u)∧us.length≤300∧(∀ a vs,O a = some vs→noLs vs = true)∧Φ (.bl true) O
def OG:List Str:=["_law_many","_law_things","_law_number","_law_due_here","_law_handed","_law_told","_law_found","_law_e"]
theorem BX:FnScope OG ["_law_many","_law_things"] (AA DL):=⟨rfl,rfl,rfl,by decide +kernel,rfl,by decide +kernel,by decide +kernel⟩
abbrev zR (P:Program) (w:World) (K:PySem.W.Frag) (mg:Str→Option Value) (base:Heap) (f:Addr) (cdv:Value) (A:Around) (outer:List Env) (s:Shared) (H:Hp) (E:XK) (O:AJ) (Ξ:Value→AJ→Prop):Zx:=zB P w K mg base OG "_law_right" (AA DL) f cdv A outer s H E O Ξ
theorem Gm {f:Addr} {cdv:Value} {A:Around} {outer:List Env} {s:Shared} {H:Hp} {E:XK} {O:AJ} {Ξ:Value→AJ→Prop} {a:Addr} {n:Int} {us:List T} {num due told found:T} {Φ:BM} {N:GT} (Tx:Txt mg) (hr:Room 4 (zR P w K mg base f cdv A outer s H E O Ξ).X.A) (ha:O a = none) (n0:1≤n) (n1:n≤16) (hu:∀ u∈us,Th u) (hl:us.length≤300)
  (h:(∃ i:Int,num = .int i∧due = .non∧told = .non∧found = .int i)∨∃ rs:List (Int × Int),num = .non∧due = Hm n rs∧told = Hm n rs∧found = .non∧(∀ p∈rs,p.1.natAbs < 10 ^ 12∧p.2.natAbs < 10 ^ 12)∧rs.length≤300) (q:Φ (.bl true) O) :
  Ef (zR P w K mg base f cdv A outer s H E O Ξ) [some (.int n),some (.lst us),some num,some due,some (.raw (.ref a)),some told,some found,none] (AV O a us) ((AT DL).drop 5) { nx:=N,rt:=Φ }:=by
 have u1:(zR P w K mg base f cdv A outer s H E O Ξ).X.A.units + 101 < cLine:=by have:=hr.un; omega
 have hz:(1000:Nat) < sizeLine:=by decide
 have rd:rdBs us = true:=Ip.mpr fun t ht => (hu t ht).2.1
 have rdl:Dk (.lst us) = true:=by unfold Dk; exact rd
 have dp:(dT (.lst us)).depth≤100:=by
  show PyData.depthAll (dTs us) + 1≤100
  have:=Gk (n:=5) fun u h => (hu u h).2.2
  omega
 have same:(!PyData.eqv (dT (.lst us)) (dT (.lst us))) = false:=by rw [PySem.SeqAt.eqv_refl _ (Hl _ rdl)]; rfl
 have o2:AV (AV O a us) a (us ++ [.non]) = AV O a (us ++ [.non]):=Aq
 have dr:AW (AV O a (us ++ [.non])) a = O:=Ah ha
 rcases h with ⟨i,rfl,rfl,rfl,rfl⟩ | ⟨rs,rfl,rfl,rfl,rfl,hp,hrl⟩
 ·refine AH (Am (k:=false) (EW.eb (EW.cast (BS (OC u1 AF rd rdl dp (ev 4) (ev 1)) fun _ => CK (FV (ev 6) (ev 2))) (by rw [same]; simp))) (fun h => by cases h) fun _ => Ap ?_)
  refine AH (BV (BI (ET.we (ev 4) ⟨a,rfl,⟨_,AF⟩,ET.we Be ⟨_,AF,by omega,?_⟩⟩)))
  refine AN (Bp ha (ET.we (t:=.bl true) (ET.cast (QO (y:=true) (Iy (t:=.int i) rfl (ev 2)) fun h => by cases h) rfl) ?_))
  show Φ _ (AW _ a)
  rw [o2,dr]
  exact q
 ·refine AH (Am (k:=false) (EW.eb (EW.cast (BS (OC u1 AF rd rdl dp (ev 4) (ev 1)) fun _ => CK (CJ (Nf u1) (Ak _) (VE (t:=.non) (u:=.non) rfl rfl (by decide)) (ev 6) (ev 2))) (by rw [same]; rfl))) (fun h => by cases h) fun _ => Ap ?_)
  refine AH (BV (BI (ET.we (ev 4) ⟨a,rfl,⟨_,AF⟩,ET.we Be ⟨_,AF,by omega,?_⟩⟩)))
  have nn:n.natAbs < 10 ^ 12:=by omega
  have rw1:∀ {e:Expr} {p1 p2:Pos} {ρ:List (Option T)} {O1:AJ},ET (zR P w K mg base f cdv A outer s H E O Ξ) ρ O1 e (Hm n rs)→BD e = true→ET (zR P w K mg base f cdv A outer s H E O Ξ) ρ O1 (.Call (.Name "repr" p1) [e] [] p2) (.str (dT (Hm n rs)).shown):=fun h ns =>
   Pq hr.gd u1 Tx.nRepr h rfl (by unfold GY; exact Rx nn hp) (Jn nn hp (by omega)) Ll rfl (BJ ns)
  refine AN (Bp ha (ET.we (t:=.bl true) (ET.cast (QO (y:=true) (Iy (t:=.non) rfl (ev 2)) fun _ => Dz (ET.cast (EC (ED Tx.nIsi Tx.nTuple CM CL (ev 5) rfl) fun _ => Dz (OF (rw1 (ev 5) rfl) (rw1 (ev 3) rfl))) (by simp [DY]))) rfl) ?_))
  show Φ _ (AW _ a)
  rw [o2,dr]
  exact q
end
end K02
namespace L2.TL
open PySem PySem.Spec PyProof.Rows
section
variable {Z:Zx} {ρ:List (Option T)} {O:AJ} {e:Expr} {Φ:BM} {pos p:Pos} {ts:List T}
theorem Lz (m:Z.X.mg "list" = none) (h:ET Z ρ O e (.lst ts)) (q:∀ a,O a = none→Φ (.raw (.ref a)) (AV O a ts)) (hg:Gl Z.X "list":=by rfl) (he:starEach [e] Z.X.env = (false,eval e Z.X.env) :: starEach [] Z.X.env:=by rfl):WE Z ρ O (.Call (.Name "list" p) [e] [] pos) Φ :=
 Cy FQ m NY (AI h AE he _ (fun H vs Q ok r k => by
  obtain ⟨v,rfl,r1⟩:=r.one_inv
  obtain ⟨a,xs,rfl,h1,_,r1⟩:=r1.lst_inv
  exact ⟨a,xs,rfl,.inl (.inl (.inl h1)),fun p hp => k _ _ _ _ (q p (ok.none_of hp)) (.newO ok hp r1) (.raw _)⟩)) hg (by decide) (by decide) he
end
end L2.TL
namespace K02
open PySem L2 L2.TL PySem.Spec PyProof.Rows
section
variable {P:Program} {w:World} {K:PySem.W.Frag} {mg:Str→Option Value} {base:Heap} {CW CR fi:Addr}
theorem UK {n:Int} {ps rs:List (Int × Int)} (n1:n≤16) (hp:∀ p∈ps,Ab n p) (hm:∀ q,q∈rs↔q∈ps.map mm):∀ p∈rs,p.1.natAbs < 10 ^ 12∧p.2.natAbs < 10 ^ 12:=fun p h => by
 obtain ⟨z,hz,rfl⟩:=List.mem_map.mp ((hm p).mp h)
 have:=hp z hz
 unfold Ab at this
 unfold mm
 simp only
 omega
theorem Fp:∀ {ps:List (Int × Int)},noLs (ps.map AB) = true
 | [] => rfl
 | p :: ps => by
  rw [List.map_cons]
  unfold noLs
  rw [Fp (ps:=ps)]
  rfl
theorem Pt {n:Int} {ps:List (Int × Int)}:noL (Hm n ps) = true:=by
 simp [noL,noLs,Fp]
inductive Look (n:Int) (us:List T):T→T→Prop
 | bad {i:Nat} {u:T} (e:us[i]? = some u) (ah:∀ (j:Nat) (v:T),j < i→us[j]? = some v→Ar n v = true) (b:Ar n u = false):Look n us (.int i) .non
 | good {ps rs:List (Int × Int)} (e:us = ps.map AB) (hp:∀ p∈ps,Ab n p) (pw:rs.Pairwise Ii) (hm:∀ q,q∈rs↔q∈ps.map mm) (hl:rs.length≤ps.length):Look n us .non (Hm n rs)
theorem MA {f:Addr} {cdv:Value} {A:Around} {outer:List Env} {s:Shared} {H:Hp} {E:XK} {O:AJ} {Ξ:Value→AJ→Prop} {n:Int} {us:List T} {num due:T} {Φ:BM} {N:GT} (Tx:Txt mg) (B:Cat P w K mg base CW CR fi) (G:FnT P w K mg base "web_of" 3 ["many","things"] (En CW)) (hr:Room 4 (zR P w K mg base f cdv A outer s H E O Ξ).X.A) (n0:1≤n) (n1:n≤16) (hu:∀ u∈us,Th u) (hl:us.length≤300)
  (hO:∀ a vs,O a = some vs→noLs vs = true) (td:Look n us num due) (q:Φ (.bl true) O) :
  Ef (zR P w K mg base f cdv A outer s H E O Ξ) [some (.int n),some (.lst us),some num,some due,none,none,none,none] O ((AT DL).drop 1) { nx:=N,rt:=Φ }:=by
 have hk:=B.c.ek
 have wh:Hu (.int n) 1 16 = true:=by
  show (decide (1≤n) && decide (n≤16)) = true
  simp [n0,n1]
 refine AH (AS 4 (Lz Tx.nList (ev 1) fun a ha => ?_) BX.nd)
 have hO1:∀ b vs,AV O a us b = some vs→b≠a→noLs vs = true:=fun b vs e hb => hO b vs (by rw [AQ hb] at e; exact e)
 refine AH (AS 5 (ET.we Be ?_) BX.nd)
 refine AH (AS 6 (ET.we Be ?_) BX.nd)
 refine AH (Ko (i:=7) (fun cls O' => ∃ i:Nat,num = .int i∧due = .non∧cls = Nk CW i∧O' = AV O a us) (fun pins E' H1 fr xf1 => ?_) (fun cls O' ⟨i,_,_,e,_⟩ => ⟨CW,.inr ⟨_,e⟩,B.kt⟩) (fun y cls O' C x o H1 hc h1 fr hz => ?_) rfl rfl rfl BX.nd rfl rfl B.mR B.bR rfl (by decide))
 ·refine AN (AS 5 (Lw (Z:=⟨Bn (zR P w K mg base f cdv A outer s H E O Ξ).X pins E',AV O a us,H1,fun cls O' => ∃ i:Nat,num = .int i∧due = .non∧cls = Nk CW i∧O' = AV O a us⟩) (us:=us) (ts':=[.int n,.lst us]) G (hr.mono (by decide)) xf1 AF hO1 (AU (ev 0) (AU (ev 4) AE)) (.same (.lent .nil)) ⟨.int n,us,rfl,rfl,fun u h => (hu u h).1,hl,fun z => ?_,fun m e m0 m1 => ?_⟩) BX.nd)
  ·rw [wh] at z; cases z
  ·cases e
   cases td with
   | @bad i u e1 ah b =>
    refine ⟨fun i' u' e' ah' b' => ⟨rfl,i,rfl,rfl,by rw [KB e1 ah b e' ah' b'],rfl⟩,fun ps e2 hp => ?_⟩
    subst e2
    rw [Fo hp e1] at b
    cases b
   | @good ps rs e1 hp pw hm hl1 =>
    subst e1
    refine ⟨fun i' u' e' _ b' => ?_,fun ps' e2 hp' rs' pw' hm' _ => ⟨rfl,Pt,?_⟩⟩
    ·rw [Fo hp e'] at b'
     cases b'
    ·obtain rfl:=Gi e2
     obtain rfl:=PY pw pw' (fun z => (hm z).trans (hm' z).symm)
     exact Gm Tx hr ha n0 n1 hu hl (.inr ⟨rs,rfl,rfl,rfl,rfl,UK n1 hp hm,by rw [List.length_map] at hl; omega⟩) q
 ·obtain ⟨i,rfl,rfl,rfl,rfl⟩:=hc
  obtain rfl:=HK.cls_of h1
  have exc:=HK.exc (y:=y) h1 fr hz
  have exf:=HK.exf (y:=y) h1 fr hz
  rw [Ei] at exf
  have rH:RoomH 1 (zH (zR P w K mg base f cdv A outer s H E O Ξ) y (AV O a us) (upd H1 x o)).X.A:=(Room.toH (hr.mono (by decide)))
  refine AH (Am (k:=false) (EW.eb (EW.cast (BS (SQ (Qc B.hk rH exc (ev 7)) Jh) fun _ => CK (Al (Ci (Nn B.wh rH (AU (Ej hk B.c.hd (B.c.nf _ (by simp)) exf (ev 7) rfl) AE) ⟨_,rfl,rfl,rfl⟩)))) rfl)) (fun h => by cases h) fun _ => Ap ?_)
  refine AN (AS 6 (ET.we (Ej hk B.c.hd (B.c.nf _ (by simp)) exf (ev 7) rfl) ?_) BX.nd)
  exact Gm Tx hr ha n0 n1 hu hl (.inl ⟨i,rfl,rfl,rfl,rfl⟩) q
theorem OH {f:Addr} {fd:FuncData} (F:Fun K "_law_right" "_law_right" DL f fd) (Tx:Txt mg) (B:Cat P w K mg base CW CR fi) (Gd:FnT P w K mg base "_law_due" 2 ["_law_many","_law_things"] Qa) (G:FnT P w K mg base "web_of" 3 ["many","things"] (En CW)):FnOk P w K mg base (CXe P w) 5 f fd ["_law_many","_law_things"] (EY K LB):=by
 refine Ax F BX ?_ ?_
 ·rintro ts O Φ Ξ ⟨n,us,rfl,_⟩
  rfl
 ·rintro cdv A outer s H E O Ξ hr xf _ Φ ⟨n,us,rfl,n0,n1,hu,hl,hO,q⟩
  have dn:∀ num due,Look n us num due→Ef (zR P w K mg base f cdv A outer s H E O Ξ) [some (.int n),some (.lst us),some num,some due,none,none,none,none] O ((AT DL).drop 1) { nx:=fun _ O' => Φ .non O',rt:=Φ }:=fun num due td => MA Tx B G hr n0 n1 hu hl hO td q
  refine AH (Jl (n:=8) (Ad Gd (hr.mono (by decide)) xf (EA.wa (AU (ev 0) (AU (ev 1) AE)) ⟨n,us,rfl,n0,n1,fun u h => (hu u h).1,hl,fun i u e ah b => ⟨[some (.int n),some (.lst us),some (.int i),some .non,none,none,none,none],Bo 2 3 rfl BX.nd (by show 2 < 8; decide) (by show 3 < 8; decide),dn _ _ (.bad e ah b)⟩,
   fun ps e hp rs pw hm hl1 => ⟨[some (.int n),some (.lst us),some .non,some (Hm n rs),none,none,none,none],Bo 2 3 rfl BX.nd (by show 2 < 8; decide) (by show 3 < 8; decide),dn _ _ (.good e hp pw hm hl1)⟩⟩)))
end
section
variable {P:Program} {w:World} {K:PySem.W.Frag} {mg:Str→Option Value} {base:Heap} {f:Addr} {cdv:Value} {A:Around} {outer:List Env} {s:Shared} {H:Hp} {E:XK} {O0 O2:AJ} {Ξ:Value→AJ→Prop} {p:Addr} {most way n:Int} {es:List (Int × Int)} {v5:Option T} {Φ:BM} {N:GT}
theorem WP (hr:Room 2 (zS P w K mg base f cdv A outer s H E O0 Ξ).X.A) (xf:XFly (zS P w K mg base f cdv A outer s H E O0 Ξ).X (zS P w K mg base f cdv A outer s H E O0 Ξ).W) (Tx:Txt mg) (G:FnT P w K mg base "_law_draw" 2 ["_law_pen","_law_many"] Ai) (po2:PO O0 p O2) (w0:0≤way) (n0:1≤n) (n1:n≤16) (he:∀ q∈es,AO n q) (hz:es.length≤256)
  (q:∀ (ps:List (Int × Int)) (O':AJ),(∀ q∈ps,AO n q)→ps.length≤256→PO O0 p O'→Φ (.tup [.int n,.tup (ps.map AB)]) O') (w3:way < 3):HS (zS P w K mg base f cdv A outer s H E O0 Ξ) (DM p most way n es v5) O2 (UD (EK 4)) { nx:=N,rt:=Φ }:=by
 have sb:=Av
 refine ⟨?_⟩
 obtain ⟨mm,em,mm0,mm1⟩:=UC w0 w3
 refine AN (AY (BH (BQ (ET.we (ev 3) (BQ (BO Tx.nTuple (GV (nc:=["_law_pair"]) (cap:=[("_law_pen",0),("_law_way",2)]) rfl (EZ (AA BR) CS (by decide +kernel)) (EI.wi (Cz (ev 4)) ?_))))))))
 refine ⟨fun i acc O' => ∃ qs:List (Int × Int),acc = qs.map AB∧(∀ z∈qs,AO n z)∧qs.length≤i∧i≤256∧PO O0 p O',⟨[],rfl,by simp,by simp,by omega,po2⟩,?_,?_⟩
 ·rintro i t acc O' c e ⟨qs,rfl,hq,hl,_,po⟩ hc
  rw [List.getElem?_map] at e
  cases ee:es[i]? with
  | none => rw [ee] at e; cases e
  | some z =>
   rw [ee] at e
   cases e
   have hi:=(List.getElem?_eq_some_iff.mp ee).1
   refine ⟨[some (AB z),some (.raw (.ref p)),some (.int way)],fun X' Oe He is => ?_⟩
   obtain ⟨cl,s',H',fp,rfl⟩:=is
   refine ⟨Ae 0 Ty (by decide),HY (HU Fv (Ak _) (Bh G hr DZ po hc (ev 1) (NR (Bf (AU AC (AU AC (AU AC AE))) (by show 3≤sizeLine; decide)) (ev 2) em) mm0 mm1 fun r O3 r0 r1 po3 hc3 => ET.we AC (FU _ ⟨_,rfl,?_⟩)))⟩
   refine RG (fun h => ?_) (fun h => ?_)
   ·rintro X' Oe He ⟨cl,s',H',fp,rfl⟩
    refine ET.we (ev 0) ⟨O3,rfl,hc3,by rw [List.length_map]; omega,qs ++ [z],by rw [List.map_append]; rfl,fun y hy => ?_,by simp; omega,by omega,po3⟩
    rcases List.mem_append.mp hy with hy | hy
    ·exact hq y hy
    ·rw [List.mem_singleton.mp hy]; exact he z (List.mem_of_getElem? ee)
   ·exact ⟨O3,rfl,hc3,qs,rfl,hq,by omega,by omega,po3⟩
 ·rintro acc O' ⟨qs,rfl,hq,hl,_,po⟩
  rw [List.length_map] at hl
  exact ⟨_,rfl,AX ⟨by show 2≤sizeLine; decide,q qs O' hq (by omega) po⟩⟩
end
section
variable {P:Program} {w:World} {K:PySem.W.Frag} {mg:Str→Option Value} {base:Heap} {f:Addr} {cdv:Value} {A:Around} {outer:List Env} {s:Shared} {H:Hp} {E:XK} {O0 O2:AJ} {Ξ:Value→AJ→Prop} {p:Addr} {most way n:Int} {es:List (Int × Int)} {v5:Option T} {Φ:BM} {N:GT}
theorem WQ (hr:Room 2 (zS P w K mg base f cdv A outer s H E O0 Ξ).X.A) (xf:XFly (zS P w K mg base f cdv A outer s H E O0 Ξ).X (zS P w K mg base f cdv A outer s H E O0 Ξ).W) (Tx:Txt mg) (G:FnT P w K mg base "_law_draw" 2 ["_law_pen","_law_many"] Ai) (po2:PO O0 p O2) (w0:0≤way) (n0:1≤n) (n1:n≤16) (he:∀ q∈es,AO n q) (hz:es.length≤256)
  (q:∀ (ps:List (Int × Int)) (O':AJ),(∀ q∈ps,AO n q)→ps.length≤256→PO O0 p O'→Φ (.tup [.int n,.tup (ps.map AB)]) O') (n2:2 < n) (Gt:FnT P w K mg base "_law_turned" 2 ["_law_many","_law_steps"] Cm):HS (zS P w K mg base f cdv A outer s H E O0 Ξ) (DM p most way n es v5) O2 (UD (EK 5)) { nx:=N,rt:=Φ }:=by
 have sb:=Av
 refine ⟨?_⟩
 refine AN (AY (Ad Gt hr xf (BQ (ET.we (ev 3) (BQ (GV (nc:=["_law_step"]) (cap:=[("_law_pen",0)]) rfl (EZ (AA BR) CS (by decide +kernel)) (EI.wi (GU Tx.nRange AC (CI (HQ (ev 3) AC ⟨by decide,by decide⟩) AC) ⟨by decide,by decide,by omega,by omega⟩) ?_)))))))
 refine ⟨fun i acc O' => ∃ ss:List Int,acc = ss.map T.int∧(∀ z∈ss,1≤z∧z < n)∧ss.length≤i∧i≤16∧PO O0 p O',⟨[],rfl,by simp,by simp,by omega,po2⟩,?_,?_⟩
 ·rintro i t acc O' c e ⟨qs,rfl,hq,hl,_,po⟩ hc
  obtain ⟨hi,rfl⟩:=Bg e
  refine ⟨[some (.int (1 + i)),some (.raw (.ref p))],fun X' Oe He is => ?_⟩
  obtain ⟨cl,s',H',fp,rfl⟩:=is
  refine ⟨Ae 0 Tz (by decide),HY (HU Fv (Ak _) (Bh G hr DZ po hc (ev 1) AC (by decide) (by decide) fun r O3 r0 r1 po3 hc3 => ET.we AC (FU _ ⟨_,rfl,?_⟩)))⟩
  refine RG (fun h => ?_) (fun h => ?_)
  ·rintro X' Oe He ⟨cl,s',H',fp,rfl⟩
   refine ET.we (ev 0) ⟨O3,rfl,hc3,by rw [List.length_map]; omega,qs ++ [1 + (i:Int)],by rw [List.map_append]; rfl,fun y hy => ?_,by simp; omega,by omega,po3⟩
   rcases List.mem_append.mp hy with hy | hy
   ·exact hq y hy
   ·rw [List.mem_singleton.mp hy]; omega
  ·exact ⟨O3,rfl,hc3,qs,rfl,hq,by omega,by omega,po3⟩
 ·rintro acc O' ⟨ss,rfl,hq,hl,hl2,po⟩
  exact AX ⟨n,ss,rfl,by omega,by omega,by omega,hq,fun qs _ h2 h3 => q qs O' h2 h3 po⟩
end
section
variable {P:Program} {w:World} {K:PySem.W.Frag} {mg:Str→Option Value} {base:Heap} {f:Addr} {cdv:Value} {A:Around} {outer:List Env} {s:Shared} {H:Hp} {E:XK} {O0 O2:AJ} {Ξ:Value→AJ→Prop} {p:Addr} {most way n:Int} {es:List (Int × Int)} {v5:Option T} {Φ:BM} {N:GT}
theorem WR (hr:Room 2 (zS P w K mg base f cdv A outer s H E O0 Ξ).X.A) (xf:XFly (zS P w K mg base f cdv A outer s H E O0 Ξ).X (zS P w K mg base f cdv A outer s H E O0 Ξ).W) (Tx:Txt mg) (G:FnT P w K mg base "_law_draw" 2 ["_law_pen","_law_many"] Ai) (po2:PO O0 p O2) (w0:0≤way) (n0:1≤n) (n1:n≤16) (he:∀ q∈es,AO n q) (hz:es.length≤256)
  (q:∀ (ps:List (Int × Int)) (O':AJ),(∀ q∈ps,AO n q)→ps.length≤256→PO O0 p O'→Φ (.tup [.int n,.tup (ps.map AB)]) O')  : HS (zS P w K mg base f cdv A outer s H E O0 Ξ) (DM p most way n es v5) O2 (UD (EK 6)) { nx:=N,rt:=Φ }:=by
 have sb:=Av
 refine ⟨?_⟩
 refine AH (AS 6 (DC Do (ET.we AC (CQ G hr xf po2 (ev 0) (ev 3) (by omega) (by omega) fun side O3 u0 u1 po3 => FS _ ?_))) Bq.nd)
 refine AN (AY (BH (BQ (ET.we (ev 3) (BQ (ET.we (Fb Tx.nTuple (Rv ["_law_one","_law_other"] [("_law_side",6)] es AB AB (fun z => !(decide (z.1 < 1 + side) == decide (z.2 < 1 + side))) rfl (EZ (AA BR) CS (by decide +kernel)) (Cz (ev 4)) (by omega) fun x hx => ⟨[some (.int x.1),some (.int x.2),some (.int (1 + side))],fun X' Oe He is O' => ?_⟩)) (AX ⟨by show 2≤sizeLine; decide,?_⟩)))))))
 ·obtain ⟨cl,s',H',fp,rfl⟩:=is
  exact ⟨Bo 0 1 rfl UA (by decide) (by decide),Rg (QN (ev 0) (ev 2)) (QN (ev 1) (ev 2)),fun _ => CO (ev 0) (ev 1)⟩
 ·exact q _ O3 (fun z hz => he z (List.mem_filter.mp hz).1) (Nat.le_trans (List.length_filter_le _ _) hz) po3
end
section
variable {P:Program} {w:World} {K:PySem.W.Frag} {mg:Str→Option Value} {base:Heap} {f:Addr} {cdv:Value} {A:Around} {outer:List Env} {s:Shared} {H:Hp} {E:XK} {O0 O2:AJ} {Ξ:Value→AJ→Prop} {p:Addr} {most way n:Int} {es:List (Int × Int)} {v5:Option T} {Φ:BM} {N:GT}
theorem WU (hr:Room 2 (zS P w K mg base f cdv A outer s H E O0 Ξ).X.A) (xf:XFly (zS P w K mg base f cdv A outer s H E O0 Ξ).X (zS P w K mg base f cdv A outer s H E O0 Ξ).W) (Tx:Txt mg) (G:FnT P w K mg base "_law_draw" 2 ["_law_pen","_law_many"] Ai) (po2:PO O0 p O2) (w0:0≤way) (n0:1≤n) (n1:n≤16) (he:∀ q∈es,AO n q) (hz:es.length≤256)
  (q:∀ (ps:List (Int × Int)) (O':AJ),(∀ q∈ps,AO n q)→ps.length≤256→PO O0 p O'→Φ (.tup [.int n,.tup (ps.map AB)]) O') (q10:∀ (ps:List (Int × Int)) (O':AJ),(∀ q∈ps,AO 10 q)→ps.length≤256→PO O0 p O'→Φ (.tup [.int 10,.tup (ps.map AB)]) O'):HS (zS P w K mg base f cdv A outer s H E O0 Ξ) (DM p most way n es v5) O2 (UD (EK 7)) { nx:=N,rt:=Φ }:=by
 have sb:=Av
 refine ⟨?_⟩
 refine AH ?_
 refine Km (ts:=List.map AB [(0,1),(1,2),(2,3),(3,4),(0,4),(5,7),(7,9),(6,9),(6,8),(5,8)]) 7 ?hE ?hl ?hk Bq.nd ?ha ?hb ?hc
 case ha => rfl
 case hb => exact Or.inl rfl
 case hc => exact .inl rfl
 case hE => exact CPs.hea (ps:=[(0,1),(1,2),(2,3),(3,4),(0,4),(5,7),(7,9),(6,9),(6,8),(5,8)]) (.cons (.cons (.cons (.cons (.cons (.cons (.cons (.cons (.cons (.cons .nil))))))))))
 case hl =>
  rw [List.length_map]
  exact Nat.le_trans (show 10≤1000 by decide) (Nat.le_of_lt sb)
 refine AN ?_
 refine AY ?_
 refine BH ?_
 refine BQ (ET.we AC ?_)
 refine BQ ?_
 refine ET.we (t:=.tup (List.map AB [(0,1),(1,2),(2,3),(3,4),(0,4),(5,7),(7,9),(6,9),(6,8),(5,8)] ++ (List.range 5).map fun (j:Nat) => AB (0 + (j:Int),0 + (j:Int) + 5))) ?u3 ?u4
 case u3 =>
  refine Fb Tx.nTuple ?_
  refine Hf (ev 7) ?_ (by rw [List.length_map,List.length_map]; exact Nat.le_trans (show 15≤1000 by decide) (Nat.le_of_lt sb))
  refine EE ["_law_place"] [] (List.range 5) (fun (j:Nat) => .int (0 + (j:Int))) (fun (j:Nat) => AB (0 + (j:Int),0 + (j:Int) + 5)) rfl (EZ (AA BR) CS (by decide +kernel)) ?_ (by show 5≤sizeLine; decide) ?_
  ·exact BE (k:=5) Tx.nRange AC ⟨by decide,by decide⟩
  ·intro x hx
   refine ⟨[some (.int (0 + x))],fun X' Oe He is O' => ?_⟩
   obtain ⟨cl,s',H',fp,rfl⟩:=is
   exact ⟨Ae 0 QZ (by decide),CO (ev 0) (CI (ev 0) AC)⟩
 refine AX ⟨by show 2≤sizeLine; decide,?_⟩
 refine q10 [(0,1),(1,2),(2,3),(3,4),(0,4),(5,7),(7,9),(6,9),(6,8),(5,8),(0,5),(1,6),(2,7),(3,8),(4,9)] O2 ?_ (by decide) po2
 unfold AO
 decide
end
section
variable {P:Program} {w:World} {K:PySem.W.Frag} {mg:Str→Option Value} {base:Heap} {f:Addr} {cdv:Value} {A:Around} {outer:List Env} {s:Shared} {H:Hp} {E:XK} {O0 O2:AJ} {Ξ:Value→AJ→Prop} {p:Addr} {most way n:Int} {es:List (Int × Int)} {v5:Option T} {Φ:BM} {N:GT}
theorem WV (hr:Room 2 (zS P w K mg base f cdv A outer s H E O0 Ξ).X.A) (xf:XFly (zS P w K mg base f cdv A outer s H E O0 Ξ).X (zS P w K mg base f cdv A outer s H E O0 Ξ).W) (Tx:Txt mg) (G:FnT P w K mg base "_law_draw" 2 ["_law_pen","_law_many"] Ai) (po2:PO O0 p O2) (w0:0≤way) (n0:1≤n) (n1:n≤16) (he:∀ q∈es,AO n q) (hz:es.length≤256)
  (q:∀ (ps:List (Int × Int)) (O':AJ),(∀ q∈ps,AO n q)→ps.length≤256→PO O0 p O'→Φ (.tup [.int n,.tup (ps.map AB)]) O') (n2:2 < n):HS (zS P w K mg base f cdv A outer s H E O0 Ξ) (DM p most way n es v5) O2 (UD (EK 8)) { nx:=N,rt:=Φ }:=by
 have sb:=Av
 refine ⟨?_⟩
 refine AN (AY (BH (BQ (ET.we (ev 3) (BQ (ET.we (Fb Tx.nTuple (Hf (us:=[AB (0,n - 1)]) (EE ["_law_place"] [] (List.range (n - 1).toNat) (fun j => .int (0 + j)) (fun j => AB (0 + j,0 + j + 1)) rfl (EZ (AA BR) CS (by decide +kernel)) (BE Tx.nRange (FT (ev 3) AC) ⟨by omega,by omega⟩) (by simp; omega) fun x hx => ⟨[some (.int (0 + x))],fun X' Oe He is O' => ?_⟩) (Bf (AU (CO AC (FT (ev 3) AC)) AE) (by show 1≤sizeLine; decide)) (by simp; omega))) (AX ⟨by show 2≤sizeLine; decide,?_⟩)))))))
 ·obtain ⟨cl,s',H',fp,rfl⟩:=is
  exact ⟨Ae 0 QZ (by decide),CO (ev 0) (CI (ev 0) AC)⟩
 ·have:=q ((List.range (n - 1).toNat).map (fun (j:Nat) => (0 + (j:Int),0 + (j:Int) + 1)) ++ [(0,n - 1)]) O2 (fun z hz => by
   rcases List.mem_append.mp hz with hz | hz
   ·obtain ⟨j,hj,rfl⟩:=List.mem_map.mp hz
    have:=List.mem_range.mp hj
    show 0≤0 + (j:Int)∧0 + (j:Int) < 0 + (j:Int) + 1∧0 + (j:Int) + 1 < n
    omega
   ·rw [List.mem_singleton.mp hz]
    show (0:Int)≤0∧0 < n - 1∧n - 1 < n
    omega) (by simp; omega) po2
  rw [List.map_append,List.map_map] at this
  exact this
end
section
variable {P:Program} {w:World} {K:PySem.W.Frag} {mg:Str→Option Value} {base:Heap} {f:Addr} {cdv:Value} {A:Around} {outer:List Env} {s:Shared} {H:Hp} {E:XK} {O0 O2:AJ} {Ξ:Value→AJ→Prop} {p:Addr} {most way n:Int} {es:List (Int × Int)} {v5:Option T} {Φ:BM} {N:GT}
theorem WX (hr:Room 2 (zS P w K mg base f cdv A outer s H E O0 Ξ).X.A) (xf:XFly (zS P w K mg base f cdv A outer s H E O0 Ξ).X (zS P w K mg base f cdv A outer s H E O0 Ξ).W) (Tx:Txt mg) (G:FnT P w K mg base "_law_draw" 2 ["_law_pen","_law_many"] Ai) (po2:PO O0 p O2) (w0:0≤way) (n0:1≤n) (n1:n≤16) (he:∀ q∈es,AO n q) (hz:es.length≤256)
  (q:∀ (ps:List (Int × Int)) (O':AJ),(∀ q∈ps,AO n q)→ps.length≤256→PO O0 p O'→Φ (.tup [.int n,.tup (ps.map AB)]) O')  : HS (zS P w K mg base f cdv A outer s H E O0 Ξ) (DM p most way n es v5) O2 ([EK 9]) { nx:=N,rt:=Φ }:=by
 have sb:=Av
 refine ⟨?_⟩
 refine AN (AY (BH (BQ (ET.we (ev 3) (BQ (BO Tx.nTuple (GV (nc:=["_law_place"]) (cap:=[("_law_pen",0)]) rfl (EZ (AA BR) CS (by decide +kernel)) (EI.wi (GU Tx.nRange AC (ev 3) ⟨by decide,by decide,by omega,by omega⟩) ?_))))))))
 refine ⟨fun i acc O' => ∃ qs:List (Int × Int),acc = qs.map AB∧(∀ z∈qs,AO n z)∧qs.length≤i∧i≤16∧PO O0 p O',⟨[],rfl,by simp,by simp,by omega,po2⟩,?_,?_⟩
 ·rintro i t acc O' c e ⟨qs,rfl,hq,hl,_,po⟩ hc
  obtain ⟨hi,rfl⟩:=Bg e
  refine ⟨[some (.int (1 + i)),some (.raw (.ref p))],fun X' Oe He is => ?_⟩
  obtain ⟨cl,s',H',fp,rfl⟩:=is
  refine ⟨Ae 0 UB (by decide),HX (IG ?_)⟩
  rintro X' Oe He ⟨cl,s',H',fp,rfl⟩
  refine BH (BQ (Bh G hr DZ po hc (ev 1) (ev 0) (by omega) (by omega) fun r O3 r0 r1 po3 hc3 => EA.wa (AU (ev 0) AE) ⟨by show 2≤sizeLine; decide,O3,rfl,hc3,by rw [List.length_map]; omega,qs ++ [(r,1 + (i:Int))],by rw [List.map_append]; rfl,fun y hy => ?_,by simp; omega,by omega,po3⟩))
  rcases List.mem_append.mp hy with hy | hy
  ·exact hq y hy
  ·rw [List.mem_singleton.mp hy]
   show 0≤r∧r < 1 + (i:Int)∧1 + (i:Int) < n
   omega
 ·rintro acc O' ⟨qs,rfl,hq,hl,hl2,po⟩
  exact ⟨_,rfl,AX ⟨by show 2≤sizeLine; decide,q qs O' hq (by omega) po⟩⟩
end
section
variable {P:Program} {w:World} {K:PySem.W.Frag} {mg:Str→Option Value} {base:Heap} {f:Addr} {cdv:Value} {A:Around} {outer:List Env} {s:Shared} {H:Hp} {E:XK} {O0 O2:AJ} {Ξ:Value→AJ→Prop} {p:Addr} {most way n:Int} {es:List (Int × Int)} {v5:Option T} {Φ:BM} {N:GT}
theorem t9 (hr:Room 2 (zS P w K mg base f cdv A outer s H E O0 Ξ).X.A) (xf:XFly (zS P w K mg base f cdv A outer s H E O0 Ξ).X (zS P w K mg base f cdv A outer s H E O0 Ξ).W) (Tx:Txt mg) (G:FnT P w K mg base "_law_draw" 2 ["_law_pen","_law_many"] Ai) (po2:PO O0 p O2) (w0:0≤way) (n0:1≤n) (n1:n≤16) (he:∀ q∈es,AO n q) (hz:es.length≤256)
  (q:∀ (ps:List (Int × Int)) (O':AJ),(∀ q∈ps,AO n q)→ps.length≤256→PO O0 p O'→Φ (.tup [.int n,.tup (ps.map AB)]) O'):HS (zS P w K mg base f cdv A outer s H E O0 Ξ) (DM p most way n es v5) O2 ([EK 9]) { nx:=N,rt:=Φ }:=by
 exact WX hr xf Tx G po2 w0 n0 n1 he hz q
theorem t8 (hr:Room 2 (zS P w K mg base f cdv A outer s H E O0 Ξ).X.A) (xf:XFly (zS P w K mg base f cdv A outer s H E O0 Ξ).X (zS P w K mg base f cdv A outer s H E O0 Ξ).W) (Tx:Txt mg) (G:FnT P w K mg base "_law_draw" 2 ["_law_pen","_law_many"] Ai) (po2:PO O0 p O2) (w0:0≤way) (n0:1≤n) (n1:n≤16) (he:∀ q∈es,AO n q) (hz:es.length≤256)
  (q:∀ (ps:List (Int × Int)) (O':AJ),(∀ q∈ps,AO n q)→ps.length≤256→PO O0 p O'→Φ (.tup [.int n,.tup (ps.map AB)]) O'):HS (zS P w K mg base f cdv A outer s H E O0 Ξ) (DM p most way n es v5) O2 ([EK 8,EK 9]) { nx:=N,rt:=Φ }:=by
 refine Im (EW.eb (FW (Cj (ev 2) AC) fun _ => DX (Kc (ev 3) AC))) (fun h => ?_) (fun h => t9 hr xf Tx G po2 w0 n0 n1 he hz q)
 have h:(decide (way = 6) && decide (2 < n)) = true:=h
 have n2:2 < n:=by simp at h; exact h.2
 exact WV hr xf Tx G po2 w0 n0 n1 he hz q n2
theorem t7 (hr:Room 2 (zS P w K mg base f cdv A outer s H E O0 Ξ).X.A) (xf:XFly (zS P w K mg base f cdv A outer s H E O0 Ξ).X (zS P w K mg base f cdv A outer s H E O0 Ξ).W) (Tx:Txt mg) (G:FnT P w K mg base "_law_draw" 2 ["_law_pen","_law_many"] Ai) (po2:PO O0 p O2) (w0:0≤way) (n0:1≤n) (n1:n≤16) (he:∀ q∈es,AO n q) (hz:es.length≤256)
  (q:∀ (ps:List (Int × Int)) (O':AJ),(∀ q∈ps,AO n q)→ps.length≤256→PO O0 p O'→Φ (.tup [.int n,.tup (ps.map AB)]) O') (q10:9 < most→∀ (ps:List (Int × Int)) (O':AJ),(∀ q∈ps,AO 10 q)→ps.length≤256→PO O0 p O'→Φ (.tup [.int 10,.tup (ps.map AB)]) O'):HS (zS P w K mg base f cdv A outer s H E O0 Ξ) (DM p most way n es v5) O2 ([EK 7,EK 8,EK 9]) { nx:=N,rt:=Φ }:=by
 refine Im (EW.eb (FW (Cj (ev 2) AC) fun _ => DX (Kc (ev 1) AC))) (fun h => ?_) (fun h => t8 hr xf Tx G po2 w0 n0 n1 he hz q)
 have h:(decide (way = 5) && decide (9 < most)) = true:=h
 have n2:9 < most:=by simp at h; exact h.2
 exact WU hr xf Tx G po2 w0 n0 n1 he hz q (q10 n2)
theorem t6 (hr:Room 2 (zS P w K mg base f cdv A outer s H E O0 Ξ).X.A) (xf:XFly (zS P w K mg base f cdv A outer s H E O0 Ξ).X (zS P w K mg base f cdv A outer s H E O0 Ξ).W) (Tx:Txt mg) (G:FnT P w K mg base "_law_draw" 2 ["_law_pen","_law_many"] Ai) (po2:PO O0 p O2) (w0:0≤way) (n0:1≤n) (n1:n≤16) (he:∀ q∈es,AO n q) (hz:es.length≤256)
  (q:∀ (ps:List (Int × Int)) (O':AJ),(∀ q∈ps,AO n q)→ps.length≤256→PO O0 p O'→Φ (.tup [.int n,.tup (ps.map AB)]) O') (q10:9 < most→∀ (ps:List (Int × Int)) (O':AJ),(∀ q∈ps,AO 10 q)→ps.length≤256→PO O0 p O'→Φ (.tup [.int 10,.tup (ps.map AB)]) O'):HS (zS P w K mg base f cdv A outer s H E O0 Ξ) (DM p most way n es v5) O2 ([EK 6,EK 7,EK 8,EK 9]) { nx:=N,rt:=Φ }:=by
 exact Im (Cj (ev 2) AC) (fun h => WR hr xf Tx G po2 w0 n0 n1 he hz q) (fun h => t7 hr xf Tx G po2 w0 n0 n1 he hz q q10)
theorem t5 (hr:Room 2 (zS P w K mg base f cdv A outer s H E O0 Ξ).X.A) (xf:XFly (zS P w K mg base f cdv A outer s H E O0 Ξ).X (zS P w K mg base f cdv A outer s H E O0 Ξ).W) (Tx:Txt mg) (G:FnT P w K mg base "_law_draw" 2 ["_law_pen","_law_many"] Ai) (po2:PO O0 p O2) (w0:0≤way) (n0:1≤n) (n1:n≤16) (he:∀ q∈es,AO n q) (hz:es.length≤256)
  (q:∀ (ps:List (Int × Int)) (O':AJ),(∀ q∈ps,AO n q)→ps.length≤256→PO O0 p O'→Φ (.tup [.int n,.tup (ps.map AB)]) O') (q10:9 < most→∀ (ps:List (Int × Int)) (O':AJ),(∀ q∈ps,AO 10 q)→ps.length≤256→PO O0 p O'→Φ (.tup [.int 10,.tup (ps.map AB)]) O') (Gt:FnT P w K mg base "_law_turned" 2 ["_law_many","_law_steps"] Cm):HS (zS P w K mg base f cdv A outer s H E O0 Ξ) (DM p most way n es v5) O2 ([EK 5,EK 6,EK 7,EK 8,EK 9]) { nx:=N,rt:=Φ }:=by
 refine Im (EW.eb (FW (Cj (ev 2) AC) fun _ => DX (Kc (ev 3) AC))) (fun h => ?_) (fun h => t6 hr xf Tx G po2 w0 n0 n1 he hz q q10)
 have h:(decide (way = 3) && decide (2 < n)) = true:=h
 have n2:2 < n:=by simp at h; exact h.2
 exact WQ hr xf Tx G po2 w0 n0 n1 he hz q n2 Gt
theorem t4 (hr:Room 2 (zS P w K mg base f cdv A outer s H E O0 Ξ).X.A) (xf:XFly (zS P w K mg base f cdv A outer s H E O0 Ξ).X (zS P w K mg base f cdv A outer s H E O0 Ξ).W) (Tx:Txt mg) (G:FnT P w K mg base "_law_draw" 2 ["_law_pen","_law_many"] Ai) (po2:PO O0 p O2) (w0:0≤way) (n0:1≤n) (n1:n≤16) (he:∀ q∈es,AO n q) (hz:es.length≤256)
  (q:∀ (ps:List (Int × Int)) (O':AJ),(∀ q∈ps,AO n q)→ps.length≤256→PO O0 p O'→Φ (.tup [.int n,.tup (ps.map AB)]) O') (q10:9 < most→∀ (ps:List (Int × Int)) (O':AJ),(∀ q∈ps,AO 10 q)→ps.length≤256→PO O0 p O'→Φ (.tup [.int 10,.tup (ps.map AB)]) O') (Gt:FnT P w K mg base "_law_turned" 2 ["_law_many","_law_steps"] Cm):HS (zS P w K mg base f cdv A outer s H E O0 Ξ) (DM p most way n es v5) O2 ([EK 4,EK 5,EK 6,EK 7,EK 8,EK 9]) { nx:=N,rt:=Φ }:=by
 exact Im (Tc (ev 2) AC) (fun h => WP hr xf Tx G po2 w0 n0 n1 he hz q (of_decide_eq_true h)) (fun h => t5 hr xf Tx G po2 w0 n0 n1 he hz q q10 Gt)
end
section
variable {P:Program} {w:World} {K:PySem.W.Frag} {mg:Str→Option Value} {base:Heap}
theorem OI {f:Addr} {fd:FuncData} (F:Fun K "_law_shape" "_law_shape" BR f fd) (Tx:Txt mg) (G:FnT P w K mg base "_law_draw" 2 ["_law_pen","_law_many"] Ai) (Gt:FnT P w K mg base "_law_turned" 2 ["_law_many","_law_steps"] Cm):FnOk P w K mg base (CXe P w) 3 f fd ["_law_pen","_law_most"] (EY K Ks):=by
 refine PR F Bq ?_ ?_
 ·rintro ts O Φ Ξ ⟨p,xs,m,rfl,_⟩
  rfl
 ·rintro cdv A outer s H E O0 Ξ hr xf _ Φ ⟨p,xs,most,rfl,hp,px,t0,t1,q⟩
  have sb:=Av
  refine Af (AS 2 (CQ G hr xf (PO.start hp px) (ev 0) AC (by decide) (by decide) fun way O1 w0 w1 po1 => ?_) Bq.nd)
  refine Af (AS 3 (DC Do (ET.we AC (CQ G hr xf po1 (ev 0) (ev 1) (by omega) (by omega) fun mm O2 u0 u1 po2 => FS _ ?_))) Bq.nd)
  have n0:1≤1 + mm:=by omega
  have n1:1 + mm≤most:=by omega
  generalize 1 + mm = n at n0 n1
  clear u0 u1 po1 mm
  have q':∀ (ps:List (Int × Int)) (O':AJ),(∀ q∈ps,AO n q)→ps.length≤256→PO O0 p O'→Φ (.tup [.int n,.tup (ps.map AB)]) O':=fun ps O' a b c => q n ps O' n0 n1 a b c
  refine Af (AS 4 (ET.we (Bf AE (Nat.zero_le _)) ?_) Bq.nd)
  refine Af (Ck BB.own rfl (EI.wi (BE Tx.nRange (ev 3) ⟨by omega,by omega⟩) ⟨fun i ρ' O' => ∃ (es:List (Int × Int)) (v5:Option T),ρ' = DM p most way n es v5∧O' = O2∧(∀ q∈es,AO n q)∧es.length≤16 * i,⟨[],none,rfl,rfl,by simp,by simp⟩,?_,?_⟩))
  ·rintro i t _ _ e ⟨es,v5,rfl,rfl,he,hz⟩
   obtain ⟨hi,rfl⟩:=Bg e
   refine ⟨DM p most way n es (some (.int (0 + i))),Ae 5 Bq.nd (by show 5 < 8; decide),?_⟩
   refine AN (AS 4 (ET.we (Hf (ev 4) (EE ["_law_one"] [("_law_other",5)] (List.range (0 + (i:Int)).toNat) (fun j => .int (0 + j)) (fun j => AB (0 + j,0 + i)) rfl (EZ (AA BR) CS (by decide +kernel)) (BE Tx.nRange (ev 5) ⟨by omega,by omega⟩) (by simp; omega) fun x hx => ⟨[some (.int (0 + x)),some (.int (0 + i))],fun X' Oe He is O' => ?_⟩) (by simp; omega)) ?_) Bq.nd)
   ·obtain ⟨cl,s',H',fp,rfl⟩:=is
    exact ⟨Ae 0 Tw (by decide),CO (ev 0) (ev 1)⟩
   ·refine ⟨es ++ (List.range (0 + (i:Int)).toNat).map fun (j:Nat) => (0 + (j:Int),0 + (i:Int)),some (.int (0 + (i:Int))),?_,rfl,fun z hz => ?_,by simp; omega⟩
    ·unfold DM
     rw [List.map_append,List.map_map]; rfl
    ·rcases List.mem_append.mp hz with hz | hz
     ·exact he z hz
     ·obtain ⟨j,hj,rfl⟩:=List.mem_map.mp hz
      have:=List.mem_range.mp hj
      show 0≤0 + (j:Int)∧0 + (j:Int) < 0 + (i:Int)∧0 + (i:Int) < n
      omega
  ·rintro _ _ ⟨es,v5,rfl,rfl,he,hz⟩
   rw [Au] at hz
   have hz:es.length≤256:=by omega
   have n16:n≤16:=by omega
   exact t4 hr xf Tx G po2 w0 n0 n16 he hz q' (fun n2 ps O' a b c => q 10 ps O' (by decide) (by omega) a b c) Gt
end
section
variable {Z:Zx} {ρ:List (Option T)} {O:AJ} {e lo:Expr} {p2 pos:Pos} {ts:List T} {i:Int} {Φ:BM}
theorem Pu (h:ET Z ρ O e (.lst ts)) (h2:WE Z ρ O lo fun u O' => ∃ i,u = .int i∧Φ (.lst (Ig ts (some i) none)) O'):WE Z ρ O (.Subscript e (.Slice (some lo) none none p2) pos) Φ:=by
 refine PE.weak (Ex Gy (Aw (ρ:=ρ)) (Ea (Aw (ρ:=ρ))) KJ) fun σ H0 Q q => ?_
 refine ⟨O,_,h (fun t O' => t = .lst ts∧O' = O) ⟨rfl,rfl⟩,q.1,?_⟩
 rintro v H1 _ _ ⟨rfl,rfl⟩ f1 r1
 refine ⟨_,_,h2,q.1.step f1,?_⟩
 rintro v2 H2 _ O2 ⟨i,rfl,k⟩ f2 r2
 obtain ⟨a,xs,rfl,h1,_,r1⟩:=(r1.kp f2.kp f1.ok).lst_inv
 have ff:=f1.trans f2
 exact ⟨i,r2.int_inv,a,xs,rfl,.inl (.inl h1),fun l hl => q.2 _ _ _ _ k (ff.trans (.new ff.ok hl)) (.lst AG (ff.ok.none_of hl) ((r1.cut).kp (BG ff.ok hl) ff.ok))⟩
theorem SR {ts:List T} {k:Nat}:Ig ts none (some (k:Int)) = ts.take k:=by
 unfold Ig
 rw [HT.IC,HT.KI,List.drop_zero,Nat.sub_zero]
 rcases Nat.le_total k ts.length with h | h
 ·rw [Nat.min_eq_left h]
 ·rw [Nat.min_eq_right h,List.take_of_length_le (Nat.le_refl _),List.take_of_length_le h]
theorem OJ {ts:List T} {k:Nat}:Ig ts (some (k:Int)) none = ts.drop k:=by
 unfold Ig
 rw [HT.IC,HT.KI]
 rcases Nat.le_total k ts.length with h | h
 ·rw [Nat.min_eq_left h,List.take_of_length_le (by rw [List.length_drop]; exact Nat.le_refl _)]
 ·rw [Nat.min_eq_right h,Nat.sub_self,List.take_zero,List.drop_of_length_le h]
end
def NL (O:AJ):Prop:=∀ a vs,O a = some vs→noLs vs = true
theorem NL.no:NL OR:=fun _ _ e => nomatch e
theorem Pv {xs:List T} (h:Ca xs):noLs xs = true:=by
 obtain ⟨a,b,c,rfl,_⟩:=h
 rfl
theorem NL.up {O:AJ} {p:Addr} {xs:List T} (h:NL O) (px:Ca xs):NL (AV O p xs):=fun a vs e => by
 by_cases ha:a = p
 ·rw [ha,AF] at e; cases e; exact Pv px
 ·rw [AQ ha] at e; exact h a vs e
theorem NL.po {O O':AJ} {p:Addr} (h:NL O) (po:PO O p O'):NL O':=by
 obtain ⟨xs,rfl,px⟩:=po
 exact h.up px
theorem LD (p:Int × Int):Th (AB p):=⟨Na p,PZ p,by simp [AB,dT,dTs,PyData.depth,PyData.depthAll]⟩
def Pw (n a:Int):List T:=[.tup [.int a,.int a],.tup [.int a,.int n],.tup [.int n,.int a],.tup [.int (-1),.int a],.tup [.bl true,.int a],.tup [.int a,.non],.lst [.int 0,.int 1],.non,.tup [.int a],.tup [.int 0,.int 1,.int 2],.str "01",.int 0]
theorem Px {n a:Int}:∀ t∈Pw n a,Th t:=by
 intro t ht
 simp only [Pw,List.mem_cons,List.not_mem_nil,or_false] at ht
 rcases ht with rfl | rfl | rfl | rfl | rfl | rfl | rfl | rfl | rfl | rfl | rfl | rfl <;> refine ⟨?_,?_,?_⟩ <;> first | (simp [JA,plBs,Dk,rdBs,dT,dTs,PyData.depth,PyData.depthAll]; done) | decide +kernel
def VM (i:Nat):Stmt:=(AT Lq).getD i (.Pass ⟨0,0,0,0⟩)
def VN:Stmt→Expr
 | .For _ e _ _ _ => e
 | _ => .Constant .none 0 ⟨0,0,0,0⟩
def SS:Stmt→List Stmt
 | .For _ _ b _ _ => b
 | _ => []
def UL (i:Nat):Stmt:=(SS ((SS (VM 2)).getD 4 (.Pass ⟨0,0,0,0⟩))).getD i (.Pass ⟨0,0,0,0⟩)
def ST:List Str:=["_law_script","_law_many","_law_cell","_law_pen","_law_ties","_law_things","_law_turn","_law_spot","_law_a","_law_odd"]
theorem Cp:FnScope ST ["_law_script"] (AA Lq):=⟨rfl,rfl,rfl,by decide +kernel,rfl,by decide +kernel,by decide +kernel⟩
section
variable {P:Program} {w:World} {K:PySem.W.Frag} {mg:Str→Option Value} {base:Heap} {f:Addr} {cdv:Value} {A:Around} {outer:List Env} {s:Shared} {H:Hp} {E:XK}
abbrev zL (P:Program) (w:World) (K:PySem.W.Frag) (mg:Str→Option Value) (base:Heap) (f:Addr) (cdv:Value) (A:Around) (outer:List Env) (s:Shared) (H:Hp) (E:XK):Zx:=zB P w K mg base ST "law" (AA Lq) f cdv A outer s H E OR (fun _ _ => False)
structure Has (P:Program) (w:World) (K:PySem.W.Frag) (mg:Str→Option Value) (base:Heap):Prop where
 tx:Txt mg
 gd:FnT P w K mg base "_law_draw" 2 ["_law_pen","_law_many"] Ai
 gp:FnT P w K mg base "_law_pen_of" 1 ["_law_cell"] QX
 gy:FnT P w K mg base "_law_web_by" 4 ["_law_pen","_law_most"] Kt
 gm:FnT P w K mg base "_law_mixed" 3 ["_law_ties","_law_pen"] Qb
 gr:FnT P w K mg base "_law_right" 5 ["_law_many","_law_things"] LB
 gn:FnT P w K mg base "_law_no_number" 4 ["_law_many"] Kz
theorem Dj {ρ:List (Option T)} {O:AJ} {e1 e2:Expr} {n:Int} {us:List T} {q1 q2:Pos} (B:Has P w K mg base) (hr:Room 5 (zL P w K mg base f cdv A outer s H E).X.A) (xf:XFly (zL P w K mg base f cdv A outer s H E).X (zL P w K mg base f cdv A outer s H E).W) (h1:ET (zL P w K mg base f cdv A outer s H E) ρ O e1 (.int n)) (h2:ET (zL P w K mg base f cdv A outer s H E) ρ O e2 (.lst us)) (n0:1≤n) (n1:n≤16) (hu:∀ u∈us,Th u) (hl:us.length≤300) (nl:NL O) (s1:BD e1 = true:=by rfl) (s2:BD e2 = true:=by rfl) :
  ET (zL P w K mg base f cdv A outer s H E) ρ O (.Call (.Name "_law_right" q1) [e1,e2] [] q2) (.bl true) :=
 HV B.gr hr xf (AU h1 (AU h2 AE s2) s1) (fun Φ p => ⟨n,us,rfl,n0,n1,hu,hl,nl,p⟩) rfl (by decide) (BJ s1) (by rw [BJ s2]; rfl)
theorem OK {O:AJ} {v0 v2 v4 v6 v7 v8 v9:Option T} {p:Addr} {n:Int} {us:List T} {O0:AJ} {Φ:BM} {N Bk Ct:GT} (B:Has P w K mg base) (hr:Room 5 (zL P w K mg base f cdv A outer s H E).X.A) (xf:XFly (zL P w K mg base f cdv A outer s H E).X (zL P w K mg base f cdv A outer s H E).W)
  (n0:1≤n) (n1:n≤16) (hu:∀ u∈us,Th u) (hl:us.length < 300) (po:PO O0 p O) (nl:NL O0)
  (k:∀ v7 v8 v9 us' O',(∀ u∈us',Th u)→us'.length≤us.length + 1→PO O0 p O'→N [v0,some (.int n),v2,some (.raw (.ref p)),v4,some (.lst us'),v6,v7,v8,v9] O') :
  HS (zL P w K mg base f cdv A outer s H E) [v0,some (.int n),v2,some (.raw (.ref p)),v4,some (.lst us),v6,v7,v8,v9] O [UL 0,UL 1,UL 2,UL 3,UL 4] { nx:=N,rt:=Φ,bk:=Bk,ct:=Ct }:=by
 have hz:(1000:Nat) < sizeLine:=by decide
 refine Af (AS 7 (CQ B.gd (hr.mono (by decide)) xf po (ev 3) (CI (Kg B.tx.nLen (ev 5)) AC) (by omega) (by omega) fun sp O1 s0 s1 po1 => ?_) Cp.nd)
 obtain ⟨m,rfl⟩:=Int.eq_ofNat_of_zero_le s0
 refine Af (AS 8 (CQ B.gd (hr.mono (by decide)) xf po1 (ev 3) (ev 1) (by omega) (by omega) fun a O2 a0 a1 po2 => ?_) Cp.nd)
 have z2:(2:Nat)≤sizeLine:=by decide
 have z3:(3:Nat)≤sizeLine:=by decide
 have z1:(1:Nat)≤sizeLine:=by decide
 refine Af (Km (ts:=Pw n a) 9 (.cons (.tup (.cons (.var 8) (.cons (.var 8) .nil)) z2) (.cons (.tup (.cons (.var 8) (.cons (.var 1) .nil)) z2) (.cons (.tup (.cons (.var 1) (.cons (.var 8) .nil)) z2) (.cons (.tup (.cons ⟨HR AC⟩ (.cons (.var 8) .nil)) z2) (.cons (.tup (.cons .bl (.cons (.var 8) .nil)) z2) (.cons (.tup (.cons (.var 8) (.cons .non .nil)) z2)
  (.cons (.lst (.cons .int (.cons .int .nil)) z2) (.cons .non (.cons (.tup (.cons (.var 8) .nil) z1) (.cons (.tup (.cons .int (.cons .int (.cons .int .nil))) z3) (.cons .str (.cons .int .nil)))))))))))) (by show 12≤sizeLine; decide) ?_ Cp.nd rfl (by first | exact Or.inl rfl | exact Or.inr rfl) (by first | exact .inl rfl | exact .inr rfl))
 refine Af (AS 5 (DC Ez (DC Ez (ET.we (SN (ev 5) (ev 7)) (Ji (BQ (NF Cv (fun _ _ => rfl) (ET.we (ev 9) (CQ B.gd (hr.mono (by decide)) xf po2 (ev 3) AC (by decide) (by decide) fun r O3 r0 r1 po3 => ?_)))))))) Cp.nd)
 obtain ⟨odd,e1,m1⟩:=Eb (L:=Pw n a) r0 r1
 refine Jj e1 _ (AX ⟨z1,?_⟩)
 have lt:(us.take m).length≤us.length:=by rw [List.length_take]; omega
 rw [SR]
 refine Eh (by rw [List.length_singleton]; omega) _ ?_
 refine Pu (ev 5) (DC Do (ET.we (ev 7) (CQ B.gd (hr.mono (by decide)) xf po3 (ev 3) AC (by decide) (by decide) fun r2 O4 r20 r21 po4 => FS _ ⟨_,rfl,?_⟩)))
 obtain ⟨m2,rfl⟩:=Int.eq_ofNat_of_zero_le r20
 have e2:(Int.ofNat m + Int.ofNat m2) = ((m + m2:Nat):Int):=by simp
 rw [show ((m:Int) + (m2:Int)) = ((m + m2:Nat):Int) from by simp,OJ]
 have ld:(us.take m ++ [odd] ++ us.drop (m + m2)).length≤us.length + 1:=by
  rw [List.length_append,List.length_append,List.length_take,List.length_drop,List.length_singleton]
  omega
 refine Eh (by rw [← List.length_append]; omega) _ ?_
 have ht:∀ u∈us.take m ++ [odd] ++ us.drop (m + m2),Th u:=fun u h => by
  rcases List.mem_append.mp h with h | h
  ·rcases List.mem_append.mp h with h | h
   ·exact hu u (List.mem_of_mem_take h)
   ·rw [List.mem_singleton.mp h]; exact Px odd m1
  ·exact hu u (List.mem_of_mem_drop h)
 refine Hi (Am (k:=false) (Al (Ci (Dj B hr xf (ev 1) (ev 5) n0 n1 ht (by omega) (nl.po po4)))) (fun h => by cases h) fun _ => Ap (k _ _ _ _ _ ht ld po4))
end
def LE (K:PySem.W.Frag):Sp:=fun vs H Q _ => ∃ (a:Addr) (ns:List Int),vs = [.ref a]∧SqL K H a (ns.map V.int)∧ns.length≤63∧∀ H',Q (.bl true) H'
def VO:BM:=fun t _ => t = .bl true
theorem PO.tr {O0 O1 O2:AJ} {p:Addr} (a:PO O0 p O1) (b:PO O1 p O2):PO O0 p O2:=by
 obtain ⟨xs,rfl,_⟩:=a
 obtain ⟨ys,rfl,py⟩:=b
 exact ⟨ys,Aq,py⟩
section
variable {P:Program} {w:World} {K:PySem.W.Frag} {mg:Str→Option Value} {base:Heap} {f:Addr} {cdv:Value} {A:Around} {outer:List Env} {s:Shared} {H:Hp} {E:XK}
theorem OL {ρ:List (Option T)} {a:Addr} {ns:List Int} {Φ:BM} {fC:Addr} {fdC:FuncData} (hr:Room 5 (zL P w K mg base f cdv A outer s H E).X.A) (xf:XFly (zL P w K mg base f cdv A outer s H E).X (zL P w K mg base f cdv A outer s H E).W) (hS:SqL K H a (ns.map V.int)) (hn:ns.length≤63) (hρ:ρ[0]? = some (some (.raw (.ref a))))
  (FC:FnOk P w K mg base (CXe P w) 1 fC fdC ["_law_script","_law_k"] (Fj K)) (mC:mg "_law_cell_at" = some (.ref fC)) (kC:PySem.W.keepIn K (.ref fC) = true) (bC:Binds K fdC ["_law_script","_law_k"] [])
  (k:∀ ms:List Int,ms.length≤64→Φ (.lst (ms.map T.int)) OR):HWE (zL P w K mg base f cdv A outer s H E) ρ OR (VN (VM 2)) Φ:=by
 have sb:=Av
 refine ⟨?_⟩
 refine DC Ez ?_
 refine Ji (BQ (Nb FC mC kC bC (hr.mono (by decide)) xf (AU (ev 0 hρ) (AU AC AE)) ?_))
 intro σ H1 vs Q as r acc
 obtain ⟨v,u,rfl,r1,r2⟩:=r.two_inv
 cases r1.raw_inv
 cases r2.int_inv
 refine ⟨a,ns,rfl,QV as.fr.kp hS,fun c => acc _ _ _ _ ?_ (.refl as.ok) (.int c)⟩
 refine AX ⟨by show 1≤sizeLine; decide,?_⟩
 refine Ry rfl hS (ev 0 hρ) AC AC fun ms hm => ?_
 exact Eh (ts:=[T.int c]) (us:=ms.map T.int) (by simp; omega) _ (k (c :: ms) (by simp; omega))
theorem OM {O:AJ} {v0 v1 v3 v4 v5 v6 v7 v8 v9:Option T} {c:Int} {Φ:BM} {N Bk Ct:GT} (B:Has P w K mg base) (hr:Room 5 (zL P w K mg base f cdv A outer s H E).X.A) (xf:XFly (zL P w K mg base f cdv A outer s H E).X (zL P w K mg base f cdv A outer s H E).W) (nl:NL O)
  (k:∀ v1 v3 v4 v5 v6 v7 v8 v9 O',NL O'→N [v0,v1,some (.int c),v3,v4,v5,v6,v7,v8,v9] O'):HS (zL P w K mg base f cdv A outer s H E) [v0,v1,some (.int c),v3,v4,v5,v6,v7,v8,v9] O (SS (VM 2)) { nx:=N,rt:=Φ,bk:=Bk,ct:=Ct }:=by
 have sb:=Av
 refine Af (AS 3 (Ad B.gp (hr.mono (by decide)) xf (EA.wa (AU (ev 2) AE) ⟨c,rfl,fun p xs hp px => ?_⟩)) Cp.nd)
 have nl0:=nl.up (p:=p) px
 refine Af (Jl (n:=10) (Ad B.gy (hr.mono (by decide)) xf (EA.wa (AU (ev 3) (AU AC AE)) ⟨p,xs,16,rfl,AF,px,by decide,by decide,fun n ps O1 n0 n1 hP pw hl po => ?_⟩)))
 refine ⟨[v0,some (.int n),some (.int c),some (.raw (.ref p)),some (.tup (ps.map AB)),v5,v6,v7,v8,v9],Bo 1 4 rfl Cp.nd (by show 1 < 10; decide) (by show 4 < 10; decide),?_⟩
 obtain ⟨ys,hy,py⟩:=po.at
 have hD:∀ q∈ps,Ab n q:=fun q h => by
  have:=hP q h
  unfold AO at this
  unfold Ab
  omega
 refine Af (AS 5 (Ad B.gm (hr.mono (by decide)) xf (EA.wa (AU (ev 4) (AU (ev 3) AE)) ⟨p,ys,n,ps,rfl,hy,py,hD,OE n1 hP pw,fun qs O2 hq hql po2 => ?_⟩)) Cp.nd)
 have po3:=(PO.tr po po2)
 have hth:∀ u∈qs.map AB,Th u:=fun u h => by
  obtain ⟨z,_,rfl⟩:=List.mem_map.mp h
  exact LD z
 refine Af (Am (k:=false) (Al (Ci (Dj B hr xf (ev 1) (ev 5) n0 n1 hth (by rw [List.length_map]; omega) (nl0.po po3)))) (fun h => by cases h) fun _ => Ap ?_)
 refine Hi (Ck BB.own rfl (EI.wi (BE (k:=3) B.tx.nRange AC ⟨by decide,by decide⟩) ⟨fun j ρ' O' => ∃ v6 v7 v8 v9 us,ρ' = [v0,some (.int n),some (.int c),some (.raw (.ref p)),some (.tup (ps.map AB)),some (.lst us),v6,v7,v8,v9]∧(∀ u∈us,Th u)∧us.length≤240 + j∧PO (AV O p xs) p O',⟨_,_,_,_,_,rfl,hth,by rw [List.length_map]; omega,po3⟩,?_,?_⟩))
 ·rintro j t _ O4 e ⟨v6,v7,v8,v9,us,rfl,hu,hul,po4⟩
  have hj:j < 3:=by
   have:=(List.getElem?_eq_some_iff.mp e).1
   rw [Au] at this
   exact this
  exact ⟨[v0,some (.int n),some (.int c),some (.raw (.ref p)),some (.tup (ps.map AB)),some (.lst us),some t,v7,v8,v9],Ae 6 Cp.nd (by show 6 < 10; decide),(OK B hr xf n0 n1 hu (by omega) po4 nl0 fun v7 v8 v9 us' O' h1 h2 h3 => ⟨_,_,_,_,us',rfl,h1,by omega,h3⟩).out⟩
 ·rintro _ _ ⟨v6,v7,v8,v9,us,rfl,hu,hul,po4⟩
  exact k _ _ _ _ _ _ _ _ _ (nl0.po po4)
theorem ON {a:Addr} {ns:List Int} {fC:Addr} {fdC:FuncData} (B:Has P w K mg base) (hr:Room 5 (zL P w K mg base f cdv A outer s H E).X.A) (xf:XFly (zL P w K mg base f cdv A outer s H E).X (zL P w K mg base f cdv A outer s H E).W) (hS:SqL K H a (ns.map V.int)) (hn:ns.length≤63)
  (FC:FnOk P w K mg base (CXe P w) 1 fC fdC ["_law_script","_law_k"] (Fj K)) (mC:mg "_law_cell_at" = some (.ref fC)) (kC:PySem.W.keepIn K (.ref fC) = true) (bC:Binds K fdC ["_law_script","_law_k"] []):HS (zL P w K mg base f cdv A outer s H E) (By ST [.raw (.ref a)]) OR (AT Lq) { nx:=fun _ O' => VO .non O',rt:=VO }:=by
 have z1:(1:Nat)≤sizeLine:=by decide
 refine Af (PV (ts:=[.int 0,.int 17,.int (-1),.bl true,.non,.str "3",.lst [.int 3],.int (10 ^ (30:Int).toNat)]) BB.own rfl (.cons .int (.cons .int (.cons ⟨HR AC⟩ (.cons .bl (.cons .non (.cons .str (.cons (.lst (.cons .int .nil) z1) (.cons ⟨NJ AC AC ⟨by decide,by decide,by decide⟩⟩ .nil)))))))) (by show 8≤sizeLine; decide) (fun i ρ' O' => O' = OR∧∃ v1,ρ' = [some (.raw (.ref a)),v1,none,none,none,none,none,none,none,none]) ⟨rfl,none,rfl⟩ ?_ ?_)
 ·rintro i t _ _ e ⟨rfl,v1,rfl⟩
  have hb:CZ t = false∧Hu t 1 16 = false:=by
   have:=List.mem_of_getElem? e
   simp only [List.mem_cons,List.not_mem_nil,or_false] at this
   rcases this with rfl | rfl | rfl | rfl | rfl | rfl | rfl | rfl <;> exact ⟨rfl,by decide⟩
  exact ⟨[some (.raw (.ref a)),some t,none,none,none,none,none,none,none,none],Ae 1 Cp.nd (by show 1 < 10; decide),Hi (Am (k:=false) (Al (Ci (HV (t:=.bl true) B.gn (hr.mono (by decide)) xf (AU (ev 1) AE) fun Φ p => ⟨t,rfl,hb.1,hb.2,p⟩))) (fun h => by cases h) fun _ => Ap ⟨rfl,_,rfl⟩)⟩
 rintro _ _ ⟨rfl,v1,rfl⟩
 refine Af (Am (k:=false) (EW.eb (EW.cast (BS (Al (Ci (Dj B hr xf (us:=[((15:Int),(0:Int)),(0,15),(1,2)].map AB) AC (Bf (CPs.ea (.cons (.cons (.cons .nil)))) (by show 3≤sizeLine; decide)) (by decide) (by decide) (fun u h => ?_) (by decide) NL.no))) fun _ => CK (Al (Ci (Dj B hr xf (us:=[]) AC (Bf AE (Nat.zero_le _)) (by decide) (by decide) (fun u h => by cases h) (Nat.zero_le _) NL.no)))) rfl)) (fun h => by cases h) fun _ => Ap ?_)
 ·obtain ⟨z,_,rfl⟩:=List.mem_map.mp h
  exact LD z
 refine Af (PX BB.own rfl (OL hr xf hS hn rfl FC mC kC bC fun ms hm => ⟨ms.map T.int,rfl,fun i ρ' O' => NL O'∧∃ v1 v2 v3 v4 v5 v6 v7 v8 v9,ρ' = [some (.raw (.ref a)),v1,v2,v3,v4,v5,v6,v7,v8,v9],⟨NL.no,v1,none,none,none,none,none,none,none,none,rfl⟩,?_,?_⟩) (by intro _; rfl))
 ·rintro i t _ O1 e ⟨nl,v1,v2,v3,v4,v5,v6,v7,v8,v9,rfl⟩
  rw [List.getElem?_map] at e
  cases ec:ms[i]? with
  | none => rw [ec] at e; cases e
  | some c =>
   rw [ec] at e
   cases e
   exact ⟨[some (.raw (.ref a)),v1,some (.int c),v3,v4,v5,v6,v7,v8,v9],Ae 2 Cp.nd (by show 2 < 10; decide),OM B hr xf nl fun _ _ _ _ _ _ _ _ _ nl' => ⟨nl',_,_,_,_,_,_,_,_,_,rfl⟩⟩
 ·rintro _ _ ⟨_,v1,v2,v3,v4,v5,v6,v7,v8,v9,rfl⟩
  exact Hi (AY (ET.we Kb rfl))
theorem SU {fd:FuncData} {fC:Addr} {fdC:FuncData} (F:Fun K "law" "law" Lq f fd) (B:Has P w K mg base)
  (FC:FnOk P w K mg base (CXe P w) 1 fC fdC ["_law_script","_law_k"] (Fj K)) (mC:mg "_law_cell_at" = some (.ref fC)) (kC:PySem.W.keepIn K (.ref fC) = true) (bC:Binds K fdC ["_law_script","_law_k"] []) :
  FnOk P w K mg base (CXe P w) 6 f fd ["_law_script"] (LE K):=by
 refine Tn F Cp (fun vs H Q E h => ?_) (fun cdv A outer s H vs Q E hr h => ?_)
 ·obtain ⟨a,ns,rfl,_⟩:=h
  rfl
 ·obtain ⟨a,ns,rfl,hS,hn,k⟩:=h
  refine ⟨[.raw (.ref a)],OR,VO,fun _ _ => False,.cons (.raw _) .nil,Nd,fun xf => ON B hr xf hS hn FC mC kC bC,fun v H' t O' p f r => ?_,fun cls O' H' z => z.elim⟩
  have p:t = T.bl true:=p
  subst p
  cases r.bl_inv
  exact k H'
end
theorem OO {P:Program} {w:World} {K:PySem.W.Frag} {mg:Str→Option Value} {base:Heap} {C CR CNoPlace CNoNumber CNoLine CNoRing CNotEven CNoWeb CNoText CTooGreat:Addr} {b0 b1 b2 b3 b4 b5 b6 b7:Bool} (M:Mg P w K mg base) (mNoPlace:Cn K "NoPlace" CNoPlace) (mNoNumber:Cn K "NoNumber" CNoNumber) (mNoLine:Cn K "NoLine" CNoLine) (mNoRing:Cn K "NoRing" CNoRing) (mNotEven:Cn K "NotEven" CNotEven) (mNoWeb:Cn K "NoWeb" CNoWeb) (mNoText:Cn K "NoText" CNoText) (mTooGreat:Cn K "TooGreat" CTooGreat) (g:Xg K CR) (x:Xk K C CR CNoPlace CNoNumber CNoLine CNoRing CNotEven CNoWeb CNoText CTooGreat b0 b1 b2 b3 b4 b5 b6 b7):Kinds K mg C b0 b1 b2 b3 b4 b5 b6 b7 :=
 ⟨⟨_,M.mm mNoPlace,x.e0⟩,⟨_,M.mm mNoNumber,x.e1⟩,⟨_,M.mm mNoLine,x.e2⟩,⟨_,M.mm mNoRing,x.e3⟩,⟨_,M.mm mNotEven,x.e4⟩,⟨_,M.mm mNoWeb,x.e5⟩,⟨_,M.mm mNoText,x.e6⟩,⟨_,M.mm mTooGreat,x.e7⟩,x.ve,⟨x.g1,x.g2,x.g3,x.g4,x.g5,g.g6,g.g7⟩⟩
theorem SV {l:PySem.W.OpenLaw} {w:World} {K:PySem.W.Frag} {h:Heap} {mg:Str→Option Value} {fa CR CNoPlace CNoNumber CNoLine CNoRing CNotEven CNoWeb CNoText CTooGreat:Addr} {tMOST_PLACES:Tok} (X:K.In h) (G:h.Ns mainGlobals mg) (hfa:mg "law" = some (.ref fa))
  (H0:Fx K "is_whole" Jq) (H1:Fx K "is_pair" Ku) (H2:Fx K "web_of" Jr) (H3:Fx K "ties_of" Dd) (H4:Fx K "_law_cell_at" Nq) (H5:Fx K "_law_next" Nr) (H6:Fx K "_law_pen_of" SB) (H7:Fx K "_law_draw" Nt) (H8:Fx K "_law_whole" Ek) (H9:Fx K "_law_kind_of" Kq) (H10:Fx K "_law_named" EG) (H11:Fx K "_law_names_by" Dg) (H12:Fx K "_law_turned" El) (H13:Fx K "_law_shape" BR) (H14:Fx K "_law_web_by" CU) (H15:Fx K "_law_due" Ph) (H16:Fx K "_law_mixed" Js) (H17:Fx K "_law_right" DL) (H18:Fx K "_law_no_number" Hn) (H19:Fx K "law" Lq)
  (zint:Zn K "int") (zbool:Zn K "bool") (ztuple:Zn K "tuple") (zlist:Zn K "list") (zset:Zn K "set") (zrange:Zn K "range") (zisinstance:Zn K "isinstance") (zmax:Zn K "max") (zmin:Zn K "min") (zlen:Zn K "len") (zall:Zn K "all") (zsorted:Zn K "sorted") (zrepr:Zn K "repr") (zValueError:Zn K "ValueError") (zenumerate:Zn K "enumerate") (vMOST_PLACES:PySem.W.nsIn K mainGlobals "MOST_PLACES" = some (some (.int 16 tMOST_PLACES))) (mNoPlace:Cn K "NoPlace" CNoPlace) (mNoNumber:Cn K "NoNumber" CNoNumber) (mNoLine:Cn K "NoLine" CNoLine) (mNoRing:Cn K "NoRing" CNoRing) (mNotEven:Cn K "NotEven" CNotEven) (mNoWeb:Cn K "NoWeb" CNoWeb) (mNoText:Cn K "NoText" CNoText) (mTooGreat:Cn K "TooGreat" CTooGreat) (mR:Cn K "RingError" CR) (gR:Xg K CR)
  (yNoWeb:Xk K CNoWeb CR CNoPlace CNoNumber CNoLine CNoRing CNotEven CNoWeb CNoText CTooGreat false false false false false true false false) (iNoWeb:VZ K CNoWeb "NoWeb.__init__" SI) (nNoWeb:PySem.W.findIn K (.ref CNoWeb) "number" = some none)
  : ∃ fd:FuncData,(∀ (s:Shared) (v:Value),BindsTo s fd ⟨[v],[]⟩ [("_law_script",v)])∧∀ base:Heap,K.In base→base.Ns mainGlobals mg→FnOk l.prog w K mg base (CXe l.prog w) 6 fa fd ["_law_script"] (LE K):=by
 obtain ⟨f0,d0,h0⟩:=H0
 obtain ⟨f1,d1,h1⟩:=H1
 obtain ⟨f2,d2,h2⟩:=H2
 obtain ⟨f3,d3,h3⟩:=H3
 obtain ⟨f4,d4,h4⟩:=H4
 obtain ⟨f5,d5,h5⟩:=H5
 obtain ⟨f6,d6,h6⟩:=H6
 obtain ⟨f7,d7,h7⟩:=H7
 obtain ⟨f8,d8,h8⟩:=H8
 obtain ⟨f9,d9,h9⟩:=H9
 obtain ⟨f10,d10,h10⟩:=H10
 obtain ⟨f11,d11,h11⟩:=H11
 obtain ⟨f12,d12,h12⟩:=H12
 obtain ⟨f13,d13,h13⟩:=H13
 obtain ⟨f14,d14,h14⟩:=H14
 obtain ⟨f15,d15,h15⟩:=H15
 obtain ⟨f16,d16,h16⟩:=H16
 obtain ⟨f17,d17,h17⟩:=H17
 obtain ⟨f18,d18,h18⟩:=H18
 obtain ⟨f19,d19,h19⟩:=H19
 have e:=hfa.symm.trans (PySem.W.mg_of X G h19.a)
 cases e
 have mm:∀ {x:Str} {v:Value},PySem.W.nsIn K mainGlobals x = some (some v)→mg x = some v:=fun e => PySem.W.mg_of X G e
 have nn:∀ {x:Str},Zn K x→mg x = none:=fun e => PySem.W.mg_none_of X G e
 have Tx:Txt mg:=⟨nn zint,nn zbool,nn ztuple,nn zlist,nn zset,nn zrange,nn zisinstance,nn zmax,nn zmin,nn zlen,nn zall,nn zsorted,nn zrepr,nn zValueError,nn zenumerate,⟨tMOST_PLACES,mm vMOST_PLACES⟩⟩
 refine ⟨d19,fun s v => ?_,fun base _ _ => ?_⟩
 ·obtain ⟨⟨_,_,_,_,_,_,_,_,_,rfl,_⟩,_⟩:=h19.F
  exact .of_eq rfl
 have M:Mg l.prog w K mg base:=⟨mm⟩
 have UNoWeb:=OO M mNoPlace mNoNumber mNoLine mNoRing mNotEven mNoWeb mNoText mTooGreat gR yNoWeb
 obtain ⟨fi,di,hi⟩:=iNoWeb
 have G0:=h0.t M (Np h0.F Tx) (h0.b3 rfl fun _ _ _ _ _ _ _ _ _ => rfl)
 have G1:=h1.t M (Pn h1.F Tx G0) (h1.b2 rfl fun _ _ _ _ _ _ _ _ => rfl)
 have G3:=h3.t M (Jw h3.F Tx) (h3.b1 rfl fun _ _ _ _ _ _ _ => rfl)
 have X:XCl l.prog w K mg base "NoWeb" CNoWeb fi ["number"]:=⟨hi.c,hi.kp,mm mNoWeb,⟨di,["self","number"],SJ hi.F hi.c nNoWeb,hi.bt rfl fun _ _ _ _ _ _ _ _ => rfl⟩,UNoWeb.eN,fun n hn => by rw [List.mem_singleton.mp hn]; exact nNoWeb,by decide⟩
 have G2:=h2.t M (Jy h2.F Tx X (G0.mono (by decide)) G1 (G3.mono (by decide))) (h2.b2 rfl fun _ _ _ _ _ _ _ _ => rfl)
 have W4:FnOk l.prog w K mg base (CXe l.prog w) 1 f4 _ _ (Fj K):=Pj h4.F Tx
 have G5:=h5.t M (Pk h5.F) (h5.b1 rfl fun _ _ _ _ _ _ _ => rfl)
 have G6:=h6.t M (SD h6.F Tx) (h6.b1 rfl fun _ _ _ _ _ _ _ => rfl)
 have G7:=h7.t M (Pl h7.F G5) (h7.b2 rfl fun _ _ _ _ _ _ _ _ => rfl)
 have G8:=h8.t M (Lr h8.F Tx) (h8.b1 rfl fun _ _ _ _ _ _ _ => rfl)
 have C:Cat l.prog w K mg base CNoWeb CR fi:=⟨X,⟨f9,d9,Ps (Ix h9.F Tx UNoWeb),mm h9.a,h9.F.kp,(h9.b1 rfl fun _ _ _ _ _ _ _ => rfl)⟩,⟨f8,d8,KA h8.F Tx,mm h8.a,h8.F.kp,(h8.b1 rfl fun _ _ _ _ _ _ _ => rfl)⟩,mm mR,gR.bR,yNoWeb.kit⟩
 have G10:=h10.t M (Ny h10.F Tx) (h10.b2 rfl fun _ _ _ _ _ _ _ _ => rfl)
 have G11:=h11.t M (Is h11.F Tx G7) (h11.b2 rfl fun _ _ _ _ _ _ _ _ => rfl)
 have G12:=h12.t M (Ls h12.F Tx) (h12.b2 rfl fun _ _ _ _ _ _ _ _ => rfl)
 have G13:=h13.t M (OI h13.F Tx G7 G12) (h13.b2 rfl fun _ _ _ _ _ _ _ _ => rfl)
 have G14:=h14.t M (Lu h14.F Tx G7 G13 G10 G11) (h14.b2 rfl fun _ _ _ _ _ _ _ _ => rfl)
 have G15:=h15.t M (SK h15.F Tx G8) (h15.b2 rfl fun _ _ _ _ _ _ _ _ => rfl)
 have G16:=h16.t M (SL h16.F Tx G7) (h16.b2 rfl fun _ _ _ _ _ _ _ _ => rfl)
 have G17:=h17.t M (OH h17.F Tx C G15 G2) (h17.b2 rfl fun _ _ _ _ _ _ _ _ => rfl)
 have G18:=h18.t M (Ly h18.F C G2) (h18.b1 rfl fun _ _ _ _ _ _ _ => rfl)
 exact SU h19.F ⟨Tx,G7,G6,G14,G16,G17,G18⟩ W4 (mm h4.a) h4.F.kp (h4.b2 rfl fun _ _ _ _ _ _ _ _ => rfl)
theorem walk {l:PySem.W.OpenLaw} {q:Program} {loose:List Str} {XP:(Str→Option Value)→Heap→Prop} {YP:World→Heap→Prop} {d:DefRec} {K:Params→PySem.W.Frag} (hn:l.most = some 63) (hdf:d.params.defaults = [])
  (hY:∀ (w:World) (h:Heap),YP w h→(K w.params).In h)
  (F:∀ (w:World) (mg:Str→Option Value) (fa:Addr) (h:Heap),(K w.params).In h→h.Ns mainGlobals mg→mg d.name = some (.ref fa) →
   ∃ fd:FuncData,(∀ (s:Shared) (u:Value),BindsTo s fd ⟨[u],[]⟩ [("_law_script",u)])∧∀ base:Heap,(K w.params).In base→base.Ns mainGlobals mg→FnOk l.prog w (K w.params) mg base (CXe l.prog w) 6 fa fd ["_law_script"] (LE (K w.params))) :
  PySem.W.WalkO q loose XP YP l.row.toRowW d [] (fun f vs => PySem.call f vs) :=
 L2.Oh (n:=63) (k:=6) (x:="_law_script") (CX:=fun w => CXe l.prog w) (sp:=fun w => LE (K w.params)) hn (by decide) hdf ⟨rfl,by decide,by decide,rfl⟩ hY F (fun _ _ a ns hl _ hS => ⟨a,ns,rfl,hS,hl,fun _ => rfl⟩) fun _ _ _ _ _ z => z.never
end K02
open PySem PySem.W PyProof.Rows
set_option maxRecDepth 100000 in
set_option maxHeartbeats 0 in
theorem PySem.Challenge.cw_noshortring_k02_webs_made_holds : PySem.Challenge.rw_noshortring_k02_webs_made.Holds := by
 w_on; o_law
 refine PySem.W.holds_open (q:=K02.kq) (loose:=[]) (Xt:=fun s => PySem.W.xlAt K02.kq [] s && PySem.W.recOk [] s) (XP:=PySem.W.XL K02.kq []) (Yf:=fun s => K02.ka.map s.heap.get?) (Ya:=fun w => (K02.Kk w.params).map fun (p:Addr × Obj) => some p.2) (YP:=PySem.W.InK K02.Kk) (N:=5412) K02.left (PySem.W.InK.of fun _ => by kernel_rfl) PySem.W.InK.keeps (fun s e => xl_of s (Bool.and_eq_true_iff.mp e).1) XL.keeps (by rfl) (by rfl) (by rfl) (fun s e => recFacts_of (Bool.and_eq_true_iff.mp e).2) (by rfl) (by first | assumption | decide +kernel) (by first | k_qdec | decide +kernel) ⟨rfl,rfl,rfl,rfl,rfl,by decide +kernel⟩ ?hw ?hc
 (case hw => w_witness2)
 k_fill
 refine K02.walk (l:=PySem.Challenge.rw_noshortring_k02_webs_made) rfl rfl (fun w h Y => Y) ?F
 case F =>
  intro w mg fa h KX G hmg
  refine' K02.SV KX G hmg ?H0 ?H1 ?H2 ?H3 ?H4 ?H5 ?H6 ?H7 ?H8 ?H9 ?H10 ?H11 ?H12 ?H13 ?H14 ?H15 ?H16 ?H17 ?H18 ?H19 ?zint ?zbool ?ztuple ?zlist ?zset ?zrange ?zisinstance ?zmax ?zmin ?zlen ?zall ?zsorted ?zrepr ?zValueError ?zenumerate ?vMOST_PLACES ?mNoPlace ?mNoNumber ?mNoLine ?mNoRing ?mNotEven ?mNoWeb ?mNoText ?mTooGreat ?mR ?gR ?yNoWeb ?iNoWeb ?nNoWeb
  case H0 | H1 | H2 | H3 | H4 | H5 | H6 | H7 | H8 | H9 | H10 | H11 | H12 | H13 | H14 | H15 | H16 | H17 | H18 | H19 => (refine' L2.TL.fi ?a ?l ?q ?k; (case a => k_is); (case l => k_is); (case q => k_is); (case k => k_is))
  case zint | zbool | ztuple | zlist | zset | zrange | zisinstance | zmax | zmin | zlen | zall | zsorted | zrepr | zValueError | zenumerate => (delta L2.TL.Zn; k_is)
  case mNoPlace | mNoNumber | mNoLine | mNoRing | mNotEven | mNoWeb | mNoText | mTooGreat | mR => (delta L2.TL.Cn; k_is)
  case vMOST_PLACES => k_is
  case gR => exact ⟨by k_is,by k_is,by k_is⟩
  case yNoWeb => exact ⟨by kit_is,by kit_is,by kit_is,by kit_is,by kit_is,by kit_is,by kit_is,by kit_is,by kit_is,rfl,by kit_is,by k_is,by k_is,by k_is,by k_is,by k_is⟩
  case iNoWeb => (refine' L2.TL.ini ?l ?r ?i ?t ?s ?k ?fl ?fq ?fk; (case l => k_is); (case r => k_exc); (case i => k_is); (case t => k_is); (case s => k_is); (case k => k_is); (case fl => k_is); (case fq => k_is); (case fk => k_is))
  case nNoWeb => k_is
