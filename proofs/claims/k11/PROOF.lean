import PyProof.Rows.All
import Wide.All
import OpenK.AllK
import Wide.FinOn
import Lean
import PyProof.EqAt
import PyProof.EqKinds
import PyProof.TupleCall
import PySem.Challenge.RW_noshortring_k11_full_layers
noncomputable section
set_option Elab.async false
set_option linter.all false
set_option maxRecDepth 100000
namespace L2
open PySem PySem.Spec PyProof.Rows
abbrev JR:=Sum Int Str
def Tc:JR→Value→Bool
 | .inl k,v => Value.isInt k v
 | .inr x,v => Value.isStrOf x v
def Ym (w:World):JR→Int
 | .inl k => hashInt k
 | .inr x => hashStr w x
theorem An:∀ {k:JR} {v:Value},Tc k v = true→(∃ i t,k = Sum.inl i∧v = Value.int i t)∨(∃ x t,k = Sum.inr x∧v = Value.str x t)
 | .inl i,v,h => by
  obtain ⟨t,e⟩:=Value.isInt_shape (k:=i) (v:=v) h
  exact .inl ⟨i,t,rfl,e⟩
 | .inr x,v,h => by
  obtain ⟨t,e⟩:=Value.isStrOf_shape (x:=x) (v:=v) h
  exact .inr ⟨x,t,rfl,e⟩
theorem UN (a b:Int):decide ((Sum.inl a:JR) = Sum.inl b) = (a == b):=by
 by_cases e:a = b
 ·subst e; simp
 ·have h:¬ (Sum.inl a:JR) = Sum.inl b:=fun q => e (Sum.inl.inj q)
  rw [decide_eq_false h]
  exact (beq_eq_false_iff_ne.mpr e).symm
theorem UO (a b:Str):decide ((Sum.inr a:JR) = Sum.inr b) = decide (a = b):=by
 by_cases e:a = b
 ·subst e; simp
 ·have h:¬ (Sum.inr a:JR) = Sum.inr b:=fun q => e (Sum.inr.inj q)
  rw [decide_eq_false h,decide_eq_false e]
theorem UP (a:Int) (b:Str):decide ((Sum.inl a:JR) = Sum.inr b) = false:=decide_eq_false (fun q => nomatch q)
theorem UQ (a:Str) (b:Int):decide ((Sum.inr a:JR) = Sum.inl b) = false:=decide_eq_false (fun q => nomatch q)
def Hy (prog:Program) (w:World):PySem.KeyKind prog w JR where
 is:=Tc
 hash:=Ym w
 inj:=fun v a b ha hb => by
  rcases An ha with ⟨i,t,rfl,rfl⟩ | ⟨x,t,rfl,rfl⟩
  ·rcases An hb with ⟨j,u,rfl,e⟩ | ⟨y,u,rfl,e⟩
   ·injection e with e1 _; rw [e1]
   ·exact nomatch e
  ·rcases An hb with ⟨j,u,rfl,e⟩ | ⟨y,u,rfl,e⟩
   ·exact nomatch e
   ·injection e with e1 _; rw [e1]
 byValue:=fun k v h => by
  rcases An h with ⟨i,t,rfl,rfl⟩ | ⟨x,t,rfl,rfl⟩ <;> rfl
 pyHash:=fun hv h => by
  rcases An hv with ⟨i,t,rfl,rfl⟩ | ⟨x,t,rfl,rfl⟩
  ·exact wpAny_pyHash_int h
  ·exact wpAny_pyHash_str h
 eqBool:=fun hu hv h => by
  rcases An hu with ⟨i,t,rfl,rfl⟩ | ⟨x,t,rfl,rfl⟩
  ·rcases An hv with ⟨j,u,rfl,rfl⟩ | ⟨y,u,rfl,rfl⟩
   ·rw [UN] at h; exact wpAny_eqBool_int h
   ·rw [UP] at h; exact SeqAt.EqAt.int_str i t y u _ _ _ _ h
  ·rcases An hv with ⟨j,u,rfl,rfl⟩ | ⟨y,u,rfl,rfl⟩
   ·rw [UQ] at h; exact SeqAt.EqAt.str_int x t j u _ _ _ _ h
   ·rw [UO] at h; exact wpAny_eqBool_str h
 «strs»:=fun k x t v h => by
  rcases An h with ⟨i,u,rfl,e⟩ | ⟨y,u,rfl,e⟩
  ·exact nomatch e
  ·injection e with e1 _
   subst e1
   cases v <;> rfl
inductive V where
 | non | bl (b:Bool) | int (i:Int) | str (x:Str) | byt (b:Array UInt8) | flt (b:UInt64) | ref (a:Addr) | ty (n:String)
 deriving DecidableEq
def RelV:V→Value→Prop
 | .non,u => u = Value.none
 | .bl b,u => u = Value.bool b
 | .int i,u => ∃ t,u = Value.int i t
 | .str x,u => ∃ t,u = Value.str x t
 | .byt b,u => ∃ t,u = Value.bytes b t
 | .flt b,u => ∃ t,u = Value.float b t
 | .ref a,u => u = Value.ref a
 | .ty n,u => u = Value.type n
abbrev Vals:List V→List Value→Prop:=Paired RelV
theorem Vals.length {xs:List V} {us:List Value} (r:Vals xs us):xs.length = us.length:=Paired.length r
theorem Vals.get:∀ {xs:List V} {us:List Value} {i:Nat} {x:V},Vals xs us→xs[i]? = some x→∃ u,us[i]? = some u∧RelV x u
 | _,_,_,_,.nil,e => by simp at e
 | _,_,0,_,.cons r _,e => by simp at e; subst e; exact ⟨_,rfl,r⟩
 | _,_,i + 1,x,.cons _ t,e => by
  obtain ⟨u,h1,h2⟩:=Vals.get (i:=i) (x:=x) t (by simpa using e)
  exact ⟨u,by simpa using h1,h2⟩
theorem Vals.set {x:V} {u:Value} (r:RelV x u):∀ {xs:List V} {us:List Value} (i:Nat),Vals xs us→Vals (xs.set i x) (us.set i u)
 | _,_,_,.nil => .nil
 | _,_,0,.cons _ t => .cons r t
 | _,_,i + 1,.cons q t => .cons q (Vals.set r i t)
theorem Vals.append:∀ {xs ys:List V} {us ws:List Value},Vals xs us→Vals ys ws→Vals (xs ++ ys) (us ++ ws)
 | _,_,_,_,.nil,s => s
 | _,_,_,_,.cons r t,s => .cons r (Vals.append t s)
theorem Vals.take:∀ {xs:List V} {us:List Value} (n:Nat),Vals xs us→Vals (xs.take n) (us.take n)
 | _,_,0,_ => .nil
 | _,_,_ + 1,.nil => .nil
 | _,_,n + 1,.cons r t => .cons r (Vals.take n t)
theorem Vals.drop:∀ {xs:List V} {us:List Value} (n:Nat),Vals xs us→Vals (xs.drop n) (us.drop n)
 | _,_,0,r => r
 | _,_,_ + 1,.nil => .nil
 | _,_,n + 1,.cons _ t => Vals.drop n t
def RelO:Option V→Option Value→Prop
 | some v,some u => RelV v u
 | none,none => True
 | _,_ => False
def KV {κ:Type}:List (κ × V)→List (κ × Value)→Prop:=Paired fun (p:κ × V) (q:κ × Value) => p.1 = q.1∧RelV p.2 q.2
def kV:JR→V
 | .inl i => .int i
 | .inr x => .str x
inductive HO where
 /-- a list -/
 | lst (xs:List V)
 /-- a tuple (never changes) -/
 | tup (xs:List V)
 /-- a dict whose keys are ints and texts; one whose keys are tuples of ints and texts (the empty one is both) -/
 | dK (kvs:List (JR × V)) | dT (kvs:List (List JR × V))
 /-- a set of ints: its members,its size -/
 | set (S:Int→Bool) (n:Nat)
 /-- an instance of the class at C,its dict at dx,its attributes -/
 | ins (C dx:Addr) (fs:List (Str × V))
 /-- the dict of the instance at x -/
 | own (x:Addr)
 /-- the dict of an exception -/
 | xd (fs:List (Str × V))
 /-- a bound method,f of x -/
 | met (f x:Addr)
 /-- a range object lo,lo + 1,.. below hi -/
 | rng (lo hi:Int)
 /-- a thing that is known to the object (the script; a dict while a loop walks it): read,never written while it is so -/
 | frz (o:Obj) (u:HO)
 /-- a code object's table -/
 | tbl (ps:Array Value)
 /-- any other thing,by what is true of its one object (a def of one's own: SetO a S n:=HO.ext fun h => ..) -/
 | ext (φ:Heap→Prop)
abbrev Hp:=Addr→Option HO
def BG (H:Hp) (a:Addr) (o:HO):Hp:=fun b => if b = a then some o else H b
theorem AJ {H:Hp} {a:Addr} {o:HO}:BG H a o a = some o:=by unfold BG; rw [if_pos rfl]
theorem AK {H:Hp} {a b:Addr} {o:HO} (h:b≠a):BG H a o b = H b:=by unfold BG; rw [if_neg h]
theorem AQ {H:Hp} {a b:Addr} {o:HO} (h:H a = some o) (h':H b = none):a≠b:=by
 intro e; subst e; rw [h] at h'; cases h'
section
variable (P:Program) (w:World)
def ObjOk (H:Hp) (h:Heap) (a:Addr):HO→Prop
 | .lst xs => xs.length≤sizeLine∧∃ (its:List Value) (n:Nat),Vals xs its∧h.get? a = some { cls:=.type "list",data:=.seq its.toArray n }
 | .tup xs => xs.length≤sizeLine∧∃ its:List Value,Vals xs its∧IsTup h a its.toArray
 | .dK kvs => kvs.length≤sizeLine∧(a == sysModules) = false∧∃ vs,KV kvs vs∧h.DictOf (Hy P w) a vs
 | .dT kvs => kvs.length≤sizeLine∧(a == sysModules) = false∧∃ xs:List (List JR × Addr × Value),
   Paired (fun (p:List JR × V) (q:List JR × Addr × Value) => p.1 = q.1∧H q.2.1 = some (.tup (p.1.map kV))∧RelV p.2 q.2.2) kvs xs ∧
   ∃ o es ep,h.get? a = some o∧o.ExactDict∧o.data = .dict es ep∧es.toList = xs.map (entryOfKey (tupleKind (Hy P w)))∧(xs.map (·.1)).Nodup
 | .set S n => h.SetOf (intKind P w) a S n
 | .ins C dx fs => H dx = some (.own a)∧fs.length≤1000∧dx≠a∧h.get? a = some (PySem.W.instObj C dx) ∧
   ∃ mA,h.Ns1 dx mA∧(∀ f,RelO (fs.lookup f) (mA f))∧PySem.Within mA (fs.map (·.1))
 | .own _ => ∃ o,h.get? a = some o
 | .xd fs => ∃ mA,h.Ns1 a mA∧∀ f,RelO (fs.lookup f) (mA f)
 | .rng lo hi => ∃ t u v,h.get? a = some { cls:=.type "range",data:=.fields #[.int lo t,.int hi u,.int 1 v] }
 | .frz o u => h.get? a = some o∧ObjOk H h a u
 | .tbl ps => h.get? a = some { cls:=.none,data:=.fields ps }
 | .met f x => h.get? a = some (PySem.W.methodObj (.ref f) (.ref x))
 | .ext φ => φ h∧(∃ o,h.get? a = some o)∧∀ h1 h2:Heap,φ h1→(∀ o,h1.get? a = some o→h2.get? a = some o)→φ h2
def HOk (H:Hp) (h:Heap):Prop:=∀ a o,H a = some o→ObjOk P w H h a o
end
section
variable {P:Program} {w:World} {H H':Hp} {h h':Heap} {a:Addr} {o:HO}
theorem ObjOk.lt (x:ObjOk P w H h a o):a < h.objs.size:=by
 cases o with
 | lst xs => obtain ⟨_,_,_,_,e⟩:=x; exact Heap.lt_size e
 | tup xs => obtain ⟨_,_,_,p⟩:=x; exact p.lt
 | dK kvs => obtain ⟨_,_,_,_,o,_,_,e,_⟩:=x; exact Heap.lt_size e
 | dT kvs => obtain ⟨_,_,_,_,o,_,_,e,_⟩:=x; exact Heap.lt_size e
 | set S n => obtain ⟨o,_,_,_,e,_⟩:=x; exact Heap.lt_size e
 | ins C dx fs => obtain ⟨_,_,_,e,_⟩:=x; exact Heap.lt_size e
 | own y => obtain ⟨_,e⟩:=x; exact Heap.lt_size e
 | xd fs => obtain ⟨_,⟨_,_,_,e,_⟩,_⟩:=x; exact Heap.lt_size e
 | rng lo hi => obtain ⟨_,_,_,e⟩:=x; exact Heap.lt_size e
 | frz ob u => obtain ⟨e,_⟩:=x; exact Heap.lt_size e
 | tbl ps => exact Heap.lt_size (show h.get? a = some _ from x)
 | met f y => exact Heap.lt_size (show h.get? a = some _ from x)
 | ext φ => obtain ⟨_,⟨_,e⟩,_⟩:=x; exact Heap.lt_size e
theorem Paired.mapP {α β:Type} {F G:α→β→Prop}:∀ {l₁:List α} {l₂:List β},Paired F l₁ l₂→(∀ a b,F a b→G a b)→Paired G l₁ l₂
 | _,_,.nil,_ => .nil
 | _,_,.cons r t,f => .cons (f _ _ r) (Paired.mapP t f)
theorem ObjOk.stay (x:ObjOk P w H h a o) (k:∀ b u,(b = a∨H b = some (.own a))→h.get? b = some u→h'.get? b = some u)
  (ho:∀ b,H b = some (.own a)→H' b = some (.own a)) (ht:∀ b xs,H b = some (.tup xs)→H' b = some (.tup xs)):ObjOk P w H' h' a o:=by
 induction o with
 | lst xs => obtain ⟨z,its,n,r,e⟩:=x; exact ⟨z,its,n,r,k _ _ (.inl rfl) e⟩
 | tup xs => obtain ⟨z,its,r,ob,e,c⟩:=x; exact ⟨z,its,r,ob,k _ _ (.inl rfl) e,c⟩
 | dK kvs => obtain ⟨z,y,vs,r,ob,es,ep,e,c⟩:=x; exact ⟨z,y,vs,r,ob,es,ep,k _ _ (.inl rfl) e,c⟩
 | dT kvs =>
  obtain ⟨z,y,xs,r,ob,es,ep,e,c⟩:=x
  exact ⟨z,y,xs,Paired.mapP r fun p q z => ⟨z.1,ht _ _ z.2.1,z.2.2⟩,ob,es,ep,k _ _ (.inl rfl) e,c⟩
 | set S n => obtain ⟨ob,es,ep,t,e,c⟩:=x; exact ⟨ob,es,ep,t,k _ _ (.inl rfl) e,c⟩
 | ins C dx fs =>
  obtain ⟨d,z,ne,e,mA,⟨od,es,ep,e2,c⟩,r⟩:=x
  exact ⟨ho _ d,z,ne,k _ _ (.inl rfl) e,mA,⟨od,es,ep,k _ _ (.inr d) e2,c⟩,r⟩
 | own y => obtain ⟨ob,e⟩:=x; exact ⟨ob,k _ _ (.inl rfl) e⟩
 | xd fs => obtain ⟨mA,⟨od,es,ep,e,c⟩,r⟩:=x; exact ⟨mA,⟨od,es,ep,k _ _ (.inl rfl) e,c⟩,r⟩
 | rng lo hi => obtain ⟨t,u,v,e⟩:=x; exact ⟨t,u,v,k _ _ (.inl rfl) e⟩
 | frz ob u ih => obtain ⟨e,q⟩:=x; exact ⟨k _ _ (.inl rfl) e,ih q⟩
 | tbl ps =>
  have e:h.get? a = some { cls:=.none,data:=.fields ps }:=x
  show h'.get? a = some { cls:=.none,data:=.fields ps }
  exact k a _ (.inl rfl) e
 | met f y =>
  have e:h.get? a = some (PySem.W.methodObj (.ref f) (.ref y)):=x
  show h'.get? a = some (PySem.W.methodObj (.ref f) (.ref y))
  exact k a _ (.inl rfl) e
 | ext φ => obtain ⟨p,⟨o,e⟩,st⟩:=x; exact ⟨st _ _ p fun o q => k _ _ (.inl rfl) q,⟨o,k _ _ (.inl rfl) e⟩,st⟩
theorem HOk.lt (x:HOk P w H h) (e:H a = some o):a < h.objs.size:=(x a o e).lt
theorem HOk.fresh (x:HOk P w H h) (e:h.objs.size≤a):H a = none:=by
 cases q:H a with
 | none => rfl
 | some u => exact absurd (Nat.lt_of_lt_of_le (x.lt q) e) (Nat.lt_irrefl _)
theorem HOk.kept (x:HOk P w H h) (k:∀ b u,h.get? b = some u→h'.get? b = some u):HOk P w H h':=fun a o e =>
 (x a o e).stay (fun b u _ q => k b u q) (fun _ q => q) fun _ _ q => q
theorem HOk.laid (x:HOk P w H h) (k:∀ b u,h.get? b = some u→h'.get? b = some u) (hp:h.objs.size≤a) (new:ObjOk P w (BG H a o) h' a o):HOk P w (BG H a o) h':=fun b u e => by
 have hn:=x.fresh hp
 by_cases hb:b = a
 ·subst hb; rw [AJ] at e; cases e; exact new
 ·rw [AK hb] at e
  exact (x b u e).stay (fun c v _ q => k c v q) (fun c q => by rw [AK (AQ q hn)]; exact q) fun c xs q => by rw [AK (AQ q hn)]; exact q
end
def Rd (H:Hp) (a:Addr) (u:HO):Prop:=H a = some u∨∃ o,H a = some (.frz o u)
theorem Rd.ok {P:Program} {w:World} {H:Hp} {h:Heap} {a:Addr} {u:HO} (r:Rd H a u) (x:HOk P w H h):ObjOk P w H h a u:=by
 rcases r with r | ⟨o,r⟩
 ·exact x a u r
 ·obtain ⟨_,q⟩:=x a _ r
  exact q
def YZ:Option HO→Prop
 | some (.lst _) => True
 | some (.dK _) => True
 | some (.dT _) => True
 | some (.set _ _) => True
 | some (.ins _ _ _) => True
 | some (.ext _) => True
 | _ => False
section
variable {P:Program} {w:World} {H:Hp} {h h':Heap} {x e:Addr} {o':HO}
theorem HOk.write (ok:HOk P w H h) (mu:YZ (H x)) (he:e = x∨H e = some (.own x)) (k:∀ b u,b≠e→h.get? b = some u→h'.get? b = some u) (heo:∃ u,h'.get? e = some u)
  (new:ObjOk P w (BG H x o') h' x o'):HOk P w (BG H x o') h':=fun b u q => by
 have nown:∀ c y,H c = some (.own y)→c≠x:=fun c y r z => by subst z; rw [r] at mu; exact mu
 have ntup:∀ c xs,H c = some (.tup xs)→c≠x:=fun c xs r z => by subst z; rw [r] at mu; exact mu
 by_cases hb:b = x
 ·subst hb; rw [AJ] at q; cases q; exact new
 ·rw [AK hb] at q
  by_cases hbe:b = e
  ·have q':H b = some (.own x):=by
    rcases he with z | z
    ·exact absurd (hbe.trans z) hb
    ·rw [hbe]; exact z
   rw [q] at q'; cases q'
   obtain ⟨v,hv⟩:=heo
   exact ⟨v,by rw [hbe]; exact hv⟩
  ·refine (ok b u q).stay (fun c v hc r => k c v ?_ r) (fun c r => by rw [AK (nown c b r)]; exact r) fun c xs r => by rw [AK (ntup c xs r)]; exact r
   rcases hc with rfl | hc
   ·exact hbe
   ·rintro rfl
    rcases he with z | z
    ·exact nown c b hc z
    ·rw [hc] at z; cases z; exact hb rfl
end
structure Un (fs ex:List Addr) (H H':Hp) (h h':Heap):Prop where
 keep:∀ b o,h.get? b = some o→H b = none→b ∉ fs→b ∉ ex→h'.get? b = some o
 slot:∀ b o,h.get? b = some o→H b = none→b∈fs→b ∉ ex→∃ sl,h'.get? b = some { o with slots:=sl }
 free:∀ b o,h.get? b = some o→H b = none→b ∉ ex→H' b = none
 there:∀ b o,h.get? b = some o→b ∉ ex→∃ o',h'.get? b = some o'
 tups:∀ b xs,H b = some (.tup xs)→H' b = some (.tup xs)
 frzs:∀ b o u,H b = some (.frz o u)→H' b = some (.frz o u)
 tbls:∀ b ps,H b = some (.tbl ps)→∃ more,H' b = some (.tbl (ps ++ more))
section
variable {fs fs' ex ex':List Addr} {H H1 H2:Hp} {h h1 h2 h':Heap} {a x e:Addr} {o:HO}
theorem Un.any (u:Un fs ex H H1 h h1) {b:Addr} {ob:Obj} (q:h.get? b = some ob) (n:H b = none) (hx:b ∉ ex):∃ sl,h1.get? b = some { ob with slots:=sl }:=by
 by_cases hb:b∈fs
 ·exact u.slot b ob q n hb hx
 ·exact ⟨ob.slots,u.keep b ob q n hb hx⟩
theorem Un.kept (k:∀ b u,h.get? b = some u→h'.get? b = some u):Un fs ex H H h h' :=
 ⟨fun b ob q _ _ _ => k b ob q,fun b ob q _ _ _ => ⟨ob.slots,k b ob q⟩,fun _ _ _ n _ => n,fun b ob q _ => ⟨ob,k b ob q⟩,fun _ _ q => q,fun _ _ _ q => q,fun _ ps q => ⟨#[],by rw [q]; simp⟩⟩
theorem Un.refl:Un fs ex H H h h:=Un.kept fun _ _ q => q
theorem Un.laid (k:∀ b u,h.get? b = some u→h'.get? b = some u) (hp:h.objs.size≤a) (hn:H a = none):Un fs ex H (BG H a o) h h' where
 keep:=fun b u q _ _ _ => k b u q
 slot:=fun b u q _ _ _ => ⟨u.slots,k b u q⟩
 free:=fun b u q n _ => by rw [AK (Nat.ne_of_lt (Nat.lt_of_lt_of_le (Heap.lt_size q) hp))]; exact n
 there:=fun b u q _ => ⟨u,k b u q⟩
 tups:=fun b xs q => by rw [AK (AQ q hn)]; exact q
 frzs:=fun b u xs q => by rw [AK (AQ q hn)]; exact q
 tbls:=fun b ps q => ⟨#[],by rw [AK (AQ q hn),q]; simp⟩
theorem Un.write (mu:YZ (H x)) (he:e = x∨H e = some (.own x)) (k:∀ b u,b≠e→h.get? b = some u→h'.get? b = some u) (heo:∃ u,h'.get? e = some u):Un fs ex H (BG H x o) h h':=by
 have hx:∀ b,H b = none→b≠x:=fun b n z => by subst z; rw [n] at mu; exact mu
 have hb:∀ b,H b = none→b≠e:=fun b n z => by
  subst z
  rcases he with r | r
  ·exact hx b n r
  ·rw [n] at r; cases r
 have hm:∀ b u,H b = some u→¬ YZ (some u)→b≠x:=fun b u q nm z => by subst z; rw [q] at mu; exact nm mu
 refine ⟨fun b u q n _ _ => k b u (hb b n) q,fun b u q n _ _ => ⟨u.slots,k b u (hb b n) q⟩,fun b u q n _ => by rw [AK (hx b n)]; exact n,fun b u q _ => ?_,
  fun b xs q => by rw [AK (hm b _ q fun z => z)]; exact q,fun b u xs q => by rw [AK (hm b _ q fun z => z)]; exact q,fun b ps q => ⟨#[],by rw [AK (hm b _ q fun z => z),q]; simp⟩⟩
 by_cases hbe:b = e
 ·subst hbe; exact heo
 ·exact ⟨u,k b u hbe q⟩
end
def Yb (h:Heap) (H:Hp):List Addr:=(List.range h.objs.size).filter fun a => (H a).isSome
def Hz (h:Heap) (H:Hp):Heap:=PySem.W.hideAll h (Yb h H)
theorem NW (h:Heap) (H:Hp):(Hz h H).objs.size = h.objs.size:=PySem.W.hideAll_size _ _
theorem OZ {h:Heap} {H:Hp} {b:Addr} {o:Obj} (e:h.get? b = some o) (n:H b = none):(Hz h H).get? b = some o :=
 PySem.W.hideAll_get _ e fun hm => by
  have q:(H b).isSome = true:=(List.mem_filter.mp hm).2
  rw [n] at q; simp at q
theorem Re {h:Heap} {H:Hp} {b:Addr} {o:Obj} (e:(Hz h H).get? b = some o):h.get? b = some o∧H b = none:=by
 have e':h.get? b = some o:=PySem.W.of_hideAll (Yb h H) e
 refine ⟨e',?_⟩
 cases q:H b with
 | none => rfl
 | some x =>
  have hm:b∈Yb h H:=List.mem_filter.mpr ⟨List.mem_range.mpr (Heap.lt_size e'),by simp [q]⟩
  have z:(Hz h H).get? b = none:=PySem.W.hideAll_none (Yb h H) hm
  rw [z] at e; cases e
structure Mod (K:PySem.W.Frag) (mg:Str→Option Value) (base:Heap):Prop where
 kin:K.In base
 glob:base.Ns mainGlobals mg
 blt:∃ mb,base.Ns builtinsNs mb∧∀ x:Str,x≠"__name__"→mb x = bootBuiltins x
 nolimit:base.NoLimit
structure Cx where
 prog:Program
 w:World
 K:PySem.W.Frag
 mg:Str→Option Value
 base:Heap
 A:Around
 N:List Str
 s₀:Shared
 H₀:Hp
 env:Env
 outer:List Env
 stack:List Env
 ex:List Addr
 fn:Str→Bool
 calm:Bool
 pn:List (Addr × Obj)
 xe:Value→Shared→Prop
def FZ (l:List Env):List Addr:=l.filterMap (·.frame)
abbrev Cx.fs (X:Cx):List Addr:=FZ X.outer
def UR (sc:Scope) (x:Str):Prop:=sc.names.lookup x = some .local∨sc.names.lookup x = some .cell∨sc.names.lookup x = some .free
def NX (sc:Scope) (x:Str):Prop:=sc.names.lookup x = some .local∨sc.names.lookup x = some .cell
def Yn (env:Env) (h:Heap) (m:Str→Option Value) (x:Str) (u:Value):Prop :=
 (env.kindOf x = some .local∧m x = some u)∨((env.kindOf x = some .cell∨env.kindOf x = some .free)∧∃ c,env.cells.lookup x = some c∧h.IsCell c (some u))
structure Cx.Ok (X:Cx):Prop where
 mod:Mod X.K X.mg X.base
 kind:X.env.scope.kind = .function
 glob:X.env.globals = mainGlobals
 blt:X.env.builtins = builtinsNs
 above:X.s₀.heap.objs.size≤X.env.locals
 inj:∀ x y c,X.env.cells.lookup x = some c→X.env.cells.lookup y = some c→x = y
 has:∀ x,(X.env.kindOf x = some .cell∨X.env.kindOf x = some .free)→∃ c,X.env.cells.lookup x = some c
 cab:∀ x c,X.fn x = true→X.env.cells.lookup x = some c→X.s₀.heap.objs.size≤c
 hd:X.calm = true→X.A.handled = none
 frames:X.A.frames = some X.stack
 stk:X.stack = X.outer∨(X.stack = X.env :: X.outer∧X.env.frame = some X.env.locals)
 exf:∀ b∈X.ex,b≠X.env.locals∧∀ x c,X.env.cells.lookup x = some c→c≠b
 bs:∀ b o,X.base.get? b = some o→X.s₀.heap.get? b = some o∧X.H₀ b = none
 bsz:X.base.objs.size≤X.s₀.heap.objs.size
 noex:∀ b o,X.base.get? b = some o→b ∉ X.ex
 exfs:∀ b∈X.ex,b ∉ X.fs
 funs:X.s₀.heap.FunFrames X.base X.outer
 frf:∀ b∈X.fs,X.H₀ b = none
structure Inv (X:Cx) (pins:List (Addr × Obj)) (σ:List (Option V)) (H:Hp) (s:Shared):Prop where
 ok:X.Ok
 os:s.os = X.s₀.os
 bare:AllBare s.gens
 base:Un X.fs X.ex X.H₀ H X.s₀.heap s.heap
 loc:∃ m,s.heap.Ns X.env.locals m∧∀ (i:Nat) (x:Str) (v:V),X.N[i]? = some x→σ[i]? = some (some v)→UR X.env.scope x→∃ u,RelV v u∧Yn X.env s.heap m x u
 cell:∀ x c,X.env.cells.lookup x = some c→∃ v,s.heap.IsCell c v
 free:H X.env.locals = none
 freeC:∀ x c,X.env.cells.lookup x = some c→H c = none
 pin:∀ p∈X.pn ++ pins,s.heap.get? p.1 = some p.2∧H p.1 = none∧p.1≠X.env.locals∧p.1 ∉ X.fs∧∀ v,p.2.data≠.cell v
 hok:HOk X.prog X.w H s.heap
 len:σ.length = X.N.length
section
variable {X:Cx} {pins:List (Addr × Obj)} {σ:List (Option V)} {H H':Hp} {s:Shared} {h':Heap}
theorem Cx.Ok.nofr (ok:X.Ok) {b:Addr} {o:Obj} (e:X.base.get? b = some o):b ∉ X.fs:=fun hb => by
 have:=(ok.funs.mem hb).1
 rw [e] at this; cases this
theorem Inv.bs (I:Inv X pins σ H s):∀ b o,X.base.get? b = some o→s.heap.get? b = some o∧H b = none:=fun b o e =>
 ⟨I.base.keep b o (I.ok.bs b o e).1 (I.ok.bs b o e).2 (I.ok.nofr e) (I.ok.noex b o e),I.base.free b o (I.ok.bs b o e).1 (I.ok.bs b o e).2 (I.ok.noex b o e)⟩
theorem Inv.bk (I:Inv X pins σ H s):∀ b o,X.base.get? b = some o→s.heap.get? b = some o:=fun b o e => (I.bs b o e).1
theorem Inv.mod (I:Inv X pins σ H s):Mod X.K X.mg X.base:=I.ok.mod
theorem Inv.kIn (I:Inv X pins σ H s):X.K.In s.heap:=I.ok.mod.kin.keeps I.bk
theorem Inv.lt (I:Inv X pins σ H s):X.env.locals < s.heap.objs.size:=let ⟨_,hn,_⟩:=I.loc; hn.lt
theorem Inv.sz (I:Inv X pins σ H s):X.s₀.heap.objs.size≤s.heap.objs.size:=Nat.le_trans I.ok.above (Nat.le_of_lt I.lt)
theorem Inv.nofs (I:Inv X pins σ H s) {a:Addr} (h:s.heap.objs.size≤a):a ∉ X.fs:=fun hb => by
 obtain ⟨_,o,ho,_⟩:=I.ok.funs.mem hb
 exact absurd (Nat.lt_of_lt_of_le (Heap.lt_size ho) (Nat.le_trans I.sz h)) (Nat.lt_irrefl _)
theorem Inv.cne (I:Inv X pins σ H s):∀ x c,X.env.cells.lookup x = some c→c≠X.env.locals:=fun x c e z => by
 obtain ⟨v,o,ho,hd⟩:=I.cell x c e
 obtain ⟨m,⟨o',es,ep,ho',hd',_⟩,_⟩:=I.loc
 rw [z,ho'] at ho; cases ho; rw [hd'] at hd; cases hd
theorem Inv.funs (I:Inv X pins σ H s):s.heap.FunFrames X.base X.outer:=by
 have all:∀ (l:List Env),(∀ b∈FZ l,b∈X.fs)→X.s₀.heap.FunFrames X.base l→s.heap.FunFrames X.base l:=by
  intro l
  induction l with
  | nil => intro _ _; trivial
  | cons env r ih =>
   intro hs hl
   obtain ⟨hk,⟨L,o,hf,hn,ho,hd⟩,hr⟩:=hl
   have hL:L∈X.fs:=hs L (by unfold FZ; rw [List.filterMap_cons,hf]; exact List.mem_cons_self)
   obtain ⟨sl,e⟩:=I.base.slot L o ho (I.ok.frf L hL) hL fun z => I.ok.exfs L z hL
   exact ⟨hk,⟨L,_,hf,hn,e,hd⟩,ih (fun b hb => hs b (by unfold FZ; rw [List.filterMap_cons,hf]; exact List.mem_cons_of_mem _ hb)) hr⟩
 exact all X.outer (fun _ hb => hb) I.ok.funs
theorem Inv.stack (I:Inv X pins σ H s):s.heap.FunFrames X.base X.stack:=by
 rcases I.ok.stk with e | ⟨e,hf⟩
 ·rw [e]; exact I.funs
 ·rw [e]
  obtain ⟨m,hn,_⟩:=I.loc
  refine .cons (by rw [I.ok.kind]; decide) hf hn ?_ I.funs
  exact Heap.get?_none_of_le (Nat.le_trans I.ok.bsz I.ok.above)
theorem Inv.stkSub (I:Inv X pins σ H s):∀ b∈FZ X.stack,b∈X.env.locals :: X.fs:=fun b hb => by
 rcases I.ok.stk with e | ⟨e,hf⟩
 ·rw [e] at hb; exact List.mem_cons_of_mem _ hb
 ·rw [e] at hb
  unfold FZ at hb
  rw [List.filterMap_cons,hf] at hb
  exact hb
theorem Inv.stkFree (I:Inv X pins σ H s):∀ b∈FZ X.stack,H b = none:=fun b hb => by
 rcases List.mem_cons.mp (I.stkSub b hb) with e | hb
 ·rw [e]; exact I.free
 ·obtain ⟨_,o,ho,_⟩:=I.ok.funs.mem hb
  exact I.base.free b o ho (I.ok.frf b hb) fun z => I.ok.exfs b z hb
theorem Inv.step {g':Array GenState} {t':Nat} {d':Drawn} {ch:List Addr} (I:Inv X pins σ H s)
  (hch:∀ b∈ch,(b∈X.ex∨X.s₀.heap.objs.size≤b)∧b≠X.env.locals∧(∀ x c,X.env.cells.lookup x = some c→c≠b)∧∀ p∈X.pn ++ pins,p.1≠b)
  (keep:∀ b o,b≠X.env.locals→b ∉ X.fs→b ∉ ch→s.heap.get? b = some o→H b = none→h'.get? b = some o)
  (slot:∀ b o,b≠X.env.locals→b∈X.fs→b ∉ ch→s.heap.get? b = some o→H b = none→∃ sl,h'.get? b = some { o with slots:=sl }) (free:∀ b o,b ∉ ch→s.heap.get? b = some o→H b = none→H' b = none)
  (there:∀ b o,b ∉ ch→s.heap.get? b = some o→∃ o',h'.get? b = some o')
  (tups:∀ b xs,H b = some (.tup xs)→H' b = some (.tup xs)) (frzs:∀ b o u,H b = some (.frz o u)→H' b = some (.frz o u)) (tbls:∀ b ps,H b = some (.tbl ps)→∃ more,H' b = some (.tbl (ps ++ more)))
  (ns:∀ m,s.heap.Ns X.env.locals m→h'.Ns X.env.locals m) (hok:HOk X.prog X.w H' h') (hg:AllBare g') :
  Inv X pins σ H' { s with heap:=h',gens:=g',drawn:=d',toks:=t' }:=by
 have neL:∀ b o,X.s₀.heap.get? b = some o→b≠X.env.locals:=fun b o e => Nat.ne_of_lt (Nat.lt_of_lt_of_le (Heap.lt_size e) I.ok.above)
 have neC:∀ b o,X.s₀.heap.get? b = some o→b ∉ X.ex→b ∉ ch:=fun b o e hx hb => by
  rcases (hch b hb).1 with z | z
  ·exact hx z
  ·exact absurd (Nat.lt_of_lt_of_le (Heap.lt_size e) z) (Nat.lt_irrefl _)
 have cellK:∀ x c,X.env.cells.lookup x = some c→∀ v,s.heap.IsCell c v→h'.IsCell c v:=fun x c e v ⟨o,ho,hd⟩ => by
  have nch:c ∉ ch:=fun z => (hch c z).2.2.1 x c e rfl
  by_cases hc:c∈X.fs
  ·obtain ⟨sl,q⟩:=slot c o (I.cne x c e) hc nch ho (I.freeC x c e)
   exact ⟨_,q,hd⟩
  ·exact ⟨o,keep c o (I.cne x c e) hc nch ho (I.freeC x c e),hd⟩
 refine ⟨I.ok,I.os,hg,⟨fun b o e n hb hx => ?_,fun b o e n hb hx => ?_,fun b o e n hx => ?_,fun b o e hx => ?_,fun b xs e => tups b xs (I.base.tups b xs e),fun b o xs e => frzs b o xs (I.base.frzs b o xs e),fun b ps e => ?_⟩,?_,fun x c e => ?_,?_,fun x c e => ?_,fun p hp => ?_,hok,I.len⟩
 ·exact keep b o (neL b o e) hb (neC b o e hx) (I.base.keep b o e n hb hx) (I.base.free b o e n hx)
 ·obtain ⟨sl,e1⟩:=I.base.slot b o e n hb hx
  obtain ⟨sl',e2⟩:=slot b _ (neL b o e) hb (neC b o e hx) e1 (I.base.free b o e n hx)
  exact ⟨sl',e2⟩
 ·obtain ⟨o',e1⟩:=I.base.there b o e hx
  exact free b o' (neC b o e hx) e1 (I.base.free b o e n hx)
 ·obtain ⟨o',e1⟩:=I.base.there b o e hx
  exact there b o' (neC b o e hx) e1
 ·obtain ⟨m1,e1⟩:=I.base.tbls b ps e
  obtain ⟨m2,e2⟩:=tbls b _ e1
  exact ⟨m1 ++ m2,by rw [e2,Array.append_assoc]⟩
 ·obtain ⟨m,hn,hl⟩:=I.loc
  refine ⟨m,ns m hn,fun i x v e1 e2 e3 => ?_⟩
  obtain ⟨u,r,l⟩:=hl i x v e1 e2 e3
  refine ⟨u,r,?_⟩
  rcases l with l | ⟨k,c,e,z⟩
  ·exact .inl l
  ·exact .inr ⟨k,c,e,cellK x c e _ z⟩
 ·obtain ⟨v,z⟩:=I.cell x c e
  exact ⟨v,cellK x c e v z⟩
 ·obtain ⟨m,⟨o,_,_,ho,_⟩,_⟩:=I.loc
  exact free _ o (fun z => (hch _ z).2.1 rfl) ho I.free
 ·obtain ⟨v,o,ho,hd⟩:=I.cell x c e
  exact free c o (fun z => (hch c z).2.2.1 x c e rfl) ho (I.freeC x c e)
 ·obtain ⟨e,n,ne,nf,d⟩:=I.pin p hp
  have nch:p.1 ∉ ch:=fun z => (hch p.1 z).2.2.2 p hp rfl
  exact ⟨keep p.1 p.2 ne nf nch e n,free p.1 p.2 nch e n,ne,nf,d⟩
theorem Inv.un {t':Nat} (I:Inv X pins σ H s) (u:Un X.fs [] H H' s.heap h') (hok:HOk X.prog X.w H' h'):Inv X pins σ H' { s with heap:=h',toks:=t' }:=by
 obtain ⟨m,⟨o,es,ep,ho,r⟩,_⟩:=id I.loc
 obtain ⟨sl,hL⟩:=u.any ho I.free (by simp)
 exact I.step (g':=s.gens) (d':=s.drawn) (ch:=[]) (fun _ z => nomatch z) (fun b o _ hb _ e n => u.keep b o e n hb (by simp)) (fun b o _ hb _ e n => u.slot b o e n hb (by simp)) (fun b o _ e n => u.free b o e n (by simp)) (fun b o _ e => u.there b o e (by simp)) u.tups u.frzs u.tbls (fun m' hm => by
  obtain ⟨o',es',ep',ho',r'⟩:=hm
  rw [ho] at ho'; cases ho'
  exact ⟨_,es',ep',hL,r'⟩) hok I.bare
theorem Inv.call {g':Array GenState} {t':Nat} {d':Drawn} {ch:List Addr} (I:Inv X pins σ H s) (u:Un (FZ X.stack) ch H H' s.heap h') (hok:HOk X.prog X.w H' h') (hg:AllBare g')
  (hch:∀ b∈ch,(b∈X.ex∨X.s₀.heap.objs.size≤b)∧b≠X.env.locals∧(∀ x c,X.env.cells.lookup x = some c→c≠b)∧∀ p∈X.pn ++ pins,p.1≠b) :
  Inv X pins σ H' { s with heap:=h',gens:=g',drawn:=d',toks:=t' }:=by
 obtain ⟨m,⟨o,es,ep,ho,r⟩,_⟩:=id I.loc
 obtain ⟨sl,hL⟩:=u.any ho I.free fun z => (hch _ z).2.1 rfl
 exact I.step (ch:=ch) hch (fun b o hL hb hc e n => u.keep b o e n (fun z => (List.mem_cons.mp (I.stkSub b z)).elim hL hb) hc) (fun b o _ _ hc e n => u.any e n hc) (fun b o hc e n => u.free b o e n hc) (fun b o hc e => u.there b o e hc) u.tups u.frzs u.tbls (fun m' hm => by
  obtain ⟨o',es',ep',ho',r'⟩:=hm
  rw [ho] at ho'; cases ho'
  exact ⟨_,es',ep',hL,r'⟩) hok hg
theorem Inv.turned {t':Nat} {it:Addr} (I:Inv X pins σ H s) (k:∀ b o,b≠it→s.heap.get? b = some o→h'.get? b = some o) (hn:H it = none) (hL:it≠X.env.locals)
  (h1:it∈X.ex∨X.s₀.heap.objs.size≤it) (h2:∀ x c,X.env.cells.lookup x = some c→c≠it) (h3:∀ p∈X.pn ++ pins,p.1≠it):Inv X pins σ H { s with heap:=h',toks:=t' }:=by
 have nit:∀ b u,H b = some u→b≠it:=fun b u e z => by rw [z,hn] at e; cases e
 refine I.step (g':=s.gens) (d':=s.drawn) (ch:=[it]) (fun b hb => ?_) (fun b o _ _ hc e _ => k b o (fun z => hc (by simp [z])) e) (fun b o _ _ hc e _ => ⟨o.slots,k b o (fun z => hc (by simp [z])) e⟩) (fun _ _ _ _ n => n)
  (fun b o hc e => ⟨o,k b o (fun z => hc (by simp [z])) e⟩) (fun _ _ e => e) (fun _ _ _ e => e) (fun b ps e => ⟨#[],by rw [e]; simp⟩) (fun m hm => ?_) (fun b u e => ?_) I.bare
 ·have e:b = it:=by simpa using hb
  subst e
  exact ⟨h1,hL,h2,h3⟩
 ·obtain ⟨o,es,ep,ho,r⟩:=hm
  exact ⟨o,es,ep,k _ o (Ne.symm hL) ho,r⟩
 ·refine (I.hok b u e).stay (fun c v hc q => k c v ?_ q) (fun _ q => q) fun _ _ q => q
  rcases hc with z | z
  ·rw [z]; exact nit b u e
  ·exact nit c _ z
theorem Inv.tok (I:Inv X pins σ H s) (t:Nat):Inv X pins σ H { s with toks:=t }:=I.un (h':=s.heap) (t':=t) Un.refl I.hok
theorem Inv.kept {t':Nat} (I:Inv X pins σ H s) (k:∀ b u,s.heap.get? b = some u→h'.get? b = some u):Inv X pins σ H { s with heap:=h',toks:=t' }:=I.un (Un.kept k) (I.hok.kept k)
theorem Inv.laid {a:Addr} {o:HO} {t':Nat} (I:Inv X pins σ H s) (k:∀ b u,s.heap.get? b = some u→h'.get? b = some u) (hp:s.heap.objs.size≤a) (new:ObjOk X.prog X.w (BG H a o) h' a o) :
  Inv X pins σ (BG H a o) { s with heap:=h',toks:=t' }:=I.un (Un.laid k hp (I.hok.fresh hp)) (I.hok.laid k hp new)
theorem Inv.write {x e:Addr} {o:HO} {t':Nat} (I:Inv X pins σ H s) (mu:YZ (H x)) (he:e = x∨H e = some (.own x)) (k:∀ b u,b≠e→s.heap.get? b = some u→h'.get? b = some u) (heo:∃ u,h'.get? e = some u)
  (new:ObjOk X.prog X.w (BG H x o) h' x o):Inv X pins σ (BG H x o) { s with heap:=h',toks:=t' }:=I.un (Un.write mu he k heo) (I.hok.write mu he k heo new)
theorem Inv.weak {σ':List (Option V)} (I:Inv X pins σ H s) (hl:σ'.length = σ.length) (w:∀ (i:Nat) v,σ'[i]? = some (some v)→σ[i]? = some (some v)):Inv X pins σ' H s :=
 ⟨I.ok,I.os,I.bare,I.base,let ⟨m,hn,hl'⟩:=I.loc; ⟨m,hn,fun i x v e1 e2 e3 => hl' i x v e1 (w i v e2) e3⟩,I.cell,I.free,I.freeC,I.pin,I.hok,hl.trans I.len⟩
theorem Inv.pins_of {pins':List (Addr × Obj)} (I:Inv X pins σ H s) (h:∀ p∈pins',s.heap.get? p.1 = some p.2∧H p.1 = none∧p.1≠X.env.locals∧p.1 ∉ X.fs∧∀ v,p.2.data≠.cell v):Inv X pins' σ H s :=
 ⟨I.ok,I.os,I.bare,I.base,I.loc,I.cell,I.free,I.freeC,fun p hp => (List.mem_append.mp hp).elim (fun z => I.pin p (List.mem_append_left _ z)) (h p),I.hok,I.len⟩
theorem Fa {N:List Str} (hN:N.Nodup) {i j:Nat} {x:Str} (a:N[i]? = some x) (b:N[j]? = some x):i = j:=by
 obtain ⟨h1,e1⟩:=List.getElem?_eq_some_iff.mp a
 obtain ⟨h2,e2⟩:=List.getElem?_eq_some_iff.mp b
 exact (List.getElem_inj hN).mp (e1.trans e2.symm)
theorem HD {M:Model} {A:Around} {E:Value→Shared→Prop} {i:Nat} {x:Str} {v:V} {u:Value} {Q:Unit→Shared→Prop} (I:Inv X pins σ H s) (hN:X.N.Nodup) (hi:X.N[i]? = some x) (hx:NX X.env.scope x) (r:RelV v u)
  (h:∀ s',Inv X pins (σ.set i (some v)) H s'→(∃ a,Heap.SameBut a s.heap s'.heap∧(a = X.env.locals∨X.env.cells.lookup x = some a))→Q () s') (hf:X.fn x = true∨X.env.scope.names.lookup x = some .local:=by first | exact .inl rfl | exact .inr rfl | assumption):wpAny M A (storeName X.env x u) Q E s:=by
 obtain ⟨m,hn,hl⟩:=id I.loc
 have hcls:(X.env.scope.kind == .class || (X.env.scope.kind == .module && X.env.locals != X.env.globals)) = false:=by rw [I.ok.kind]; rfl
 have hiσ:i < σ.length:=by rw [I.len]; exact (List.getElem?_eq_some_iff.mp hi).1
 have cne:=I.cne
 have tracked:∀ {a:Addr} {h':Heap},(∃ o,s.heap.get? a = some o∧H a = none)→Heap.SameBut a s.heap h'→HOk X.prog X.w H h':=fun {a h'} ha hs b ob e => by
  obtain ⟨_,_,hfree⟩:=ha
  refine (I.hok b ob e).stay (fun c w' hc q => (hs.2 c ?_).trans q) (fun _ q => q) fun _ _ q => q
  rintro rfl
  rcases hc with rfl | hc
  ·rw [hfree] at e; cases e
  ·rw [hfree] at hc; cases hc
 rcases hx with hk | hk
 ·refine wpAny_storeName_local hk hn (fun h' hn' hs => ?_) hcls
  obtain ⟨oL,_,_,hoL,_⟩:=id hn
  refine h _ ⟨I.ok,I.os,I.bare,⟨fun b o e n hb hx => ?_,fun b o e n hb hx => ?_,I.base.free,fun b o e hx => ?_,I.base.tups,I.base.frzs,I.base.tbls⟩,⟨_,hn',fun j y v' e1 e2 e3 => ?_⟩,fun y c e => ?_,I.free,I.freeC,fun p hp => ?_,tracked ⟨oL,hoL,I.free⟩ hs,by simpa using I.len⟩ ⟨_,hs,.inl rfl⟩
  ·exact (hs.2 b (Nat.ne_of_lt (Nat.lt_of_lt_of_le (Heap.lt_size e) I.ok.above))).trans (I.base.keep b o e n hb hx)
  ·obtain ⟨sl,e1⟩:=I.base.slot b o e n hb hx
   exact ⟨sl,(hs.2 b (Nat.ne_of_lt (Nat.lt_of_lt_of_le (Heap.lt_size e) I.ok.above))).trans e1⟩
  ·obtain ⟨o',e1⟩:=I.base.there b o e hx
   exact ⟨o',(hs.2 b (Nat.ne_of_lt (Nat.lt_of_lt_of_le (Heap.lt_size e) I.ok.above))).trans e1⟩
  ·by_cases hj:j = i
   ·subst hj
    rw [hi] at e1; cases e1
    rw [List.getElem?_set_self hiσ] at e2
    cases e2
    exact ⟨u,r,.inl ⟨hk,by simp⟩⟩
   ·rw [List.getElem?_set_ne (Ne.symm hj)] at e2
    obtain ⟨u',r',q⟩:=hl j y v' e1 e2 e3
    refine ⟨u',r',?_⟩
    rcases q with ⟨k,e⟩ | ⟨k,c,e,z⟩
    ·refine .inl ⟨k,?_⟩
     have:y≠x:=fun e => hj (Fa hN e1 (e ▸ hi))
     simp [this,e]
    ·exact .inr ⟨k,c,e,z.sameBut hs (cne y c e)⟩
  ·obtain ⟨w',z⟩:=I.cell y c e
   exact ⟨w',z.sameBut hs (cne y c e)⟩
  ·obtain ⟨e,n,ne,nf,d⟩:=I.pin p hp
   exact ⟨(hs.2 p.1 ne).trans e,n,ne,nf,d⟩
 ·have hfn:X.fn x = true:=by
   rcases hf with z | z
   ·exact z
   ·rw [z] at hk; cases hk
  obtain ⟨c,hc⟩:=I.ok.has x (.inl hk)
  obtain ⟨w',z⟩:=I.cell x c hc
  refine wpAny_storeName_cell I.ok.kind hk hc z (fun h' hc' hs => ?_)
  obtain ⟨oc,hoc,hocd⟩:=id z
  refine h { s with heap:=h' } ⟨I.ok,I.os,I.bare,⟨fun b o e n hb hx => ?_,fun b o e n hb hx => ?_,I.base.free,fun b o e hx => ?_,I.base.tups,I.base.frzs,I.base.tbls⟩,⟨m,hn.sameBut hs (Ne.symm (cne x c hc)),fun j y v' e1 e2 e3 => ?_⟩,fun y c' e => ?_,I.free,I.freeC,fun p hp => ?_,tracked ⟨oc,hoc,I.freeC x c hc⟩ hs,by simpa using I.len⟩ ⟨c,hs,.inr hc⟩
  ·exact (hs.2 b (Nat.ne_of_lt (Nat.lt_of_lt_of_le (Heap.lt_size e) (I.ok.cab x c hfn hc)))).trans (I.base.keep b o e n hb hx)
  ·obtain ⟨sl,e1⟩:=I.base.slot b o e n hb hx
   exact ⟨sl,(hs.2 b (Nat.ne_of_lt (Nat.lt_of_lt_of_le (Heap.lt_size e) (I.ok.cab x c hfn hc)))).trans e1⟩
  ·obtain ⟨o',e1⟩:=I.base.there b o e hx
   exact ⟨o',(hs.2 b (Nat.ne_of_lt (Nat.lt_of_lt_of_le (Heap.lt_size e) (I.ok.cab x c hfn hc)))).trans e1⟩
  ·by_cases hj:j = i
   ·subst hj
    rw [hi] at e1; cases e1
    rw [List.getElem?_set_self hiσ] at e2
    cases e2
    exact ⟨u,r,.inr ⟨.inl hk,c,hc,hc'⟩⟩
   ·rw [List.getElem?_set_ne (Ne.symm hj)] at e2
    obtain ⟨u',r',q⟩:=hl j y v' e1 e2 e3
    refine ⟨u',r',?_⟩
    rcases q with q | ⟨k,c',e,z'⟩
    ·exact .inl q
    ·refine .inr ⟨k,c',e,z'.sameBut hs ?_⟩
     rintro rfl
     exact hj (Fa hN e1 (I.ok.inj _ _ _ e hc ▸ hi))
  ·by_cases hcc:c' = c
   ·subst hcc; exact ⟨_,hc'⟩
   ·obtain ⟨w2,z2⟩:=I.cell y c' e
    exact ⟨w2,z2.sameBut hs hcc⟩
  ·obtain ⟨e,n,ne,nf,d⟩:=I.pin p hp
   refine ⟨(hs.2 p.1 ?_).trans e,n,ne,nf,d⟩
   intro q
   rw [q,hoc] at e
   have q':oc = p.2:=Option.some.inj e
   exact d w' (by rw [← q']; exact hocd)
theorem CH {M:Model} {A:Around} {E:Value→Shared→Prop} {i:Nat} {x:Str} {v:V} {u:Value} {Q:Unit→Shared→Prop} (I:Inv X pins σ H s) (hN:X.N.Nodup) (hi:X.N[i]? = some x) (hx:NX X.env.scope x) (r:RelV v u)
  (h:∀ s',Inv X pins (σ.set i (some v)) H s'→Q () s') (hf:X.fn x = true∨X.env.scope.names.lookup x = some .local:=by first | exact .inl rfl | exact .inr rfl | assumption):wpAny M A (storeName X.env x u) Q E s :=
 HD I hN hi hx r (fun s' I' _ => h s' I') hf
theorem Inv.call' {s':Shared} {ch:List Addr} (I:Inv X pins σ H s) (ho:s'.os = s.os) (u:Un (FZ X.stack) ch H H' s.heap s'.heap) (hok:HOk X.prog X.w H' s'.heap) (hg:AllBare s'.gens)
  (hch:∀ b∈ch,(b∈X.ex∨X.s₀.heap.objs.size≤b)∧b≠X.env.locals∧(∀ x c,X.env.cells.lookup x = some c→c≠b)∧∀ p∈X.pn ++ pins,p.1≠b):Inv X pins σ H' s':=by
 obtain ⟨h',g',d',t',o'⟩:=s'
 have e:o' = s.os:=ho
 subst e
 exact I.call (g':=g') (t':=t') (d':=d') u hok hg hch
end
abbrev XK:=Value→Option Addr→Hp→Prop
abbrev St:=List (Option V)
abbrev VK:=V→Hp→Prop
abbrev TE:=St→Hp→VK→Prop
abbrev TT:=St→Hp→(Bool→Hp→Prop)→Prop
abbrev TA:=St→Hp→(List V→Hp→Prop)→Prop
structure Ends where
 nx:St→Hp→Prop
 rt:VK
 bk:St→Hp→Prop:=fun _ _ => False
 ct:St→Hp→Prop:=fun _ _ => False
abbrev TS:=Ends→St→Hp→Prop
def EP (X:Cx) (pins:List (Addr × Obj)) (σ:St) (Q:VK) (u:Value) (s':Shared):Prop:=∃ v H',Inv X pins σ H' s'∧RelV v u∧Q v H'
def TP (X:Cx) (pins:List (Addr × Obj)) (σ:St) (Q:Bool→Hp→Prop) (b:Bool) (s':Shared):Prop:=∃ H',Inv X pins σ H' s'∧Q b H'
def AP (X:Cx) (pins:List (Addr × Obj)) (σ:St) (Q:List V→Hp→Prop) (us:List Value) (s':Shared):Prop:=∃ vs H',Inv X pins σ H' s'∧Vals vs us∧Q vs H'
def SP (X:Cx) (pins:List (Addr × Obj)) (D:Ends) (f:Flow) (s':Shared):Prop :=
 match f with
 | .next => ∃ σ' H',Inv X pins σ' H' s'∧D.nx σ' H'
 | .brk => ∃ σ' H',Inv X pins σ' H' s'∧D.bk σ' H'
 | .cont => ∃ σ' H',Inv X pins σ' H' s'∧D.ct σ' H'
 | .ret u => ∃ v σ' H',Inv X pins σ' H' s'∧RelV v u∧D.rt v H'
def PE (X:Cx) (e:Expr) (t:TE):Prop :=
 ∀ (pins:List (Addr × Obj)) (s:Shared) (σ:St) (H:Hp) (Q:VK),Inv X pins σ H s→t σ H Q→wpAny (model X.prog X.w) X.A (eval e X.env) (EP X pins σ Q) X.xe s
def PT (X:Cx) (e:Expr) (t:TT):Prop :=
 ∀ (pins:List (Addr × Obj)) (s:Shared) (σ:St) (H:Hp) (Q:Bool→Hp→Prop),Inv X pins σ H s→t σ H Q→wpAny (model X.prog X.w) X.A (isTrue e X.env (eval e X.env)) (TP X pins σ Q) X.xe s
def PW (X:Cx) (e:Expr) (t:TT):Prop :=
 ∀ (whole:Sem Value) (pins:List (Addr × Obj)) (s:Shared) (σ:St) (H:Hp) (Q:Bool→Hp→Prop),Inv X pins σ H s→t σ H Q→wpAny (model X.prog X.w) X.A (isTrue e X.env whole) (TP X pins σ Q) X.xe s
theorem PW.pt {X:Cx} {e:Expr} {t:TT} (h:PW X e t):PT X e t:=h _
def PA (X:Cx) (es:List Expr) (t:TA):Prop :=
 ∀ (pos:Pos) (pins:List (Addr × Obj)) (s:Shared) (σ:St) (H:Hp) (Q:List V→Hp→Prop),Inv X pins σ H s→t σ H Q→wpAny (model X.prog X.w) X.A (spliced (backTo pos (starEach es X.env))) (AP X pins σ Q) X.xe s
def PS (X:Cx) (st:Stmt) (t:TS):Prop :=
 ∀ (pins:List (Addr × Obj)) (s:Shared) (σ:St) (H:Hp) (D:Ends),Inv X pins σ H s→t D σ H→wpAny (model X.prog X.w) X.A (exec st X.env) (SP X pins D) X.xe s
def PSs (X:Cx) (st:List Stmt) (t:TS):Prop :=
 ∀ (pins:List (Addr × Obj)) (s:Shared) (σ:St) (H:Hp) (D:Ends),Inv X pins σ H s→t D σ H→wpAny (model X.prog X.w) X.A (execs st X.env) (SP X pins D) X.xe s
theorem Av {α:Type} {t:Sem α} {Q Q':α→Shared→Prop} {M:Model} {A:Around} {E:Value→Shared→Prop} {s:Shared} (h:wpAny M A t Q E s) (hQ:∀ a s,Q a s→Q' a s):wpAny M A t Q' E s:=wpAny_mono h hQ fun _ _ x => x
section
variable {X:Cx}
def US (i:Nat):TE:=fun σ H Q => ∃ v,σ[i]? = some (some v)∧Q v H
def tC (v:V):TE:=fun _ H Q => Q v H
theorem Ks {i:Nat} {x:Str} {pos:Pos} (hN:X.N[i]? = some x) (hv:UR X.env.scope x) (hd:(x == ("__debug__" : Str)) = false:=by decide) (hcd:(x == ("__classdict__" : Str)) = false:=by decide):PE X (.Name x pos) (US i):=by
 intro pins s σ H Q I h
 obtain ⟨v,e,h⟩:=h
 obtain ⟨m,hn,hl⟩:=I.loc
 obtain ⟨u,r,l⟩:=hl i x v hN e hv
 have fin:EP X pins σ Q u s:=⟨v,H,I,r,h⟩
 rcases l with ⟨hk,hm⟩ | ⟨hk,c,hc,hcell⟩
 ·exact wpAny_Name (wpAny_loadName_local I.ok.kind hk hn hm fin) hd
 ·rcases hk with hk | hk
  ·exact wpAny_Name (wpAny_loadName_cell I.ok.kind hk hc hcell fin) hd
  ·exact wpAny_Name (wpAny_loadName_free I.ok.kind hk hc hcell fin hcd) hd
theorem Kt {i j pos}:PE X (.Constant (.int i) j pos) (tC (.int i)):=fun _ _ _ H _ I h => wpAny_Constant_int ⟨.int i,H,I.tok _,⟨_,rfl⟩,h⟩
theorem Oa {b j pos}:PE X (.Constant (.bool b) j pos) (tC (.bl b)):=fun _ _ _ H _ I h => Constant_bool ⟨.bl b,H,I,rfl,h⟩
theorem UT {j pos}:PE X (.Constant .none j pos) (tC .non):=fun _ _ _ H _ I h => Constant_none ⟨.non,H,I,rfl,h⟩
theorem Bg {x j pos}:PE X (.Constant (.str x) j pos) (tC (.str x)):=fun _ _ _ H _ I h => Calls.Constant_str ⟨.str x,H,I.tok _,⟨_,rfl⟩,h⟩
def Gl (X:Cx) (x:Str):Prop:=X.env.kindOf x = some .globalImplicit
theorem Dz {E:Value→Shared→Prop} {pins:List (Addr × Obj)} {s:Shared} {σ:St} {H:Hp} {x:Str} {u:Value} {pos:Pos} {Q:Value→Shared→Prop} (I:Inv X pins σ H s) (hg:Gl X x) (hm:X.mg x = some u) (h:Q u s)
  (hd:(x == ("__debug__" : Str)) = false:=by decide):wpAny (model X.prog X.w) X.A (eval (.Name x pos) X.env) Q E s :=
 Calls.Name_function_global I.ok.kind hg (Calls.loadGlobal_global (by rw [I.ok.glob]; exact I.mod.glob.keeps I.bk) hm h) hd
theorem Dk {E:Value→Shared→Prop} {pins:List (Addr × Obj)} {s:Shared} {σ:St} {H:Hp} {x:Str} {u:Value} {pos:Pos} {Q:Value→Shared→Prop} (I:Inv X pins σ H s) (hg:Gl X x) (hm:X.mg x = none) (hv:bootBuiltins x = some u) (h:Q u s)
  (hn:x≠"__name__":=by decide) (hd:(x == ("__debug__" : Str)) = false:=by decide):wpAny (model X.prog X.w) X.A (eval (.Name x pos) X.env) Q E s:=by
 obtain ⟨mb,h1,h2⟩:=I.mod.blt
 exact Calls.Name_function_global I.ok.kind hg (Calls.loadGlobal_builtin (by rw [I.ok.glob]; exact I.mod.glob.keeps I.bk) hm (by rw [I.ok.blt]; exact h1.keeps I.bk) ((h2 x hn).trans hv) h) hd
theorem Bl {x:Str} {v:V} {u:Value} {pos:Pos} (hg:Gl X x) (hm:X.mg x = some u) (r:RelV v u) (hd:(x == ("__debug__" : Str)) = false:=by decide):PE X (.Name x pos) (tC v) :=
 fun _ _ _ H _ I h => Dz I hg hm ⟨v,H,I,r,h⟩ hd
theorem MO {x:Str} {v:V} {u:Value} {pos:Pos} (hg:Gl X x) (hm:X.mg x = none) (hv:bootBuiltins x = some u) (r:RelV v u) (hn:x≠"__name__":=by decide) (hd:(x == ("__debug__" : Str)) = false:=by decide):PE X (.Name x pos) (tC v) :=
 fun _ _ _ H _ I h => Dk I hg hm hv ⟨v,H,I,r,h⟩ hn hd
variable {a b:Expr} {ta tb:TE} {pos:Pos}
variable {tA tB':TT} {rest:List Expr}
def Yo (t u:TT):TT:=fun σ H Q => t σ H fun c H1 => if c = true then u σ H1 Q else Q false H1
def Zv (t u:TT):TT:=fun σ H Q => t σ H fun c H1 => if c = true then Q true H1 else u σ H1 Q
def Yp (t:TT):TT:=fun σ H Q => t σ H fun c H1 => Q (!c) H1
theorem Rf (ha:PT X a tA):PW X (.BoolOp .And [a] pos) tA:=by
 intro wh pins s σ H Q I h
 refine isTrue_and (Av (ha pins s σ H Q I h) fun c s1 e => ?_)
 cases c with
 | true => exact isTrue_and_nil e
 | false => exact e
theorem Ob (ha:PT X a tA):PW X (.BoolOp .Or [a] pos) tA:=by
 intro wh pins s σ H Q I h
 refine isTrue_or (Av (ha pins s σ H Q I h) fun c s1 e => ?_)
 cases c with
 | false => exact isTrue_or_nil e
 | true => exact e
theorem UU (ha:PT X a tA) (hb:PW X (.BoolOp .And (b :: rest) pos) tB'):PW X (.BoolOp .And (a :: b :: rest) pos) (Yo tA tB'):=by
 intro wh pins s σ H Q I h
 refine isTrue_and (Av (ha pins s σ H _ I h) fun c s1 ⟨H1,I1,q1⟩ => ?_)
 cases c with
 | true => exact hb wh pins s1 σ H1 Q I1 q1
 | false => exact ⟨H1,I1,q1⟩
theorem Td (ha:PT X a tA) (hb:PW X (.BoolOp .Or (b :: rest) pos) tB'):PW X (.BoolOp .Or (a :: b :: rest) pos) (Zv tA tB'):=by
 intro wh pins s σ H Q I h
 refine isTrue_or (Av (ha pins s σ H _ I h) fun c s1 ⟨H1,I1,q1⟩ => ?_)
 cases c with
 | true => exact ⟨H1,I1,q1⟩
 | false => exact hb wh pins s1 σ H1 Q I1 q1
theorem Oc (ha:PT X a tA):PT X (.UnaryOp .Not a pos) (Yp tA):=by
 intro pins s σ H Q I h
 exact isTrue_not (ha pins s σ H (fun c H1 => Q (!c) H1) I h)
def We (ta tb:TE):TE:=fun σ H Q => ta σ H fun x H1 => ∃ c,x = .bl c∧if c = true then tb σ H1 Q else Q (.bl false) H1
def Wf (ta:TE):TE:=fun σ H Q => ta σ H fun x H1 => ∃ c,x = .bl c∧Q (.bl (!c)) H1
theorem UV {op} {t:TE} (h:PE X a t):PE X (.BoolOp op [a] pos) t:=fun pins s σ H Q I hw => BoolOp_one (h pins s σ H Q I hw)
theorem UW (ha:PE X a ta) (hb:PE X (.BoolOp .And (b :: rest) pos) tb):PE X (.BoolOp .And (a :: b :: rest) pos) (We ta tb):=by
 intro pins s σ H Q I h
 refine BoolOp_and (Av (ha pins s σ H _ I h) fun v s1 ⟨x,H1,I1,r1,q1⟩ => ?_)
 obtain ⟨c,rfl,q1⟩:=q1
 cases r1
 refine wpAny_truthy_bool ?_
 cases c with
 | true => exact hb pins s1 σ H1 Q I1 q1
 | false => exact ⟨.bl false,H1,I1,rfl,q1⟩
theorem UX (ha:PE X a ta):PE X (.UnaryOp .Not a pos) (Wf ta):=by
 intro pins s σ H Q I h
 refine UnaryOp_ (Av (ha pins s σ H _ I h) fun v s1 ⟨x,H1,I1,r1,q1⟩ => ?_)
 obtain ⟨c,rfl,q1⟩:=q1
 cases r1
 exact not_of (wpAny_truthy_bool ⟨.bl (!c),H1,I1,rfl,q1⟩)
def Zw (t:TT) (ta tb:TE):TE:=fun σ H Q => t σ H fun c H1 => if c = true then ta σ H1 Q else tb σ H1 Q
theorem Od {c:Expr} (hc:PT X c tA) (ha:PE X a ta) (hb:PE X b tb):PE X (.IfExp c a b pos) (Zw tA ta tb):=by
 intro pins s σ H Q I h
 refine wpAny_IfExp (Av (hc pins s σ H _ I h) fun d s1 ⟨H1,I1,q1⟩ => ?_)
 cases d with
 | true => exact ha pins s1 σ H1 Q I1 q1
 | false => exact hb pins s1 σ H1 Q I1 q1
end
def SqL (K:PySem.W.Frag) (H:Hp) (a:Addr) (xs:List V):Prop :=
 Rd H a (.lst xs) ∨
  ∃ (o:Obj) (its:Array Value) (n:Nat),K.lookup a = some o∧o.cls = .type "list"∧o.dict = none∧o.data = .seq its n∧its.size≤sizeLine∧Vals xs its.toList
def JT (K:PySem.W.Frag) (H:Hp) (a:Addr) (xs:List V):Prop :=
 Rd H a (.tup xs) ∨
  ∃ (o:Obj) (its:Array Value) (n:Nat),K.lookup a = some o∧o.cls = .type "tuple"∧o.data = .seq its n∧its.size≤sizeLine∧Vals xs its.toList
def Yq:Value→Option V
 | .none => some .non
 | .bool b => some (.bl b)
 | .int i _ => some (.int i)
 | .str x _ => some (.str x)
 | .bytes b _ => some (.byt b)
 | .float b _ => some (.flt b)
 | .ref a => some (.ref a)
 | .type n => some (.ty n)
 | _ => none
theorem RelV.abs {x:V} {u:Value} (r:RelV x u):Yq u = some x:=by
 cases x with
 | non => cases r; rfl
 | bl _ => cases r; rfl
 | int _ => obtain ⟨t,rfl⟩:=r; rfl
 | str _ => obtain ⟨t,rfl⟩:=r; rfl
 | byt _ => obtain ⟨t,rfl⟩:=r; rfl
 | flt _ => obtain ⟨t,rfl⟩:=r; rfl
 | ref _ => cases r; rfl
 | ty _ => cases r; rfl
theorem RelV.inj {x y:V} {u:Value} (r:RelV x u) (q:RelV y u):x = y:=Option.some.inj (r.abs.symm.trans q.abs)
theorem Vals.inj:∀ {xs ys:List V} {us:List Value},Vals xs us→Vals ys us→xs = ys
 | _,_,_,.nil,.nil => rfl
 | _,_,_,.cons r t,.cons r' t' => by rw [r.inj r',Vals.inj t t']
section
variable {X:Cx} {pins:List (Addr × Obj)} {σ:St} {H:Hp} {s:Shared} {a:Addr} {xs ys:List V}
theorem SqL.of {K:PySem.W.Frag} (h:H a = some (.lst xs)):SqL K H a xs:=.inl (.inl h)
theorem Inv.list (I:Inv X pins σ H s) (h:SqL X.K H a xs):∃ its:List Value,Vals xs its∧PlainL s.heap a its.toArray∧xs.length≤sizeLine:=by
 rcases h with h | ⟨o,its,n,hk,hc,hd,hs,hz,r⟩
 ·obtain ⟨z,its,n,r,e⟩:=h.ok I.hok
  exact ⟨its,r,⟨_,n,e,rfl,rfl,rfl⟩,z⟩
 ·refine ⟨its.toList,r,⟨o,n,I.kIn a o hk,hc,hd,by simpa using hs⟩,?_⟩
  have e:=r.length
  simp only [Array.length_toList] at e
  omega
theorem Inv.tuple (I:Inv X pins σ H s) (h:JT X.K H a xs):∃ its:List Value,Vals xs its∧IsTup s.heap a its.toArray∧xs.length≤sizeLine:=by
 rcases h with h | ⟨o,its,n,hk,hc,hs,hz,r⟩
 ·obtain ⟨z,its,r,p⟩:=h.ok I.hok
  exact ⟨its,r,p,z⟩
 ·refine ⟨its.toList,r,⟨o,I.kIn a o hk,hc,n,by simpa using hs⟩,?_⟩
  have e:=r.length
  simp only [Array.length_toList] at e
  omega
theorem Inv.list_inj (I:Inv X pins σ H s) (h:SqL X.K H a xs) (h':SqL X.K H a ys):xs = ys:=by
 obtain ⟨its,r,⟨o,n,e,_,_,d⟩,_⟩:=I.list h
 obtain ⟨its',r',⟨o',n',e',_,_,d'⟩,_⟩:=I.list h'
 rw [e] at e'; cases e'
 rw [d] at d'
 injection d' with d1 _
 have:its = its':=by simpa using congrArg Array.toList d1
 subst this
 exact r.inj r'
theorem Inv.tuple_inj (I:Inv X pins σ H s) (h:JT X.K H a xs) (h':JT X.K H a ys):xs = ys:=by
 obtain ⟨its,r,⟨o,e,_,n,d⟩,_⟩:=I.tuple h
 obtain ⟨its',r',⟨o',e',_,n',d'⟩,_⟩:=I.tuple h'
 rw [e] at e'; cases e'
 rw [d] at d'
 injection d' with d1 _
 have:its = its':=by simpa using congrArg Array.toList d1
 subst this
 exact r.inj r'
end
section
variable {X:Cx} {pins:List (Addr × Obj)} {σ:St} {H:Hp} {s:Shared} {E:Value→Shared→Prop}
end
section
variable {X:Cx} {st:Stmt} {rest:List Stmt} {t u:TS} {e:Expr} {te:TE} {pos:Pos}
def Wg:TS:=fun D σ H => D.nx σ H
def Yr (t u:TS):TS:=fun D σ H => t { D with nx:=u D } σ H
theorem EC:PSs X [] Wg:=fun _ _ σ H _ I h => wpAny_execs_nil ⟨σ,H,I,h⟩
theorem Bd (h1:PS X st t) (h2:PSs X rest u):PSs X (st :: rest) (Yr t u):=by
 intro pins s σ H D I h
 refine wpAny_execs_cons (Av (h1 pins s σ H { D with nx:=u D } I h) fun f s1 q => ?_)
 cases f with
 | next =>
  obtain ⟨σ',H',I',q⟩:=q
  exact h2 pins s1 σ' H' D I' q
 | ret v => exact q
 | brk => exact q
 | cont => exact q
theorem Bm (h1:PS X st t):PSs X [st] t:=by
 intro pins s σ H D I h
 refine wpAny_execs_cons (Av (h1 pins s σ H D I h) fun f s1 q => ?_)
 cases f with
 | next => exact wpAny_execs_nil q
 | ret v => exact q
 | brk => exact q
 | cont => exact q
theorem Inv.quiet {pins:List (Addr × Obj)} {σ:St} {H:Hp} {s:Shared} (I:Inv X pins σ H s):interactive X.env = false:=by simp [interactive,I.ok.kind]
def Wh (te:TE):TS:=fun D σ H => te σ H fun _ H1 => D.nx σ H1
theorem Rg (he:PE X e te) (hs:swapsWith e none pos.line X.env = pure false:=by rfl):PS X (.Expr e pos) (Wh te):=by
 intro pins s σ H D I h
 exact wpAny_Expr_any (Av (he pins s σ H _ I h) fun v s1 ⟨x,H1,I1,r1,q1⟩ => ⟨σ,H1,I1,q1⟩) I.quiet hs
def Wi (te:TE):TS:=fun D σ H => te σ H D.rt
theorem CU (he:PE X e te):PS X (.Return (some e) pos) (Wi te):=by
 intro pins s σ H D I h
 exact wpAny_Return_some (Av (he pins s σ H _ I h) fun v s1 ⟨x,H1,I1,r1,q1⟩ => ⟨x,σ,H1,I1,r1,q1⟩)
def Ys (c:TT) (t u:TS):TS:=fun D σ H => c σ H fun b H1 => if b = true then t D σ H1 else u D σ H1
theorem JU {c:Expr} {a b:List Stmt} {tc:TT} (hc:PT X c tc) (ha:PSs X a t) (hb:PSs X b u):PS X (.If c a b pos) (Ys tc t u):=by
 intro pins s σ H D I h
 refine wpAny_If (Av (hc pins s σ H _ I h) fun d s1 ⟨H1,I1,q1⟩ => ?_)
 cases d with
 | true => exact ha pins s1 σ H1 D I1 q1
 | false => exact hb pins s1 σ H1 D I1 q1
end
abbrev TG:=V→St→Hp→(St→Hp→Prop)→Prop
abbrev UY:=List V→St→Hp→(St→Hp→Prop)→Prop
def PG (X:Cx) (target:Expr) (t:TG):Prop :=
 ∀ (pins:List (Addr × Obj)) (s:Shared) (σ:St) (H:Hp) (v:V) (u:Value) (Q:St→Hp→Prop),Inv X pins σ H s→RelV v u→t v σ H Q →
  wpAny (model X.prog X.w) X.A (assign target X.env u) (fun _ s' => ∃ σ' H',Inv X pins σ' H' s'∧Q σ' H') X.xe s
def Yc (X:Cx) (ts:List Expr) (t:UY):Prop :=
 ∀ (pins:List (Addr × Obj)) (s:Shared) (σ:St) (H:Hp) (vs:List V) (us:List Value) (Q:St→Hp→Prop),Inv X pins σ H s→Vals vs us→t vs σ H Q →
  wpAny (model X.prog X.w) X.A (assignInOrder ((assignEach ts X.env).map (·.2)) us) (fun _ s' => ∃ σ' H',Inv X pins σ' H' s'∧Q σ' H') X.xe s
abbrev UZ:=V→V→V→Hp→(Hp→Prop)→Prop
def Wj (X:Cx) (t:UZ):Prop :=
 ∀ (pins:List (Addr × Obj)) (s:Shared) (σ:St) (H:Hp) (o i v:V) (ov iv u:Value) (Q:Hp→Prop),Inv X pins σ H s→RelV o ov→RelV i iv→RelV v u→t o i v H Q →
  wpAny (model X.prog X.w) X.A (setItem ov iv u) (fun _ s' => ∃ H',Inv X pins σ H' s'∧Q H') X.xe s
abbrev Wl:=V→V→Hp→VK→Prop
def Yd (X:Cx) (op:Operator) (t:Wl):Prop :=
 ∀ (pins:List (Addr × Obj)) (s:Shared) (σ:St) (H:Hp) (x y:V) (v u:Value) (Q:VK),Inv X pins σ H s→RelV x v→RelV y u→t x y H Q →
  wpAny (model X.prog X.w) X.A (inplaceOp op v u) (EP X pins σ Q) X.xe s
section
variable {X:Cx} {pos:Pos}
def Te (i:Nat):TG:=fun v σ H Q => Q (σ.set i (some v)) H
theorem DM {i:Nat} {x:Str} (hN:X.N.Nodup) (hi:X.N[i]? = some x) (hx:NX X.env.scope x) (hf:X.fn x = true∨X.env.scope.names.lookup x = some .local:=by first | exact .inl rfl | exact .inr rfl | assumption):PG X (.Name x pos) (Te i):=by
 intro pins s σ H v u Q I r h
 exact wpAny_assign_Name (CH I hN hi hx r (fun s' I' => ⟨_,H,I',h⟩) hf)
def Yt:UY:=fun vs σ H Q => vs = []∧Q σ H
def Wm (t:TG) (u:UY):UY:=fun vs σ H Q => ∃ v r,vs = v :: r∧t v σ H fun σ' H' => u r σ' H' Q
theorem MP:Yc X [] Yt:=by
 intro pins s σ H vs us Q I r h
 obtain ⟨e,h⟩:=h
 subst e
 cases r
 exact assignInOrder_nil ⟨σ,H,I,h⟩
theorem Cz {e:Expr} {es:List Expr} {t:TG} {u:UY} (h1:PG X e t) (h2:Yc X es u)
  (hs:(assignEach (e :: es) X.env).map (·.2) = assign e X.env :: (assignEach es X.env).map (·.2):=by rfl):Yc X (e :: es) (Wm t u):=by
 intro pins s σ H vs us Q I r h
 obtain ⟨v,vr,e1,h⟩:=h
 subst e1
 cases r with
 | cons r rr =>
  rw [hs]
  refine assignInOrder_cons (Av (h1 pins s σ H _ _ _ I r h) fun _ s1 ⟨σ1,H1,I1,q1⟩ => ?_)
  exact h2 pins s1 σ1 H1 _ _ Q I1 rr q1
def Yu (K:PySem.W.Frag) (n:Nat) (t:UY):TG:=fun v σ H Q => ∃ a xs,v = .ref a∧JT K H a xs∧xs.length = n∧t xs σ H Q
theorem Of {es:List Expr} {k:Nat} {t:UY} {n:Nat} (hc:X.calm = true) (h:Yc X es t)
  (hn:(assignEach es X.env).length = n:=by rfl) (hst:(assignEach es X.env).findIdx? (·.1) = none:=by rfl):PG X (.Tuple es k pos) (Yu X.K n t):=by
 intro pins s σ H v u Q I r hw
 obtain ⟨a,xs,e1,hq,hl,hw⟩:=hw
 subst e1
 cases r
 obtain ⟨its,rv,ht,hz⟩:=I.tuple hq
 refine assign_Tuple_tuple (I.ok.hd hc) ht (by simp [hn,← hl,rv.length]) hst fun h' hx => ?_
 have I1:Inv X pins σ H { s with heap:=h' }:=I.kept (t':=s.toks) fun b o e => hx b o (Nat.ne_of_lt (Heap.lt_size e)) e
 exact h pins _ σ H xs _ Q I1 (by simpa using rv) hw
def Yv (to ti:TE) (t:UZ):TG:=fun v σ H Q => to σ H fun o H1 => ti σ H1 fun i H2 => t o i v H2 fun H3 => Q σ H3
theorem Ua {o i:Expr} {to ti:TE} {t:UZ} (ho:PE X o to) (hi:PE X i ti) (hs:Wj X t)
  (ha:∀ v,assign (.Subscript o i pos) X.env v = (do
   let ov ← holding [v] (eval o X.env)
   let iv ← holding [v,ov] (eval i X.env)
   standAt pos
   holding [v,ov,iv] (setItem ov iv v)
   release [v,ov,iv] []):=by intro _; rfl):PG X (.Subscript o i pos) (Yv to ti t):=by
 intro pins s σ H v u Q I r h
 rw [ha]
 refine wpAny_bind (wpAny_holding (Av (ho pins s σ H _ I h) fun ov s1 ⟨x,H1,I1,r1,q1⟩ => ?_))
 refine wpAny_bind (wpAny_holding (Av (hi pins s1 σ H1 _ I1 q1) fun iv s2 ⟨y,H2,I2,r2,q2⟩ => ?_))
 refine wpAny_bind (wpAny_standAt (wpAny_bind (wpAny_holding (Av (hs pins s2 σ H2 x y v ov iv u _ I2 r1 r2 r q2) fun _ s3 ⟨H3,I3,q3⟩ => ?_))))
 exact wpAny_release ⟨σ,H3,I3,q3⟩
def Wn (te:TE) (g:TG):TS:=fun D σ H => te σ H fun x H1 => g x σ H1 D.nx
theorem Ub {tg e:Expr} {te:TE} {g:TG} (he:PE X e te) (hg:PG X tg g) (hs:swapsWithSole [tg] e pos.line X.env = pure false:=by rfl) (hw:swappedStores [tg] e X.env = pure none:=by rfl)
  (h1:(assignEach [tg] X.env).map (·.2) = [assign tg X.env]:=by rfl):PS X (.Assign [tg] e pos) (Wn te g):=by
 intro pins s σ H D I h
 refine wpAny_Assign_stores (Av (he pins s σ H _ I h) fun v s1 ⟨x,H1,I1,r1,q1⟩ => ?_) hs hw
 rw [h1]
 exact Av (hg pins s1 σ H1 x v _ I1 r1 q1) fun _ s2 q => q
theorem IA {i:Nat} {x:Str} {e:Expr} {te:TE} {pos':Pos} (hN:X.N.Nodup) (hi:X.N[i]? = some x) (hx:NX X.env.scope x) (he:PE X e te) (hs:swapsWith e (some (.Name x pos')) pos.line X.env = pure false:=by rfl) (hf:X.fn x = true∨X.env.scope.names.lookup x = some .local:=by first | exact .inl rfl | exact .inr rfl | assumption) :
  PS X (.Assign [.Name x pos'] e pos) (Wn te (Te i)):=by
 intro pins s σ H D I h
 refine wpAny_Assign_Name (Av (he pins s σ H _ I h) fun v s1 ⟨y,H1,I1,r1,q1⟩ => ?_) hs
 exact CH I1 hN hi hx r1 (fun s2 I2 => ⟨_,H1,I2,q1⟩) hf
def Yw (i j:Nat) (ta:TA):TS:=fun D σ H => ta σ H fun vs H1 => ∃ v w,vs = [v,w]∧D.nx ((σ.set i (some v)).set j (some w)) H1
theorem Uc {i j:Nat} {x y:Str} {a b:Expr} {ta:TA} {px py pt:Pos} {kt k2 pt2} (hc:X.calm = true) (hN:X.N.Nodup) (hi:X.N[i]? = some x) (hj:X.N[j]? = some y) (hij:i≠j)
  (hx:X.env.scope.names.lookup x = some .local) (hy:X.env.scope.names.lookup y = some .local) (ha:PA X [a,b] ta)
  (hw:swappedStores [.Tuple [.Name x px,.Name y py] kt pt] (.Tuple [a,b] k2 pt2) X.env = pure (some [x,y]))
  (hs:swapsWithSole [.Tuple [.Name x px,.Name y py] kt pt] (.Tuple [a,b] k2 pt2) pos.line X.env = pure false:=by rfl) :
  PS X (.Assign [.Tuple [.Name x px,.Name y py] kt pt] (.Tuple [a,b] k2 pt2) pos) (Yw i j ta):=by
 intro pins s σ H D I h
 rw [exec_Assign_arm]
 refine wpAny_bind (wpAny_standAt ?_)
 rw [hs]
 refine wpAny_bind (wpAny_pure ?_)
 rw [if_neg (by decide)]
 refine wpAny_bind (Tuple_ (Av (ha _ pins s σ H _ I h) fun us s1 ⟨vs,H1,I1,r1,q1⟩ => ?_))
 obtain ⟨v,w,e1,q1⟩:=q1
 subst e1
 obtain ⟨u1,u2,rfl,rv,rw'⟩:∃ u1 u2,us = [u1,u2]∧RelV v u1∧RelV w u2:=by
  cases r1 with
  | cons p q =>
   cases q with
   | cons p' q' =>
    cases q'
    exact ⟨_,_,rfl,p,p'⟩
 refine wpAny_newObj_type ?_ (by show 2≤sizeLine; decide)
 have I2:Inv X pins σ H1 { s1 with heap:=s1.heap.push { cls:=.type "tuple",data:=.seq [u1,u2].toArray } }:=I1.kept (t':=s1.toks) fun b o e => Heap.get?_push_of_some _ e
 rw [hw]
 refine wpAny_bind (wpAny_pure ?_)
 show wpAny (model X.prog X.w) X.A (do rule "assign.swapped-stores"; let items ← unpackItems (.ref s1.heap.objs.size) 2 none; assignInOrder [fun v => bindName X.env y v,fun v => bindName X.env x v] items.reverse; pure Flow.next) _ _ _
 refine wpAny_bind (wpAny_rule (wpAny_bind (unpackItems_tuple (items:=#[u1,u2]) (I.ok.hd hc) (IsTup.new s1.heap _) fun h' hx' => ?_)))
 have I3:=I2.kept (h':=h') (t':=s1.toks) fun b o e => hx' b o (Nat.ne_of_lt (Heap.lt_size e)) e
 show wpAny _ _ (assignInOrder [fun v => bindName X.env y v,fun v => bindName X.env x v] [u2,u1] >>= fun _ => pure Flow.next) _ _ _
 refine wpAny_bind (assignInOrder_cons (wpAny_bindName (CH I3 hN hj (.inl hy) rw' (fun s2 I4 => ?_) (.inr hy))))
 refine assignInOrder_cons (wpAny_bindName (CH I4 hN hi (.inl hx) rv (fun s3 I5 => assignInOrder_nil (wpAny_pure ?_)) (.inr hx)))
 rw [List.set_comm _ _ (Ne.symm hij)] at I5
 exact ⟨_,H1,I5,q1⟩
def Yx (i:Nat) (te:TE) (ti:Wl):TS:=fun D σ H => ∃ x,σ[i]? = some (some x)∧te σ H fun y H1 => ti x y H1 fun z H2 => D.nx (σ.set i (some z)) H2
theorem Ud {i:Nat} {x:Str} {e:Expr} {te:TE} {op:Operator} {ti:Wl} {pos':Pos} (hN:X.N.Nodup) (hi:X.N[i]? = some x) (hx:NX X.env.scope x) (he:PE X e te) (ho:Yd X op ti) (hf:X.fn x = true∨X.env.scope.names.lookup x = some .local:=by first | exact .inl rfl | exact .inr rfl | assumption) :
  PS X (.AugAssign (.Name x pos') op e pos) (Yx i te ti):=by
 intro pins s σ H D I h
 obtain ⟨v,e1,h⟩:=h
 obtain ⟨m,hn,hl⟩:=I.loc
 have vis:UR X.env.scope x:=by rcases hx with k | k; exact .inl k; exact .inr (.inl k)
 obtain ⟨u,r,l⟩:=hl i x v hi e1 vis
 refine wpAny_AugAssign_Name ?_
 have go:wpAny (model X.prog X.w) X.A (eval e X.env) (fun w s₂ => wpAny (model X.prog X.w) X.A (inplaceOp op u w) (fun r s₃ => wpAny (model X.prog X.w) X.A (storeName X.env x r) (fun _ => SP X pins D .next) X.xe s₃) X.xe s₂) X.xe s:=by
  refine Av (he pins s σ H _ I h) fun w s1 ⟨y,H1,I1,r1,q1⟩ => ?_
  refine Av (ho pins s1 σ H1 v y u w _ I1 r r1 q1) fun z s2 ⟨zv,H2,I2,r2,q2⟩ => ?_
  exact CH I2 hN hi hx r2 (fun s3 I3 => ⟨_,H2,I3,q2⟩) hf
 rcases l with ⟨hk,hm⟩ | ⟨hk,c,hc,hcell⟩
 ·exact wpAny_loadName_local I.ok.kind hk hn hm go
 ·rcases hk with hk | hk
  ·exact wpAny_loadName_cell I.ok.kind hk hc hcell go
  ·rcases hx with k | k
   ·have:X.env.scope.names.lookup x = some .free:=hk
    rw [k] at this; cases this
   ·have:X.env.scope.names.lookup x = some .free:=hk
    rw [k] at this; cases this
def Zy (f:Int→Int→Int):Wl:=fun x y H Q => ∃ i j,x = .int i∧y = .int j∧Q (.int (f i j)) H
theorem Ku:Yd X .Add (Zy fun i j => i + j):=by
 intro pins s σ H x y v u Q I r1 r2 h
 obtain ⟨i,j,e1,e2,q⟩:=h
 subst e1; subst e2
 obtain ⟨t,rfl⟩:=r1
 obtain ⟨t',rfl⟩:=r2
 exact iadd_int ⟨.int _,H,I.tok _,⟨_,rfl⟩,q⟩
end
section
variable {X:Cx} {pos:Pos}
def Ue (c:TT) (tb:TS):TS:=fun D σ H => ∃ W:Nat→St→Hp→Prop,(∃ m,W m σ H)∧∀ m σ H,W m σ H →
 c σ H fun b H1 => if b = true then ∃ N:St→Hp→Prop,(∀ σ' H',N σ' H'→∃ m',m' < m∧W m' σ' H')∧tb { D with nx:=N,ct:=N,bk:=D.nx } σ H1 else D.nx σ H1
theorem Og {c:Expr} {body:List Stmt} {tc:TT} {tb:TS} (hp:PassesOwn (model X.prog X.w) X.A X.env X.xe) (hc:PT X c tc) (hb:PSs X body tb):PS X (.While c body [] pos) (Ue tc tb):=by
 intro pins s σ H D I h
 obtain ⟨W,⟨m0,w0⟩,turn⟩:=h
 refine wpAny_While (codeAny_whileLoop (fun n s' => ∃ σ' H',Inv X pins σ' H' s'∧W n σ' H') ?_ m0 ⟨σ,H,I,w0⟩)
 rintro n s1 ⟨σ1,H1,I1,w1⟩
 refine wpAny_passesOwn hp (Av (hc pins s1 σ1 H1 _ I1 (turn n σ1 H1 w1)) fun b s2 ⟨H2,I2,q2⟩ => ?_)
 cases b with
 | true =>
  obtain ⟨N,hN,q2⟩:=q2
  rw [if_pos rfl]
  refine wpAny_passesOwn hp (Av (hb pins s2 σ1 H2 _ I2 q2) fun f s3 q3 => ?_)
  cases f with
  | next =>
   obtain ⟨σ3,H3,I3,n3⟩:=q3
   obtain ⟨m',hm,w3⟩:=hN σ3 H3 n3
   exact ⟨m',hm,σ3,H3,I3,w3⟩
  | cont =>
   obtain ⟨σ3,H3,I3,n3⟩:=q3
   obtain ⟨m',hm,w3⟩:=hN σ3 H3 n3
   exact ⟨m',hm,σ3,H3,I3,w3⟩
  | brk => exact q3
  | ret v => exact q3
 | false =>
  rw [if_neg Bool.false_ne_true]
  exact wpAny_execs_nil ⟨σ1,H2,I2,q2⟩
end
structure It where
 go:Nat→Hp→Prop
 yld:Nat→Hp→V→Hp→Prop
 stop:Nat→Hp→Prop
def Fb (X:Cx) (pins:List (Addr × Obj)) (H:Hp) (b:Addr):Prop :=
 H b = none∧b≠X.env.locals∧b ∉ X.fs∧(b∈X.ex∨X.s₀.heap.objs.size≤b)∧(∀ x c,X.env.cells.lookup x = some c→c≠b)∧∀ p∈X.pn ++ pins,p.1≠b
theorem Inv.fpOk {X:Cx} {pins:List (Addr × Obj)} {σ:St} {H H':Hp} {s:Shared} {b:Addr} (I:Inv X pins σ H s) (hb:s.heap.objs.size≤b) (hn:H' b = none):Fb X pins H' b:=by
 refine ⟨hn,Nat.ne_of_gt (Nat.lt_of_lt_of_le I.lt hb),I.nofs hb,.inr (Nat.le_trans I.sz hb),fun x c e z => ?_,fun p hp z => ?_⟩
 ·obtain ⟨v,q⟩:=I.cell x c e
  exact absurd (Nat.lt_of_lt_of_le q.lt (by rw [z]; exact hb)) (Nat.lt_irrefl _)
 ·exact absurd (Nat.lt_of_lt_of_le (Heap.lt_size (I.pin p hp).1) (by rw [z]; exact hb)) (Nat.lt_irrefl _)
structure Turn (P:Program) (w:World) (K:PySem.W.Frag) (tg:Expr) (J:It) (fp:List Addr) (it:Addr) (tn:Nat→Heap→Prop):Prop where
 mem:it∈fp
 obj:∀ i h,tn i h→∀ b∈fp,∃ o,h.get? b = some o∧∀ v,o.data≠.cell v
 keep:∀ i h h',tn i h→(∀ b∈fp,∀ o,h.get? b = some o→h'.get? b = some o)→tn i h'
 item:∀ (X:Cx),X.prog = P→X.w = w→X.K = K→X.calm = true→∀ (i:Nat) (pins:List (Addr × Obj)) (s:Shared) (σ:St) (H:Hp) (E:Value→Shared→Prop),Inv X pins σ H s→(∀ b∈fp,Fb X pins H b)→tn i s.heap→J.go i H →
  wpAny (model P w) X.A (pyNext (.ref it)) (fun r s1 => ∃ u,r = some u ∧
   wpAny (model P w) X.A (letOwnedTupleGo tg (.ref it) u) (fun _ s2 => ∃ x H',Inv X pins σ H' s2∧RelV x u∧J.yld i H x H'∧tn (i + 1) s2.heap∧∀ b∈fp,H' b = none) E s1) E s
 done:∀ (X:Cx),X.prog = P→X.w = w→X.K = K→X.calm = true→∀ (i:Nat) (pins:List (Addr × Obj)) (s:Shared) (σ:St) (H:Hp) (E:Value→Shared→Prop),Inv X pins σ H s→(∀ b∈fp,Fb X pins H b)→tn i s.heap→J.stop i H →
  wpAny (model P w) X.A (pyNext (.ref it)) (fun r s1 => r = none∧Inv X pins σ H s1) E s
 self:∀ (A:Around) (i:Nat) (s:Shared) (Q:Value→Shared→Prop) (E:Value→Shared→Prop),tn i s.heap→Q (.ref it) s→wpAny (model P w) A (pyIter (.ref it)) Q E s
abbrev TI:=St→Hp→(It→Hp→Prop)→Prop
def Zi (X:Cx) (pins:List (Addr × Obj)) (σ:St) (tg:Expr) (R:It→Hp→Prop) (itv:Value) (s2:Shared):Prop :=
 ∃ (it:Addr) (fp:List Addr) (tn:Nat→Heap→Prop) (J:It) (H':Hp),itv = .ref it∧Inv X pins σ H' s2∧Turn X.prog X.w X.K tg J fp it tn∧tn 0 s2.heap∧(∀ b∈fp,Fb X pins H' b)∧R J H'
def PI (X:Cx) (tg iter:Expr) (wi:TI):Prop :=
 ∀ (pins:List (Addr × Obj)) (s:Shared) (σ:St) (H:Hp) (R:It→Hp→Prop),Inv X pins σ H s→wi σ H R →
  wpAny (model X.prog X.w) X.A (eval iter X.env) (fun v s1 => wpAny (model X.prog X.w) X.A (pyIter v) (Zi X pins σ tg R) X.xe s1) X.xe s
theorem Oh {M:Model} {A:Around} {E:Value→Shared→Prop} {s:Shared} {tg:Expr} {it:Addr} {u:Value} {o:Obj} {n:String} {vs:Array Value} {Q:Unit→Shared→Prop} (ho:s.heap.get? it = some o) (hc:o.cls = .type n) (hd:o.data = .fields vs)
    (hn:["enumerate","zip","dict_itemiterator","dict_reverseitemiterator","odict_iterator","itertools.zip_longest","itertools.pairwise"].contains n = false) (hQ:Q () s):wpAny M A (letOwnedTupleGo tg (.ref it) u) Q E s:=by
  unfold letOwnedTupleGo
  cases tg <;> first
    | exact wpAny_pure hQ
    | (cases u <;> first
        | exact wpAny_pure hQ
        | (refine wpAny_bind (wpAny_load ho ?_)
           rw [hc,hd]
           show wpAny M A (if (["enumerate","zip","dict_itemiterator","dict_reverseitemiterator","odict_iterator","itertools.zip_longest","itertools.pairwise"].contains n && vs[0]? == some (rawInt _)) = true then _ else _) Q E s
           rw [if_neg (by intro h; rw [hn,Bool.false_and] at h; cases h)]
           exact wpAny_pure hQ))
def Yy (K:PySem.W.Frag) (a:Addr):It :=
 ⟨fun i H => ∃ xs x,SqL K H a xs∧xs[i]? = some x,fun i H x H' => H' = H∧∀ xs,SqL K H a xs→xs[i]? = some x,fun i H => ∃ xs,SqL K H a xs∧xs.length≤i⟩
def Yz (K:PySem.W.Frag) (a:Addr):It :=
 ⟨fun i H => ∃ xs x,JT K H a xs∧xs[i]? = some x,fun i H x H' => H' = H∧∀ xs,JT K H a xs→xs[i]? = some x,fun i H => ∃ xs,JT K H a xs∧xs.length≤i⟩
def Wo (lo:Int) (n:Nat):It:=⟨fun i _ => i < n,fun i H x H' => H' = H∧x = .int (lo + i),fun i _ => n≤i⟩
theorem NY {P:Program} {w:World} {K:PySem.W.Frag} {tg:Expr} (a it:Addr):Turn P w K tg (Yy K a) [it] it (fun i h => h.IsListIter it a i) where
 mem:=by simp
 obj:=fun i h st b hb => by
  have e:b = it:=by simpa using hb
  subst e
  obtain ⟨o,e,c,d⟩:=st
  exact ⟨o,e,fun v z => by rw [d] at z; cases z⟩
 keep:=fun i h h' st k => st.at fun o e => k it (by simp) o e
 item:=by
  intro X hP hw hK hc i pins s σ H E I hf st hg
  subst hP hw hK
  obtain ⟨xs,x,hq,hx⟩:=hg
  obtain ⟨its,rv,p,hz⟩:=I.list hq
  obtain ⟨u,hu,ru⟩:=rv.get hx
  obtain ⟨f0,f1,f2,f3,f4,f5⟩:=hf it (by simp)
  refine wpAny_pyNext_list_item st p.isList (x:=u) (by simpa using hu) fun h' st' sb => ?_
  have I1:Inv X pins σ H { s with heap:=h' }:=I.turned (t':=s.toks) (fun b o hb e => (sb.2 b hb).trans e) f0 f1 f3 f4 f5
  obtain ⟨o,e,c,d⟩:=id st'
  exact ⟨u,rfl,Oh (s:={ s with heap:=h' }) e c d (by decide) ⟨x,H,I1,ru,⟨rfl,fun ys hy => by rw [I.list_inj hy hq]; exact hx⟩,st',fun b hb => (hf b hb).1⟩⟩
 done:=by
  intro X hP hw hK hc i pins s σ H E I hf st hg
  subst hP hw hK
  obtain ⟨xs,hq,hx⟩:=hg
  obtain ⟨its,rv,p,hz⟩:=I.list hq
  obtain ⟨f0,f1,f2,f3,f4,f5⟩:=hf it (by simp)
  have hl:=rv.length
  exact wpAny_pyNext_list_end (I.ok.hd hc) st p.isList (by simp; omega) fun h' eb => ⟨rfl,I.turned (t':=s.toks) (fun b o hb e => eb b o hb e) f0 f1 f3 f4 f5⟩
 self:=fun _ _ _ _ _ st h => wpAny_pyIter_listiter st h
theorem Kv {P:Program} {w:World} {K:PySem.W.Frag} {tg:Expr} (a it:Addr):Turn P w K tg (Yz K a) [it] it (fun i h => h.IsTupleIter it a i) where
 mem:=by simp
 obj:=fun i h st b hb => by
  have e:b = it:=by simpa using hb
  subst e
  obtain ⟨o,e,c,d⟩:=st
  exact ⟨o,e,fun v z => by rw [d] at z; cases z⟩
 keep:=fun i h h' st k => st.at fun o e => k it (by simp) o e
 item:=by
  intro X hP hw hK hc i pins s σ H E I hf st hg
  subst hP hw hK
  obtain ⟨xs,x,hq,hx⟩:=hg
  obtain ⟨its,rv,p,hz⟩:=I.tuple hq
  obtain ⟨u,hu,ru⟩:=rv.get hx
  obtain ⟨f0,f1,f2,f3,f4,f5⟩:=hf it (by simp)
  refine wpAny_pyNext_tuple_item st (show s.heap.IsTuple a its.toArray from p) (x:=u) (by simpa using hu) fun h' st' sb => ?_
  have I1:Inv X pins σ H { s with heap:=h' }:=I.turned (t':=s.toks) (fun b o hb e => (sb.2 b hb).trans e) f0 f1 f3 f4 f5
  obtain ⟨o,e,c,d⟩:=id st'
  exact ⟨u,rfl,Oh (s:={ s with heap:=h' }) e c d (by decide) ⟨x,H,I1,ru,⟨rfl,fun ys hy => by rw [I.tuple_inj hy hq]; exact hx⟩,st',fun b hb => (hf b hb).1⟩⟩
 done:=by
  intro X hP hw hK hc i pins s σ H E I hf st hg
  subst hP hw hK
  obtain ⟨xs,hq,hx⟩:=hg
  obtain ⟨its,rv,p,hz⟩:=I.tuple hq
  obtain ⟨f0,f1,f2,f3,f4,f5⟩:=hf it (by simp)
  have hl:=rv.length
  exact wpAny_pyNext_tuple_end (I.ok.hd hc) st (show s.heap.IsTuple a its.toArray from p) (by simp; omega) fun h' eb => ⟨rfl,I.turned (t':=s.toks) (fun b o hb e => eb b o hb e) f0 f1 f3 f4 f5⟩
 self:=fun _ _ _ _ _ st h => wpAny_pyIter_tupleiter st h
theorem Kw {P:Program} {w:World} {K:PySem.W.Frag} {tg:Expr} (it:Addr) (lo:Int) (n:Nat):Turn P w K tg (Wo lo n) [it] it (fun i h => IsRangeIter h it (lo + (i:Nat) * 1) ((n:Int) - (i:Nat)) 1) where
 mem:=by simp
 obj:=fun i h st b hb => by
  have e:b = it:=by simpa using hb
  subst e
  exact ⟨_,st,fun v z => by
   have z':Data.fields _ = Data.cell v:=z
   cases z'⟩
 keep:=fun i h h' st k => k it (by simp) _ st
 item:=by
  intro X hP hw hK hc i pins s σ H E I hf st hg
  subst hP hw hK
  obtain ⟨f0,f1,f2,f3,f4,f5⟩:=hf it (by simp)
  have W:=Walks.range (prog:=X.prog) (w:=X.w) (I.ok.hd hc) it lo 1 n
  refine W.item i s _ _ hg st fun v h' tk hv st' kk => ?_
  obtain ⟨t,rfl⟩:=hv
  have I1:Inv X pins σ H { s with heap:=h',toks:=tk }:=I.turned (fun b o hb e => kk b o (by simpa using hb) e) f0 f1 f3 f4 f5
  refine ⟨_,rfl,Oh (s:={ s with heap:=h',toks:=tk }) (n:="range_iterator") st' rfl rfl (by decide) ⟨.int (lo + i),H,I1,⟨t,?_⟩,⟨rfl,rfl⟩,st',fun b hb => (hf b hb).1⟩⟩
  rw [Int.mul_one]
 done:=by
  intro X hP hw hK hc i pins s σ H E I hf st hg
  subst hP hw hK
  obtain ⟨f0,f1,f2,f3,f4,f5⟩:=hf it (by simp)
  exact wpAny_pyNext_range_end (I.ok.hd hc) st (by have:n≤i:=hg; omega) fun h' eb => ⟨rfl,I.turned (t':=s.toks) (fun b o hb e => eb b o hb e) f0 f1 f3 f4 f5⟩
 self:=fun _ _ _ _ _ st h => wpAny_pyIter_rangeiter st h
section
variable {X:Cx} {tg:Expr}
def Wp (K:PySem.W.Frag) (tl:TE):TI:=fun σ H R => tl σ H fun x H1 => ∃ a,x = .ref a∧(∃ xs,SqL K H1 a xs)∧R (Yy K a) H1
def ZA (K:PySem.W.Frag) (tl:TE):TI:=fun σ H R => tl σ H fun x H1 => ∃ a,x = .ref a∧(∃ xs,JT K H1 a xs)∧R (Yz K a) H1
theorem Rh {l:Expr} {tl:TE} (hl:PE X l tl):PI X tg l (Wp X.K tl):=by
 intro pins s σ H R I h
 refine Av (hl pins s σ H _ I h) fun v s1 ⟨x,H1,I1,r1,q1⟩ => ?_
 obtain ⟨a,e,⟨xs,hq⟩,q⟩:=q1
 subst e
 cases r1
 obtain ⟨its,rv,p,hz⟩:=I1.list hq
 refine wpAny_pyIter_list p.isList ?_
 refine ⟨s1.heap.objs.size,[s1.heap.objs.size],_,_,H1,rfl,I1.kept (t':=s1.toks) fun b o e => Heap.get?_push_of_some _ e,NY a _,⟨_,Heap.get?_push_size _ rfl,rfl,rfl⟩,fun b hb => ?_,q⟩
 have e:b = s1.heap.objs.size:=by simpa using hb
 subst e
 exact I1.fpOk (Nat.le_refl _) (I1.hok.fresh (Nat.le_refl _))
theorem Uf {l:Expr} {tl:TE} (hl:PE X l tl):PI X tg l (ZA X.K tl):=by
 intro pins s σ H R I h
 refine Av (hl pins s σ H _ I h) fun v s1 ⟨x,H1,I1,r1,q1⟩ => ?_
 obtain ⟨a,e,⟨xs,hq⟩,q⟩:=q1
 subst e
 cases r1
 obtain ⟨its,rv,p,hz⟩:=I1.tuple hq
 refine wpAny_pyIter_tuple (show s1.heap.IsTuple a its.toArray from p) ?_
 refine ⟨s1.heap.objs.size,[s1.heap.objs.size],_,_,H1,rfl,I1.kept (t':=s1.toks) fun b o e => Heap.get?_push_of_some _ e,Kv a _,⟨_,Heap.get?_push_size _ rfl,rfl,rfl⟩,fun b hb => ?_,q⟩
 have e:b = s1.heap.objs.size:=by simpa using hb
 subst e
 exact I1.fpOk (Nat.le_refl _) (I1.hok.fresh (Nat.le_refl _))
theorem JV {pins:List (Addr × Obj)} {σ:St} {H:Hp} {s:Shared} {R:It→Hp→Prop} {E:Value→Shared→Prop} {lo hi:Int} {t u v:Tok} {tk:Nat} (I:Inv X pins σ H s) (h1 : -(2 ^ 62)≤lo) (h2:lo < 2 ^ 62) (h3 : -(2 ^ 62)≤hi) (h4:hi < 2 ^ 62)
  (q:R (Wo lo (hi - lo).toNat) H):wpAny (model X.prog X.w) X.A (pyIter (.ref s.heap.objs.size)) (Zi X pins σ tg R) E { s with heap:=s.heap.push { cls:=.type "range",data:=.fields #[.int lo t,.int hi u,.int 1 v] },toks:=tk }:=by
 refine wpAny_pyIter_range (IsRange.new ..) (small_one h1 h2 h3 h4) ?_
 have I1:Inv X pins σ H { s with heap:=s.heap.push { cls:=.type "range",data:=.fields #[.int lo t,.int hi u,.int 1 v] },toks:=tk }:=I.kept fun b o e => Heap.get?_push_of_some _ e
 refine ⟨(s.heap.push { cls:=.type "range",data:=.fields #[.int lo t,.int hi u,.int 1 v] }).objs.size,[(s.heap.push { cls:=.type "range",data:=.fields #[.int lo t,.int hi u,.int 1 v] }).objs.size],_,_,H,rfl,
  I1.kept (t':=tk) fun b o e => Heap.get?_push_of_some _ e,Kw _ lo (hi - lo).toNat,?_,fun b hb => ?_,q⟩
 ·have e1:lo + ((0:Nat):Int) * 1 = lo:=by simp
  have e2:(((hi - lo).toNat:Nat):Int) - ((0:Nat):Int) = Builtin.Range.rangeSize lo hi 1:=by rw [rangeSize_one]; split <;> omega
  show IsRangeIter _ _ (lo + ((0:Nat):Int) * 1) ((((hi - lo).toNat:Nat):Int) - ((0:Nat):Int)) 1
  rw [e1,e2]
  exact Heap.get?_push_size _ rfl
 ·have e:b = (s.heap.push { cls:=.type "range",data:=.fields #[.int lo t,.int hi u,.int 1 v] }).objs.size:=by simpa using hb
  subst e
  exact I1.fpOk (Nat.le_refl _) (I1.hok.fresh (Nat.le_refl _))
def Wq (ta:TA):TI:=fun σ H R => ta σ H fun vs H1 => ∃ j:Int,vs = [.int j]∧-(2 ^ 62)≤j∧j < 2 ^ 62∧R (Wo 0 j.toNat) H1
def Wr (ta:TA):TI:=fun σ H R => ta σ H fun vs H1 => ∃ i j:Int,vs = [.int i,.int j]∧(-(2 ^ 62)≤i∧i < 2 ^ 62∧-(2 ^ 62)≤j∧j < 2 ^ 62)∧R (Wo i (j - i).toNat) H1
theorem NZ {a:Expr} {ta:TA} {p pos:Pos} (hg:Gl X "range") (hm:X.mg "range" = none) (ha:PA X [a] ta) (hs:starEach [a] X.env = [(false,eval a X.env)]:=by rfl):PI X tg (.Call (.Name "range" p) [a] [] pos) (Wq ta):=by
 intro pins s σ H R I h
 refine Call_ (Dk I hg hm boot_range (PyProof.Rows.callWith_type1 (Av (ha pos pins s σ H _ I h) fun us s1 ⟨vs,H1,I1,r1,q1⟩ => ?_) hs rfl))
 obtain ⟨j,e,q1,q2,q⟩:=q1
 subst e
 cases r1 with
 | cons r rr =>
  cases rr
  obtain ⟨t,rfl⟩:=r
  exact call_range_1 (JV I1 (by omega) (by omega) q1 q2 (by simpa using q))
theorem Na {a b:Expr} {ta:TA} {p pos:Pos} (hg:Gl X "range") (hm:X.mg "range" = none) (ha:PA X [a,b] ta) (hs:starEach [a,b] X.env = [(false,eval a X.env),(false,eval b X.env)]:=by rfl) (hs2:starEach [b] X.env = [(false,eval b X.env)]:=by rfl) :
  PI X tg (.Call (.Name "range" p) [a,b] [] pos) (Wr ta):=by
 intro pins s σ H R I h
 refine Call_ (Dk I hg hm boot_range (PyProof.Rows.callWith_type1 (Av (ha pos pins s σ H _ I h) fun us s1 ⟨vs,H1,I1,r1,q1⟩ => ?_) (by rw [hs,hs2]) (by rw [hs2]; rfl)))
 obtain ⟨i,j,e,⟨q1,q2,q3,q4⟩,q⟩:=q1
 subst e
 cases r1 with
 | cons r rr =>
  cases rr with
  | cons r' rr =>
   cases rr
   obtain ⟨t,rfl⟩:=r
   obtain ⟨t',rfl⟩:=r'
   exact call_range_2 (JV I1 q1 q2 q3 q4 q)
def ZB (wi:TI) (g:TG) (tb:TS):TS:=fun D σ H => wi σ H fun J H1 => ∃ W:Nat→Nat→St→Hp→Prop,(∃ m,W 0 m σ H1)∧∀ i m σ H,W i m σ H →
 (J.stop i H∧D.nx σ H)∨(J.go i H∧∃ N:St→Hp→Prop,(∀ σ' H',N σ' H'→∃ m',m' < m∧W (i + 1) m' σ' H')∧∀ x H',J.yld i H x H'→g x σ H' fun σ2 H2 => tb { D with nx:=N,ct:=N,bk:=D.nx } σ2 H2)
def Fc (fp:List Addr) (h:Heap):List (Addr × Obj):=fp.filterMap fun b => (h.get? b).map fun o => (b,o)
theorem CV {fp:List Addr} {h:Heap} {b:Addr} {o:Obj} (hb:b∈fp) (e:h.get? b = some o):(b,o)∈Fc fp h:=List.mem_filterMap.mpr ⟨b,hb,by rw [e]; rfl⟩
theorem Nb {fp:List Addr} {h:Heap} {p:Addr × Obj} (hp:p∈Fc fp h):p.1∈fp∧h.get? p.1 = some p.2:=by
 obtain ⟨b,hb,e⟩:=List.mem_filterMap.mp hp
 cases q:h.get? b with
 | none => rw [q] at e; cases e
 | some o =>
  rw [q] at e
  have e':(b,o) = p:=Option.some.inj e
  subst e'
  exact ⟨hb,q⟩
theorem Inv.pinned {pins:List (Addr × Obj)} {σ:St} {H:Hp} {s:Shared} {fp:List Addr} (I:Inv X pins σ H s) (hf:∀ b∈fp,Fb X pins H b) (ho:∀ b∈fp,∃ o,s.heap.get? b = some o∧∀ v,o.data≠.cell v):Inv X (pins ++ Fc fp s.heap) σ H s :=
 I.pins_of fun p hp => (List.mem_append.mp hp).elim (fun z => I.pin p (List.mem_append_right _ z)) fun z => by
  obtain ⟨hb,e⟩:=Nb z
  obtain ⟨f0,f1,f2,_⟩:=hf p.1 hb
  obtain ⟨o,e',d⟩:=ho p.1 hb
  rw [e] at e'; cases e'
  exact ⟨e,f0,f1,f2,d⟩
theorem Inv.unpinned {pins pl:List (Addr × Obj)} {σ:St} {H:Hp} {s:Shared} (I:Inv X (pins ++ pl) σ H s):Inv X pins σ H s:=I.pins_of fun p hp => I.pin p (List.mem_append_right _ (List.mem_append_left _ hp))
theorem Ug {iter:Expr} {body:List Stmt} {wi:TI} {g:TG} {tb:TS} {pos:Pos} (hp:PassesOwn (model X.prog X.w) X.A X.env X.xe) (hc:X.calm = true) (hi:PI X tg iter wi) (hg:PG X tg g) (hb:PSs X body tb)
  (hs:∀ x,foldedSetIterable iter X.env x = pure x:=by intro _; rfl):PS X (.For tg iter body [] pos) (ZB wi g tb):=by
 intro pins s σ H D I h
 refine wpAny_For (Av (hi pins s σ H _ I h) fun v s1 h1 => Av h1 fun itv s2 h2 => ?_) hs
 obtain ⟨it,fp,tn,J,H2,e,I2,T,st2,f2,W,⟨m0,w0⟩,turn⟩:=h2
 subst e
 have stat:∀ {H':Hp},(∀ b∈fp,H' b = none)→∀ b∈fp,Fb X pins H' b:=fun hn b hb => ⟨hn b hb,(f2 b hb).2⟩
 refine codeAny_forLoop_any (fun n s' => ∃ i σ' H',Inv X pins σ' H' s'∧tn i s'.heap∧(∀ b∈fp,H' b = none)∧W i n σ' H') ?_ m0 ⟨0,σ,H2,I2,st2,fun b hb => (f2 b hb).1,w0⟩
 rintro n s3 ⟨i,σ3,H3,I3,st3,fr3,w3⟩
 rcases turn i n σ3 H3 w3 with ⟨stop,qn⟩ | ⟨go,N,hN,step⟩
 ·refine wpAny_passesOwn hp (Av (T.done X rfl rfl rfl hc i pins s3 σ3 H3 X.xe I3 (stat fr3) st3 stop) fun r s4 ⟨hr,I4⟩ => ?_)
  subst hr
  exact wpAny_execs_nil ⟨σ3,H3,I4,qn⟩
 ·refine wpAny_passesOwn hp (Av (T.item X rfl rfl rfl hc i pins s3 σ3 H3 X.xe I3 (stat fr3) st3 go) fun r s4 ⟨u,hr,h4⟩ => ?_)
  subst hr
  refine wpAny_passesOwn hp (Av h4 fun _ s5 ⟨x,H5,I5,r5,y5,st5,fr5⟩ => ?_)
  have I5':=I5.pinned (stat fr5) (T.obj _ _ st5)
  refine wpAny_passesOwn hp (Av (hg _ s5 σ3 H5 x u _ I5' r5 (step x H5 y5)) fun _ s6 ⟨σ6,H6,I6,q6⟩ => ?_)
  refine wpAny_passesOwn hp (Av (hb _ s6 σ6 H6 _ I6 q6) fun f s7 q7 => ?_)
  have again:∀ {σ7:St} {H7:Hp},Inv X (pins ++ Fc fp s5.heap) σ7 H7 s7→N σ7 H7→∃ m,m < n∧∃ i σ' H',Inv X pins σ' H' s7∧tn i s7.heap∧(∀ b∈fp,H' b = none)∧W i m σ' H':=fun {σ7 H7} I7 n7 => by
   obtain ⟨m',hm,w7⟩:=hN σ7 H7 n7
   refine ⟨m',hm,i + 1,σ7,H7,I7.unpinned,T.keep _ _ _ st5 fun b hb o e => (I7.pin (b,o) (List.mem_append_right _ (List.mem_append_right _ (CV hb e)))).1,fun b hb => ?_,w7⟩
   obtain ⟨o,e,d⟩:=T.obj _ _ st5 b hb
   exact (I7.pin (b,o) (List.mem_append_right _ (List.mem_append_right _ (CV hb e)))).2.1
  cases f with
  | next => obtain ⟨σ7,H7,I7,n7⟩:=q7; exact again I7 n7
  | cont => obtain ⟨σ7,H7,I7,n7⟩:=q7; exact again I7 n7
  | brk => obtain ⟨σ7,H7,I7,q7⟩:=q7; exact ⟨σ7,H7,I7.unpinned,q7⟩
  | ret v => obtain ⟨x7,σ7,H7,I7,r7,q7⟩:=q7; exact ⟨x7,σ7,H7,I7.unpinned,r7,q7⟩
end
abbrev R2:=V→V→Hp→VK→Prop
def Co (X:Cx) (f:Value→Value→Sem Value) (r:R2):Prop :=
 ∀ (pins:List (Addr × Obj)) (s:Shared) (σ:St) (H:Hp) (x y:V) (v u:Value) (Q:VK),Inv X pins σ H s→RelV x v→RelV y u→r x y H Q →
  wpAny (model X.prog X.w) X.A (f v u) (EP X pins σ Q) X.xe s
def Ye (X:Cx) (f:Value→Sem Value) (r:V→Hp→VK→Prop):Prop :=
 ∀ (pins:List (Addr × Obj)) (s:Shared) (σ:St) (H:Hp) (x:V) (v:Value) (Q:VK),Inv X pins σ H s→RelV x v→r x H Q →
  wpAny (model X.prog X.w) X.A (f v) (EP X pins σ Q) X.xe s
def BQ (X:Cx) (f:Value) (r:List V→Hp→VK→Prop):Prop :=
 ∀ (pins:List (Addr × Obj)) (s:Shared) (σ:St) (H:Hp) (xs:List V) (us:List Value) (Q:VK),Inv X pins σ H s→Vals xs us→r xs H Q →
  wpAny (model X.prog X.w) X.A (call f us) (EP X pins σ Q) X.xe s
def ZC (X:Cx) (r:V→Hp→(Bool→Hp→Prop)→Prop):Prop :=
 ∀ (pins:List (Addr × Obj)) (s:Shared) (σ:St) (H:Hp) (x:V) (v:Value) (Q:Bool→Hp→Prop),Inv X pins σ H s→RelV x v→r x H Q →
  wpAny (model X.prog X.w) X.A (truthy v) (TP X pins σ Q) X.xe s
def Ws (r:R2) (ta tb:TE):TE:=fun σ H Q => ta σ H fun x H1 => tb σ H1 fun y H2 => r x y H2 Q
def Zz (r:V→Hp→VK→Prop) (ta:TE):TE:=fun σ H Q => ta σ H fun x H1 => r x H1 Q
def rI (C:Int→Int→Prop) (g:Int→Int→V):R2:=fun x y H Q => ∃ i j,x = .int i∧y = .int j∧C i j∧Q (g i j) H
def Ri (g:Int→Int→V):R2:=fun x y H Q => ∃ i j,x = .int i∧y = .int j∧Q (g i j) H
def rU (g:Int→V):V→Hp→VK→Prop:=fun x H Q => ∃ i,x = .int i∧Q (g i) H
section
variable {X:Cx} {a b c:Expr} {ta tb tc:TE} {pos:Pos}
theorem Uh (ha:PE X a ta) (hb:PE X b tb) {pins:List (Addr × Obj)} {s:Shared} {σ:St} {H:Hp} {R:V→V→Hp→Prop} (I:Inv X pins σ H s)
  (h:ta σ H fun x H1 => tb σ H1 fun y H2 => R x y H2) {Q:Value→Shared→Prop} {f:Value→Value→Sem Value}
  (hf:∀ v u s2 x y H2,Inv X pins σ H2 s2→RelV x v→RelV y u→R x y H2→wpAny (model X.prog X.w) X.A (f v u) Q X.xe s2) :
  wpAny (model X.prog X.w) X.A (eval a X.env) (fun v s₁ => wpAny (model X.prog X.w) X.A (eval b X.env) (fun u s₂ => wpAny (model X.prog X.w) X.A (f v u) Q X.xe s₂) X.xe s₁) X.xe s:=by
 refine Av (ha pins s σ H _ I h) fun v s1 ⟨x,H1,I1,r1,q1⟩ => ?_
 refine Av (hb pins s1 σ H1 _ I1 q1) fun u s2 ⟨y,H2,I2,r2,q2⟩ => ?_
 exact hf v u s2 x y H2 I2 r1 r2 q2
theorem Tf {op:Operator} {r:R2} (ho:Co X (binaryOp op) r) (ha:PE X a ta) (hb:PE X b tb):PE X (.BinOp a op b pos) (Ws r ta tb):=by
 intro pins s σ H Q I h
 exact wpAny_BinOp (Uh ha hb I h fun v u s2 x y H2 I2 rx ry q => ho pins s2 σ H2 x y v u Q I2 rx ry q)
theorem Wt {op:UnaryOp} {r:V→Hp→VK→Prop} (ho:Ye X (unaryOp op) r) (ha:PE X a ta):PE X (.UnaryOp op a pos) (Zz r ta):=by
 intro pins s σ H Q I h
 exact UnaryOp_ (Av (ha pins s σ H _ I h) fun v s1 ⟨x,H1,I1,r1,q1⟩ => ho pins s1 σ H1 x v Q I1 r1 q1)
theorem Yg {f:Value→Value→Sem Value} {C:Int→Int→Prop} {g:Int→Int→Int}
  (rule:∀ (i j:Int) (t u:Tok) (s:Shared) (Q:Value→Shared→Prop) (E:Value→Shared→Prop),C i j→Q (.int (g i j) s.toks) { s with toks:=s.toks + 1 }→wpAny (model X.prog X.w) X.A (f (.int i t) (.int j u)) Q E s) :
  Co X f (rI C fun i j => .int (g i j)):=by
 intro pins s σ H x y v u Q I rx ry h
 obtain ⟨i,j,rfl,rfl,hc,q⟩:=h
 obtain ⟨t,rfl⟩:=rx
 obtain ⟨t',rfl⟩:=ry
 exact rule i j t t' s _ _ hc ⟨.int (g i j),H,I.tok _,⟨_,rfl⟩,q⟩
theorem Wu {f:Value→Value→Sem Value} {g:Int→Int→Int}
  (rule:∀ (i j:Int) (t u:Tok) (s:Shared) (Q:Value→Shared→Prop) (E:Value→Shared→Prop),Q (.int (g i j) s.toks) { s with toks:=s.toks + 1 }→wpAny (model X.prog X.w) X.A (f (.int i t) (.int j u)) Q E s) :
  Co X f (Ri fun i j => .int (g i j)):=by
 intro pins s σ H x y v u Q I rx ry h
 obtain ⟨i,j,rfl,rfl,q⟩:=h
 obtain ⟨t,rfl⟩:=rx
 obtain ⟨t',rfl⟩:=ry
 exact rule i j t t' s _ _ ⟨.int (g i j),H,I.tok _,⟨_,rfl⟩,q⟩
theorem Ui {f:Value→Value→Sem Value} {g:Int→Int→Bool}
  (rule:∀ (i j:Int) (t u:Tok) (s:Shared) (Q:Value→Shared→Prop) (E:Value→Shared→Prop),Q (.bool (g i j)) s→wpAny (model X.prog X.w) X.A (f (.int i t) (.int j u)) Q E s) :
  Co X f (Ri fun i j => .bl (g i j)):=by
 intro pins s σ H x y v u Q I rx ry h
 obtain ⟨i,j,rfl,rfl,q⟩:=h
 obtain ⟨t,rfl⟩:=rx
 obtain ⟨t',rfl⟩:=ry
 exact rule i j t t' s _ _ ⟨.bl (g i j),H,I,rfl,q⟩
def Wv (i j:Int):Prop:=0 < j∧j < 1073741824
def Ww (i j:Int):Prop:=0≤j∧j≤1000000∧i.natAbs < 2 ^ 64
def CMul (i j:Int):Prop:=(-(2 ^ 64) < i∧i < 2 ^ 64)∨(-(2 ^ 64) < j∧j < 2 ^ 64)
theorem CMul.ok {i j:Int} (h:CMul i j):IntMulOk i j:=by
 rcases h with ⟨h1,h2⟩ | ⟨h1,h2⟩
 ·exact .of_left (intBits_le_64 h1 h2)
 ·exact .of_right (intBits_le_64 h1 h2)
theorem CW:Co X (binaryOp .Add) (Ri fun i j => .int (i + j)):=Wu fun _ _ _ _ _ _ _ q => add_int q
theorem Uj:Co X (binaryOp .Sub) (Ri fun i j => .int (i - j)):=Wu fun _ _ _ _ _ _ _ q => sub_int q
theorem Uk:Co X (binaryOp .Mult) (rI CMul fun i j => .int (i * j)):=Yg fun _ _ _ _ _ _ _ hc q => mul_int q hc.ok
theorem Rj:Co X (binaryOp .FloorDiv) (rI Wv fun i j => .int (i / j)):=Yg fun i j _ _ _ _ _ hc q => by
 have h1:(0:Int) < j:=hc.1
 have h2:j < 1073741824:=hc.2
 exact floordiv_int (by omega) (by rw [Int.fdiv_eq_ediv_of_nonneg i (by omega)]; exact q) (.inl (PyProof.noPylong_small (by omega)))
theorem Ul:Co X (binaryOp .Mod) (rI (fun _ j => 0 < j) fun i j => .int (i % j)):=Yg fun i j _ _ _ _ _ hc q => by
 have h1:(0:Int) < j:=hc
 exact mod_int' (by omega) (by rw [Int.fmod_eq_emod_of_nonneg i (by omega)]; exact q)
theorem Um:Co X (binaryOp .Pow) (rI Ww fun i j => .int (i ^ j.toNat)):=Yg fun _ _ _ _ _ _ _ hc q => pow_int_small hc.1 hc.2.1 hc.2.2 q
theorem aA {f:Value→Sem Value} {g:Int→Int}
  (rule:∀ (i:Int) (t:Tok) (s:Shared) (Q:Value→Shared→Prop) (E:Value→Shared→Prop),Q (.int (g i) s.toks) { s with toks:=s.toks + 1 }→wpAny (model X.prog X.w) X.A (f (.int i t)) Q E s) :
  Ye X f (rU fun i => .int (g i)):=by
 intro pins s σ H x v Q I rx h
 obtain ⟨i,rfl,q⟩:=h
 obtain ⟨t,rfl⟩:=rx
 exact rule i t s _ _ ⟨.int (g i),H,I.tok _,⟨_,rfl⟩,q⟩
theorem Uo:Ye X (unaryOp .USub) (rU fun i => .int (-i)):=aA fun _ _ _ _ _ q => neg_int q
end
def Wx:V→V→Bool
 | .non,.non => true | .non,.int _ => true | .int _,.non => true | .non,.bl _ => true | .bl _,.non => true | .non,.str _ => true | .str _,.non => true
 | .int _,.int _ => true | .bl _,.bl _ => true | .str _,.str _ => true | .byt _,.byt _ => true
 | .int _,.str _ => true | .str _,.int _ => true | .bl _,.str _ => true | .str _,.bl _ => true
 | _,_ => false
def Zj:R2:=fun x y H Q => Wx x y = true∧Q (.bl (decide (x = y))) H
def Zk:R2:=fun x y H Q => Wx x y = true∧Q (.bl (!decide (x = y))) H
theorem MQ {i j:Int}:decide (V.int i = V.int j) = (i == j):=by
 rw [Bool.eq_iff_iff]
 simp
theorem Oi {i j:Bool}:decide (V.bl i = V.bl j) = (i == j):=by
 rw [Bool.eq_iff_iff]
 simp
theorem MR {i j:Str}:decide (V.str i = V.str j) = (i == j):=by
 rw [Bool.eq_iff_iff]
 simp
theorem MS {i j:Array UInt8}:decide (V.byt i = V.byt j) = (i.toList == j.toList):=by
 rw [Bool.eq_iff_iff]
 cases i
 cases j
 simp
section
variable {X:Cx} {a b c:Expr} {ta tb tc:TE} {pos:Pos}
theorem AW {pins:List (Addr × Obj)} {σ:St} {H:Hp} {s:Shared} {Q:VK} {k k':Bool} (I:Inv X pins σ H s) (q:Q (.bl k) H) (e:k = k'):EP X pins σ Q (.bool k') s:=by
 subst e
 exact ⟨.bl k,H,I,rfl,q⟩
theorem HE:Co X (compareOp .Eq) Zj:=by
 intro pins s σ H x y v u Q I rx ry h
 obtain ⟨hs,q⟩:=h
 cases x with
 | non =>
  cases rx
  cases y with
  | non => cases ry; exact PySem.EqNone.eq_none_none (AW I q (by simp))
  | bl j => cases ry; exact PySem.EqNone.eq_none_bool (AW I q (by simp))
  | int j => obtain ⟨t',rfl⟩:=ry; exact PySem.EqNone.eq_none_int (AW I q (by simp))
  | str j => obtain ⟨t',rfl⟩:=ry; exact PySem.EqNone.eq_none_str (AW I q (by simp))
  | _ => exact absurd (show false = true from hs) Bool.false_ne_true
 | bl i =>
  cases rx
  cases y with
  | non => cases ry; exact PySem.EqNone.eq_bool_none (AW I q (by simp))
  | bl j => cases ry; exact eq_bool (AW I q Oi)
  | str j => obtain ⟨t',rfl⟩:=ry; exact PySem.EqMixed.eq_bool_str (AW I q (by simp))
  | _ => exact absurd (show false = true from hs) Bool.false_ne_true
 | int i =>
  obtain ⟨t,rfl⟩:=rx
  cases y with
  | non => cases ry; exact PySem.EqNone.eq_int_none (AW I q (by simp))
  | int j => obtain ⟨t',rfl⟩:=ry; exact eq_int (AW I q MQ)
  | str j => obtain ⟨t',rfl⟩:=ry; exact PySem.EqMixed.eq_int_str (AW I q (by simp))
  | _ => exact absurd (show false = true from hs) Bool.false_ne_true
 | str i =>
  obtain ⟨t,rfl⟩:=rx
  cases y with
  | non => cases ry; exact PySem.EqNone.eq_str_none (AW I q (by simp))
  | bl j => cases ry; exact PySem.EqMixed.eq_str_bool (AW I q (by simp))
  | int j => obtain ⟨t',rfl⟩:=ry; exact PySem.EqMixed.eq_str_int (AW I q (by simp))
  | str j => obtain ⟨t',rfl⟩:=ry; exact eq_str (AW I q MR)
  | _ => exact absurd (show false = true from hs) Bool.false_ne_true
 | byt i =>
  obtain ⟨t,rfl⟩:=rx
  cases y with
  | byt j => obtain ⟨t',rfl⟩:=ry; exact PySem.W.eq_bytes (AW I q MS)
  | _ => exact absurd (show false = true from hs) Bool.false_ne_true
 | _ => cases y <;> exact absurd (show false = true from hs) Bool.false_ne_true
theorem Tg:Co X (compareOp .NotEq) Zk:=by
 intro pins s σ H x y v u Q I rx ry h
 obtain ⟨hs,q⟩:=h
 cases x with
 | non =>
  cases rx
  cases y with
  | non => cases ry; exact PySem.EqNone.ne_none_none (AW I q (by simp))
  | bl j => cases ry; exact PySem.EqNone.ne_none_bool (AW I q (by simp))
  | int j => obtain ⟨t',rfl⟩:=ry; exact PySem.EqNone.ne_none_int (AW I q (by simp))
  | str j => obtain ⟨t',rfl⟩:=ry; exact PySem.EqNone.ne_none_str (AW I q (by simp))
  | _ => exact absurd (show false = true from hs) Bool.false_ne_true
 | bl i =>
  cases rx
  cases y with
  | non => cases ry; exact PySem.EqNone.ne_bool_none (AW I q (by simp))
  | bl j => cases ry; exact ne_bool (AW I q (congrArg not Oi))
  | str j => obtain ⟨t',rfl⟩:=ry; exact PySem.EqMixed.ne_bool_str (AW I q (by simp))
  | _ => exact absurd (show false = true from hs) Bool.false_ne_true
 | int i =>
  obtain ⟨t,rfl⟩:=rx
  cases y with
  | non => cases ry; exact PySem.EqNone.ne_int_none (AW I q (by simp))
  | int j => obtain ⟨t',rfl⟩:=ry; exact ne_int (AW I q (congrArg not MQ))
  | str j => obtain ⟨t',rfl⟩:=ry; exact PySem.EqMixed.ne_int_str (AW I q (by simp))
  | _ => exact absurd (show false = true from hs) Bool.false_ne_true
 | str i =>
  obtain ⟨t,rfl⟩:=rx
  cases y with
  | non => cases ry; exact PySem.EqNone.ne_str_none (AW I q (by simp))
  | bl j => cases ry; exact PySem.EqMixed.ne_str_bool (AW I q (by simp))
  | int j => obtain ⟨t',rfl⟩:=ry; exact PySem.EqMixed.ne_str_int (AW I q (by simp))
  | str j => obtain ⟨t',rfl⟩:=ry; exact ne_str (AW I q (congrArg not MR))
  | _ => exact absurd (show false = true from hs) Bool.false_ne_true
 | byt i =>
  obtain ⟨t,rfl⟩:=rx
  cases y with
  | byt j => obtain ⟨t',rfl⟩:=ry; exact PySem.W.ne_bytes (AW I q (congrArg not MS))
  | _ => exact absurd (show false = true from hs) Bool.false_ne_true
 | _ => cases y <;> exact absurd (show false = true from hs) Bool.false_ne_true
theorem Th:Co X (compareOp .Lt) (Ri fun i j => .bl (decide (i < j))):=Ui fun _ _ _ _ _ _ _ q => lt_int q
theorem Oj:Co X (compareOp .LtE) (Ri fun i j => .bl (decide (i≤j))):=Ui fun _ _ _ _ _ _ _ q => le_int q
theorem Ti:Co X (compareOp .GtE) (Ri fun i j => .bl (decide (j≤i))):=Ui fun _ _ _ _ _ _ _ q => ge_int q
theorem Up:Co X (compareOp .Is) (fun x y H Q => y = .non∧Q (.bl (decide (x = .non))) H):=by
 intro pins s σ H x y v u Q I rx ry h
 obtain ⟨rfl,q⟩:=h
 cases ry
 refine is_none_gen (AW I q ?_)
 cases x <;> first
  | (cases rx; rfl)
  | (obtain ⟨t,rfl⟩:=rx; rfl)
theorem Rk:Co X (compareOp .IsNot) (fun x y H Q => y = .non∧Q (.bl (!decide (x = .non))) H):=by
 intro pins s σ H x y v u Q I rx ry h
 obtain ⟨rfl,q⟩:=h
 cases ry
 refine isnot_none_gen (AW I q ?_)
 cases x <;> first
  | (cases rx; rfl)
  | (obtain ⟨t,rfl⟩:=rx; rfl)
theorem Af (b:Expr) {op:CmpOp} (h:op≠.In:=by decide) (h2:op≠.NotIn:=by decide):behindInMarks op b = false:=by
 have e1:(op == CmpOp.In) = false:=by cases op <;> first | rfl | exact absurd rfl h
 have e2:(op == CmpOp.NotIn) = false:=by cases op <;> first | rfl | exact absurd rfl h2
 cases b <;> simp [behindInMarks,e1,e2]
theorem Rm {op:CmpOp} {r:R2} (ho:Co X (compareOp op) r) (ha:PE X a ta) (hb:PE X b tb) (hm:behindInMarks op b = false):PE X (.Compare a [op] [b] pos) (Ws r ta tb):=by
 intro pins s σ H Q I h
 exact wpAny_Compare1 (Uh ha hb I h fun v u s2 x y H2 I2 rx ry q => ho pins s2 σ H2 x y v u Q I2 rx ry q) hm
def Wy (t:TE):TT:=fun σ H Q => t σ H fun x H' => ∃ k,x = .bl k∧Q k H'
theorem ED {op:CmpOp} {r:R2} (ho:Co X (compareOp op) r) (ha:PE X a ta) (hb:PE X b tb) (hm:behindInMarks op b = false):PT X (.Compare a [op] [b] pos) (Wy (Ws r ta tb)):=by
 intro pins s σ H Q I h
 refine wpAny_isTrue_Compare1 (Av (ha pins s σ H _ I h) fun v s1 ⟨x,H1,I1,r1,q1⟩ => Av (hb pins s1 σ H1 _ I1 q1) fun u s2 ⟨y,H2,I2,r2,q2⟩ =>
  Av (ho pins s2 σ H2 x y v u _ I2 r1 r2 q2) fun c s3 ⟨z,H3,I3,r3,k,e,q3⟩ => ?_) hm
 subst e
 cases r3
 exact wpAny_truthy_bool ⟨H3,I3,q3⟩
def Uq (r r':R2) (ta tb tc:TE):TE:=fun σ H Q => ta σ H fun x H1 => tb σ H1 fun y H2 => r x y H2 fun z H3 => ∃ k,z = .bl k ∧
 (if k = true then tc σ H3 fun w' H4 => r' y w' H4 Q else Q (.bl false) H3)
theorem Ol {op op':CmpOp} {r r':R2} (ho:Co X (compareOp op) r) (ho':Co X (compareOp op') r') (ha:PE X a ta) (hb:PE X b tb) (hc:PE X c tc)
  (hm:lastMarks [op,op'] [b,c] = false:=by with_unfolding_all rfl):PE X (.Compare a [op,op'] [b,c] pos) (Uq r r' ta tb tc):=by
 intro pins s σ H Q I h
 refine Compare_chain (Av (ha pins s σ H _ I h) fun v s1 ⟨x,H1,I1,r1,q1⟩ => chain_link (Av (hb pins s1 σ H1 _ I1 q1) fun u s2 ⟨y,H2,I2,r2,q2⟩ =>
  Av (ho pins s2 σ H2 x y v u _ I2 r1 r2 q2) fun d s3 ⟨z,H3,I3,r3,k,e,q3⟩ => ?_)) hm
 subst e
 cases r3
 refine wpAny_truthy_bool ?_
 cases k with
 | false => exact ite_ff ⟨.bl false,H3,I3,rfl,q3⟩
 | true => exact ite_tt (chain_last (Av (hc pins s3 σ H3 _ I3 q3) fun w' s4 ⟨z',H4,I4,r4,q4⟩ => ho' pins s4 σ H4 y z' u w' Q I4 r2 r4 q4))
def Rn (K:PySem.W.Frag) (x:V) (H:Hp) (k:Bool):Prop :=
 match x with
 | .non => k = false
 | .bl b => k = b
 | .int i => k = (i != 0)
 | .str y => y.length≤sizeLine∧k = ((y.length:Int) != 0)
 | .byt y => y.size≤sizeLine∧k = ((y.size:Int) != 0)
 | .ref p => (∃ xs,SqL K H p xs∧k = !xs.isEmpty)∨(∃ xs,JT K H p xs∧k = !xs.isEmpty)∨∃ kvs,H p = some (.dK kvs)∧k = !kvs.isEmpty
 | _ => False
theorem Kx {κ:Type} {kvs:List (κ × V)} {vs:List (κ × Value)} (r:KV kvs vs):(!vs.isEmpty) = !kvs.isEmpty:=by
 cases r <;> rfl
theorem Fd {xs:List V} {its:List Value} (r:Vals xs its):(!its.toArray.isEmpty) = !xs.isEmpty:=by
 cases r <;> simp
theorem Ee:(sizeLine:Nat) < 2 ^ 63:=by rw [sizeLine_eq]; decide
theorem Om:ZC X (fun x H Q => ∃ k,Rn X.K x H k∧Q k H):=by
 intro pins s σ H x v Q I rx h
 obtain ⟨k,e,q⟩:=h
 have hl:=Ee
 have hs:sizeLine = 16777216:=sizeLine_eq
 cases x with
 | non =>
  cases rx
  have e':k = false:=e
  subst e'
  exact truthy_none ⟨H,I,q⟩
 | bl b =>
  cases rx
  have e':k = b:=e
  subst e'
  exact wpAny_truthy_bool ⟨H,I,q⟩
 | int i =>
  obtain ⟨t,rfl⟩:=rx
  have e':k = (i != 0):=e
  subst e'
  exact PySem.P.truthy_int ⟨H,I,q⟩
 | str y =>
  obtain ⟨t,rfl⟩:=rx
  obtain ⟨hy,e'⟩:y.length≤sizeLine∧k = ((y.length:Int) != 0):=e
  subst e'
  exact PySem.P.truthy_str (by omega) ⟨H,I.tok _,q⟩
 | byt y =>
  obtain ⟨t,rfl⟩:=rx
  obtain ⟨hy,e'⟩:y.size≤sizeLine∧k = ((y.size:Int) != 0):=e
  subst e'
  exact PySem.W.truthy_bytes (by omega) ⟨H,I.tok _,q⟩
 | ref p =>
  cases rx
  have e':(∃ xs,SqL X.K H p xs∧k = !xs.isEmpty)∨(∃ xs,JT X.K H p xs∧k = !xs.isEmpty)∨∃ kvs,H p = some (.dK kvs)∧k = !kvs.isEmpty:=e
  rcases e' with ⟨xs,hx,e'⟩ | ⟨xs,hx,e'⟩ | ⟨kvs,hx,e'⟩
  ·subst e'
   obtain ⟨its,r,pl,hz⟩:=I.list hx
   have hlen:=r.length
   exact wpAny_truthy_list pl.isList (by simp only [List.size_toArray]; omega) ⟨H,I.tok _,by rw [Fd r]; exact q⟩
  ·subst e'
   obtain ⟨its,r,pl,hz⟩:=I.tuple hx
   have hlen:=r.length
   exact truthy_tuple pl (by simp only [List.size_toArray]; omega) ⟨H,I.tok _,by rw [Fd r]; exact q⟩
  ·subst e'
   obtain ⟨hz,hS,vs,r,m⟩:kvs.length≤sizeLine∧(p == sysModules) = false∧∃ vs,KV kvs vs∧s.heap.DictOf (Hy X.prog X.w) p vs:=I.hok p _ hx
   have hlen:kvs.length = vs.length:=Paired.length r
   exact wpAny_truthy_dict hS m (by omega) ⟨H,I.tok _,by rw [Kx r]; exact q⟩
 | _ => exact (show False from e).elim
theorem JW (ha:PE X a ta) (he:∀ whole,isTrue a X.env whole = (do let v ← whole; standAt a.pos; holding [v] (truthy v))) :
  PT X a (fun σ H Q => ta σ H fun x H' => ∃ k,Rn X.K x H' k∧Q k H'):=by
 intro pins s σ H Q I h
 exact isTrue_plain (Av (ha pins s σ H _ I h) fun v s1 ⟨x,H1,I1,r1,q1⟩ => Om pins s1 σ H1 x v Q I1 r1 q1) (he _)
theorem Eu {x:V} {us:List Value} (r:Vals [x] us):∃ u,us = [u]∧RelV x u:=by
 cases r with
 | cons r1 r2 => cases r2; exact ⟨_,rfl,r1⟩
theorem On {x y:V} {us:List Value} (r:Vals [x,y] us):∃ u w',us = [u,w']∧RelV x u∧RelV y w':=by
 cases r with
 | cons r1 r2 =>
  cases r2 with
  | cons r3 r4 => cases r4; exact ⟨_,_,rfl,r1,r3⟩
theorem Nc (hc:X.calm = true):BQ X (.builtin "max") (fun xs H Q => ∃ i j,xs = [.int i,.int j]∧Q (.int (if j > i then j else i)) H):=by
 intro pins s σ H xs us Q I r h
 obtain ⟨i,j,rfl,q⟩:=h
 obtain ⟨u,w',rfl,⟨t,rfl⟩,⟨t',rfl⟩⟩:=On r
 refine max_two_ints (I.ok.hd hc) fun h' tk k => ⟨_,H,I.kept k,?_,q⟩
 by_cases hj:j > i
 ·rw [if_pos hj,if_pos hj]; exact ⟨_,rfl⟩
 ·rw [if_neg hj,if_neg hj]; exact ⟨_,rfl⟩
theorem Nd (hc:X.calm = true):BQ X (.builtin "min") (fun xs H Q => ∃ i j,xs = [.int i,.int j]∧Q (.int (if j < i then j else i)) H):=by
 intro pins s σ H xs us Q I r h
 obtain ⟨i,j,rfl,q⟩:=h
 obtain ⟨u,w',rfl,⟨t,rfl⟩,⟨t',rfl⟩⟩:=On r
 refine min_two_ints (I.ok.hd hc) fun h' tk k => ⟨_,H,I.kept k,?_,q⟩
 by_cases hj:j < i
 ·rw [if_pos hj,if_pos hj]; exact ⟨_,rfl⟩
 ·rw [if_neg hj,if_neg hj]; exact ⟨_,rfl⟩
theorem Nf:BQ X (.type "int") (fun xs H Q => (∃ i,xs = [.int i]∧Q (.int i) H)∨∃ k,xs = [.bl k]∧Q (.int (if k then 1 else 0)) H):=by
 intro pins s σ H xs us Q I r h
 rcases h with ⟨i,rfl,q⟩ | ⟨k,rfl,q⟩
 ·obtain ⟨u,rfl,t,rfl⟩:=Eu r
  exact call_int_int ⟨.int i,H,I,⟨_,rfl⟩,q⟩
 ·obtain ⟨u,rfl,r1⟩:=Eu r
  cases r1
  exact call_int_bool ⟨.int (if k then 1 else 0),H,I.tok _,⟨_,rfl⟩,q⟩
end
structure ObjM (h:Heap) (x dx C:Addr) (mA:Str→Option Value):Prop where
 obj:h.get? x = some (PySem.W.instObj C dx)
 ns:h.Ns1 dx mA
 ne:dx≠x
theorem Ng {h:Heap} {dx:Addr} {mA:Str→Option Value} (n:h.Ns1 dx mA):∃ od,h.get? dx = some od∧∀ name,PySem.W.lookIn name od = some (mA name):=by
 obtain ⟨o,es,ep,ho,hd,hk,_,hm⟩:=n
 refine ⟨o,ho,fun name => ?_⟩
 have e:=hm name
 unfold nsFind findBy at e
 rw [← Array.find?_toList] at e
 unfold PySem.W.lookIn
 rw [hd]
 dsimp only
 split
 ·rename_i y q
  rw [q] at e
  exact congrArg some e
 ·rename_i q
  rw [q] at e
  have a:es.toList.any (·.refKey) = false:=by
   rw [List.any_eq_false]
   intro y hy
   obtain ⟨z,t,hkey⟩:=hk y (Array.mem_toList_iff.mp hy)
   simp [DictEntry.refKey,hkey]
  have a':¬ es.toList.any (·.refKey) = true:=by rw [a]; exact Bool.false_ne_true
  rw [if_neg a']
  exact congrArg some e
theorem ObjM.look {h:Heap} {x dx C:Addr} {mA:Str→Option Value} (I:ObjM h x dx C mA):∃ od,PySem.W.InstAt h x (PySem.W.instObj C dx) C (some od)∧∀ name,PySem.W.lookIn name od = some (mA name) :=
 let ⟨od,ho,hl⟩:=Ng I.ns
 ⟨od,⟨I.obj,rfl,rfl,ho⟩,hl⟩
section
variable {prog:Program} {w:World} {A:Around} {E:Value→Shared→Prop} {s:Shared} {K:PySem.W.Frag} {x dx C f:Addr} {mA:Str→Option Value} {name:Str} {v:Value}
theorem Ro {expr:Bool} {Q:Value→Shared→Prop} (X:K.In s.heap) (I:ObjM s.heap x dx C mA) (hg:PySem.W.plainGet K C name = true) (hh:PySem.W.hasDictIn K C = true)
  (ha:PySem.W.findIn K (.ref C) name = some none) (hv:mA name = some v) (hv':PySem.W.handedIn v = true) (h:Q v { s with toks:=s.toks + 1 }) :
  wpAny (model prog w) A (getAttr (.ref x) name expr) Q E s:=by
 obtain ⟨od,J,hl⟩:=I.look
 exact PySem.W.get_value X J (PySem.W.plainGet_of hg).1 (PySem.W.findObj_own hh ha rfl (by rw [hl,hv])) hv' h
end
theorem RelO.some_of {v:V} {o:Option Value} (r:RelO (some v) o):∃ u,o = some u∧RelV v u:=by
 cases o with
 | none => exact (show False from r).elim
 | some u => exact ⟨u,rfl,r⟩
theorem Nh {v:V} {u:Value} (r:RelV v u):PySem.W.handedIn u = true:=by
 cases v with
 | non => cases (show u = Value.none from r); rfl
 | bl b => cases (show u = Value.bool b from r); rfl
 | int i => obtain ⟨t,e⟩:=(show ∃ t,u = Value.int i t from r); cases e; rfl
 | str x => obtain ⟨t,e⟩:=(show ∃ t,u = Value.str x t from r); cases e; rfl
 | byt b => obtain ⟨t,e⟩:=(show ∃ t,u = Value.bytes b t from r); cases e; rfl
 | flt b => obtain ⟨t,e⟩:=(show ∃ t,u = Value.float b t from r); cases e; rfl
 | ref a => cases (show u = Value.ref a from r); rfl
 | ty n => cases (show u = Value.type n from r); rfl
section
variable {P:Program} {w:World} {H H':Hp} {h h':Heap} {a C dx:Addr} {fs fs':List (Str × V)}
theorem MU (hok:HOk P w H h) (e:H a = some (.ins C dx fs)):∃ mA,ObjM h a dx C mA∧(∀ f,RelO (fs.lookup f) (mA f))∧PySem.Within mA (fs.map (·.1))∧fs.length≤1000∧H dx = some (.own a):=by
 obtain ⟨d,z,ne,ob,mA,n,r,q⟩:=(show ObjOk P w H h a (.ins C dx fs) from hok a _ e)
 exact ⟨mA,⟨ob,n,ne⟩,r,q,z,d⟩
end
structure Cls (K:PySem.W.Frag) (C:Addr):Prop where
 pg:PySem.W.plainGet K C Str.empty = true
 hd:PySem.W.hasDictIn K C = true
 po:PySem.W.plainOver K C = true
 sa:PySem.W.findIn K (.ref C) "__setattr__" = some (some (.builtin "object.__setattr__"))
theorem Cls.get {K:PySem.W.Frag} {C:Addr} (c:Cls K C) (f:Str):PySem.W.plainGet K C f = true:=c.pg
def Oo (K:PySem.W.Frag) (C:Addr) (f:Str):Prop:=PySem.W.findIn K (.ref C) f = some none
structure Con (K:PySem.W.Frag) (C:Addr) (f:Str) (v:V) (u:Value):Prop where
 at_:PySem.W.findIn K (.ref C) f = some (some u)
 rel:RelV v u
 get:PySem.W.specialIn K u "__get__" = some none
 cp:PySem.W.copiedNames.contains f = false
structure Meth (K:PySem.W.Frag) (C:Addr) (m:Str) (f:Addr):Prop where
 at_:PySem.W.findIn K (.ref C) m = some (some (.ref f))
 fn:PySem.W.isFn K (.ref f) = true
 kp:PySem.W.keepIn K (.ref f) = true
section
variable {X:Cx} {pins:List (Addr × Obj)} {σ:St} {H:Hp} {s:Shared} {a C dx:Addr} {fs:List (Str × V)} {f:Str} {v:V} {A:Around} {E:Value→Shared→Prop}
theorem Ky {b:Bool} {Q:Value→Shared→Prop} (I:Inv X pins σ H s) (e:H a = some (.ins C dx fs)) (c:Cls X.K C) (n:Oo X.K C f) (l:fs.lookup f = some v)
  (h:∀ u s',Inv X pins σ H s'→RelV v u→Q u s'):wpAny (model X.prog X.w) A (getAttr (.ref a) f b) Q E s:=by
 obtain ⟨mA,O,r,_,_,_⟩:=MU I.hok e
 obtain ⟨u,hu,ru⟩:=RelO.some_of (v:=v) (o:=mA f) (by rw [← l]; exact r f)
 exact Ro I.kIn O (c.get f) c.hd n hu (Nh ru) (h u _ (I.tok _) ru)
theorem Rp {prog:Program} {w:World} {env:Env} {e:Expr} {f:Str} {pos:Pos} {s:Shared} {Q:Value→Shared→Prop} (hb:attributeBase e f env (eval e env) = eval e env)
  (h:wpAny (model prog w) A (eval e env) (fun o s₁ => wpAny (model prog w) A (getAttr o f true) Q E s₁) E s):wpAny (model prog w) A (eval (.Attribute e f pos) env) Q E s :=
 Attribute_any_ h (by rw [arm_eval_Attribute,hb])
end
def ZD (K:PySem.W.Frag) (ta:TE) (f:Str):TE:=fun σ H Q => ta σ H fun x H1 => ∃ a C dx fs v,x = .ref a∧H1 a = some (.ins C dx fs)∧Cls K C∧Oo K C f∧fs.lookup f = some v∧Q v H1
section
variable {X:Cx} {o e value:Expr} {f:Str} {pos pos' tpos:Pos} {ta tv:TE}
theorem Kz (he:PE X e ta) (hb:attributeBase e f X.env (eval e X.env) = eval e X.env):PE X (.Attribute e f pos) (ZD X.K ta f):=by
 intro pins s σ H Q I h
 refine Rp hb (Av (he pins s σ H _ I h) fun u s1 ⟨x,H1,I1,rx,a,C,dx,fs,v,ex,ea,c,n,l,q⟩ => ?_)
 subst ex
 obtain rfl:u = Value.ref a:=rx
 exact Ky I1 ea c n l fun u' s2 I2 ru => ⟨v,H1,I2,ru,q⟩
end
section
variable {X:Cx} {pins:List (Addr × Obj)} {σ:St} {H:Hp} {s:Shared} {A:Around} {E:Value→Shared→Prop} {Q:Value→Shared→Prop} {c:Value} {b:Bool}
inductive TyOf (K:PySem.W.Frag) (H:Hp):V→Value→Prop where
 | non:TyOf K H .non (.type "NoneType")
 | bl (x:Bool):TyOf K H (.bl x) (.type "bool")
 | int (i:Int):TyOf K H (.int i) (.type "int")
 | str (x:Str):TyOf K H (.str x) (.type "str")
 | flt (x:UInt64):TyOf K H (.flt x) (.type "float")
 | lst {a:Addr} {xs:List V} (e:H a = some (.lst xs)):TyOf K H (.ref a) (.type "list")
 | frz {a:Addr} {o:Obj} {xs:List V} (e:H a = some (.frz o (.lst xs))):TyOf K H (.ref a) (.type "list")
 | tup {a:Addr} {xs:List V} (e:H a = some (.tup xs)):TyOf K H (.ref a) (.type "tuple")
 | dK {a:Addr} {kvs:List (JR × V)} (e:H a = some (.dK kvs)):TyOf K H (.ref a) (.type "dict")
 | dT {a:Addr} {kvs:List (List JR × V)} (e:H a = some (.dT kvs)):TyOf K H (.ref a) (.type "dict")
 | ins {a C dx:Addr} {fs:List (Str × V)} (e:H a = some (.ins C dx fs)) (cl:Cls K C) (ha:PySem.W.findIn K (.ref C) "__class__" = some (some (.builtin "object.__class__")))
   (hn:PySem.W.specialIn K (.builtin "object.__class__") "__get__" = some (some (.builtin "getset_descriptor.__get__"))) (htk:PySem.W.takesIn K (.builtin "object.__class__") = some true)
   (hm:PySem.W.mroIn K C (.type "object") = some true):TyOf K H (.ref a) (.ref C)
theorem Ni {x:V} {u t:Value} (I:Inv X pins σ H s) (rx:RelV x u) (ty:TyOf X.K H x t) (e:PySem.W.kitOne X.K t c = some b) (h:∀ tk,Q (.bool b) { s with toks:=tk }) :
  wpAny (model X.prog X.w) A (call (.builtin "isinstance") [u,c]) Q E s:=by
 cases ty with
 | non => cases (show u = Value.none from rx); exact PySem.W.kia_one PySem.W.kitx_none I.kIn True.intro e (fun z => nomatch z) h
 | bl y => cases (show u = Value.bool y from rx); exact PySem.W.kia_one PySem.W.kitx_bool I.kIn True.intro e (fun z => nomatch z) h
 | int i => obtain ⟨t,q⟩:=(show ∃ t,u = Value.int i t from rx); cases q; exact PySem.W.kia_one PySem.W.kitx_int I.kIn True.intro e (fun z => nomatch z) h
 | str y => obtain ⟨t,q⟩:=(show ∃ t,u = Value.str y t from rx); cases q; exact PySem.W.kia_one PySem.W.kitx_str I.kIn True.intro e (fun z => nomatch z) h
 | flt y => obtain ⟨t,q⟩:=(show ∃ t,u = Value.float y t from rx); cases q; exact PySem.W.kia_one PySem.W.kitx_float I.kIn True.intro e (fun z => nomatch z) h
 | @lst a xs ea =>
  cases (show u = Value.ref a from rx)
  obtain ⟨_,_,n,_,h1⟩:=(show ObjOk X.prog X.w H s.heap a (.lst xs) from I.hok a _ ea)
  exact PySem.W.kia_one PySem.W.kitx_list I.kIn ⟨_,h1,rfl⟩ e (fun z => nomatch z) h
 | @frz a ob xs ea =>
  cases (show u = Value.ref a from rx)
  obtain ⟨_,_,_,n,_,h1⟩:=(show ObjOk X.prog X.w H s.heap a (.frz ob (.lst xs)) from I.hok a _ ea)
  exact PySem.W.kia_one PySem.W.kitx_list I.kIn ⟨_,h1,rfl⟩ e (fun z => nomatch z) h
 | @tup a xs ea =>
  cases (show u = Value.ref a from rx)
  obtain ⟨_,_,_,p⟩:=(show ObjOk X.prog X.w H s.heap a (.tup xs) from I.hok a _ ea)
  obtain ⟨o,h1,h2,_⟩:=p
  exact PySem.W.kia_one PySem.W.kitx_tuple I.kIn ⟨o,h1,h2⟩ e (fun z => nomatch z) h
 | @dK a kvs ea =>
  cases (show u = Value.ref a from rx)
  obtain ⟨_,_,vs,_,p⟩:=(show ObjOk X.prog X.w H s.heap a (.dK kvs) from I.hok a _ ea)
  obtain ⟨o,es,ep,h1,h2,_⟩:=p
  exact PySem.W.kia_one PySem.W.kitx_dict I.kIn ⟨o,h1,h2.1⟩ e (fun z => nomatch z) h
 | @dT a kvs ea =>
  cases (show u = Value.ref a from rx)
  obtain ⟨_,_,xs,_,o,es,ep,h1,h2,_⟩:=(show ObjOk X.prog X.w H s.heap a (.dT kvs) from I.hok a _ ea)
  exact PySem.W.kia_one PySem.W.kitx_dict I.kIn ⟨o,h1,h2.1⟩ e (fun z => nomatch z) h
 | @ins a C dx fs ea cl ha hn htk hm =>
  cases (show u = Value.ref a from rx)
  obtain ⟨mA,O,_⟩:=MU I.hok ea
  obtain ⟨od,J,_⟩:=O.look
  exact PySem.W.kia_one (PySem.W.kitx_own (cl.get _) cl.hd ha hn htk hm) I.kIn J e (fun z => nomatch z) h
end
structure Room (k:Nat) (A:Around):Prop where
 hd:A.handled = none
 dp:A.depth + 3 * k + 5 < recursionLimit
 un:A.units + 16 * k + 200 < cLine
 gd:A.guards = some []
theorem Room.mono {j k:Nat} {A:Around} (r:Room k A) (h:j≤k):Room j A:=⟨r.hd,by have:=r.dp; omega,by have:=r.un; omega,r.gd⟩
theorem Room.deeper {k:Nat} {A:Around} (r:Room (k + 1) A) (env:Env):Room k (A.deeper env) :=
 ⟨r.hd,by have:=r.dp; show A.depth + 1 + 3 * k + 5 < _; omega,by have:=r.un; show A.units + 3 + 16 * k + 200 < _; omega,r.gd⟩
theorem Room.depth {k:Nat} {A:Around} (r:Room k A):A.depth < recursionLimit:=by have:=r.dp; omega
def Wz:TA:=fun _ H Q => Q [] H
def Tj (ta:TE) (tr:TA):TA:=fun σ H Q => ta σ H fun x H1 => tr σ H1 fun xs H2 => Q (x :: xs) H2
section
variable {X:Cx} {e:Expr} {es:List Expr} {te:TE} {t:TA} {pos:Pos}
theorem Ag:PA X [] Wz:=fun _ _ _ _ H Q I h => Calls.spliced_nil ⟨[],H,I,.nil,h⟩
theorem AI (ha:PE X e te) (hr:PA X es t) (hs:starEach (e :: es) X.env = (false,eval e X.env) :: starEach es X.env:=by rfl):PA X (e :: es) (Tj te t):=by
 intro pos pins s σ H Q I h
 rw [hs]
 show wpAny _ _ (spliced ((false,eval e X.env) :: backTo pos (starEach es X.env))) _ _ s
 refine Calls.spliced_cons (Av (ha pins s σ H _ I h) fun u s1 ⟨x,H1,I1,r1,q1⟩ => ?_)
 exact Av (hr pos pins s1 σ H1 _ I1 q1) fun us s2 ⟨xs,H2,I2,r2,q2⟩ => ⟨x :: xs,H2,I2,.cons r1 r2,q2⟩
def ZE (t:TA):TE:=fun σ H Q => t σ H fun xs H1 => xs.length≤sizeLine∧∀ p,H1 p = none→Q (.ref p) (BG H1 p (.tup xs))
def ZF (t:TA):TE:=fun σ H Q => t σ H fun xs H1 => xs.length≤sizeLine∧∀ p,H1 p = none→Q (.ref p) (BG H1 p (.lst xs))
theorem IB {x1} (h:PA X es t):PE X (.Tuple es x1 pos) (ZE t):=by
 intro pins s σ H Q I hq
 refine wpAny_Tuple_spliced (Av (h pos pins s σ H _ I hq) fun us s1 ⟨xs,H1,I1,r,z,q⟩ => ⟨by rw [← r.length]; exact z,?_⟩)
 have hf:H1 s1.heap.objs.size = none:=I1.hok.fresh (Nat.le_refl _)
 refine ⟨.ref s1.heap.objs.size,BG H1 s1.heap.objs.size (.tup xs),I1.laid (t':=s1.toks) (fun b u e => Heap.get?_push_of_some _ e) (Nat.le_refl _) ?_,rfl,q _ hf⟩
 exact ⟨z,us,r,⟨_,Heap.get?_push_size _ rfl,rfl,_,rfl⟩⟩
theorem Fe (h:PA X es t):PE X (.List es pos) (ZF t):=by
 intro pins s σ H Q I hq
 refine wpAny_List_spliced (Av (h pos pins s σ H _ I hq) fun us s1 ⟨xs,H1,I1,r,z,q⟩ => ⟨by rw [← r.length]; exact z,?_⟩)
 have hf:H1 s1.heap.objs.size = none:=I1.hok.fresh (Nat.le_refl _)
 refine ⟨.ref s1.heap.objs.size,BG H1 s1.heap.objs.size (.lst xs),I1.laid (t':=s1.toks) (fun b u e => Heap.get?_push_of_some _ e) (Nat.le_refl _) ?_,rfl,q _ hf⟩
 exact ⟨z,us,0,r,Heap.get?_push_size _ rfl⟩
end
abbrev Sp:=List V→Hp→VK→XK→Prop
abbrev Op:=List Env→Hp→Shared→XK→Value→Shared→Prop
structure Env0 (P:Program) (w:World) (K:PySem.W.Frag) (mg:Str→Option Value) (base:Heap) (A:Around) (outer:List Env) (s:Shared) (H:Hp):Prop where
 frames:A.frames = some outer
 mod:Mod K mg base
 bs:∀ b o,base.get? b = some o→s.heap.get? b = some o∧H b = none
 bsz:base.objs.size≤s.heap.objs.size
 funs:s.heap.FunFrames base outer
 frf:∀ b∈FZ outer,H b = none
 hok:HOk P w H s.heap
 bare:AllBare s.gens
def CE (outer:List Env) (P:Program) (w:World) (H:Hp) (s:Shared) (Q:VK) (u:Value) (s':Shared):Prop :=
 ∃ v H',s'.os = s.os∧AllBare s'.gens∧Un (FZ outer) [] H H' s.heap s'.heap∧HOk P w H' s'.heap∧RelV v u∧Q v H'
def CR (CX:Op) (outer:List Env) (P:Program) (w:World) (H:Hp) (s:Shared) (Q:VK) (E:XK) (r:Result) (s':Shared):Prop :=
 match r with
 | .ok (.ret u) => CE outer P w H s Q u s'
 | .ok _ => False
 | .error e => CX outer H s E e s'
structure FnOk (P:Program) (w:World) (K:PySem.W.Frag) (mg:Str→Option Value) (base:Heap) (CX:Op) (k:Nat) (f:Addr) (fd:FuncData) (ps:List Str) (sp:Sp):Prop where
 len:∀ vs H Q E,sp vs H Q E→vs.length = ps.length
 run:∀ (A:Around) (outer:List Env) (s:Shared) (H:Hp) (args:Args) (us:List Value) (vs:List V) (Q:VK) (E:XK),Room k A→Env0 P w K mg base A outer s H→BindsTo s fd args (ps.zip us)→Vals vs us→sp vs H Q E →
  codeAny (model P w) A (.call (.ref f) args) (CR CX outer P w H s Q E) s
section
variable {X:Cx} {pins:List (Addr × Obj)} {σ:St} {H:Hp} {s s':Shared}
theorem Inv.env0 (I:Inv X pins σ H s):Env0 X.prog X.w X.K X.mg X.base X.A X.stack s H :=
 ⟨I.ok.frames,I.ok.mod,I.bs,Nat.le_trans I.ok.bsz I.sz,I.stack,I.stkFree,I.hok,I.bare⟩
theorem Inv.after {Q:VK} {u:Value} (I:Inv X pins σ H s) (h:CE X.stack X.prog X.w H s Q u s'):EP X pins σ Q u s':=by
 obtain ⟨v,H',os,bare,un,hok,r,q⟩:=h
 obtain ⟨hh,g,d,t,os'⟩:=s'
 obtain rfl:os' = s.os:=os
 exact ⟨v,H',I.call (h':=hh) (g':=g) (d':=d) (t':=t) (ch:=[]) un hok bare (fun b z => absurd z (by simp)),r,q⟩
end
def Binds (K:PySem.W.Frag) (fd:FuncData) (ps:List Str) (ds:List Value):Prop :=
 ∀ (s:Shared) (us:List Value),K.In s.heap→(us ++ ds).length = ps.length→BindsTo s fd ⟨us,[]⟩ (ps.zip (us ++ ds))
theorem Binds.all {K:PySem.W.Frag} {fd:FuncData} {ps:List Str} (h:∀ us:List Value,us.length = ps.length→bindArgs fd ⟨us,[]⟩ = pure (ps.zip us)):Binds K fd ps []:=fun s us _ hl => by
 rw [List.append_nil] at hl ⊢
 exact .of_eq (h us hl)
section
variable {X:Cx} {CX:Op} {k:Nat} {f C:Addr} {fd:FuncData} {ps:List Str} {sp:Sp} {dvs:List V} {ds:List Value} {E:XK} {x m:Str} {p pos apos:Pos} {e o:Expr} {es:List Expr} {ta:TE} {t:TA}
structure Mk (K:PySem.W.Frag) (C f:Addr):Prop where
 makes:PySem.W.makesIn K C = true
 init:PySem.W.findIn K (.ref C) "__init__" = some (some (.ref f))
 fn:PySem.W.isFn K (.ref f) = true
 kp:PySem.W.keepIn K (.ref C) = true
end
section
variable {X:Cx} {CX:Op} {k:Nat} {f C:Addr} {fd:FuncData} {ps ks:List Str} {sp:Sp} {E:XK} {x m:Str} {p pos apos kpos:Pos} {e o:Expr} {es:List Expr} {kws:List Keyword} {te ta:TE} {t tk:TA} {nm:Option Str}
structure KBinds (K:PySem.W.Frag) (fd:FuncData) (ps ks:List Str) (g:List Value→List Value→List Value) (gV:List V→List V→List V):Prop where
 to:∀ (s:Shared) (us ws:List Value),K.In s.heap→(g us ws).length = ps.length→BindsTo s fd ⟨us,ks.zip ws⟩ (ps.zip (g us ws))
 rel:∀ {vs:List V} {us:List Value} {zs:List V} {ws:List Value},Vals vs us→Vals zs ws→Vals (gV vs zs) (g us ws)
variable {g:List Value→List Value→List Value} {gV:List V→List V→List V}
end
structure FnScope (N P:List Str) (sc:Scope):Prop where
 kind:sc.kind = .function
 co:sc.isCoroutine = false
 gen:sc.isGenerator = false
 nd:N.Nodup
 pre:N.take P.length = P
 par:∀ x∈P,sc.names.lookup x = some .local∨sc.names.lookup x = some .cell
 nofree:∀ y∈sc.names,y.2≠.free
theorem HF {kindOf:Str→Option NameKind} {x:Str}:∀ {binds:List (Str × Value)} {m:Str→Option Value},(∀ v,(x,v) ∉ binds)→bindL kindOf binds m x = m x
 | [],_,_ => rfl
 | (n,v) :: r,m,h => by
  unfold bindL
  rw [HF fun w hw => h w (List.mem_cons_of_mem _ hw)]
  split
  ·have:x≠n:=by rintro rfl; exact h v List.mem_cons_self
   simp [this]
  ·rfl
theorem HG {kindOf:Str→Option NameKind} {x:Str}:∀ {binds:List (Str × Value)} {m:Str→Option Value},(∀ v,(x,v) ∉ binds)→bindC kindOf binds m x = m x
 | [],_,_ => rfl
 | (n,v) :: r,m,h => by
  unfold bindC
  rw [HG fun w hw => h w (List.mem_cons_of_mem _ hw)]
  split
  ·rfl
  ·have:x≠n:=by rintro rfl; exact h v List.mem_cons_self
   simp [this]
theorem HH {kindOf:Str→Option NameKind} {x:Str} {v:Value}:∀ {P:List Str} {vs:List Value} {i:Nat} {m:Str→Option Value},P.Nodup→P[i]? = some x→vs[i]? = some v→kindOf x = some .local →
  bindL kindOf (P.zip vs) m x = some v
 | [],_,_,_,_,h,_,_ => by simp at h
 | _ :: _,[],_,_,_,_,h,_ => by simp at h
 | p :: P,w :: vs,0,m,nd,h1,h2,hk => by
  simp at h1 h2; subst h1; subst h2
  show bindL kindOf ((p,w) :: P.zip vs) m p = _
  unfold bindL
  rw [HF fun v hv => (List.nodup_cons.mp nd).1 (List.of_mem_zip hv).1,if_pos hk]
  simp
 | p :: P,w :: vs,i + 1,m,nd,h1,h2,hk => by
  show bindL kindOf ((p,w) :: P.zip vs) m x = _
  unfold bindL
  exact HH (i:=i) (List.nodup_cons.mp nd).2 (by simpa using h1) (by simpa using h2) hk
theorem HI {kindOf:Str→Option NameKind} {x:Str} {v:Value}:∀ {P:List Str} {vs:List Value} {i:Nat} {m:Str→Option Value},P.Nodup→P[i]? = some x→vs[i]? = some v→kindOf x≠some .local →
  bindC kindOf (P.zip vs) m x = some v
 | [],_,_,_,_,h,_,_ => by simp at h
 | _ :: _,[],_,_,_,_,h,_ => by simp at h
 | p :: P,w :: vs,0,m,nd,h1,h2,hk => by
  simp at h1 h2; subst h1; subst h2
  show bindC kindOf ((p,w) :: P.zip vs) m p = _
  unfold bindC
  rw [HG fun v hv => (List.nodup_cons.mp nd).1 (List.of_mem_zip hv).1,if_neg hk]
  simp
 | p :: P,w :: vs,i + 1,m,nd,h1,h2,hk => by
  show bindC kindOf ((p,w) :: P.zip vs) m x = _
  unfold bindC
  exact HI (i:=i) (List.nodup_cons.mp nd).2 (by simpa using h1) (by simpa using h2) hk
def start (N:List Str) (vs:List V):St:=vs.map some ++ List.replicate (N.length - vs.length) none
def DA (CX:Op) (P:Program) (w:World) (K:PySem.W.Frag) (mg:Str→Option Value) (base:Heap) (N:List Str) (qual:Str) (scope:Scope) (f:Addr) (cd:Value) (A:Around) (outer:List Env) (s:Shared) (H:Hp) (E:XK):Cx where
 prog:=P
 w:=w
 K:=K
 mg:=mg
 base:=base
 A:=A.deeper (envOfC qual scope s.heap.objs.size f cd)
 N:=N
 s₀:=s
 H₀:=H
 env:=envOfC qual scope s.heap.objs.size f cd
 outer:=outer
 stack:=envOfC qual scope s.heap.objs.size f cd :: outer
 ex:=[]
 calm:=true
 fn:=fun _ => true
 pn:=[]
 xe:=fun e s' => wpAny (model P w) (A.deeper (envOfC qual scope s.heap.objs.size f cd)) (leaving (envOfC qual scope s.heap.objs.size f cd) e) (fun _ s'' => CX outer H s E e s'') (fun e' s'' => CX outer H s E e' s'') s'
theorem JX {sc:Scope} {n:Nat} {x:Str} (h:sc.names.lookup x = some .cell):∃ c,(cellsFrom n sc.names []).lookup x = some c:=by
 have q:=PySem.W.cellsFrom_some sc.names n [] (.inl h)
 exact Option.isSome_iff_exists.mp q
theorem HJ {CX:Op} {P:Program} {w:World} {K:PySem.W.Frag} {mg:Str→Option Value} {base:Heap} {N ps:List Str} {qual:Str} {scope:Scope} {f:Addr} {cd:Value} {A:Around} {outer:List Env} {s s1:Shared} {H:Hp} {E:XK} {us:List Value} {vs:List V}
  (S:FnScope N ps scope) (hd:A.handled = none) (e0:Env0 P w K mg base A outer s H) (hl:vs.length = ps.length) (r:Vals vs us)
  (x:InCallC s s.heap.objs.size (bindL (envOfC qual scope s.heap.objs.size f cd).kindOf (ps.zip us) fun _ => none) (cellsFrom (s.heap.objs.size + 1) scope.names []) (bindC (envOfC qual scope s.heap.objs.size f cd).kindOf (ps.zip us) fun _ => none) s1) :
  Inv (DA CX P w K mg base N qual scope f cd A outer s H E) [] (start N vs) H s1:=by
 have hpl:ps.length≤N.length:=by have:=congrArg List.length S.pre; rw [List.length_take] at this; omega
 obtain ⟨h1,tk,rfl,hk⟩:=x.done
 have noA:∀ b:Addr,b ∉ (DA CX P w K mg base N qual scope f cd A outer s H E).ex:=fun b z => absurd (show b∈([]:List Addr) from z) (by simp)
 refine ⟨⟨e0.mod,S.kind,rfl,rfl,Nat.le_refl _,fun y z c h1 h2 => ?_,fun y hy => ?_,fun y c _ h => ?_,fun _ => hd,Around.frames_deeper e0.frames,.inr ⟨rfl,rfl⟩,fun b z => absurd z (noA b),e0.bs,e0.bsz,fun b _ _ => noA b,fun b z => absurd z (noA b),e0.funs,e0.frf⟩,
  rfl,e0.bare,Un.kept hk,⟨_,x.toInCall.ns,fun i y v h1 h2 h3 => ?_⟩,fun y c h => ⟨_,x.cell y c h⟩,e0.hok.fresh (Nat.le_refl _),fun y c h => ?_,fun p hp => absurd (show p∈([]:List (Addr × Obj)) from hp) (by simp),e0.hok.kept hk,?_⟩
 ·exact name_of_addr x.apart (PySem.mem_of_lookup h1) (PySem.mem_of_lookup h2)
 ·have hy:scope.names.lookup y = some .cell∨scope.names.lookup y = some .free:=hy
  rcases hy with hy | hy
  ·exact JX hy
  ·exact absurd rfl (S.nofree _ (PySem.mem_of_lookup hy))
 ·exact Nat.le_of_lt (x.above y c (PySem.mem_of_lookup h))
 ·have hi:i < vs.length:=by
   unfold start at h2
   by_cases hi:i < vs.length
   ·exact hi
   ·rw [List.getElem?_append_right (by simpa using hi)] at h2
    rw [List.getElem?_replicate] at h2
    split at h2 <;> cases h2
  have ha:vs[i]? = some v:=by
   unfold start at h2
   rw [List.getElem?_append_left (by simpa using hi),List.getElem?_map] at h2
   cases e:vs[i]? with
   | none => rw [e] at h2; cases h2
   | some a => rw [e] at h2; cases h2; rfl
  obtain ⟨u,hu,rv⟩:=r.get ha
  have hp:ps[i]? = some y:=by
   rw [← S.pre,List.getElem?_take_of_lt (by omega)]; exact h1
  have ndP:ps.Nodup:=by rw [← S.pre]; exact S.nd.sublist (List.take_sublist _ _)
  refine ⟨u,rv,?_⟩
  rcases S.par y (List.mem_of_getElem? hp) with k | k
  ·exact .inl ⟨k,HH ndP hp hu k⟩
  ·obtain ⟨c,e⟩:=JX (n:=s.heap.objs.size + 1) k
   refine .inr ⟨.inl k,c,e,?_⟩
   have q:=x.cell y c e
   rw [HI ndP hp hu (by show scope.names.lookup y≠_; rw [k]; decide)] at q
   exact q
 ·exact e0.hok.fresh (Nat.le_of_lt (x.above y c (PySem.mem_of_lookup h)))
 ·unfold start
  show _ = N.length
  rw [List.length_append,List.length_map,List.length_replicate]
  omega
theorem XA {CX:Op} {P:Program} {w:World} {K:PySem.W.Frag} {mg:Str→Option Value} {base:Heap} {k:Nat} {f:Addr} {name qual:Str} {params:Arguments} {body:List Stmt} {scope:Scope} {dV kV doc pm cdv ct oc:Value} {an od:Option Addr}
  {osl:Array (Option Value)} {N ps:List Str} {sp:Sp} (lk:K.lookup f = some ⟨oc,od,.func (PySem.W.fnOf name qual params body scope dV kV doc pm an cdv ct),osl⟩) (hcd:PySem.W.codeIn K cdv qual = true) (S:FnScope N ps scope)
  (len:∀ vs H Q E,sp vs H Q E→vs.length = ps.length)
  (hbody:∀ (A:Around) (outer:List Env) (s:Shared) (H:Hp) (vs:List V) (Q:VK) (E:XK),Room k (A.deeper (envOfC qual scope s.heap.objs.size f cdv))→sp vs H Q E →
   ∃ t,PSs (DA CX P w K mg base N qual scope f cdv A outer s H E) body t∧t { nx:=fun _ H' => Q .non H',rt:=Q } (start N vs) H) :
  FnOk P w K mg base CX (k + 1) f (PySem.W.fnOf name qual params body scope dV kV doc pm an cdv ct) ps sp:=by
 refine ⟨len,fun A outer s H args us vs Q E hr e0 hb r hsp => ?_⟩
 have hl:=len _ _ _ _ hsp
 have KX:K.In s.heap:=e0.mod.kin.keeps fun b o e => (e0.bs b o e).1
 have lim:s.heap.NoLimit:=e0.mod.nolimit.keeps fun b o e => (e0.bs b o e).1
 have hkind:∀ y∈ps.zip us,scope.names.lookup y.1 = some .local∨(scope.names.lookup y.1 = some .cell∧((cellsFrom (s.heap.objs.size + 1) scope.names []).lookup y.1).isSome = true):=fun ⟨n,v⟩ hy => by
  rcases S.par n (List.of_mem_zip hy).1 with q | q
  ·exact .inl q
  ·exact .inr ⟨q,PySem.W.cellsFrom_some _ _ _ (.inl q)⟩
 refine codeAny_call_function hr.depth (KX _ _ lk) rfl S.co S.gen rfl (PySem.W.codeRec_of KX hcd) (hb _ _ _ _ ?_)
 refine wpAny_newFunctionEnv_cells S.kind hkind fun env he s1 x => ?_
 subst he
 refine ⟨lim.keeps x.toInCall.keep,codeAny_func ?_⟩
 obtain ⟨t,ht,hq⟩:=hbody A outer s H vs Q E (hr.deeper _) hsp
 have I:Inv (DA CX P w K mg base N qual scope f cdv A outer s H E) [] (start N vs) H s1:=HJ S hr.hd e0 hl r x
 refine wpAny_mono (ht [] s1 (start N vs) H _ I hq) (fun fl s' hs => ?_) fun e s' hs => hs
 have fin:∀ {σ':St} {H':Hp} {v:V} {u:Value},Inv (DA CX P w K mg base N qual scope f cdv A outer s H E) [] σ' H' s'→RelV v u→Q v H'→CE outer P w H s Q u s' :=
  fun {σ' H' v u} J rv q => ⟨v,H',J.os,J.bare,J.base,J.hok,rv,q⟩
 cases fl with
 | ret u =>
  obtain ⟨v,σ',H',J,rv,q⟩:=hs
  exact fin J rv q
 | next =>
  obtain ⟨σ',H',J,q⟩:=hs
  exact fin (v:=V.non) (u:=Value.none) J rfl q
 | brk =>
  obtain ⟨_,_,_,q⟩:=hs
  exact False.elim q
 | cont =>
  obtain ⟨_,_,_,q⟩:=hs
  exact False.elim q
section
variable {X:Cx} {x:Str} {p pos:Pos} {e:Expr} {es:List Expr} {t:TA} {id T:String} {r:List V→Hp→VK→Prop}
def Zl (r:List V→Hp→VK→Prop) (t:TA):TE:=fun σ H Q => t σ H fun vs H1 => r vs H1 Q
theorem Aq (hc:BQ X (.builtin id) r) (hg:Gl X x) (hm:X.mg x = none) (hv:bootBuiltins x = some (.builtin id)) (ha:PA X (e :: es) t) (hn:x≠"__name__":=by decide) (hdb:(x == ("__debug__" : Str)) = false:=by decide)
  (he:starEach (e :: es) X.env = (false,eval e X.env) :: starEach es X.env:=by rfl) (hpl:(backTo pos (starEach es X.env)).any (·.1) = false:=by rfl):PE X (.Call (.Name x p) (e :: es) [] pos) (Zl r t):=by
 intro pins s σ H Q I h
 refine wpAny_Call_Name_kw (Dk I hg hm hv ?_ hn hdb)
 exact PyProof.Rows.callWith_builtin1 (Av (ha pos pins s σ H _ I h) fun us s1 ⟨vs,H1,I1,r1,q1⟩ => hc pins s1 σ H1 vs us Q I1 r1 q1) he hpl
theorem Ef (hc:BQ X (.type T) r) (hg:Gl X x) (hm:X.mg x = none) (hv:bootBuiltins x = some (.type T)) (ha:PA X (e :: es) t) (hn:x≠"__name__":=by decide) (hdb:(x == ("__debug__" : Str)) = false:=by decide)
  (he:starEach (e :: es) X.env = (false,eval e X.env) :: starEach es X.env:=by rfl) (hpl:(backTo pos (starEach es X.env)).any (·.1) = false:=by rfl):PE X (.Call (.Name x p) (e :: es) [] pos) (Zl r t):=by
 intro pins s σ H Q I h
 refine wpAny_Call_Name_kw (Dk I hg hm hv ?_ hn hdb)
 exact PyProof.Rows.callWith_type1 (Av (ha pos pins s σ H _ I h) fun us s1 ⟨vs,H1,I1,r1,q1⟩ => hc pins s1 σ H1 vs us Q I1 r1 q1) he hpl
end
end L2
namespace HT
open PySem PyProof.Rows
section
open PySem.SeqAt
open PySem.AutoSeq1 (wpAny_loadPart')
open PySem.MeetsSeq PySem.MeetsSeq2 PySem.MeetsSeq3
end
section
variable {prog:Program} {w:World} {A:Around} {E:Value→Shared→Prop} {s:Shared}
def Ff (n d:Nat):Option Int→Nat
 | none => d
 | some v => if v < 0 then (v + (n:Int)).toNat else min v.toNat n
theorem JY (n d:Nat):Ff n d none = d:=rfl
theorem MV (n d k:Nat):Ff n d (some (k:Int)) = min k n:=by
 show (if (k:Int) < 0 then ((k:Int) + (n:Int)).toNat else min (k:Int).toNat n) = min k n
 rw [if_neg (by omega),Int.toNat_natCast]
end
end HT
namespace L2
open PySem PySem.Spec PyProof.Rows
abbrev TO:=St→Hp→(Option Int→Hp→Prop)→Prop
def PO (X:Cx) (e:Option Expr) (t:TO):Prop :=
 ∀ (pins:List (Addr × Obj)) (s:Shared) (σ:St) (H:Hp) (Q:Option Int→Hp→Prop),Inv X pins σ H s→t σ H Q →
  wpAny (model X.prog X.w) X.A (evalPart e X.env) (fun u s' => ∃ o H',Inv X pins σ H' s'∧IsPart u o∧Q o H') X.xe s
def Rq:TO:=fun _ H Q => Q none H
def XB (t:TE):TO:=fun σ H Q => t σ H fun x H1 => ∃ i,x = .int i∧Q (some i) H1
theorem LA {ns:List Int}:∀ {us:List Value},Vals (ns.map V.int) us→IntsAre us ns:=by
 induction ns with
 | nil => intro us r; rw [List.map_nil] at r; cases r; exact .nil
 | cons n ns ih =>
  intro us r
  rw [List.map_cons] at r
  cases r with
  | cons r1 r2 =>
   obtain ⟨t,e⟩:=r1
   subst e
   exact .cons n t (ih r2)
section
variable {X:Cx} {e:Expr} {te:TE} {lo hi:Option Expr} {tl th:TO} {pos p2:Pos}
theorem MW:PO X none Rq:=by
 intro pins s σ H Q I h
 rw [evalPart_none]
 exact wpAny_pure ⟨none,H,I,.none,h⟩
theorem FJ (h:PE X e te):PO X (some e) (XB te):=by
 intro pins s σ H Q I hw
 rw [evalPart_some]
 refine Av (h pins s σ H _ I hw) fun u s1 ⟨x,H1,I1,r1,q1⟩ => ?_
 obtain ⟨i,rfl,q⟩:=q1
 obtain ⟨t,rfl⟩:=r1
 exact ⟨some i,H1,I1,.int i t,q⟩
def Zm (X:Cx) (r:V→Option Int→Option Int→Hp→VK→Prop):Prop :=
 ∀ (pins:List (Addr × Obj)) (s:Shared) (σ:St) (H:Hp) (x:V) (v vl vu:Value) (lo hi:Option Int) (sl:Addr) (Q:VK),Inv X pins σ H s→RelV x v→s.heap.IsSliceOf sl vl vu .none→IsPart vl lo→IsPart vu hi→r x lo hi H Q →
  ∃ T id,typeLookup (.type T) "__getitem__" = pure (some (.builtin id))∧s.TypeIs v T∧wpAny (model X.prog X.w) X.A (getItem v (.ref sl)) (EP X pins σ Q) X.xe s
def aB (r:V→Option Int→Option Int→Hp→VK→Prop) (te:TE) (tl th:TO):TE:=fun σ H Q => te σ H fun x H1 => tl σ H1 fun l H2 => th σ H2 fun u H3 => r x l u H3 Q
theorem Fg {r:V→Option Int→Option Int→Hp→VK→Prop} (hr:Zm X r) (he:PE X e te) (hl:PO X lo tl) (hu:PO X hi th):PE X (.Subscript e (.Slice lo hi none p2) pos) (aB r te tl th):=by
 intro pins s σ H Q I h
 refine Subscript_ (Av (he pins s σ H _ I h) fun v s1 ⟨x,H1,I1,r1,q1⟩ => ?_)
 refine wpAny_Slice (Av (hl pins s1 σ H1 _ I1 q1) fun vl s2 ⟨l,H2,I2,pl,q2⟩ => Av (hu pins s2 σ H2 _ I2 q2) fun vu s3 ⟨u,H3,I3,pu,q3⟩ => ?_)
 rw [evalPart_none]
 refine wpAny_pure ?_
 have I4:Inv X pins σ H3 { s3 with heap:=s3.heap.push { cls:=.type "slice",data:=.fields #[vl,vu,.none] } }:=I3.kept (t':=s3.toks) fun b ob q => Heap.get?_push_of_some _ q
 obtain ⟨T,id,hT,ht,hg⟩:=hr pins { s3 with heap:=s3.heap.push { cls:=.type "slice",data:=.fields #[vl,vu,.none] } } σ H3 x v vl vu l u s3.heap.objs.size Q I4 r1 (Heap.IsSliceOf.new ..) pl pu q3
 show wpAny (model X.prog X.w) X.A (subscriptTail e (.Slice lo hi none p2) v (.ref s3.heap.objs.size)) (EP X pins σ Q) X.xe { s3 with heap:=s3.heap.push { cls:=.type "slice",data:=.fields #[vl,vu,.none] } }
 exact tail_any (ops:=[.ref s3.heap.objs.size,v]) ht hT hg (by with_unfolding_all rfl)
def JZ (xs:List V) (lo hi:Option Int):List V:=(xs.drop (HT.Ff xs.length 0 lo)).take (HT.Ff xs.length xs.length hi - HT.Ff xs.length 0 lo)
theorem Ja (xs:List V) (lo hi:Option Int):(JZ xs lo hi).length≤xs.length:=by
 unfold JZ
 rw [List.length_take,List.length_drop]
 omega
end
def Oq (n:Nat) (i:Int):Option Nat:=if 0≤i then (if i < n then some i.toNat else none) else if -(n:Int)≤i then some (i + n).toNat else none
def atI {α:Type} (xs:List α) (i:Int):Option α:=(Oq xs.length i).bind fun j => xs[j]?
theorem MX {n:Nat} {i:Int} {j:Nat} (h:Oq n i = some j):seqIndex? i n = some j∧j < n∧-(n:Int)≤i∧i < n:=by
 unfold Oq at h
 by_cases h0:0≤i
 ·rw [if_pos h0] at h
  by_cases h1:i < n
  ·rw [if_pos h1] at h
   have e:i.toNat = j:=Option.some.inj h
   exact ⟨by rw [seqIndex_of h0 h1,e],by omega,by omega,h1⟩
  ·rw [if_neg h1] at h; cases h
 ·rw [if_neg h0] at h
  by_cases h1 : -(n:Int)≤i
  ·rw [if_pos h1] at h
   have e:(i + n).toNat = j:=Option.some.inj h
   exact ⟨by rw [seqIndex_neg (by omega) h1,e],by omega,h1,by omega⟩
  ·rw [if_neg h1] at h; cases h
theorem DN {α:Type} {xs:List α} {i:Int} {v:α} (h:atI xs i = some v):∃ j,seqIndex? i xs.length = some j∧xs[j]? = some v∧j < xs.length∧-(xs.length:Int)≤i∧i < xs.length:=by
 unfold atI at h
 cases e:Oq xs.length i with
 | none => rw [e] at h; cases h
 | some j =>
  rw [e] at h
  obtain ⟨h1,h2,h3,h4⟩:=MX e
  exact ⟨j,h1,h,h2,h3,h4⟩
theorem BY {α:Type} {xs:List α} {j:Nat} {v:α} (h:xs[j]? = some v):atI xs (j:Int) = some v:=by
 have hj:j < xs.length:=(List.getElem?_eq_some_iff.mp h).1
 have e:Oq xs.length (j:Int) = some j:=by
  unfold Oq
  rw [if_pos (by omega),if_pos (by omega)]; simp
 unfold atI; rw [e]; exact h
def DO (b:Expr):Prop:=∀ o i,subscripted b false o i = operate [o,i] (getItem o i)
def XC (X:Cx) (r:R2):Prop :=
 ∀ (value slice:Expr) (pins:List (Addr × Obj)) (s:Shared) (σ:St) (H:Hp) (x y:V) (v u:Value) (Q:VK),Inv X pins σ H s→RelV x v→RelV y u→r x y H Q →
  subscripted slice false v u = operate [v,u] (getItem v u)→wpAny (model X.prog X.w) X.A (subscriptTail value slice v u) (EP X pins σ Q) X.xe s
def Zo (X:Cx) (id:String) (r:V→List V→Hp→VK→Prop):Prop :=
 ∀ (pins:List (Addr × Obj)) (s:Shared) (σ:St) (H:Hp) (x:V) (xs:List V) (v:Value) (us:List Value) (Q:VK),Inv X pins σ H s→RelV x v→Vals xs us→r x xs H Q →
  wpAny (model X.prog X.w) X.A (call (.builtin id) (v :: us)) (EP X pins σ Q) X.xe s
section
variable {X:Cx} {a b:Expr} {ta tb:TE} {pos:Pos}
theorem Os {r:R2} (hr:XC X r) (ha:PE X a ta) (hb:PE X b tb) (hs:DO b):PE X (.Subscript a b pos) (Ws r ta tb):=by
 intro pins s σ H Q I h
 exact Subscript_ (Uh ha hb I h fun v u s2 x y H2 I2 rx ry q => hr a b pins s2 σ H2 x y v u Q I2 rx ry q (hs _ _))
def Ur (K:PySem.W.Frag):R2:=fun x y H Q => ∃ p xs i v,x = .ref p∧y = .int i∧SqL K H p xs∧atI xs i = some v∧Q v H
def XD (K:PySem.W.Frag):R2:=fun x y H Q => ∃ p xs i v,x = .ref p∧y = .int i∧JT K H p xs∧atI xs i = some v∧Q v H
theorem CY:XC X (Ur X.K):=by
 intro value slice pins s σ H x y v u Q I rx ry h hs
 obtain ⟨p,xs,i,z,rfl,rfl,hq,he,q⟩:=h
 cases rx
 obtain ⟨t,rfl⟩:=ry
 obtain ⟨its,r,pl,hz⟩:=I.list hq
 obtain ⟨j,h1,h2,h3,h4,h5⟩:=DN he
 obtain ⟨w,ew,rw'⟩:=r.get h2
 have hl:=r.length
 have hn:=Ee
 have fin:EP X pins σ Q w s:=⟨z,H,I,rw',q⟩
 by_cases h0:0≤i
 ·have hj:i.toNat = j:=by
   rw [seqIndex_of h0 h5] at h1
   exact Option.some.inj h1
  exact item_listR pl.isList h0 (by omega) (by rw [hj]; simpa using ew) fin hs
 ·have hj:(i + (its.toArray.size:Int)).toNat = j:=by
   rw [seqIndex_neg (by omega) h4] at h1
   rw [List.size_toArray,← hl]
   exact Option.some.inj h1
  exact subscriptTail_builtinR (x:=w) pl.isList.typeIs slot_list_getitem.lookup
   (wpAny_getItem_list_neg (Q:=fun r s' => r = w∧EP X pins σ Q r s') pl.isList (by omega) (by rw [List.size_toArray] <;> omega) (by omega) (by rw [hj]; simpa using ew) ⟨rfl,fin⟩) hs
theorem Us:XC X (XD X.K):=by
 intro value slice pins s σ H x y v u Q I rx ry h hs
 obtain ⟨p,xs,i,z,rfl,rfl,hq,he,q⟩:=h
 cases rx
 obtain ⟨t,rfl⟩:=ry
 obtain ⟨its,r,pl,hz⟩:=I.tuple hq
 obtain ⟨j,h1,h2,h3,h4,h5⟩:=DN he
 obtain ⟨w,ew,rw'⟩:=r.get h2
 have hl:=r.length
 have hn:=Ee
 have fin:EP X pins σ Q w s:=⟨z,H,I,rw',q⟩
 exact subscriptTail_builtinR (x:=w) pl.typeIs slot_tuple_getitem.lookup
  (getItem_tuple (j:=j) (Q:=fun r s' => r = w∧EP X pins σ Q r s') pl (by omega) (by omega) (by rw [List.size_toArray,← hl]; exact h1) (by simpa using ew) ⟨rfl,fin⟩) hs
theorem LB (its:List Value) (n j:Nat) (u:Value):Obj.mapSeq (·.setIfInBounds j u) { cls:=.type "list",data:=.seq its.toArray n } = { cls:=.type "list",data:=.seq (its.set j u).toArray n }:=by
 simp [Obj.mapSeq]
theorem Inv.lst {pins:List (Addr × Obj)} {σ:St} {H:Hp} {s:Shared} {p:Addr} {xs:List V} (I:Inv X pins σ H s) (h:H p = some (.lst xs)) :
  ∃ (its:List Value) (n:Nat),Vals xs its∧s.heap.get? p = some { cls:=.type "list",data:=.seq its.toArray n }∧xs.length≤sizeLine:=by
 obtain ⟨z,its,n,r,e⟩:=I.hok p _ h
 exact ⟨its,n,r,e,z⟩
theorem Inv.lstUpd {pins:List (Addr × Obj)} {σ:St} {H:Hp} {s:Shared} {p:Addr} {xs ys:List V} {its its':List Value} {n n':Nat} {f:Obj→Obj} (I:Inv X pins σ H s) (h:H p = some (.lst xs))
  (ho:s.heap.get? p = some { cls:=.type "list",data:=.seq its.toArray n }) (hf:f { cls:=.type "list",data:=.seq its.toArray n } = { cls:=.type "list",data:=.seq its'.toArray n' }) (r:Vals ys its') (hz:ys.length≤sizeLine) (t:Nat) :
  Inv X pins σ (BG H p (.lst ys)) { s with heap:=s.heap.update p f,toks:=t }:=by
 have e:(s.heap.update p f).get? p = some { cls:=.type "list",data:=.seq its'.toArray n' }:=by
  rw [Heap.get?_update_self f ho (by rw [hf] <;> rfl),hf]
 refine I.write (x:=p) (e:=p) (by rw [h]; trivial) (.inl rfl) (fun b u hb q => (Heap.get?_update_other _ _ (Ne.symm hb)).trans q) ⟨_,e⟩ ?_
 exact ⟨hz,its',n',r,e⟩
def XF:V→V→V→Hp→(Hp→Prop)→Prop:=fun o i v H Q => ∃ p xs k j,o = .ref p∧i = .int k∧H p = some (.lst xs)∧Oq xs.length k = some j∧Q (BG H p (.lst (xs.set j v)))
theorem Ot:Wj X XF:=by
 intro pins s σ H o i v ov iv u Q I ro ri rv h
 obtain ⟨p,xs,k,j,rfl,rfl,hp,hj,q⟩:=h
 cases ro
 obtain ⟨t,rfl⟩:=ri
 obtain ⟨its,n,r,ho,hz⟩:=I.lst hp
 obtain ⟨h1,h2,h3,h4⟩:=MX hj
 have hl:=r.length
 have hn:=Ee
 have I':Inv X pins σ (BG H p (.lst (xs.set j v))) { s with heap:=s.heap.update p (Obj.mapSeq (·.setIfInBounds j u)) } :=
  I.lstUpd hp ho (LB its n j u) (r.set rv j) (by rw [List.length_set]; exact hz) s.toks
 by_cases h0:0≤k
 ·have hk:k.toNat = j:=by
   rw [seqIndex_of h0 h4] at h1
   exact Option.some.inj h1
  exact PySem.W.ki_setAt ho h0 (by omega) (by rw [List.size_toArray,← hl]; exact h4) (by rw [hk]; exact ⟨_,I',q⟩)
 ·have hk:(k + (its.toArray.size:Int)).toNat = j:=by
   rw [seqIndex_neg (by omega) h3] at h1
   rw [List.size_toArray,← hl]
   exact Option.some.inj h1
  exact PySem.W.ki_setBack ho (by omega) (by rw [List.size_toArray,← hl]; exact h3) (by omega) (by rw [hk]; exact ⟨_,I',q⟩)
theorem IC (lo hi:Option Int) (n:Nat):(sliceBounds lo hi none n).1 = ((HT.Ff n 0 lo:Nat):Int)∧(sliceBounds lo hi none n).2.1 = ((HT.Ff n n hi:Nat):Int)∧(sliceBounds lo hi none n).2.2 = 1:=by
 refine ⟨?_,?_,rfl⟩
 ·cases lo with
  | none => simp [sliceBounds,HT.Ff]
  | some i =>
   simp only [sliceBounds,HT.Ff,Option.getD_none,show (1:Int) > 0 by decide,if_true]
   by_cases h:i < 0
   ·simp only [h,if_true] <;> omega
   ·simp only [h,if_false] <;> omega
 ·cases hi with
  | none => simp [sliceBounds,HT.Ff]
  | some i =>
   simp only [sliceBounds,HT.Ff,Option.getD_none,show (1:Int) > 0 by decide,if_true]
   by_cases h:i < 0
   ·simp only [h,if_true] <;> omega
   ·simp only [h,if_false] <;> omega
theorem Gk (its:List Value) (lo hi:Option Int):slicePick its.toArray lo hi none = ((its.drop (HT.Ff its.length 0 lo)).take (HT.Ff its.length its.length hi - HT.Ff its.length 0 lo)).toArray:=by
 obtain ⟨h1,h2,h3⟩:=IC lo hi its.toArray.size
 unfold slicePick
 rw [h1,h2,h3]
 simp only [sliceRange_one,pick_run,List.size_toArray] <;> rfl
def ZG (K:PySem.W.Frag):V→Option Int→Option Int→Hp→VK→Prop:=fun x lo hi H Q => ∃ a xs,x = .ref a∧SqL K H a xs∧∀ p,H p = none→Q (.ref p) (BG H p (.lst (JZ xs lo hi)))
theorem ID:Zm X (ZG X.K):=by
 intro pins s σ H x v vl vu lo hi sl Q I rx hs pl pu h
 obtain ⟨a,xs,rfl,hx,q⟩:=h
 cases rx
 obtain ⟨its,r,ht,hz⟩:=I.list hx
 have hlen:=r.length
 refine ⟨"list",_,slot_list_getitem.lookup,ht.isList.typeIs,?_⟩
 refine wpAny_getItem_list_slice ht.isList hs pl pu .none (by simp) ?_ (by rw [List.size_toArray] <;> omega)
 rw [Gk,← hlen]
 refine ⟨.ref s.heap.objs.size,_,I.laid (t':=s.toks) (o:=.lst (JZ xs lo hi)) (fun b ob q => Heap.get?_push_of_some _ q) (Nat.le_refl _) ?_,rfl,q _ (I.hok.fresh (Nat.le_refl _))⟩
 exact ⟨Nat.le_trans (Ja xs lo hi) hz,_,0,(r.drop (HT.Ff xs.length 0 lo)).take (HT.Ff xs.length xs.length hi - HT.Ff xs.length 0 lo),Heap.get?_push_size _ rfl⟩
def Bh:V→Bool
 | .non => true
 | .bl _ => true
 | .int _ => true
 | .str _ => true
 | _ => false
def Eg:V→V→Bool
 | .non,.non => true
 | .bl a,.bl b => a == b
 | .bl a,.int b => (if a then 1 else 0) == b
 | .int a,.bl b => a == (if b then 1 else 0)
 | .int a,.int b => a == b
 | .str a,.str b => a == b
 | _,_ => false
theorem Ou {A:Around} {s:Shared} {y x:V} {u v:Value} (ry:RelV y u) (rx:RelV x v) (fy:Bh y = true) (fx:Bh x = true):SeqAt.EqAt A s u v (Eg y x):=by
 cases y with
 | non =>
  cases ry
  cases x with
  | non => cases rx; exact SeqAt.EqAt.same _
  | bl b => cases rx; exact SeqAt.EqAt.none_bool b
  | int b => obtain ⟨t,rfl⟩:=rx; exact SeqAt.EqAt.none_int b t
  | str b => obtain ⟨t,rfl⟩:=rx; exact SeqAt.EqAt.none_str b t
  | _ => exact absurd (show false = true from fx) Bool.false_ne_true
 | bl a =>
  cases ry
  cases x with
  | non => cases rx; exact SeqAt.EqAt.bool_none a
  | bl b => cases rx; exact SeqAt.EqAt.bool_bool a b
  | int b => obtain ⟨t,rfl⟩:=rx; exact SeqAt.EqAt.bool_int a b t
  | str b => obtain ⟨t,rfl⟩:=rx; exact SeqAt.EqAt.bool_str a b t
  | _ => exact absurd (show false = true from fx) Bool.false_ne_true
 | int a =>
  obtain ⟨t',rfl⟩:=ry
  cases x with
  | non => cases rx; exact SeqAt.EqAt.int_none a t'
  | bl b => cases rx; exact SeqAt.EqAt.int_bool a t' b
  | int b => obtain ⟨t,rfl⟩:=rx; exact SeqAt.EqAt.int_int a t' b t
  | str b => obtain ⟨t,rfl⟩:=rx; exact SeqAt.EqAt.int_str a t' b t
  | _ => exact absurd (show false = true from fx) Bool.false_ne_true
 | str a =>
  obtain ⟨t',rfl⟩:=ry
  cases x with
  | non => cases rx; exact SeqAt.EqAt.str_none a t'
  | bl b => cases rx; exact SeqAt.EqAt.str_bool a t' b
  | int b => obtain ⟨t,rfl⟩:=rx; exact SeqAt.EqAt.str_int a t' b t
  | str b => obtain ⟨t,rfl⟩:=rx; exact SeqAt.EqAt.str_str a t' b t
  | _ => exact absurd (show false = true from fx) Bool.false_ne_true
 | _ => exact absurd (show false = true from fy) Bool.false_ne_true
def Wb (x:V) (u:Value):Bool:=match u with
 | .none => Eg .non x
 | .bool b => Eg (.bl b) x
 | .int i _ => Eg (.int i) x
 | .str z _ => Eg (.str z) x
 | _ => false
theorem LD {x y:V} {u:Value} (r:RelV y u) (f:Bh y = true):Wb x u = Eg y x:=by
 cases y with
 | non => cases r; rfl
 | bl b => cases r; rfl
 | int i => obtain ⟨t,rfl⟩:=r; rfl
 | str z => obtain ⟨t,rfl⟩:=r; rfl
 | _ => exact absurd (show false = true from f) Bool.false_ne_true
theorem Fh {A:Around} {s:Shared} {x:V} {v:Value} (rx:RelV x v) (fx:Bh x = true):∀ {xs:List V} {us:List Value},Vals xs us→xs.all Bh = true→∀ u∈us,SeqAt.EqAt A s u v (Wb x u)
 | _,_,.nil,_ => fun u hu => by cases hu
 | y :: xs,u :: us,.cons r t,f => fun u' hu => by
  rw [List.all_cons,Bool.and_eq_true] at f
  rcases List.mem_cons.mp hu with rfl | hu
  ·rw [LD r f.1]; exact Ou r rx f.1 fx
  ·exact Fh rx fx t f.2 u' hu
theorem CZ:BQ X (.builtin "len") (fun xs H Q => ∃ p ys,xs = [.ref p]∧(SqL X.K H p ys∨JT X.K H p ys)∧Q (.int ys.length) H):=by
 intro pins s σ H xs us Q I r h
 obtain ⟨p,ys,rfl,hq,q⟩:=h
 obtain ⟨u,rfl,rx⟩:=Eu r
 cases rx
 have hn:=Ee
 rcases hq with hq | hq
 ·obtain ⟨its,r',pl,hz⟩:=I.list hq
  have hlen:=r'.length
  exact Calls.call_len_list pl.isList (by simp only [List.size_toArray] <;> omega) ⟨.int ys.length,H,I.tok _,⟨s.toks + 1,by rw [List.size_toArray,hlen]⟩,q⟩
 ·obtain ⟨its,r',pl,hz⟩:=I.tuple hq
  have hlen:=r'.length
  exact len_tuple pl (by simp only [List.size_toArray] <;> omega) ⟨.int ys.length,H,I.tok _,⟨s.toks + 1,by rw [List.size_toArray,hlen]⟩,q⟩
def ZH (K:PySem.W.Frag) (T:String) (x:V) (H:Hp):Prop:=match x with
 | .str _ => T = "str"
 | .int _ => T = "int"
 | .ref p => (T = "list"∧∃ xs,SqL K H p xs)∨(T = "tuple"∧∃ o,K.lookup p = some o∧o.cls = .type "tuple"∧o.dict = none) ∨
   (T = "dict"∧((∃ kvs,H p = some (.dK kvs))∨∃ kvs,H p = some (.dT kvs)))∨(T = "set"∧∃ S n,H p = some (.set S n))
 | _ => False
theorem Ut {pins:List (Addr × Obj)} {σ:St} {H:Hp} {s:Shared} {T:String} {x:V} {v:Value} (I:Inv X pins σ H s) (r:RelV x v) (ty:ZH X.K T x H) :
  s.TypeIs v T∧∀ a,v = .ref a→∃ ob,s.heap.get? a = some ob∧ob.dict = none:=by
 cases x with
 | str z =>
  obtain ⟨t,rfl⟩:=r
  cases (show T = "str" from ty)
  exact ⟨typeIs_str s z t,fun _ e => nomatch e⟩
 | int i =>
  obtain ⟨t,rfl⟩:=r
  cases (show T = "int" from ty)
  exact ⟨typeIs_int s i t,fun _ e => nomatch e⟩
 | ref p =>
  cases r
  rcases ty with ⟨rfl,xs,hq⟩ | ⟨rfl,o,hk,hc,hd⟩ | ⟨rfl,hk⟩ | ⟨rfl,S,n,hk⟩
  ·obtain ⟨its,_,pl,_⟩:=I.list hq
   refine ⟨pl.isList.typeIs,fun a e => ?_⟩
   cases e
   obtain ⟨o,n,e,c,hd,_⟩:=pl
   exact ⟨o,e,hd⟩
  ·refine ⟨⟨o,I.kIn p o hk,hc⟩,fun a e => ?_⟩
   cases e
   exact ⟨o,I.kIn _ o hk,hd⟩
  ·have z:∃ o,s.heap.get? p = some o∧o.ExactDict:=by
    rcases hk with ⟨kvs,hk⟩ | ⟨kvs,hk⟩
    ·obtain ⟨_,_,_,_,o,_,_,e,ex,_⟩:=I.hok p _ hk
     exact ⟨o,e,ex⟩
    ·obtain ⟨_,_,_,_,o,_,_,e,ex,_⟩:=I.hok p _ hk
     exact ⟨o,e,ex⟩
   obtain ⟨o,e,ex⟩:=z
   refine ⟨⟨o,e,ex.1⟩,fun a e2 => ?_⟩
   cases e2
   exact ⟨o,e,ex.2.1⟩
  ·obtain ⟨o,_,_,_,e,ex,_⟩:=I.hok p _ hk
   refine ⟨⟨o,e,ex.1⟩,fun a e2 => ?_⟩
   cases e2
   exact ⟨o,e,ex.2.1⟩
 | _ => exact False.elim ty
def aC (K:PySem.W.Frag) (T:String) (r:V→List V→Hp→VK→Prop) (to:TE) (t:TA):TE:=fun σ H Q => to σ H fun x H1 => ZH K T x H1∧t σ H1 fun xs H2 => r x xs H2 Q
variable {o e:Expr} {es:List Expr} {to:TE} {t:TA} {name:Str} {apos cpos:Pos} {T id:String} {r:V→List V→Hp→VK→Prop}
theorem Ov (pa:PlainAttrs T) (slot:Slot T name id) (hty:typeOf (.builtin id) = pure (.type "method_descriptor")) (hm:Zo X id r) (ho:PE X o to) (ha:PA X (e :: es) t)
  (hbase:attributeBase o name X.env (eval o X.env) = eval o X.env:=by rfl)
  (hfew:((backTo cpos (starEach (e :: es) X.env)).all (fun x => !x.1) && (backToKw cpos (keywordEach [] X.env)).all (fun x => x.1.isSome)
   && decide ((e :: es).length + ([]:List Keyword).length + (if ([]:List Keyword).isEmpty then 0 else 1) < 30)) = true:=by rfl)
  (hline:(apos.endLine == cpos.line) = true:=by rfl) (hs:starEach (e :: es) X.env = (false,eval e X.env) :: starEach es X.env:=by rfl) (hplain:(backTo cpos (starEach es X.env)).any (·.1) = false:=by rfl) :
  PE X (.Call (.Attribute o name apos) (e :: es) [] cpos) (aC X.K T r to t):=by
 intro pins s σ H Q I h
 refine wpAny_Call_method_late hbase hfew hline rfl (Av (ho pins s σ H _ I h) fun v s1 ⟨x,H1,I1,r1,ty,q1⟩ => ?_)
 obtain ⟨h1,h2⟩:=Ut I1 r1 ty
 refine ⟨T,id,pa,slot,hty,h1,h2,?_⟩
 have hA:=ha cpos pins s1 σ H1 _ I1 q1
 rw [hs] at hA ⊢
 refine Calls.callWith_builtin (by show (false || (backTo cpos (starEach es X.env)).any (·.1)) = false; rw [hplain] <;> rfl) (Calls.evalArgs_plain ?_)
 exact Av hA fun us s2 ⟨vs,H2,I2,r2,q2⟩ => hm pins s2 σ H2 x vs v us Q I2 r1 r2 q2
end
def Yh (X:Cx) (id:String) (r:V→List V→Hp→VK→Prop):Prop :=
 ∀ (pins:List (Addr × Obj)) (s:Shared) (σ:St) (H:Hp) (x:V) (xs:List V) (v:Value) (us:List Value) (Q:VK),Inv X pins σ H s→RelV x v→Vals xs us→r x xs H Q →
  wpAny (model X.prog X.w) X.A (call (.builtin id) (v :: us)) (EP X pins σ Q) X.xe s
theorem Vals.one:∀ {x:V} {us:List Value},Vals [x] us→∃ u,us = [u]∧RelV x u
 | _,_,.cons r .nil => ⟨_,rfl,r⟩
section
variable {X:Cx} {pins:List (Addr × Obj)} {σ:St} {H:Hp} {s:Shared} {l b:Addr} {xs ys zs:List V}
theorem Inv.lset {its its':List Value} {n:Nat} {f:Array Value→Array Value} {t':Nat} (I:Inv X pins σ H s) (hH:H l = some (.lst xs))
  (e:s.heap.get? l = some { cls:=.type "list",data:=.seq its.toArray n }) (hf:f its.toArray = its'.toArray) (hv:Vals ys its') (hz:ys.length≤sizeLine) :
  Inv X pins σ (BG H l (.lst ys)) { s with heap:=s.heap.update l (Obj.mapSeq f),toks:=t' }:=by
 have q:=PySem.IsL.update e f
 rw [hf] at q
 refine I.write (x:=l) (e:=l) (by rw [hH]; exact trivial) (.inl rfl) (fun b' u hb hu => (Heap.get?_update_other s.heap (Obj.mapSeq f) (Ne.symm hb)).trans hu) ⟨_,q⟩ ?_
 exact ⟨hz,its',_,hv,q⟩
theorem Inv.lnew {its:List Value} {t':Nat} (I:Inv X pins σ H s) (hv:Vals ys its) (hz:ys.length≤sizeLine) :
  Inv X pins σ (BG H s.heap.objs.size (.lst ys)) { s with heap:=s.heap.push { cls:=.type "list",data:=.seq its.toArray },toks:=t' } :=
 I.laid (fun _ _ q => Heap.get?_push_of_some _ q) (Nat.le_refl _) ⟨hz,its,0,hv,Heap.get?_push_size _ rfl⟩
theorem Inv.fresh (I:Inv X pins σ H s):H s.heap.objs.size = none:=I.hok.fresh (Nat.le_refl _)
theorem Inv.lstM (I:Inv X pins σ H s) (hH:H l = some (.lst xs)):xs.length≤sizeLine∧∃ (its:List Value) (n:Nat),Vals xs its∧xs.length = its.length∧s.heap.get? l = some { cls:=.type "list",data:=.seq its.toArray n }:=by
 obtain ⟨z,its,n,r,e⟩:=I.hok l _ hH
 exact ⟨z,its,n,r,r.length,e⟩
theorem Ow {n:Nat} (h:n≤sizeLine):Builtin.List.listTooLong n = false:=by
 unfold Builtin.List.listTooLong
 exact decide_eq_false (by omega)
end
section
variable {X:Cx}
def MY:V→List V→Hp→VK→Prop:=fun x vs H Q => ∃ l xs y,x = .ref l∧vs = [y]∧H l = some (.lst xs)∧xs.length < sizeLine∧Q .non (BG H l (.lst (xs ++ [y])))
theorem HK:Yh X "list.append" MY:=by
 intro pins s σ H x vs v us Q I rx rv h
 obtain ⟨l,xs,y,rfl,rfl,hH,hz,q⟩:=h
 cases rx
 obtain ⟨u,rfl,ru⟩:=rv.one
 obtain ⟨z,its,n,r,hl,e⟩:=I.lstM hH
 refine call_meets F.slot_list_append ⟨_,e,rfl⟩ F.entry_list_append (F.args_list_append_2 _ _) (PySem.list_append l its.toArray n u (by rw [List.size_toArray]; omega)) ⟨e,?_⟩
 refine ⟨.non,_,I.lset (its':=its ++ [u]) hH e (by simp) (r.append (.cons ru .nil)) ?_,rfl,q⟩
 rw [List.length_append,List.length_singleton]
 omega
def Rr:V→List V→Hp→VK→Prop:=fun x vs H Q => ∃ l b xs zs,x = .ref l∧vs = [.ref b]∧H l = some (.lst xs)∧H b = some (.lst zs)∧xs.length + zs.length≤sizeLine∧Q .non (BG H l (.lst (xs ++ zs)))
theorem Nj:Yh X "list.extend" Rr:=by
 intro pins s σ H x vs v us Q I rx rv h
 obtain ⟨l,b,xs,zs,rfl,rfl,hH,hB,hz,q⟩:=h
 cases rx
 obtain ⟨u,rfl,ru⟩:=rv.one
 cases ru
 obtain ⟨z,its,n,r,hl,e⟩:=I.lstM hH
 obtain ⟨z2,its2,n2,r2,hl2,e2⟩:=I.lstM hB
 have hsz:its.toArray.size + its2.toArray.size≤sizeLine:=by rw [List.size_toArray,List.size_toArray]; omega
 have hlong:¬ (!its.toArray.isEmpty && Builtin.List.listTooLong (its.toArray.size + its2.toArray.size)) = true:=by
  rw [Ow hsz,Bool.and_false]
  exact Bool.false_ne_true
 refine call_meets F.slot_list_extend ⟨_,e,rfl⟩ F.entry_list_extend (F.args_list_extend_2 _ _)
  (AutoSeq1.list_extend_list_list_0 l its.toArray n b its2.toArray n2 hlong (by rw [List.size_toArray]; omega) (by omega)) ⟨e,e2,?_⟩
 refine ⟨.non,_,I.lset (its':=its ++ its2) hH e (by simp) (r.append r2) ?_,rfl,q⟩
 rw [List.length_append]
 omega
def XG:R2:=fun x y H Q => ∃ l b xs zs,x = .ref l∧y = .ref b∧H l = some (.lst xs)∧H b = some (.lst zs)∧xs.length + zs.length≤sizeLine∧∀ p,H p = none→Q (.ref p) (BG H p (.lst (xs ++ zs)))
theorem IE:Co X (binaryOp .Add) XG:=by
 intro pins s σ H x y v u Q I rx ry h
 obtain ⟨l,b,xs,zs,rfl,rfl,hH,hB,hz,q⟩:=h
 cases rx
 cases ry
 obtain ⟨z,its,n,r,hl,e⟩:=I.lstM hH
 obtain ⟨z2,its2,n2,r2,hl2,e2⟩:=I.lstM hB
 refine PySem.P.add_list e e2 ?_ (by rw [List.size_toArray,List.size_toArray]; omega)
 have ea:its.toArray ++ its2.toArray = (its ++ its2).toArray:=by simp
 rw [ea]
 exact ⟨.ref _,_,I.lnew (t':=s.toks) (r.append r2) (by rw [List.length_append]; omega),rfl,q _ I.fresh⟩
end
section
variable {prog:Program} {w:World} {A:Around} {E:Value→Shared→Prop} {s:Shared}
end
section
variable {X:Cx}
end
end L2
namespace Att
open PySem PySem.W PySem.Calls PyProof.Rows
theorem FA {P:Params} {h:Heap}:∀ (ns:List Int) (vs:List Value),WellAll P h vs (ns.map WData.int)→IntsAre vs ns:=by
 intro ns
 induction ns with
 | nil =>
  intro vs w
  rw [List.map_nil] at w
  cases w
  exact .nil
 | cons n ns ih =>
  intro vs w
  rw [List.map_cons] at w
  cases w with
  | cons a b =>
   cases a
   exact .cons _ _ (ih _ b)
theorem Nk {l:OpenLaw} {n:Nat} (hn:l.most = some n) {P:Params} {h:Heap} {args:List WData} {vals:List Value}
  (hpre:l.row.toRowW.claim.pre args = true) (hwl:WellAll P h vals args) :
  ∃ a vs ns,vals = [Value.ref a]∧args = [WData.list (ns.map WData.int)]∧h.get? a = some { cls:=.type "list",data:=.seq vs.toArray }∧IntsAre vs ns∧ns.length≤n:=by
 have hsh:WShape.hasAll [] args [.list .int] = true:=(pre_splitW hpre).1
 have hc:l.pre.holds [] { args:=args } = true:=(pre_splitW hpre).2
 obtain ⟨d,r,rfl,h1,h2⟩:=hasAllW_cons hsh
 obtain rfl:=hasAllW_nil h2
 obtain ⟨xs,rfl,h3⟩:=hasW_list h1
 obtain ⟨ns,rfl⟩:=items_int h3
 have hlen:ns.length≤n:=by
  unfold OpenLaw.pre at hc
  have h4:(WTm.not (.lt (.lit (.int (n:Int))) (.len (.arg 0)))).holds [] { args:=[.list (ns.map .int)] } = true:=by
   have h4:=(holds_andW hc).1
   rw [hn] at h4
   exact h4
  have h5:=condW_of h4 (w_not (w_lt w_lit (w_len_list (w_arg rfl))))
  rw [List.length_map] at h5
  refine Nat.le_of_not_lt fun q => ?_
  have q':(n:Int) < ((ns.length:Nat):Int):=by omega
  first
   | (rw [decide_eq_true q'] at h5; exact absurd h5 (by decide))
   | (simp at h5; omega)
 cases hwl with
 | cons w1 w2 =>
  cases w2
  cases w1 with
  | list ho hall => exact ⟨_,_,ns,rfl,rfl,ho,FA ns _ hall,hlen⟩
theorem Nl (l:OpenLaw) (args:List WData):l.row.toRowW.claim.post args (.bool true) args = true :=
 postW_of (r:=l.row.toRowW) (X:=(true == true))
  (show WShape.has [] (.bool true) .bool = true by first | rfl | decide | simp [WShape.has,WShape.arms,WShape.armsAll])
  (show (WTm.eq .res (.lit (.bool true))).value [] { args:=args,res:=some (.bool true),after:=args } = some (.bool (true == true)) from w_eq_bool (w_res rfl) w_lit) rfl
theorem Jb {l:OpenLaw} {n:Nat} {q:Program} {loose:List Str} {XP:(Str→Option Value)→Heap→Prop} {YP:World→Heap→Prop} {d:DefRec}
  (hn:l.most = some n) (hdf:d.params.defaults = [])
  (call:∀ (w:World) (s₀ s₁:Shared) (mg mb:Str→Option Value) (fa:Addr) (o:Obj) (pm cd doc:Value) (a:Addr) (vs:List Value) (ns:List Int),
   Ground q loose [] XP w s₀ mg mb s₁.heap→YP w s₁.heap →
   s₁.heap.get? fa = some o→o.data = .func (docDef d.name d.params d.body d.scope pm cd doc)→s₁.heap.CodeRec cd d.name→mg d.name = some (.ref fa) →
   s₁.heap.get? a = some { cls:=.type "list",data:=.seq vs.toArray }→IntsAre vs ns→ns.length≤n→s₁.gens = #[] →
   codeAny (model l.prog w) callerA (.call (.ref fa) ⟨[.ref a],[]⟩) (fun r s' => r = .ok (.ret (.bool true))∧OldK s₁.heap s'.heap∧s'.os = s₁.os∧AllBare s'.gens) s₁) :
  WalkO q loose XP YP l.row.toRowW d [] (fun f vs => PySem.call f vs):=by
 intro w s₀ s₁ mg mb G Y fa o pm cd doc dV kV ho hd hcd hD hmg hg args vals as hpre hlay hrd hwl hlo
 obtain rfl:dV = .none:=Dflts.none hD hdf
 obtain rfl:kV = .none:=Dflts.noKw hD
 obtain ⟨a,vs,ns,rfl,rfl,hobj,hints,hlen⟩:=Nk hn hpre hwl
 refine enter_call (codeAny_mono (call w s₀ s₁ mg mb fa o pm cd doc a vs ns G Y ho (fd_plain hd) hcd hmg hobj hints hlen hg) fun r s' hq => ?_)
 obtain ⟨rfl,h2,h3,h4⟩:=hq
 exact ⟨.inl ⟨.bool true,.bool true,[],rfl,fun _ => rfl,.bool true,Nl l _,fun _ => ⟨List.Pairwise.nil,fun _ hm => (nomatch hm)⟩⟩,h2,h3,h4⟩
section
variable {prog:Program} {w:World} {A:Around} {E:Value→Shared→Prop} {s:Shared} {K:Frag}
end
end Att
namespace L2
open PySem PySem.Spec PyProof.Rows
theorem DP:∀ {vs:List Value} {ns:List Int},IntsAre vs ns→Vals (ns.map V.int) vs
 | _,_,.nil => .nil
 | _,_,.cons n t h => .cons ⟨t,rfl⟩ (DP h)
def Uu (H:Hp):Prop:=∀ b,H b = none∨∃ o xs,H b = some (.frz o (.lst xs))
theorem Ox {P:Program} {w:World} {K:PySem.W.Frag} {mg mb:Str→Option Value} {CX:Op} {k:Nat} {fa a:Addr} {fd:FuncData} {x:Str} {sp:Sp} {s₁:Shared} {vs:List Value} {ns:List Int}
  (KX:K.In s₁.heap) (hns:s₁.heap.Ns mainGlobals mg) (hb:s₁.heap.Ns builtinsNs mb) (hbb:∀ x:Str,x≠"__name__"→mb x = bootBuiltins x) (hlim:s₁.heap.NoLimit) (hg:s₁.gens = #[])
  (ha:s₁.heap.get? a = some { cls:=.type "list",data:=.seq vs.toArray }) (hi:IntsAre vs ns) (hl:ns.length≤sizeLine) (hr:Room k callerA)
  (F:∀ base:Heap,K.In base→base.Ns mainGlobals mg→FnOk P w K mg base CX k fa fd [x] sp) (hbind:∀ (s:Shared) (u:Value),BindsTo s fd ⟨[u],[]⟩ [(x,u)])
  (hsp:∀ H:Hp,Uu H→SqL K H a (ns.map V.int)→sp [.ref a] H (fun v _ => v = .bl true) fun _ _ _ => False)
  (hCX:∀ H e s',CX [] H s₁ (fun _ _ _ => False) e s'→False) :
  codeAny (model P w) callerA (.call (.ref fa) ⟨[.ref a],[]⟩) (fun r s' => r = .ok (.ret (.bool true))∧OldK s₁.heap s'.heap∧s'.os = s₁.os∧AllBare s'.gens) s₁:=by
 have rv:=DP hi
 have lenV:=hi.length
 have core:∀ H:Hp,Uu H→SqL K H a (ns.map V.int)→HOk P w H s₁.heap→(∀ b,H b≠none→b = a)→(H a≠none→K.lookup a = none) →
   codeAny (model P w) callerA (.call (.ref fa) ⟨[.ref a],[]⟩) (fun r s' => r = .ok (.ret (.bool true))∧OldK s₁.heap s'.heap∧s'.os = s₁.os∧AllBare s'.gens) s₁:=by
  intro H hO hS hok hA hK
  have base_of:∀ {b:Addr} {o:Obj},s₁.heap.get? b = some o→H b = none→(Hz s₁.heap H).get? b = some o:=fun e n => OZ e n
  have noA:∀ {b:Addr} {o:Obj} {es:Array DictEntry} {ep:Nat},s₁.heap.get? b = some o→o.data = .dict es ep→H b = none:=fun {b o es ep} e d => by
   cases q:H b with
   | none => rfl
   | some u =>
    have e':b = a:=hA b (by rw [q]; simp)
    subst e'
    rw [ha] at e; cases e
    have d':Data.seq vs.toArray _ = Data.dict es ep:=d
    cases d'
  have nsK:∀ {b:Addr} {m:Str→Option Value},s₁.heap.Ns b m→(Hz s₁.heap H).Ns b m:=fun {b m} ⟨o,es,ep,e,d,r⟩ => ⟨o,es,ep,base_of e (noA e d),d,r⟩
  have hKb:K.In (Hz s₁.heap H):=fun b o e => base_of (KX b o e) (by
   cases q:H b with
   | none => rfl
   | some u =>
    have e':b = a:=hA b (by rw [q]; simp)
    subst e'
    rw [hK (by rw [q]; simp)] at e; cases e)
  have hM:Mod K mg (Hz s₁.heap H):=⟨hKb,nsK hns,⟨mb,nsK hb,hbb⟩,let ⟨mc,h1,h2⟩:=hlim; ⟨mc,nsK h1,h2⟩⟩
  have e0:Env0 P w K mg (Hz s₁.heap H) callerA [] s₁ H:=⟨rfl,hM,fun b o e => Re e,Nat.le_of_eq (NW _ _),trivial,fun b hb => absurd (show b∈([]:List Addr) from hb) (by simp),hok,.of_eq hg⟩
  refine codeAny_mono ((F _ hKb (nsK hns)).run callerA [] s₁ H ⟨[.ref a],[]⟩ [.ref a] [.ref a] _ _ hr e0 (hbind s₁ (.ref a)) (.cons rfl .nil) (hsp H hO hS)) fun r s' h => ?_
  cases r with
  | error e => exact (hCX H e s' h).elim
  | ok fl =>
   cases fl with
   | next => exact False.elim h
   | brk => exact False.elim h
   | cont => exact False.elim h
   | ret u =>
    obtain ⟨v,H',os,bare,un,hok',r',q⟩:=h
    have q':v = .bl true:=q
    subst q'
    obtain rfl:u = Value.bool true:=r'
    refine ⟨rfl,OldK.of_keep fun b o e => ?_,os,bare⟩
    cases q:H b with
    | none => exact un.keep b o e q (by intro z; exact absurd (show b∈([]:List Addr) from z) (by simp)) (by simp)
    | some u =>
     rcases hO b with z | ⟨ob,xs,z⟩
     ·rw [q] at z; cases z
     ·have z2:=un.frzs b ob _ z
      obtain ⟨e1,_⟩:=hok b _ z
      obtain ⟨e2,_⟩:=hok' b _ z2
      rw [e] at e1; cases e1
      exact e2
 cases hk:K.lookup a with
 | some o =>
  have e:=KX a o hk
  rw [ha] at e
  cases e
  refine core (fun _ => none) (fun _ => .inl rfl) (.inr ⟨_,vs.toArray,_,hk,rfl,rfl,rfl,by rw [List.size_toArray,lenV]; exact hl,by simpa using rv⟩) (fun b u z => by have z':(none:Option HO) = some u:=z; cases z') (fun b z => absurd rfl z) fun z => absurd rfl z
 | none =>
  refine core (fun b => if b = a then some (.frz { cls:=.type "list",data:=.seq vs.toArray } (.lst (ns.map V.int))) else none) (fun b => ?_) (.inl (.inr ⟨{ cls:=.type "list",data:=.seq vs.toArray },if_pos rfl⟩)) (fun b u z => ?_) (fun b z => ?_) fun _ => hk
  ·by_cases hb:b = a
   ·exact .inr ⟨_,_,if_pos hb⟩
   ·exact .inl (if_neg hb)
  ·by_cases hb:b = a
   ·have z':=(if_pos hb).symm.trans z
    cases z'
    subst hb
    exact ⟨ha,by rw [List.length_map]; exact hl,vs,_,rv,ha⟩
   ·have z':=(if_neg hb).symm.trans z
    cases z'
  ·by_cases hb:b = a
   ·exact hb
   ·exact absurd (if_neg hb) z
theorem Rs {l:PySem.W.OpenLaw} {n k:Nat} {q:Program} {loose:List Str} {XP:(Str→Option Value)→Heap→Prop} {YP:World→Heap→Prop} {d:DefRec} {K:Params→PySem.W.Frag} {CX:World→Op} {sp:World→Sp} {x:Str}
  (hn:l.most = some n) (hn2:n≤sizeLine) (hdf:d.params.defaults = []) (hr:Room k callerA)
  (hY:∀ (w:World) (h:Heap),YP w h→(K w.params).In h)
  (F:∀ (w:World) (mg:Str→Option Value) (fa:Addr) (h:Heap),(K w.params).In h→h.Ns mainGlobals mg→mg d.name = some (.ref fa) →
   ∃ fd:FuncData,(∀ (s:Shared) (u:Value),BindsTo s fd ⟨[u],[]⟩ [(x,u)]) ∧
    ∀ base:Heap,(K w.params).In base→base.Ns mainGlobals mg→FnOk l.prog w (K w.params) mg base (CX w) k fa fd [x] (sp w))
  (hsp:∀ (w:World) (H:Hp) (a:Addr) (ns:List Int),ns.length≤n→Uu H→SqL (K w.params) H a (ns.map V.int)→sp w [.ref a] H (fun v _ => v = .bl true) fun _ _ _ => False)
  (hCX:∀ (w:World) (H:Hp) (s:Shared) (e:Value) (s':Shared),CX w [] H s (fun _ _ _ => False) e s'→False) :
  PySem.W.WalkO q loose XP YP l.row.toRowW d [] (fun f vs => PySem.call f vs):=by
 refine Att.Jb hn hdf fun w s₀ s₁ mg mb fa o pm cd doc a vs ns G Y ho hd hcd hmg hobj hints hlen hg => ?_
 have KX:=hY w _ Y
 obtain ⟨fd,hb,hF⟩:=F w mg fa _ KX G.T.g hmg
 exact Ox KX G.T.g G.T.b G.T.builtins G.T.nolimit hg hobj hints (Nat.le_trans hlen hn2) hr hF hb (fun H hO hS => hsp w H a ns hlen hO hS) fun H e s' => hCX w H s₁ e s'
def EE (s:Stmt):Arguments:=match s with
 | .FunctionDef _ a _ _ _ _ _ _ _ _ => a
 | _ => { posonlyargs:=[],args:=[],vararg:=none,kwonlyargs:=[],kw_defaults:=[],kwarg:=none,defaults:=[] }
def Aj (s:Stmt):List Stmt:=match s with
 | .FunctionDef _ _ b _ _ _ _ _ _ _ => b
 | _ => []
def AB (s:Stmt):Scope:=match s with
 | .FunctionDef _ _ _ _ _ _ sc _ _ _ => sc
 | _ => { kind:=.function,names:=[],isGenerator:=false,isCoroutine:=false }
abbrev ZI:Op:=fun _ _ _ _ _ _ => False
abbrev E0:XK:=fun _ _ _ => False
structure Fun (K:PySem.W.Frag) (x qual:Str) (st:Stmt) (f:Addr) (fd:FuncData):Prop where
 ex:∃ (oc:Value) (od:Option Addr) (kV doc pm:Value) (an:Option Addr) (cdv ct:Value) (osl:Array (Option Value)),
  fd = PySem.W.fnOf x qual (EE st) (Aj st) (AB st) .none kV doc pm an cdv ct∧K.lookup f = some ⟨oc,od,.func fd,osl⟩∧PySem.W.codeIn K cdv qual = true
 kp:PySem.W.keepIn K (.ref f) = true
section
variable {P:Program} {w:World} {K:PySem.W.Frag} {mg:Str→Option Value} {base:Heap}
theorem Fun.binds {x qual:Str} {st:Stmt} {f:Addr} {fd:FuncData} {ps:List Str} (F:Fun K x qual st f fd)
  (h:∀ (kV doc pm:Value) (an:Option Addr) (cdv ct:Value) (us:List Value),us.length = ps.length→bindArgs (PySem.W.fnOf x qual (EE st) (Aj st) (AB st) .none kV doc pm an cdv ct) ⟨us,[]⟩ = pure (ps.zip us)):Binds K fd ps []:=by
 obtain ⟨oc,od,kV,doc,pm,an,cdv,ct,osl,rfl,lk,hcd⟩:=F.ex
 exact .all (h kV doc pm an cdv ct)
end
section
variable {X:Cx}
theorem pv (i:Nat) {x:Str} {pos:Pos} (hN:X.N[i]? = some x:=by rfl) (hv:UR X.env.scope x:=by first | exact Or.inl rfl | exact Or.inr (Or.inl rfl) | exact Or.inr (Or.inr rfl)) (hd:(x == ("__debug__" : Str)) = false:=by decide)
  (hcd:(x == ("__classdict__" : Str)) = false:=by decide):PE X (.Name x pos) (US i):=Ks hN hv hd hcd
end
theorem Dl {A B:Prop} (h:B):if false = true then A else B:=by
 rw [if_neg Bool.false_ne_true]
 exact h
theorem Fj {A B:Prop} (h:A):if true = true then A else B:=by
 rw [if_pos rfl]
 exact h
theorem Uv {c A B:Prop} [Decidable c] (h1:c→A) (h2:¬ c→B):if c then A else B:=by
 by_cases h:c
 ·rw [if_pos h]
  exact h1 h
 ·rw [if_neg h]
  exact h2 h
def Same (H H':Hp):Prop:=∀ b o,H b = some o→H' b = some o
theorem Same.refl (H:Hp):Same H H:=fun _ _ h => h
end L2
set_option maxHeartbeats 4000000
namespace K11
open PySem L2
def kE (P:Params) (x:Str) (n:Tok) (v:Value):DictEntry:=⟨PyData.keyHash P x,.str x n,v⟩
def tp (i:Nat):Stmt:=PySem.Challenge.pw_noshortring_k11_full_layers.main.body.getD i (.Pass ⟨0,0,0,0⟩)
def kF (x:Str) (i:Nat) (m:Str) (t:Tok) (c:Addr):Obj:=⟨.type "function",none,.func (PySem.W.fnOf x x (EE (tp i)) (Aj (tp i)) (AB (tp i)) .none .none .none (.str m t) none (.ref c) .none),#[]⟩
def kC (x:Str) (a b c:Tok) (vs:List Value):Obj:=⟨.type "code",none,.fields ((Value.str x a :: .str x b :: .str "/claim/cut.py" c :: vs).toArray),#[]⟩
def kD (x:Str) (a b c:Tok) (l n:Int) (r:Addr) (g:Int) (q:Addr) (z:Int) (k:Tok) (vs:List Value):Obj:=kC x a b c (.int l 0 :: .int n 0 :: .int 0 0 :: .int 0 0 :: .int 3 0 :: .ref r :: .bool true :: .int g 0 :: .ref q :: (vs ++ [.int z 0,.int l 0,.str "/claim/cut.py" k]))
def Kk:Params→PySem.W.Frag:=fun P => (nat_lit 3,⟨(.type "dict"),none,(.dict #[kE P "__name__" 165 (.str "law_noshortring_k11_full_layers" 576),kE P "__doc__" 166 .none,kE P "__package__" 167 .none,kE P "__loader__" 168 (.builtin "__main__.__loader__#opaque"),kE P "__spec__" 169 .none,kE P "__annotations__" 170 (.ref 6),kE P "__builtins__" 171 (.ref 4),kE P "__file__" 173 (.str "/claim/cut.py" 172),kE P "__cached__" 174 .none,kE P "RingError" 206 (.ref 24),kE P "NoPlace" 222 (.ref 37),kE P "NoNumber" 238 (.ref 49),kE P "NoLine" 254 (.ref 61),kE P "NoRing" 270 (.ref 73),kE P "NotEven" 286 (.ref 85),kE P "NoWeb" 311 (.ref 104),kE P "NoText" 336 (.ref 123),kE P "TooGreat" 363 (.ref 142),kE P "is_whole" 374 (.ref 151),kE P "need_number" 383 (.ref 158),kE P "MOST_PLACES" 387 (.int 16 386),kE P "LEAST_RING" 389 (.int 3 388),kE P "is_place" 397 (.ref 165),kE P "need_place" 405 (.ref 172),kE P "are_tied" 414 (.ref 179),kE P "nears_of" 420 (.ref 184),kE P "fars_from" 426 (.ref 189),kE P "even_by" 432 (.ref 194),kE P "LEAST_TIES" 436 (.int 2 435),kE P "MOST_TIES" 438 (.int 15 437),kE P "MOST_RING" 440 (.int 16 439),kE P "need_ties" 447 (.ref 201),kE P "need_ring" 454 (.ref 208),kE P "need_ties_and_ring" 462 (.ref 215),kE P "sum_of_powers" 473 (.ref 222),kE P "grown_places" 482 (.ref 229),kE P "least_by_growth" 490 (.ref 236),kE P "need_tie" 501 (.ref 243),kE P "layers_from" 507 (.ref 248),kE P "places_so_far" 513 (.ref 253),kE P "layers_of" 521 (.ref 260),kE P "layers_by_tie" 530 (.ref 267),kE P "evenness" 538 (.ref 274),kE P "full_layers" 550 (.ref 281),kE P "full_at" 559 (.ref 288),kE P "full_by" 569 (.ref 295),kE P "longest_fit" 575 (.ref 300),kE P "_law_cell_at" 585 (.ref 307),kE P "_law_next" 592 (.ref 314),kE P "_law_pen_of" 600 (.ref 321),kE P "_law_draw" 609 (.ref 328),kE P "_law_whole" 616 (.ref 335),kE P "_law_kind_of" 624 (.ref 342),kE P "_law_refused" 632 (.ref 349),kE P "_law_web_of" 638 (.ref 354),kE P "_law_near_of" 644 (.ref 359),kE P "_law_round" 650 (.ref 364),kE P "_law_some_web" 656 (.ref 369),kE P "_law_fars" 662 (.ref 374),kE P "_law_even" 668 (.ref 379),kE P "_law_no_place" 677 (.ref 386),kE P "_law_odd_of" 686 (.ref 393),kE P "_law_told" 697 (.ref 400),kE P "_law_full" 709 (.ref 407),kE P "_law_longest" 722 (.ref 414),kE P "_law_right" 734 (.ref 421),kE P "law" 740 (.ref 426)] 67),#[]⟩) ::
  (nat_lit 23,⟨(.type "dict"),none,(.dict #[kE P "__module__" 196 (.str "noshortring.errors" 187),kE P "__firstlineno__" 200 (.int 2 199),kE P "__static_attributes__" 201 (.ref 22),kE P "__weakref__" 203 (.ref 25),kE P "__doc__" 204 .none] 3),#[]⟩) ::
  (nat_lit 24,⟨(.type "type"),none,(.cls ⟨"RingError",[(.type "ValueError")],[(.ref 24),(.type "ValueError"),(.type "Exception"),(.type "BaseException"),(.type "object")],23,"RingError",true,[],[(.ref 37),(.ref 49),(.ref 61),(.ref 73),(.ref 85),(.ref 104),(.ref 123),(.ref 142)],false,none,false⟩),#[(some (.ref 15)),none,(some (.str "RingError" 189)),(some (.str "RingError" 197)),(some (.builtin "ValueError.__new__")),(some (.bool true))]⟩) ::
  (nat_lit 36,⟨(.type "dict"),none,(.dict #[kE P "__module__" 214 (.str "noshortring.errors" 187),kE P "__firstlineno__" 218 (.int 4 217),kE P "__static_attributes__" 219 (.ref 35),kE P "__doc__" 220 .none] 2),#[]⟩) ::
  (nat_lit 37,⟨(.type "type"),none,(.cls ⟨"NoPlace",[(.ref 24)],[(.ref 37),(.ref 24),(.type "ValueError"),(.type "Exception"),(.type "BaseException"),(.type "object")],36,"NoPlace",true,[],[],false,none,false⟩),#[(some (.ref 28)),none,(some (.str "NoPlace" 207)),(some (.str "NoPlace" 215)),(some (.builtin "ValueError.__new__")),(some (.bool true))]⟩) ::
  (nat_lit 48,⟨(.type "dict"),none,(.dict #[kE P "__module__" 230 (.str "noshortring.errors" 187),kE P "__firstlineno__" 234 (.int 6 233),kE P "__static_attributes__" 235 (.ref 47),kE P "__doc__" 236 .none] 2),#[]⟩) ::
  (nat_lit 49,⟨(.type "type"),none,(.cls ⟨"NoNumber",[(.ref 24)],[(.ref 49),(.ref 24),(.type "ValueError"),(.type "Exception"),(.type "BaseException"),(.type "object")],48,"NoNumber",true,[],[],false,none,false⟩),#[(some (.ref 40)),none,(some (.str "NoNumber" 223)),(some (.str "NoNumber" 231)),(some (.builtin "ValueError.__new__")),(some (.bool true))]⟩) ::
  (nat_lit 60,⟨(.type "dict"),none,(.dict #[kE P "__module__" 246 (.str "noshortring.errors" 187),kE P "__firstlineno__" 250 (.int 8 249),kE P "__static_attributes__" 251 (.ref 59),kE P "__doc__" 252 .none] 2),#[]⟩) ::
  (nat_lit 61,⟨(.type "type"),none,(.cls ⟨"NoLine",[(.ref 24)],[(.ref 61),(.ref 24),(.type "ValueError"),(.type "Exception"),(.type "BaseException"),(.type "object")],60,"NoLine",true,[],[],false,none,false⟩),#[(some (.ref 52)),none,(some (.str "NoLine" 239)),(some (.str "NoLine" 247)),(some (.builtin "ValueError.__new__")),(some (.bool true))]⟩) ::
  (nat_lit 73,⟨(.type "type"),none,(.cls ⟨"NoRing",[(.ref 24)],[(.ref 73),(.ref 24),(.type "ValueError"),(.type "Exception"),(.type "BaseException"),(.type "object")],72,"NoRing",true,[],[],false,none,false⟩),#[(some (.ref 64)),none,(some (.str "NoRing" 255)),(some (.str "NoRing" 263)),(some (.builtin "ValueError.__new__")),(some (.bool true))]⟩) ::
  (nat_lit 84,⟨(.type "dict"),none,(.dict #[kE P "__module__" 278 (.str "noshortring.errors" 187),kE P "__firstlineno__" 282 (.int 12 281),kE P "__static_attributes__" 283 (.ref 83),kE P "__doc__" 284 .none] 2),#[]⟩) ::
  (nat_lit 85,⟨(.type "type"),none,(.cls ⟨"NotEven",[(.ref 24)],[(.ref 85),(.ref 24),(.type "ValueError"),(.type "Exception"),(.type "BaseException"),(.type "object")],84,"NotEven",true,[],[],false,none,false⟩),#[(some (.ref 76)),none,(some (.str "NotEven" 271)),(some (.str "NotEven" 279)),(some (.builtin "ValueError.__new__")),(some (.bool true))]⟩) ::
  (nat_lit 104,⟨(.type "type"),none,(.cls ⟨"NoWeb",[(.ref 24)],[(.ref 104),(.ref 24),(.type "ValueError"),(.type "Exception"),(.type "BaseException"),(.type "object")],103,"NoWeb",true,[],[],false,none,false⟩),#[(some (.ref 88)),none,(some (.str "NoWeb" 287)),(some (.str "NoWeb" 295)),(some (.builtin "ValueError.__new__")),(some (.bool true))]⟩) ::
  (nat_lit 123,⟨(.type "type"),none,(.cls ⟨"NoText",[(.ref 24)],[(.ref 123),(.ref 24),(.type "ValueError"),(.type "Exception"),(.type "BaseException"),(.type "object")],122,"NoText",true,[],[],false,none,false⟩),#[(some (.ref 107)),none,(some (.str "NoText" 312)),(some (.str "NoText" 320)),(some (.builtin "ValueError.__new__")),(some (.bool true))]⟩) ::
  (nat_lit 142,⟨(.type "type"),none,(.cls ⟨"TooGreat",[(.ref 24)],[(.ref 142),(.ref 24),(.type "ValueError"),(.type "Exception"),(.type "BaseException"),(.type "object")],141,"TooGreat",true,[],[],false,none,false⟩),#[(some (.ref 126)),none,(some (.str "TooGreat" 337)),(some (.str "TooGreat" 345)),(some (.builtin "ValueError.__new__")),(some (.bool true))]⟩) ::
  (nat_lit 150,kD "is_whole" 366 367 368 28 3 145 181 146 372 373 [.none,(.ref 147),(.ref 148),(.ref 149)]) ::
  (nat_lit 151,kF "is_whole" 11 "noshortring.common" 364 150) ::
  (nat_lit 157,kD "need_number" 375 376 377 32 3 152 181 153 381 382 [.none,(.ref 154),(.ref 155),(.ref 156)]) ::
  (nat_lit 158,kF "need_number" 12 "noshortring.common" 364 157) ::
  (nat_lit 164,kD "is_place" 390 391 392 38 2 159 181 160 395 396 [.none,(.ref 161),(.ref 162),(.ref 163)]) ::
  (nat_lit 165,kF "is_place" 16 "noshortring.webs" 384 164) ::
  (nat_lit 171,kD "need_place" 398 399 400 40 2 166 181 167 403 404 [.none,(.ref 168),(.ref 169),(.ref 170)]) ::
  (nat_lit 172,kF "need_place" 17 "noshortring.webs" 384 171) ::
  (nat_lit 178,kD "are_tied" 406 407 408 43 3 173 181 174 412 413 [.none,(.ref 175),(.ref 176),(.ref 177)]) ::
  (nat_lit 179,kF "are_tied" 18 "noshortring.webs" 384 178) ::
  (nat_lit 183,kD "nears_of" 415 416 417 45 1 180 181 181 418 419 [.none,.none,.none,(.ref 182)]) ::
  (nat_lit 184,kF "nears_of" 19 "noshortring.webs" 384 183) ::
  (nat_lit 188,kD "fars_from" 421 422 423 51 2 185 181 186 424 425 [.none,.none,.none,(.ref 187)]) ::
  (nat_lit 189,kF "fars_from" 20 "noshortring.webs" 384 188) ::
  (nat_lit 193,kD "even_by" 427 428 429 67 1 190 181 191 430 431 [.none,.none,.none,(.ref 192)]) ::
  (nat_lit 194,kF "even_by" 21 "noshortring.webs" 384 193) ::
  (nat_lit 200,kD "need_ties" 441 442 443 74 1 195 181 196 445 446 [.none,(.ref 197),(.ref 198),(.ref 199)]) ::
  (nat_lit 201,kF "need_ties" 26 "noshortring.fewest" 433 200) ::
  (nat_lit 207,kD "need_ring" 448 449 450 76 1 202 181 203 452 453 [.none,(.ref 204),(.ref 205),(.ref 206)]) ::
  (nat_lit 208,kF "need_ring" 27 "noshortring.fewest" 433 207) ::
  (nat_lit 214,kD "need_ties_and_ring" 455 456 457 78 2 209 181 210 460 461 [.none,(.ref 211),(.ref 212),(.ref 213)]) ::
  (nat_lit 215,kF "need_ties_and_ring" 28 "noshortring.fewest" 433 214) ::
  (nat_lit 221,kD "sum_of_powers" 463 464 465 81 2 216 181 217 471 472 [.none,(.ref 218),(.ref 219),(.ref 220)]) ::
  (nat_lit 222,kF "sum_of_powers" 29 "noshortring.fewest" 433 221) ::
  (nat_lit 228,kD "grown_places" 474 475 476 88 2 223 181 224 480 481 [.none,(.ref 225),(.ref 226),(.ref 227)]) ::
  (nat_lit 229,kF "grown_places" 30 "noshortring.fewest" 433 228) ::
  (nat_lit 235,kD "least_by_growth" 483 484 485 91 2 230 181 231 488 489 [.none,(.ref 232),(.ref 233),(.ref 234)]) ::
  (nat_lit 236,kF "least_by_growth" 31 "noshortring.fewest" 433 235) ::
  (nat_lit 242,kD "need_tie" 493 494 495 95 3 237 181 238 499 500 [.none,(.ref 239),(.ref 240),(.ref 241)]) ::
  (nat_lit 243,kF "need_tie" 33 "noshortring.growth" 491 242) ::
  (nat_lit 247,kD "layers_from" 502 503 504 100 2 244 181 245 505 506 [.none,.none,.none,(.ref 246)]) ::
  (nat_lit 248,kF "layers_from" 34 "noshortring.growth" 491 247) ::
  (nat_lit 252,kD "places_so_far" 508 509 510 104 2 249 181 250 511 512 [.none,.none,.none,(.ref 251)]) ::
  (nat_lit 253,kF "places_so_far" 35 "noshortring.growth" 491 252) ::
  (nat_lit 259,kD "layers_of" 514 515 516 106 2 254 181 255 519 520 [.none,(.ref 256),(.ref 257),(.ref 258)]) ::
  (nat_lit 260,kF "layers_of" 36 "noshortring.growth" 491 259) ::
  (nat_lit 266,kD "layers_by_tie" 522 523 524 109 3 261 181 262 528 529 [.none,(.ref 263),(.ref 264),(.ref 265)]) ::
  (nat_lit 267,kF "layers_by_tie" 37 "noshortring.growth" 491 266) ::
  (nat_lit 273,kD "evenness" 531 532 533 112 1 268 181 269 536 537 [.none,(.ref 270),(.ref 271),(.ref 272)]) ::
  (nat_lit 274,kF "evenness" 38 "noshortring.growth" 491 273) ::
  (nat_lit 280,kD "full_layers" 539 540 541 117 3 275 181 276 548 549 [.none,(.ref 277),(.ref 278),(.ref 279)]) ::
  (nat_lit 281,kF "full_layers" 39 "noshortring.growth" 491 280) ::
  (nat_lit 287,kD "full_at" 551 552 553 126 2 282 181 283 557 558 [.none,(.ref 284),(.ref 285),(.ref 286)]) ::
  (nat_lit 288,kF "full_at" 40 "noshortring.growth" 491 287) ::
  (nat_lit 294,kD "full_by" 560 561 562 129 3 289 181 290 567 568 [.none,(.ref 291),(.ref 292),(.ref 293)]) ::
  (nat_lit 295,kF "full_by" 41 "noshortring.growth" 491 294) ::
  (nat_lit 299,kD "longest_fit" 570 571 572 132 2 296 181 297 573 574 [.none,.none,.none,(.ref 298)]) ::
  (nat_lit 300,kF "longest_fit" 42 "noshortring.growth" 491 299) ::
  (nat_lit 306,kD "_law_cell_at" 578 579 580 137 2 301 181 302 583 584 [.none,(.ref 303),(.ref 304),(.ref 305)]) ::
  (nat_lit 307,kF "_law_cell_at" 44 "law_noshortring_k11_full_layers" 576 306) ::
  (nat_lit 313,kD "_law_next" 586 587 588 141 1 308 181 309 590 591 [.none,(.ref 310),(.ref 311),(.ref 312)]) ::
  (nat_lit 314,kF "_law_next" 45 "law_noshortring_k11_full_layers" 576 313) ::
  (nat_lit 320,kD "_law_pen_of" 593 594 595 144 1 315 181 316 598 599 [.none,(.ref 317),(.ref 318),(.ref 319)]) ::
  (nat_lit 321,kF "_law_pen_of" 46 "law_noshortring_k11_full_layers" 576 320) ::
  (nat_lit 327,kD "_law_draw" 601 602 603 147 2 322 181 323 607 608 [.none,(.ref 324),(.ref 325),(.ref 326)]) ::
  (nat_lit 328,kF "_law_draw" 47 "law_noshortring_k11_full_layers" 576 327) ::
  (nat_lit 334,kD "_law_whole" 610 611 612 154 1 329 181 330 614 615 [.none,(.ref 331),(.ref 332),(.ref 333)]) ::
  (nat_lit 335,kF "_law_whole" 48 "law_noshortring_k11_full_layers" 576 334) ::
  (nat_lit 341,kD "_law_kind_of" 617 618 619 156 1 336 181 337 622 623 [.none,(.ref 338),(.ref 339),(.ref 340)]) ::
  (nat_lit 342,kF "_law_kind_of" 49 "law_noshortring_k11_full_layers" 576 341) ::
  (nat_lit 348,kD "_law_refused" 625 626 627 162 1 343 181 344 630 631 [.none,(.ref 345),(.ref 346),(.ref 347)]) ::
  (nat_lit 349,kF "_law_refused" 50 "law_noshortring_k11_full_layers" 576 348) ::
  (nat_lit 353,kD "_law_web_of" 633 634 635 169 2 350 181 351 636 637 [.none,.none,.none,(.ref 352)]) ::
  (nat_lit 354,kF "_law_web_of" 51 "law_noshortring_k11_full_layers" 576 353) ::
  (nat_lit 358,kD "_law_near_of" 639 640 641 171 2 355 181 356 642 643 [.none,.none,.none,(.ref 357)]) ::
  (nat_lit 359,kF "_law_near_of" 52 "law_noshortring_k11_full_layers" 576 358) ::
  (nat_lit 363,kD "_law_round" 645 646 647 173 3 360 181 361 648 649 [.none,.none,.none,(.ref 362)]) ::
  (nat_lit 364,kF "_law_round" 53 "law_noshortring_k11_full_layers" 576 363) ::
  (nat_lit 368,kD "_law_some_web" 651 652 653 175 2 365 181 366 654 655 [.none,.none,.none,(.ref 367)]) ::
  (nat_lit 369,kF "_law_some_web" 54 "law_noshortring_k11_full_layers" 576 368) ::
  (nat_lit 373,kD "_law_fars" 657 658 659 201 2 370 181 371 660 661 [.none,.none,.none,(.ref 372)]) ::
  (nat_lit 374,kF "_law_fars" 55 "law_noshortring_k11_full_layers" 576 373) ::
  (nat_lit 378,kD "_law_even" 663 664 665 214 1 375 181 376 666 667 [.none,.none,.none,(.ref 377)]) ::
  (nat_lit 379,kF "_law_even" 56 "law_noshortring_k11_full_layers" 576 378) ::
  (nat_lit 385,kD "_law_no_place" 669 670 671 217 2 380 181 381 675 676 [.none,(.ref 382),(.ref 383),(.ref 384)]) ::
  (nat_lit 386,kF "_law_no_place" 57 "law_noshortring_k11_full_layers" 576 385) ::
  (nat_lit 392,kD "_law_odd_of" 678 679 680 220 3 387 181 388 684 685 [.none,(.ref 389),(.ref 390),(.ref 391)]) ::
  (nat_lit 393,kF "_law_odd_of" 58 "law_noshortring_k11_full_layers" 576 392) ::
  (nat_lit 399,kD "_law_told" 687 688 689 222 4 394 181 395 695 696 [.none,(.ref 396),(.ref 397),(.ref 398)]) ::
  (nat_lit 400,kF "_law_told" 59 "law_noshortring_k11_full_layers" 576 399) ::
  (nat_lit 406,kD "_law_full" 698 699 700 231 3 401 181 402 707 708 [.none,(.ref 403),(.ref 404),(.ref 405)]) ::
  (nat_lit 407,kF "_law_full" 60 "law_noshortring_k11_full_layers" 576 406) ::
  (nat_lit 413,kD "_law_longest" 710 711 712 239 2 408 181 409 720 721 [.none,(.ref 410),(.ref 411),(.ref 412)]) ::
  (nat_lit 414,kF "_law_longest" 61 "law_noshortring_k11_full_layers" 576 413) ::
  (nat_lit 420,kD "_law_right" 723 724 725 251 3 415 181 416 732 733 [.none,(.ref 417),(.ref 418),(.ref 419)]) ::
  (nat_lit 421,kF "_law_right" 62 "law_noshortring_k11_full_layers" 576 420) ::
  (nat_lit 425,kD "law" 735 736 737 261 1 422 181 423 738 739 [.none,.none,.none,(.ref 424)]) ::
  (nat_lit 426,kF "law" 63 "law_noshortring_k11_full_layers" 576 425) :: []
def ka:List Addr:=[3,23,24,36,37,48,49,60,61,73,84,85,104,123,142,150,151,157,158,164,165,171,172,178,179,183,184,188,189,193,194,200,201,207,208,214,215,221,222,228,229,235,236,242,243,247,248,252,253,259,260,266,267,273,274,280,281,287,288,294,295,299,300,306,307,313,314,320,321,327,328,334,335,341,342,348,349,353,354,358,359,363,364,368,369,373,374,378,379,385,386,392,393,399,400,406,407,413,414,420,421,425,426]
abbrev kq:Program:=PySem.W.view PySem.Challenge.pw_noshortring_k11_full_layers [1,2,3,4,5,6,7,8,9,11,12,14,15,16,17,18,19,20,21,23,24,25,26,27,28,29,30,31,33,34,35,36,37,38,39,40,41,42,44,45,46,47,48,49,50,51,52,53,54,55,56,57,58,59,60,61,62,63]
theorem ZJ:(fun (_:Params→PySem.W.Frag) (_:Program) => true) Kk PySem.Challenge.pw_noshortring_k11_full_layers = true:=by k_qdec
abbrev oS (s:Shared):=PySem.W.openSeen kq [] (importedModules PySem.Challenge.pw_noshortring_k11_full_layers.main.body) (fun s => PySem.W.xlAt kq [] s && PySem.W.recOk [] s) true s
abbrev oE (w:World):=PySem.W.openEnds treeTable PySem.Challenge.pw_noshortring_k11_full_layers w 6898
theorem XH (w:World):(oE w).map (fun s => ((oS s).1,(oS s).2.2.2.2.1)) = some ((PySem.W.openGood kq []).1,(PySem.W.openGood kq []).2.2.2.2.1):=by
 delta oE oS kq
 rw [PySem.W.Fast.te1283406915287282714,PySem.W.Fast.te14364793385576792824,PySem.W.Fast.te4187177175401517315]
 delta PySem.W.Fast.tw4187177175401517315 PySem.W.openGood
 dsimp only
 kernel_rfl
theorem XI (w:World):(oE w).map (fun s => ((oS s).2.1,(oS s).2.2.1,(oS s).2.2.2.2.2.2.1,(oS s).2.2.2.2.2.2.2.2)) = some ((PySem.W.openGood kq []).2.1,(PySem.W.openGood kq []).2.2.1,(PySem.W.openGood kq []).2.2.2.2.2.2.1,(PySem.W.openGood kq []).2.2.2.2.2.2.2.2):=by
 delta oE oS kq
 rw [PySem.W.Fast.te1283406915287282714,PySem.W.Fast.te14364793385576792824,PySem.W.Fast.te4187177175401517315,PySem.W.Fast.te5923862056798008813]
 delta PySem.W.Fast.tw4187177175401517315 PySem.W.openGood
 dsimp only
 kernel_rfl
theorem XJ (w:World):(oE w).map (fun s => ((oS s).2.2.2.1)) = some ((PySem.W.openGood kq []).2.2.2.1):=by
 delta oE oS kq
 rw [PySem.W.Fast.te1283406915287282714,PySem.W.Fast.te14364793385576792824,PySem.W.Fast.te4187177175401517315]
 delta PySem.W.Fast.tw4187177175401517315 PySem.W.openGood
 dsimp only
 kernel_rfl
theorem XM (w:World):(oE w).map (fun s => ((oS s).2.2.2.2.2.1)) = some ((PySem.W.openGood kq []).2.2.2.2.2.1):=by
 delta oE oS kq
 rw [PySem.W.Fast.te1283406915287282714,PySem.W.Fast.te14364793385576792824,PySem.W.Fast.te4187177175401517315]
 delta PySem.W.Fast.tw4187177175401517315 PySem.W.openGood
 dsimp only
 kernel_rfl
theorem XO (w:World):(oE w).map (fun s => ((oS s).2.2.2.2.2.2.2.1,ka.map s.heap.get?)) = some ((PySem.W.openGood kq []).2.2.2.2.2.2.2.1,(Kk w.params).map fun (p:Addr × Obj) => some p.2):=by
 delta oE oS kq
 rw [PySem.W.Fast.te3774980929429373975,PySem.W.Fast.te1283406915287282714,PySem.W.Fast.te14364793385576792824,PySem.W.Fast.te4187177175401517315]
 delta PySem.W.Fast.tw4187177175401517315 PySem.W.openGood
 dsimp only
 kernel_rfl
theorem left:PySem.W.LeftO PySem.Challenge.pw_noshortring_k11_full_layers kq [] (fun s => PySem.W.xlAt kq [] s && PySem.W.recOk [] s) (fun s => ka.map s.heap.get?) (fun w => (Kk w.params).map fun (p:Addr × Obj) => some p.2) 6898:=by
 intro w
 have h0:=XH w
 have h1:=XI w
 have h2:=XJ w
 have h3:=XM w
 have h4:=XO w
 show (oE w).map (fun s => (oS s,ka.map s.heap.get?)) = _
 revert h0 h1 h2 h3 h4
 cases oE w with
 | none => intro h; cases h
 | some s =>
  intro h0 h1 h2 h3 h4
  have h0:=Option.some.inj h0
  simp only [Prod.mk.injEq] at h0
  have h1:=Option.some.inj h1
  simp only [Prod.mk.injEq] at h1
  have h2:=Option.some.inj h2
  have h3:=Option.some.inj h3
  have h4:=Option.some.inj h4
  simp only [Prod.mk.injEq] at h4
  exact congrArg some (Prod.ext (Prod.ext (h0.1) (Prod.ext (h1.1) (Prod.ext (h1.2.1) (Prod.ext (h2) (Prod.ext (h0.2) (Prod.ext (h3) (Prod.ext (h1.2.2.1) (Prod.ext (h4.1) (h1.2.2.2))))))))) (h4.2))
end K11
namespace L2
open PySem PySem.Spec PyProof.Rows
theorem IF {env:Env}:∀ (l:List (Str × NameKind)) (acc:List (Str × Addr)),(∀ y∈l,y.2 = .free→∃ c,env.cells.lookup y.1 = some c) →
  (∀ x c,acc.lookup x = some c→env.cells.lookup x = some c) →
  ∃ cl,(forIn l acc (fun (x:Str × NameKind) (r:List (Str × Addr)) => (match x with
   | (name,kind) => if (kind == NameKind.free) = true then (do let a ← cellOf env name; pure (ForInStep.yield ((name,a) :: r))) else pure (ForInStep.yield r):Sem (ForInStep (List (Str × Addr)))))) = (pure cl:Sem _) ∧
   (∀ x c,cl.lookup x = some c→env.cells.lookup x = some c)∧(∀ x,(acc.lookup x).isSome = true→(cl.lookup x).isSome = true)∧∀ y∈l,y.2 = .free→(cl.lookup y.1).isSome = true
 | [],acc,_,ha => ⟨acc,rfl,ha,fun _ h => h,fun _ h => nomatch h⟩
 | (n,k) :: r,acc,h,ha => by
  have hr:∀ y∈r,y.2 = .free→∃ c,env.cells.lookup y.1 = some c:=fun y hy => h y (List.mem_cons_of_mem _ hy)
  by_cases hk:k = .free
  ·subst hk
   obtain ⟨c,hc⟩:=h (n,.free) List.mem_cons_self rfl
   have hc:env.cells.lookup n = some c:=hc
   have ha':∀ x c',((n,c) :: acc).lookup x = some c'→env.cells.lookup x = some c':=fun x c' e => by
    rw [List.lookup_cons] at e
    cases hx:x == n with
    | true => rw [hx] at e; cases e; rw [beq_iff_eq.mp hx]; exact hc
    | false => rw [hx] at e; exact ha x c' e
   obtain ⟨cl,e,h1,h2,h3⟩:=IF r ((n,c) :: acc) hr ha'
   refine ⟨cl,?_,h1,fun x hx => h2 x ?_,fun y hy hf => ?_⟩
   ·rw [List.forIn_cons]
    simp only [cellOf,hc,beq_self_eq_true,if_true]
    exact e
   ·rw [List.lookup_cons]
    cases x == n with
    | true => rfl
    | false => exact hx
   ·rcases List.mem_cons.mp hy with rfl | hy
    ·exact h2 n (by rw [List.lookup_cons,beq_self_eq_true]; rfl)
    ·exact h3 y hy hf
  ·have hb:(k == NameKind.free) = false:=by simpa using hk
   obtain ⟨cl,e,h1,h2,h3⟩:=IF r acc hr ha
   refine ⟨cl,?_,h1,h2,fun y hy hf => ?_⟩
   ·rw [List.forIn_cons]
    simp only [hb,Bool.false_eq_true,if_false]
    exact e
   ·rcases List.mem_cons.mp hy with rfl | hy
    ·exact absurd hf hk
    ·exact h3 y hy hf
theorem Rt {env:Env} {csc:Scope} (h:∀ y∈csc.names,y.2 = .free→∃ c,env.cells.lookup y.1 = some c) :
  ∃ cl,closureFor csc env = pure cl∧(∀ x c,cl.lookup x = some c→env.cells.lookup x = some c)∧∀ y∈csc.names,y.2 = .free→(cl.lookup y.1).isSome = true:=by
 obtain ⟨cl,e,h1,_,h3⟩:=IF csc.names [] h (fun x c e => by cases e)
 refine ⟨cl,?_,h1,h3⟩
 unfold closureFor
 have e':=congrArg (fun m:Sem (List (Str × Addr)) => m >>= fun r => pure r) e
 exact e'
theorem EF {env:Env}:∀ {names:List (Str × NameKind)} {x:Str},names.lookup x = some .free →
  (names.map fun (n,k) => if (k == NameKind.free && env.scope.kind == .function && env.kindOf n == some .cell) then (n,NameKind.cell) else (n,k)).lookup x = some .cell ∨
  (names.map fun (n,k) => if (k == NameKind.free && env.scope.kind == .function && env.kindOf n == some .cell) then (n,NameKind.cell) else (n,k)).lookup x = some .free
 | [],_,h => by simp at h
 | (n,k) :: r,x,h => by
  have ih:=@EF env r x
  rw [List.map_cons]
  show List.lookup x ((if (k == NameKind.free && env.scope.kind == .function && env.kindOf n == some .cell) = true then (n,NameKind.cell) else (n,k)) :: _) = _∨List.lookup x ((if (k == NameKind.free && env.scope.kind == .function && env.kindOf n == some .cell) = true then (n,NameKind.cell) else (n,k)) :: _) = _
  cases hx:x == n with
  | true =>
   simp only [List.lookup_cons,hx] at h
   cases h
   split
   ·exact .inl (by rw [List.lookup_cons,hx])
   ·exact .inr (by rw [List.lookup_cons,hx])
  | false =>
   simp only [List.lookup_cons,hx] at h
   split
   ·simp only [List.lookup_cons,hx]; exact ih h
   ·simp only [List.lookup_cons,hx]; exact ih h
def MZ:Option NameKind→Bool
 | some .cell => true
 | _ => false
theorem Jc {k:Option NameKind} (h:MZ k = true):k = some .cell:=by
 cases k with
 | none => cases h
 | some k => cases k <;> first | rfl | cases h
def Ru (X:Cx) (csc:Scope) (cl:List (Str × Addr)) (N':List Str) (s:Shared) (H:Hp) (fp:List Addr):Cx :=
 { X with N:=N',s₀:=s,H₀:=H,env:=compEnvC csc cl s.heap.objs.size X.env,outer:=X.stack,ex:=fp,fn:=fun x => MZ (csc.names.lookup x),pn:=[],xe:=fun _ _ => False }
structure LcCx (X:Cx) (csc:Scope) (N':List Str) (X':Cx):Prop where
 is:∃ cl s H fp,X' = Ru X csc cl N' s H fp
def Bw (σ:St) (cap:List (Str × Nat)):St:=cap.map fun p => (σ[p.2]?).join
structure LcOk (X:Cx) (csc:Scope) (nc:List Str) (cap:List (Str × Nat)):Prop where
 kind:csc.kind = .function
 cells:∀ y∈csc.names,y.2 = .cell→csc.names.lookup y.1 = some .cell
 locals:∀ y∈csc.names,y.2 = .local→csc.names.lookup y.1 = some .local
 free:∀ y∈csc.names,y.2 = .free→X.env.scope.names.lookup y.1 = some .cell∨X.env.scope.names.lookup y.1 = some .free
 caps:∀ p∈cap,X.N[p.2]? = some p.1∧csc.names.lookup p.1 = some .free
abbrev Ah (nc:List Str) (cap:List (Str × Nat)):List Str:=nc ++ cap.map (·.1)
abbrev Gm (nc:List Str) (σ:St) (cap:List (Str × Nat)):St:=List.replicate nc.length none ++ Bw σ cap
theorem Ar {α:Type}:∀ {l:List (Str × α)} {x:Str} {v:α},l.lookup x = some v→(x,v)∈l
 | [],_,_,h => by simp at h
 | (n,k) :: r,x,v,h => by
  rw [List.lookup_cons] at h
  cases hx:x == n with
  | true => rw [hx] at h; cases h; rw [beq_iff_eq.mp hx]; exact List.mem_cons_self
  | false => rw [hx] at h; exact List.mem_cons_of_mem _ (Ar h)
theorem LE:∀ (names:List (Str × NameKind)) (L:Nat) (a acc:List (Str × Addr)),cellsFrom L names (a ++ acc) = cellsFrom L names a ++ acc
 | [],_,_,_ => rfl
 | (n,k) :: r,L,a,acc => by
  unfold cellsFrom
  split
  ·exact LE r (L + 1) ((n,L) :: a) acc
  ·exact LE r L a acc
theorem Uw (names:List (Str × NameKind)) (L:Nat) (acc:List (Str × Addr)):cellsFrom L names acc = cellsFrom L names [] ++ acc:=LE names L [] acc
theorem LF:∀ (names:List (Str × NameKind)) (L:Nat) (acc:List (Str × Addr)) (x:Str) (c:Addr),(x,c)∈cellsFrom L names acc→(x,.cell)∈names∨(x,c)∈acc
 | [],_,_,_,_,h => .inr h
 | (n,k) :: r,L,acc,x,c,h => by
  unfold cellsFrom at h
  split at h
  ·rename_i hk
   rcases LF r (L + 1) _ x c h with h | h
   ·exact .inl (List.mem_cons_of_mem _ h)
   ·rcases List.mem_cons.mp h with h | h
    ·cases h
     rw [eq_of_beq hk]
     exact .inl List.mem_cons_self
    ·exact .inr h
  ·rcases LF r L _ x c h with h | h
   ·exact .inl (List.mem_cons_of_mem _ h)
   ·exact .inr h
theorem IG:∀ (names:List (Str × NameKind)) (L:Nat) (acc:List (Str × Addr)) (x:Str),((x,.cell)∈names∨(acc.lookup x).isSome = true)→((cellsFrom L names acc).lookup x).isSome = true
 | [],_,_,_,h => h.elim (fun z => by cases z) id
 | (n,k) :: r,L,acc,x,h => by
  unfold cellsFrom
  split
  ·refine IG r (L + 1) _ x ?_
   rcases h with h | h
   ·rcases List.mem_cons.mp h with h | h
    ·cases h
     exact .inr (by rw [List.lookup_cons,beq_self_eq_true]; rfl)
    ·exact .inl h
   ·refine .inr ?_
    rw [List.lookup_cons]
    cases x == n with
    | true => rfl
    | false => exact h
  ·rename_i hk
   refine IG r L acc x ?_
   rcases h with h | h
   ·rcases List.mem_cons.mp h with h | h
    ·cases h; exact absurd rfl hk
    ·exact .inl h
   ·exact .inr h
theorem Dm {α:Type}:∀ {l m:List (Str × α)} {x:Str},(l ++ m).lookup x = match l.lookup x with | some v => some v | none => m.lookup x
 | [],_,_ => rfl
 | (n,k) :: r,m,x => by
  rw [List.cons_append,List.lookup_cons,List.lookup_cons]
  cases x == n with
  | true => rfl
  | false => exact Dm
structure LcCells (X:Cx) (csc:Scope) (cs:List (Str × Addr)) (s:Shared) (h1:Heap):Prop where
 at_:∀ x c,cs.lookup x = some c→(csc.names.lookup x = some .cell∧s.heap.objs.size≤c∧h1.IsCell c none)∨(csc.names.lookup x≠some .cell∧X.env.cells.lookup x = some c)
 has:∀ x,csc.names.lookup x = some .free∨csc.names.lookup x = some .cell→∃ c,cs.lookup x = some c
 inj:∀ x y c,cs.lookup x = some c→cs.lookup y = some c→x = y
theorem Rv {X:Cx} {csc:Scope} {cl:List (Str × Addr)} {nc:List Str} {cap:List (Str × Nat)} {pins:List (Addr × Obj)} {σ:St} {H:Hp} {s:Shared} {o:Obj}
  (ok:LcOk X csc nc cap) (I:Inv X pins σ H s) (hc1:∀ x c,cl.lookup x = some c→X.env.cells.lookup x = some c) (hc2:∀ y∈csc.names,y.2 = .free→(cl.lookup y.1).isSome = true) :
  LcCells X csc (cellsFrom (s.heap.objs.size + 1) csc.names cl) s (pushCells (s.heap.push o) csc.names):=by
 have nk:=cellsFrom_ok csc.names (s.heap.push o) (s.heap.objs.size + 1) [] ⟨fun _ _ hm => (nomatch hm),List.Pairwise.nil⟩ (by rw [Heap.size_push]; exact Nat.le_refl _)
 rw [Heap.size_push] at nk
 rw [Uw]
 have split:∀ x c,(cellsFrom (s.heap.objs.size + 1) csc.names [] ++ cl).lookup x = some c→((x,c)∈cellsFrom (s.heap.objs.size + 1) csc.names []∧csc.names.lookup x = some .cell)∨(csc.names.lookup x≠some .cell∧cl.lookup x = some c):=fun x c e => by
  rw [Dm] at e
  cases hx:(cellsFrom (s.heap.objs.size + 1) csc.names []).lookup x with
  | some v =>
   rw [hx] at e
   cases e
   have m:=Ar hx
   refine .inl ⟨m,?_⟩
   rcases LF _ _ _ _ _ m with z | z
   ·exact ok.cells _ z rfl
   ·cases z
  | none =>
   rw [hx] at e
   refine .inr ⟨fun z => ?_,e⟩
   have:=IG csc.names (s.heap.objs.size + 1) [] x (.inl (Ar z))
   rw [hx] at this
   cases this
 refine ⟨fun x c e => ?_,fun x hx => ?_,fun x y c e1 e2 => ?_⟩
 ·rcases split x c e with ⟨m,k⟩ | ⟨k,e⟩
  ·exact .inl ⟨k,Nat.le_of_succ_le (nk.empty x c m).2,(nk.empty x c m).1⟩
  ·exact .inr ⟨k,hc1 x c e⟩
 ·refine Option.isSome_iff_exists.mp ?_
  rw [Dm]
  cases hn:(cellsFrom (s.heap.objs.size + 1) csc.names []).lookup x with
  | some v => rfl
  | none =>
   rcases hx with hx | hx
   ·exact hc2 _ (Ar hx) rfl
   ·have:=IG csc.names (s.heap.objs.size + 1) [] x (.inl (Ar hx))
    rw [hn] at this
    cases this
 ·have old:∀ z,cl.lookup z = some c→c < s.heap.objs.size:=fun z e => by
   obtain ⟨v,hv⟩:=I.cell z c (hc1 z c e)
   exact hv.lt
  rcases split x c e1 with ⟨m1,_⟩ | ⟨_,g1⟩ <;> rcases split y c e2 with ⟨m2,_⟩ | ⟨_,g2⟩
  ·exact name_of_addr nk.apart m1 m2
  ·exact absurd (Nat.lt_of_lt_of_le (old y g2) (Nat.le_of_succ_le (nk.empty x c m1).2)) (Nat.lt_irrefl _)
  ·exact absurd (Nat.lt_of_lt_of_le (old x g1) (Nat.le_of_succ_le (nk.empty y c m2).2)) (Nat.lt_irrefl _)
  ·exact I.ok.inj x y c (hc1 x c g1) (hc1 y c g2)
section
variable {M:Model} {A:Around} {E:Value→Shared→Prop} {s:Shared}
theorem Oy {scope:Scope} {globals:Addr} {closure:List (Str × Addr)} {qual:Str} {env:Env} {Q:Env→Shared→Prop}
  (hQ:Q (newEnv scope s.heap.objs.size globals (cellsFrom (s.heap.objs.size + 1) scope.names closure) qual none .none (some env) builtinsNs) { s with heap:=pushCells (s.heap.push { cls:=.type "dict",data:=.dict #[] }) scope.names }) :
  wpAny M A (newFunctionEnv scope globals closure [] qual none .none (some env)) Q E s:=by
 simp only [newFunctionEnv,Option.isSome_some,if_true]
 refine wpAny_bind (wpAny_alloc ?_)
 refine wpAny_bind (wpAny_layCells _ (fun name kind cells => by cases hkc:kind == NameKind.cell <;> simp [hkc]) _ _ _ _ ?_)
 rw [show ({ s with heap:=s.heap.push { cls:=.type "dict",data:=.dict #[] } }:Shared).heap.objs.size = s.heap.objs.size + 1 from Heap.size_push ..]
 refine wpAny_bind ?_
 rw [List.forIn_nil]
 exact wpAny_pure (wpAny_pure hQ)
end
theorem Ux {X:Cx} {csc:Scope} {cl:List (Str × Addr)} {nc:List Str} {cap:List (Str × Nat)} {pins:List (Addr × Obj)} {σ:St} {H:Hp} {s:Shared} {h1:Heap} {fp:List Addr}
  (ok:LcOk X csc nc cap) (I:Inv X pins σ H s) (C:LcCells X csc cl s h1)
  (hf:∀ b∈fp,Fb X pins H b) (ho:∀ b∈fp,∃ o,s.heap.get? b = some o)
  (hn:h1.Ns s.heap.objs.size (fun _ => none)) (kept:∀ b o,s.heap.get? b = some o→h1.get? b = some o) :
  Inv (Ru X csc cl (Ah nc cap) s H fp) [] (Gm nc σ cap) H { s with heap:=h1 }:=by
 have frel:∀ x,csc.names.lookup x = some .free→(compEnvC csc cl s.heap.objs.size X.env).kindOf x = some .cell∨(compEnvC csc cl s.heap.objs.size X.env).kindOf x = some .free:=fun x h => EF h
 have back:∀ {names:List (Str × NameKind)} {x:Str},((names.map fun (n,k) => if (k == NameKind.free && X.env.scope.kind == .function && X.env.kindOf n == some .cell) then (n,NameKind.cell) else (n,k)).lookup x = some .cell ∨
   (names.map fun (n,k) => if (k == NameKind.free && X.env.scope.kind == .function && X.env.kindOf n == some .cell) then (n,NameKind.cell) else (n,k)).lookup x = some .free) →
   names.lookup x = some .free∨names.lookup x = some .cell:=by
  intro names
  induction names with
  | nil => intro x h; simp at h
  | cons p r ih =>
   obtain ⟨n,k⟩:=p
   intro x h
   rw [List.map_cons] at h
   cases hx:x == n with
   | true =>
    rw [List.lookup_cons,hx]
    have e:∀ (kk:NameKind) (l:List (Str × NameKind)),((n,kk) :: l).lookup x = some kk:=fun kk l => by rw [List.lookup_cons,hx]
    by_cases hcnd:(k == NameKind.free && X.env.scope.kind == .function && X.env.kindOf n == some .cell) = true
    ·left
     have:(k == NameKind.free) = true:=by
      revert hcnd; cases (k == NameKind.free) <;> simp
     show some k = some .free
     rw [eq_of_beq this]
    ·simp only [if_neg hcnd] at h
     rw [e,] at h
     exact h.symm
   | false =>
    have e:∀ (kk:NameKind) (l:List (Str × NameKind)),((n,kk) :: l).lookup x = l.lookup x:=fun kk l => by rw [List.lookup_cons,hx]
    by_cases hcnd:(k == NameKind.free && X.env.scope.kind == .function && X.env.kindOf n == some .cell) = true
    ·simp only [if_pos hcnd] at h
     rw [e] at h
     rw [e]
     exact ih h
    ·simp only [if_neg hcnd] at h
     rw [e] at h
     rw [e]
     exact ih h
 refine ⟨⟨I.ok.mod,ok.kind,I.ok.glob,I.ok.blt,Nat.le_refl _,C.inj,fun x hx => C.has x (back hx),fun x c e1 e2 => ?_,I.ok.hd,I.ok.frames,.inl rfl,fun b hb => ⟨?_,fun x c e => ?_⟩,
  I.bs,Nat.le_trans I.ok.bsz I.sz,fun b o e hb => ?_,fun b hb z => ?_,I.stack,I.stkFree⟩,rfl,I.bare,⟨fun b o e _ _ _ => kept b o e,fun b o e _ _ _ => ⟨o.slots,kept b o e⟩,fun b o e n _ => n,fun b o e _ => ⟨o,kept b o e⟩,fun _ _ e => e,fun _ _ _ e => e,fun b ps e => ⟨#[],by rw [show H b = some (HO.tbl ps) from e]; simp⟩⟩,
  ⟨_,hn,fun i x v e1 e2 e3 => ?_⟩,fun x c e => ?_,I.hok.fresh (Nat.le_refl _),fun x c e => (C.at_ x c e).elim (fun z => I.hok.fresh z.2.1) (fun z => I.freeC x c z.2),fun p hp => absurd (show p∈([]:List (Addr × Obj)) from hp) (by simp),I.hok.kept kept,?_⟩
 ·rcases C.at_ x c e2 with z | z
  ·exact z.2.1
  ·exact absurd (Jc e1) z.1
 ·obtain ⟨o,e⟩:=ho b hb
  exact Nat.ne_of_lt (Heap.lt_size e)
 ·rcases C.at_ x c e with z | z
  ·obtain ⟨o,e⟩:=ho b hb
   exact Nat.ne_of_gt (Nat.lt_of_lt_of_le (Heap.lt_size e) z.2.1)
  ·exact (hf b hb).2.2.2.2.1 x c z.2
 ·have h1:=(hf b hb).2.2.2.1
  rcases h1 with z | z
  ·exact I.ok.noex b o e z
  ·exact absurd (Nat.lt_of_lt_of_le (Heap.lt_size e) (Nat.le_trans I.ok.bsz z)) (Nat.lt_irrefl _)
 ·have h1:=(hf b hb).2.1
  have h2:=(hf b hb).2.2.1
  exact (List.mem_cons.mp (I.stkSub b z)).elim h1 h2
 ·-- the names
  have hlen:nc.length≤i:=by
   by_cases hi:i < nc.length
   ·have e2':(List.replicate nc.length (none:Option V) ++ Bw σ cap)[i]? = some (some v):=e2
    rw [List.getElem?_append_left (by simpa using hi),List.getElem?_replicate] at e2'
    split at e2' <;> cases e2'
   ·omega
  have e1':(nc ++ cap.map (·.1))[i]? = some x:=e1
  have e2':(List.replicate nc.length (none:Option V) ++ Bw σ cap)[i]? = some (some v):=e2
  rw [List.getElem?_append_right hlen,List.getElem?_map] at e1'
  rw [List.getElem?_append_right (by simpa using hlen)] at e2'
  simp only [List.length_replicate] at e2'
  unfold Bw at e2'
  rw [List.getElem?_map] at e2'
  cases hp:cap[i - nc.length]? with
  | none => rw [hp] at e1'; cases e1'
  | some p =>
   rw [hp] at e1' e2'
   have e1'':p.1 = x:=Option.some.inj e1'
   have e2'':(σ[p.2]?).join = some v:=Option.some.inj e2'
   subst e1''
   obtain ⟨c1,c2⟩:=ok.caps p (List.mem_of_getElem? hp)
   have hσ:σ[p.2]? = some (some v):=by
    cases q:σ[p.2]? with
    | none => rw [q] at e2''; cases e2''
    | some w' => rw [q] at e2''; exact congrArg some e2''
   have vis:X.env.scope.names.lookup p.1 = some .cell∨X.env.scope.names.lookup p.1 = some .free:=ok.free _ (Ar c2) rfl
   obtain ⟨m,_,hl⟩:=I.loc
   obtain ⟨u,r,l⟩:=hl p.2 p.1 v c1 hσ (vis.elim (fun z => .inr (.inl z)) fun z => .inr (.inr z))
   refine ⟨u,r,.inr ⟨frel p.1 c2,?_⟩⟩
   rcases l with ⟨k,_⟩ | ⟨_,c,e,z⟩
   ·have k:X.env.scope.names.lookup p.1 = some .local:=k
    rcases vis with q | q <;> (rw [q] at k; cases k)
   ·obtain ⟨c',e''⟩:=C.has p.1 (.inl c2)
    have q:X.env.cells.lookup p.1 = some c':=by
     rcases C.at_ _ _ e'' with z | z
     ·rw [c2] at z; cases z.1
     ·exact z.2
    rw [e] at q; cases q
    obtain ⟨o,z1,z2⟩:=z
    exact ⟨c,e'',o,kept c o z1,z2⟩
 ·rcases C.at_ x c e with z | z
  ·exact ⟨none,z.2.2⟩
  ·obtain ⟨v,o,z1,z2⟩:=I.cell x c z.2
   exact ⟨v,o,kept c o z1,z2⟩
 ·show (List.replicate nc.length (none:Option V) ++ Bw σ cap).length = (nc ++ cap.map (·.1)).length
  unfold Bw
  simp
section
variable {prog:Program} {w:World} {A:Around} {R:Result→Shared→Prop} {s:Shared}
abbrev Rw:Value→Shared→Prop:=fun _ _ => False
theorem DB {elt target iter:Expr} {ifs:List Expr} {scope:Scope} {pos:Pos} {it acc:Value} {env:Env} (I:Nat→Shared→Prop)
  (turn:∀ n s,I n s→wpAny (model prog w) A (pyNext it) (fun r s₁ => match r with
   | none => R (.ok .next) s₁
   | some v => wpAny (model prog w) A (letOwnedTupleGo target it v) (fun _ s₂ => wpAny (model prog w) A (assign target env v) (fun _ s₃ =>
     wpAny (model prog w) A (forIn ifs true fun c r => if r = true then do let ok ← isTrue c env (eval c env); pure (ForInStep.yield ok) else pure (ForInStep.yield r)) (fun ok s₄ =>
      if ok = true then wpAny (model prog w) A (eval elt env) (fun x s₅ =>
       wpAny (model prog w) A (call (.builtin "list.append") [acc,x]) (fun _ s₆ => ∃ m,m < n∧I m s₆) Rw s₅) Rw s₄
      else ∃ m,m < n∧I m s₄) Rw s₃) Rw s₂) Rw s₁) Rw s)
  (n:Nat) (h:I n s) :
  codeAny (model prog w) A (.compLoop (.ListComp elt [⟨target,iter,ifs,0⟩] scope pos) 0 it acc env) R s:=by
 refine codeAny_loop rfl I (fun n s hI => ?_) n h
 show wpAny _ A ((compTurn (.ListComp elt [⟨target,iter,ifs,0⟩] scope pos) 0 it acc env).onRaise (fun x => do noteFrame x env; theTreesLotGoes x)) _ _ s
 refine wpAny_noted (wpAny_noRaise ?_)
 rw [compTurn_list]
 refine wpAny_bind (wpAny_standAt (wpAny_bind (Av (turn n s hI) fun r s₁ h₁ => ?_)))
 cases r with
 | none => exact wpAny_pure h₁
 | some v =>
  refine wpAny_bind (Av h₁ fun _ s₂ h₂ => wpAny_bind (Av h₂ fun _ s₃ h₃ => wpAny_bind (Av h₃ fun ok s₄ h₄ => ?_)))
  cases ok with
  | true =>
   rw [if_pos rfl] at h₄ ⊢
   exact wpAny_bind (wpAny_bind (Av h₄ fun x s₅ h₅ => wpAny_bind (Av h₅ fun _ s₆ h₆ => wpAny_pure (wpAny_pure ⟨rfl,h₆⟩))))
  | false =>
   rw [if_neg Bool.false_ne_true] at h₄ ⊢
   exact wpAny_bind (wpAny_pure (wpAny_pure ⟨rfl,h₄⟩))
end
def Uy (X:Cx) (ifs:List Expr) (t:TT):Prop :=
 ∀ (pins:List (Addr × Obj)) (s:Shared) (σ:St) (H:Hp) (Q:Bool→Hp→Prop),Inv X pins σ H s→t σ H Q →
  wpAny (model X.prog X.w) X.A (forIn ifs true fun c r => if r = true then do let ok ← isTrue c X.env (eval c X.env); pure (ForInStep.yield ok) else pure (ForInStep.yield r)) (TP X pins σ Q) X.xe s
def XQ:TT:=fun _ H Q => Q true H
theorem Rx {X:Cx}:Uy X [] XQ:=fun _ _ _ H _ I h => wpAny_tests_nil ⟨H,I,h⟩
theorem Ry {X:Cx} {c:Expr} {t:TT} (h:PT X c t):Uy X [c] t:=fun pins s σ H Q I q => wpAny_tests_one (h pins s σ H Q I q)
def Tk (nc:List Str) (cap:List (Str × Nat)) (g:TG) (tt:TT) (te:TE) (σ:St) (J:It) (p:Addr) (H:Hp) (Q:Hp→Prop):Prop :=
 ∃ W:Nat→Nat→Hp→Prop,(∃ m,W 0 m (BG H p (.lst [])))∧∀ i m H2,W i m H2 →
  (J.stop i H2∧Q H2)∨(J.go i H2∧∃ N:Hp→Prop,(∀ H',N H'→∃ m',m' < m∧W (i + 1) m' H')∧∀ x H3,J.yld i H2 x H3→g x (Gm nc σ cap) H3 fun σ4 H4 => (∃ pre:St,pre.length = nc.length∧σ4 = pre ++ Bw σ cap)∧tt σ4 H4 fun b H5 =>
   if b = true then te σ4 H5 fun y H6 => ∃ ys,H6 p = some (.lst ys)∧ys.length < sizeLine∧N (BG H6 p (.lst (ys ++ [y])))
   else N H5)
def Yi (wi:TI) (nc:List Str) (cap:List (Str × Nat)) (g:TG) (tt:TT) (te:TE):TE:=fun σ H Q => wi σ H fun J H1 => ∀ p,H1 p = none→Tk nc cap g tt te σ J p H1 (Q (.ref p))
section
variable {X:Cx} {elt tg iter:Expr} {ifs:List Expr} {csc:Scope} {nc:List Str} {cap:List (Str × Nat)} {wi:TI} {g:TG} {tt:TT} {te:TE} {pos:Pos}
theorem Jd {pins:List (Addr × Obj)} {σ:St} {s2:Shared} {H2:Hp} {it:Addr} {fp:List Addr} {tn:Nat→Heap→Prop} {J:It} {cl:List (Str × Addr)} {Q:Hp→Prop} {RR:Value→Addr→Result→Shared→Prop} {E:Value→Shared→Prop}
  (hc:X.calm = true) (ok:LcOk X csc nc cap) (hg:∀ X',LcCx X csc (Ah nc cap) X'→PG X' tg g) (ht:∀ X',LcCx X csc (Ah nc cap) X'→Uy X' ifs tt) (he:∀ X',LcCx X csc (Ah nc cap) X'→PE X' elt te)
  (hc1:∀ x c,cl.lookup x = some c→X.env.cells.lookup x = some c) (hc2:∀ y∈csc.names,y.2 = .free→(cl.lookup y.1).isSome = true)
  (I2:Inv X pins σ H2 s2) (T:Turn X.prog X.w X.K tg J fp it tn) (st2:tn 0 s2.heap) (f2:∀ b∈fp,Fb X pins H2 b) (run:Tk nc cap g tt te σ J s2.heap.objs.size H2 Q)
  (out:∀ (C:Addr) (H':Hp) (s':Shared),Inv X pins σ H' s'→(∃ m,s'.heap.Ns C m)→H' C = none→C≠X.env.locals→X.s₀.heap.objs.size≤C→(∀ x c,X.env.cells.lookup x = some c→c≠C)→(∀ p∈X.pn ++ pins,p.1≠C)→Q H'→RR (.ref s2.heap.objs.size) C (.ok .next) s') :
  wpAny (model X.prog X.w) X.A (newList []) (fun acc s₃ => wpAny (model X.prog X.w) X.A (newFunctionEnv csc X.env.globals cl [] X.env.qual none .none (some X.env)) (fun cenv s₄ =>
   codeAny (model X.prog X.w) X.A (.compStart (.ListComp elt [⟨tg,iter,ifs,0⟩] csc pos) 0 (.ref it) acc { cenv with scope:=relabel csc X.env }) (RR acc cenv.locals) s₄) E s₃) E s2:=by
 refine wpAny_newObj_type ?_
 have hp:H2 s2.heap.objs.size = none:=I2.hok.fresh (Nat.le_refl _)
 have I3:Inv X pins σ (BG H2 s2.heap.objs.size (.lst [])) { s2 with heap:=s2.heap.push { cls:=.type "list",dict:=none,data:=.seq ([]:List Value).toArray } } :=
  I2.laid (t':=s2.toks) (fun b u e => Heap.get?_push_of_some _ e) (Nat.le_refl _) ⟨Nat.zero_le _,[],0,.nil,Heap.get?_push_size _ rfl⟩
 generalize hs3:({ s2 with heap:=s2.heap.push { cls:=.type "list",dict:=none,data:=.seq ([]:List Value).toArray } }:Shared) = s3 at I3
 have hk3:∀ b o,s2.heap.get? b = some o→s3.heap.get? b = some o:=fun b o e => by rw [← hs3]; exact Heap.get?_push_of_some _ e
 generalize hp0:s2.heap.objs.size = p at *
 have hlt:∀ b∈fp,b < p:=fun b hb => by
  obtain ⟨o,e,_⟩:=T.obj 0 _ st2 b hb
  rw [← hp0]; exact Heap.lt_size e
 have f3:∀ b∈fp,Fb X pins (BG H2 p (.lst [])) b:=fun b hb => ⟨by rw [AK (Nat.ne_of_lt (hlt b hb))]; exact (f2 b hb).1,(f2 b hb).2⟩
 have st3:tn 0 s3.heap:=T.keep 0 _ _ st2 fun b _ o e => hk3 b o e
 refine Oy ?_
 have LC:=Rv (o:={ cls:=.type "dict",data:=.dict #[] }) ok I3 hc1 hc2
 have hns:(pushCells (s3.heap.push { cls:=.type "dict",data:=.dict #[] }) csc.names).Ns s3.heap.objs.size (fun _ => none):=(Heap.Ns.new s3.heap (.type "dict")).keeps (pushCells_keeps _ _)
 have kept4:∀ b o,s3.heap.get? b = some o→(pushCells (s3.heap.push { cls:=.type "dict",data:=.dict #[] }) csc.names).get? b = some o:=fun b o e => pushCells_keeps _ _ b o (Heap.get?_push_of_some _ e)
 generalize hcs:cellsFrom (s3.heap.objs.size + 1) csc.names cl = cs at LC ⊢
 generalize hh1:pushCells (s3.heap.push { cls:=.type "dict",data:=.dict #[] }) csc.names = h₁ at LC hns kept4 ⊢
 have hcc:∀ x c,cs.lookup x = some c→X.env.cells.lookup x = some c∨s3.heap.objs.size≤c:=fun x c e => (LC.at_ x c e).elim (fun z => .inr z.2.1) (fun z => .inl z.2)
 have I4:Inv (Ru X csc cs (Ah nc cap) s3 (BG H2 p (.lst [])) fp) [] (Gm nc σ cap) (BG H2 p (.lst [])) { s3 with heap:=h₁ } :=
  Ux ok I3 LC f3 (fun b hb => (T.obj 0 _ st3 b hb).imp fun o q => q.1) hns kept4
 have st4:tn 0 h₁:=T.keep 0 _ _ st3 fun b _ o e => kept4 b o e
 generalize hX':Ru X csc cs (Ah nc cap) s3 (BG H2 p (.lst [])) fp = X' at I4
 have is':LcCx X csc (Ah nc cap) X':=⟨_,_,_,_,hX'.symm⟩
 have hP:X'.prog = X.prog:=by rw [← hX']; rfl
 have hw:X'.w = X.w:=by rw [← hX']; rfl
 have hK:X'.K = X.K:=by rw [← hX']; rfl
 have hA:X'.A = X.A:=by rw [← hX']; rfl
 have hcal:X'.calm = true:=by rw [← hX']; exact hc
 have hE:X'.env = compEnvC csc cs s3.heap.objs.size X.env:=by rw [← hX']; rfl
 have hxe:X'.xe = Rw:=by rw [← hX']; rfl
 have hfs:X'.fs = FZ X.stack:=by rw [← hX']; rfl
 have hex:X'.ex = fp:=by rw [← hX']; rfl
 have hs0:X'.s₀ = s3:=by rw [← hX']; rfl
 have hH0:X'.H₀ = BG H2 p (.lst []):=by rw [← hX']; rfl
 have hpn:X'.pn = []:=by rw [← hX']; rfl
 have stat:∀ {H':Hp},(∀ b∈fp,H' b = none)→∀ b∈fp,Fb X' [] H' b:=fun {H'} hn b hb => by
  obtain ⟨_,q2,q3,q4,q5,q6⟩:=f3 b hb
  obtain ⟨o,e,_⟩:=T.obj 0 _ st3 b hb
  refine ⟨hn b hb,?_,?_,?_,?_,?_⟩
  ·rw [hE]; exact Nat.ne_of_lt (Heap.lt_size e)
  ·rw [hfs]; exact fun z => (List.mem_cons.mp (I3.stkSub b z)).elim q2 q3
  ·rw [hex]; exact .inl hb
  ·rw [hE]; exact fun x c e' => (hcc x c e').elim (fun z => q5 x c z) fun z => Nat.ne_of_gt (Nat.lt_of_lt_of_le (Heap.lt_size e) z)
  ·rw [hpn]; intro p hp; simp at hp
 obtain ⟨W,⟨m0,w0⟩,turn⟩:=run
 have loop:∀ s4:Shared,s4 = { s3 with heap:=h₁ }→codeAny (model X.prog X.w) X.A (.compLoop (.ListComp elt [⟨tg,iter,ifs,0⟩] csc pos) 0 (.ref it) (.ref p) (compEnvC csc cs s3.heap.objs.size X.env)) (RR (.ref p) s3.heap.objs.size) s4:=by
  rintro s4 rfl
  refine DB (fun n s' => ∃ i H',Inv X' [] (Gm nc σ cap) H' s'∧tn i s'.heap∧(∀ b∈fp,H' b = none)∧W i n H') ?_ m0 ⟨0,_,I4,st4,fun b hb => (f3 b hb).1,w0⟩
  rintro n s5 ⟨i,H5,I5,st5,fr5,w5⟩
  rcases turn i n H5 w5 with ⟨stop,qn⟩ | ⟨go,N,hN,step⟩
  ·have q:=T.done X' hP hw hK hcal i [] s5 (Gm nc σ cap) H5 Rw I5 (stat fr5) st5 stop
   rw [hA] at q
   refine Av q fun r s6 ⟨hr,I6⟩ => ?_
   subst hr
   have B:=I6.base
   rw [hfs,hex,hs0,hH0] at B
   have I7:Inv X pins σ H5 s6:=by
    refine I3.call' (ch:=fp) (by rw [I6.os,hs0]) B (by have:=I6.hok; rw [hP,hw] at this; exact this) I6.bare fun b hb => ?_
    obtain ⟨_,q2,q3,q4,q5,q6⟩:=f3 b hb
    exact ⟨q4,q2,q5,q6⟩
   obtain ⟨m,hm,_⟩:=I6.loc
   have hCf:=I6.free
   rw [hE] at hm hCf
   refine out _ H5 s6 I7 ⟨m,hm⟩ hCf (Nat.ne_of_gt I3.lt) I3.sz (fun x c e z => ?_) (fun p hp z => ?_) qn
   ·obtain ⟨v,hv⟩:=I3.cell x c e
    exact absurd hv.lt (by rw [z]; exact Nat.lt_irrefl _)
   ·exact absurd (Heap.lt_size (I3.pin p hp).1) (by rw [z]; exact Nat.lt_irrefl _)
  ·have q:=T.item X' hP hw hK hcal i [] s5 (Gm nc σ cap) H5 Rw I5 (stat fr5) st5 go
   rw [hA] at q
   refine Av q fun r s6 ⟨u,hr,h6⟩ => ?_
   subst hr
   refine Av h6 fun _ s7 ⟨x,H7,I7,r7,y7,st7,fr7⟩ => ?_
   have I7':=I7.pinned (stat fr7) (T.obj _ _ st7)
   have q8:=hg X' is' _ s7 _ H7 x u _ I7' r7 (step x H7 y7)
   rw [hP,hw,hA,hE,hxe] at q8
   refine Av q8 fun _ s8 ⟨σ8,H8,I8,⟨pre,hpl,hσ8⟩,q8⟩ => ?_
   have q9:=ht X' is' _ s8 σ8 H8 _ I8 q8
   rw [hP,hw,hA,hE,hxe] at q9
   have wk:∀ {s':Shared} {H':Hp} {pl:List (Addr × Obj)},Inv X' pl σ8 H' s'→Inv X' pl (Gm nc σ cap) H' s':=fun {s' H' pl} J' => by
    refine J'.weak (by rw [J'.len,I4.len]) fun j v e => ?_
    rw [hσ8]
    by_cases hj:j < nc.length
    ·have e:(List.replicate nc.length (none:Option V) ++ Bw σ cap)[j]? = some (some v):=e
     rw [List.getElem?_append_left (by simpa using hj),List.getElem?_replicate] at e
     split at e <;> cases e
    ·have e:(List.replicate nc.length (none:Option V) ++ Bw σ cap)[j]? = some (some v):=e
     rw [List.getElem?_append_right (by simpa using hj)] at e
     rw [List.getElem?_append_right (by omega),hpl]
     simpa using e
   have again:∀ {s':Shared} {H':Hp} {m':Nat},Inv X' ([] ++ Fc fp s7.heap) σ8 H' s'→m' < n→W (i + 1) m' H' →
     ∃ m,m < n∧∃ i H',Inv X' [] (Gm nc σ cap) H' s'∧tn i s'.heap∧(∀ b∈fp,H' b = none)∧W i m H':=fun {s' H' m'} J' hm hW => by
    refine ⟨m',hm,i + 1,H',wk J'.unpinned,T.keep _ _ _ st7 fun b hb o e => (J'.pin (b,o) (List.mem_append_right _ (List.mem_append_right _ (CV hb e)))).1,fun b hb => ?_,hW⟩
    obtain ⟨o,e,d⟩:=T.obj _ _ st7 b hb
    exact (J'.pin (b,o) (List.mem_append_right _ (List.mem_append_right _ (CV hb e)))).2.1
   refine Av q9 fun b s9 ⟨H9,I9,q9⟩ => ?_
   cases b with
   | false =>
    rw [if_neg Bool.false_ne_true] at q9 ⊢
    obtain ⟨m',hm,hW⟩:=hN _ q9
    exact again I9 hm hW
   | true =>
    rw [if_pos rfl] at q9 ⊢
    have qe:=he X' is' _ s9 σ8 H9 _ I9 q9
    rw [hP,hw,hA,hE,hxe] at qe
    refine Av qe fun u s10 ⟨y,H10,I10,ry,ys,hys,hlen,hNn⟩ => ?_
    obtain ⟨m',hm,hW⟩:=hN _ hNn
    have qa:=HK (X:=X') _ s10 σ8 H10 (.ref p) [y] (.ref p) [u] (fun _ H' => H' = BG H10 p (.lst (ys ++ [y]))) I10 rfl (.cons ry .nil) ⟨p,ys,y,rfl,rfl,hys,hlen,rfl⟩
    rw [hP,hw,hA,hxe] at qa
    refine Av qa fun _ s11 ⟨_,H11,I11,_,e11⟩ => ?_
    subst e11
    exact again I11 hm hW
 have st5:=loop _ rfl
 exact codeAny_compStart_list (loop _ rfl) (T.self X.A 0 _ _ _ st4 (loop _ rfl))
end
section
variable {X:Cx} {elt tg iter:Expr} {ifs:List Expr} {csc:Scope} {nc:List Str} {cap:List (Str × Nat)} {wi:TI} {g:TG} {tt:TT} {te:TE} {pos:Pos}
theorem LcOk.clos {pins:List (Addr × Obj)} {σ:St} {H:Hp} {s:Shared} (ok:LcOk X csc nc cap) (I:Inv X pins σ H s) :
  ∃ cl,closureFor csc X.env = pure cl∧(∀ x c,cl.lookup x = some c→X.env.cells.lookup x = some c)∧∀ y∈csc.names,y.2 = .free→(cl.lookup y.1).isSome = true :=
 Rt fun y hy hf => I.ok.has y.1 (ok.free y hy hf)
theorem Tl (hc:X.calm = true) (ok:LcOk X csc nc cap) (hi:PI X tg iter wi) (hg:∀ X',LcCx X csc (Ah nc cap) X'→PG X' tg g) (ht:∀ X',LcCx X csc (Ah nc cap) X'→Uy X' ifs tt) (he:∀ X',LcCx X csc (Ah nc cap) X'→PE X' elt te)
  (hs:∀ x,foldedSetIterable iter X.env x = pure x:=by intro _; rfl):PE X (.ListComp elt [⟨tg,iter,ifs,0⟩] csc pos) (Yi wi nc cap g tt te):=by
 intro pins s σ H Q I h
 obtain ⟨cl,hcl,hc1,hc2⟩:=ok.clos I
 rw [eval_ListComp]
 refine wpAny_comprehension_free (use:=none) rfl hs hcl ok.kind ok.locals (Av (hi pins s σ H _ I h) fun v s1 h1 => Av h1 fun itv s2 h2 => ?_)
 obtain ⟨it,fp,tn,J,H2,e,I2,T,st2,f2,run⟩:=h2
 subst e
 refine Jd (RR:=fun acc C => compPost (model X.prog X.w) X.A X.xe none (EP X pins σ Q) acc C) hc ok hg ht he hc1 hc2 I2 T st2 f2 (run _ (I2.hok.fresh (Nat.le_refl _))) ?_
 intro C H' s' I' hn h1 h2 h3 h4 h5 q
 obtain ⟨m,hn⟩:=hn
 refine ⟨m,hn,fun h' sb => ⟨.ref s2.heap.objs.size,H',?_,rfl,q⟩⟩
 exact I'.turned (t':=s'.toks) (fun b o hb e => (sb.2 b hb).trans e) h1 h2 (.inr h3) h4 h5
def Uz (i:Nat) (te:TE):TS:=fun D σ H => te σ H fun v H1 => D.nx (σ.set i (some v)) H1
theorem Je {i:Nat} {x:Str} {px spos:Pos} (hN:X.N.Nodup) (hx:X.N[i]? = some x) (hk:X.env.scope.names.lookup x = some .local) (hsw:swapsWith (.ListComp elt [⟨tg,iter,ifs,0⟩] csc pos) (some (.Name x px)) spos.line X.env = pure true)
  (hc:X.calm = true) (ok:LcOk X csc nc cap) (hi:PI X tg iter wi) (hg:∀ X',LcCx X csc (Ah nc cap) X'→PG X' tg g) (ht:∀ X',LcCx X csc (Ah nc cap) X'→Uy X' ifs tt) (he:∀ X',LcCx X csc (Ah nc cap) X'→PE X' elt te)
  (hs:∀ x,foldedSetIterable iter X.env x = pure x:=by intro _; rfl):PS X (.Assign [.Name x px] (.ListComp elt [⟨tg,iter,ifs,0⟩] csc pos) spos) (Uz i (Yi wi nc cap g tt te)):=by
 intro pins s σ H D I h
 obtain ⟨cl,hcl,hc1,hc2⟩:=ok.clos I
 rw [exec_Assign_Name_used _ _ _ _ hsw]
 refine wpAny_bind (wpAny_standAt (wpAny_bind ?_))
 show wpAny _ X.A (do let _ ← comprehension (.ListComp elt [⟨tg,iter,ifs,0⟩] csc pos) csc X.env _ (newList []) false (eval iter X.env) (some (assign (.Name x px) X.env))) _ _ s
 refine wpAny_bind (Av (wpAny_comprehension_free (use:=some (assign (.Name x px) X.env)) (Q:=fun _ s' => SP X pins D .next s') rfl hs hcl ok.kind ok.locals
  (Av (hi pins s σ H _ I h) fun v s1 h1 => Av h1 fun itv s2 h2 => ?_)) fun _ s' hq => wpAny_pure (wpAny_pure hq))
 obtain ⟨it,fp,tn,J,H2,e,I2,T,st2,f2,run⟩:=h2
 subst e
 refine Jd (RR:=fun acc C => compPost (model X.prog X.w) X.A X.xe (some (assign (.Name x px) X.env)) (fun _ s' => SP X pins D .next s') acc C) hc ok hg ht he hc1 hc2 I2 T st2 f2 (run _ (I2.hok.fresh (Nat.le_refl _))) ?_
 intro C H' s' I' hn h1 h2 h3 h4 h5 q
 obtain ⟨m,hn⟩:=hn
 show wpAny _ X.A (assign (.Name x px) X.env (.ref s2.heap.objs.size)) _ _ _
 refine wpAny_assign_Name (HD I' hN hx (.inl hk) (v:=.ref s2.heap.objs.size) rfl (fun s'' I'' ha => ?_) (.inr hk))
 obtain ⟨a,sb,ha⟩:=ha
 have hCa:C≠a:=by
  rcases ha with ha | ha
  ·rw [ha]; exact h2
  ·exact fun z => h4 x a ha z.symm
 refine ⟨m,hn.sameBut sb hCa,fun h' sb' => ⟨_,H',?_,q⟩⟩
 exact I''.turned (t':=s''.toks) (fun b o hb e => (sb'.2 b hb).trans e) h1 h2 (.inr h3) h4 h5
end
section
variable {K:PySem.W.Frag} {nc:List Str} {cap:List (Str × Nat)} {g:TG} {tt:TT} {te:TE} {σ:St} {p a:Addr} {H:Hp} {Q:Hp→Prop}
end
theorem ObjOk.obj {P:Program} {w:World} {H:Hp} {h:Heap} {a:Addr} {o:HO} (x:ObjOk P w H h a o):∃ ob,h.get? a = some ob:=by
 cases o with
 | lst xs => obtain ⟨_,_,_,_,e⟩:=x; exact ⟨_,e⟩
 | tup xs => obtain ⟨_,_,_,o,e,_⟩:=x; exact ⟨_,e⟩
 | dK kvs => obtain ⟨_,_,_,_,o,_,_,e,_⟩:=x; exact ⟨_,e⟩
 | dT kvs => obtain ⟨_,_,_,_,o,_,_,e,_⟩:=x; exact ⟨_,e⟩
 | set S n => obtain ⟨o,_,_,_,e,_⟩:=x; exact ⟨_,e⟩
 | ins C dx fs => obtain ⟨_,_,_,e,_⟩:=x; exact ⟨_,e⟩
 | own y => obtain ⟨_,e⟩:=x; exact ⟨_,e⟩
 | xd fs => obtain ⟨_,⟨_,_,_,e,_⟩,_⟩:=x; exact ⟨_,e⟩
 | rng lo hi => obtain ⟨_,_,_,e⟩:=x; exact ⟨_,e⟩
 | frz ob u => obtain ⟨e,_⟩:=x; exact ⟨_,e⟩
 | tbl ps => exact ⟨_,(show h.get? a = some _ from x)⟩
 | met f y => exact ⟨_,(show h.get? a = some _ from x)⟩
 | ext φ => obtain ⟨_,⟨_,e⟩,_⟩:=x; exact ⟨_,e⟩
theorem HOk.none_of {P:Program} {w:World} {H:Hp} {h:Heap} {a:Addr} (x:HOk P w H h) (e:h.get? a = none):H a = none:=by
 cases q:H a with
 | none => rfl
 | some u =>
  obtain ⟨ob,e'⟩:=(x a u q).obj
  rw [e] at e'; cases e'
structure Fly (P:Program) (w:World) (outer:List Env) (H:Hp) (s:Shared) (H':Hp) (x:Addr) (cls:Value) (s':Shared):Prop where
 os:s'.os = s.os
 bare:AllBare s'.gens
 un:Un (FZ outer) [] H H' s.heap s'.heap
 hok:HOk P w H' s'.heap
 fr:H' x = none
 fly:∃ B t,(∀ b,H' b≠none→∃ o,B.get? b = some o)∧(∀ b o,s.heap.get? b = some o→b ∉ FZ outer→∃ o',B.get? b = some o')∧Heap.FlyingW B outer x cls (.ref t) s'.heap
def CXe (P:Program) (w:World):Op:=fun outer H s E e s' => ∃ x cls H',e = .ref x∧Fly P w outer H s H' x cls s'∧E cls none H'
theorem CXe.never {P:Program} {w:World} {outer:List Env} {H:Hp} {s s':Shared} {e:Value} (h:CXe P w outer H s E0 e s'):False:=by
 obtain ⟨_,_,_,_,_,q⟩:=h
 exact q
structure XFly (X:Cx) (W:St→XK):Prop where
 fly:∀ (pins:List (Addr × Obj)) (σ:St) (H:Hp) (s:Shared) (e:Value) (s':Shared),Inv X pins σ H s→CXe X.prog X.w X.stack H s (W σ) e s'→X.xe e s'
structure XOk (X:Cx) (W:St→XK):Prop where
 made:∀ (pins:List (Addr × Obj)) (σ:St) (H:Hp) (s:Shared) (h':Heap) (x:Addr) (cls:Value),Inv X pins σ H s→Heap.MadeExcOf s.heap h' x cls []→W σ cls none H→X.xe (.ref x) { s with heap:=h' }
 fly:∀ (pins:List (Addr × Obj)) (σ:St) (H:Hp) (s:Shared) (e:Value) (s':Shared),Inv X pins σ H s→CXe X.prog X.w X.stack H s (W σ) e s'→X.xe e s'
 own:PassesOwn (model X.prog X.w) X.A X.env X.xe
theorem HOk.by_keep {P:Program} {w:World} {H:Hp} {h h':Heap} (x:HOk P w H h) (k:∀ b o,H b≠none→h.get? b = some o→h'.get? b = some o):HOk P w H h':=fun a o e =>
 (x a o e).stay (fun b u hb q => k b u (by
  rcases hb with rfl | hb
  ·rw [e]; exact fun z => nomatch z
  ·rw [hb]; exact fun z => nomatch z) q) (fun _ q => q) fun _ _ q => q
section
variable {P:Program} {w:World} {K:PySem.W.Frag} {mg:Str→Option Value} {base:Heap} {N:List Str} {qual:Str} {scope:Scope} {f:Addr} {cd:Value} {A:Around} {outer:List Env} {s:Shared} {H:Hp} {E:XK}
theorem Ma {X:Cx} {pins:List (Addr × Obj)} {σ:St} {H1:Hp} {s2:Shared} {h':Heap} {x:Addr} {cls:Value} {B:Heap} {t:Addr} (hst:X.stack = X.env :: X.outer) (hex:X.ex = []) (hfr:X.env.frame = some X.env.locals) (I:Inv X pins σ H1 s2)
  (hB1:∀ b,H1 b≠none→∃ o,B.get? b = some o) (hB2:∀ b o,X.s₀.heap.get? b = some o→b ∉ FZ X.outer→∃ o',B.get? b = some o') (hx:H1 x = none) (hs2:B.StaysIn s2.heap) (fl:Heap.FlyingW B X.outer x cls (.ref t) h') (up:s2.heap.UpToSlots h') :
  Fly X.prog X.w X.outer X.H₀ X.s₀ H1 x cls { s2 with heap:=h' }:=by
 have fsm:∀ b o,b∈X.fs→s2.heap.get? b = some o→∃ sl,h'.get? b = some { o with slots:=sl }:=fun b o hb e => by
  obtain ⟨_,o',e',hd⟩:=I.funs.mem hb
  rw [e] at e'; cases e'
  exact up b o e hd
 have same:∀ b o o',B.get? b = some o'→s2.heap.get? b = some o→h'.get? b = some o:=fun b o o' e1 e2 => by
  have q:=hs2 b o' e1
  rw [e2] at q; cases q
  exact fl.1 b o e1
 refine ⟨I.os,I.bare,⟨fun b o e n hb _ => ?_,fun b o e n hb _ => ?_,fun b o e n _ => ?_,fun b o e _ => ?_,I.base.tups,I.base.frzs,I.base.tbls⟩,I.hok.by_keep fun b o hb e => ?_,hx,B,t,hB1,hB2,fl⟩
 ·obtain ⟨o',e'⟩:=hB2 b o e hb
  exact same b o o' e' (I.base.keep b o e n hb (by rw [hex]; simp))
 ·obtain ⟨sl,e1⟩:=I.base.slot b o e n hb (by rw [hex]; simp)
  obtain ⟨sl',e2⟩:=fsm b _ hb e1
  exact ⟨sl',e2⟩
 ·exact I.base.free b o e n (by rw [hex]; simp)
 ·obtain ⟨o1,e1⟩:=I.base.there b o e (by rw [hex]; simp)
  by_cases hb:b∈X.fs
  ·obtain ⟨sl,e2⟩:=fsm b o1 hb e1
   exact ⟨_,e2⟩
  ·obtain ⟨o',e'⟩:=hB2 b o e hb
   exact ⟨o',fl.1 b o' e'⟩
 ·obtain ⟨o',e'⟩:=hB1 b hb
  exact same b o o' e' e
theorem Ac:XOk (DA (CXe P w) P w K mg base N qual scope f cd A outer s H E) (fun _ => E) where
 made:=by
  intro pins σ H1 s1 h' x cls I hx q
  have hin:∀ env∈(DA (CXe P w) P w K mg base N qual scope f cd A outer s H E).stack,∀ b,env.frame = some b→b∈FZ (DA (CXe P w) P w K mg base N qual scope f cd A outer s H E).stack:=fun env he b hb => List.mem_filterMap.mpr ⟨env,he,hb⟩
  have hxn:H1 x = none:=I.hok.none_of hx.new
  have I':Inv (DA (CXe P w) P w K mg base N qual scope f cd A outer s H E) pins σ H1 { s1 with heap:=h' }:=I.kept (t':=s1.toks) hx.keeps
  refine wpAny_leaves_madeW (base:=PySem.W.hideAll s1.heap (FZ (DA (CXe P w) P w K mg base N qual scope f cd A outer s H E).stack)) (h:=s1.heap) I.ok.frames rfl (fun b o q => PySem.W.of_hideAll _ q) (PySem.W.funFrames_hide I.stack hin) hx fun h2 t x1 x2 x3 x4 => ?_
  refine ⟨x,cls,H1,rfl,?_,q⟩
  refine Ma (X:=DA (CXe P w) P w K mg base N qual scope f cd A outer s H E) rfl rfl rfl I' (fun b hb => ?_) (fun b o e hb => ?_) hxn (fun b o e => hx.keeps b o (PySem.W.of_hideAll _ e)) x1 x4
  ·cases e:H1 b with
   | none => exact absurd e hb
   | some u =>
    obtain ⟨o,eo⟩:=(I.hok b u e).obj
    exact ⟨o,PySem.W.hideAll_get _ eo fun z => hb (I.stkFree b z)⟩
  ·obtain ⟨o1,e1⟩:=I.base.there b o e (fun z => nomatch z)
   refine ⟨o1,PySem.W.hideAll_get _ e1 fun z => ?_⟩
   rcases List.mem_cons.mp (I.stkSub b z) with z | z
   ·exact absurd z (Nat.ne_of_lt (Nat.lt_of_lt_of_le (Heap.lt_size e) I.ok.above))
   ·exact hb z
 fly:=by
  rintro pins σ H1 s1 e s2 I ⟨x,cls,H2,rfl,F,q⟩
  obtain ⟨B,t,b1,b2,fl⟩:=F.fly
  have I2:Inv (DA (CXe P w) P w K mg base N qual scope f cd A outer s H E) pins σ H2 s2:=I.call' (ch:=[]) F.os F.un F.hok F.bare (fun b z => absurd z (by simp))
  refine wpAny_leaves_onW I.ok.frames rfl fl fun h' x1 x2 => ?_
  refine ⟨x,cls,H2,rfl,?_,q⟩
  refine Ma (X:=DA (CXe P w) P w K mg base N qual scope f cd A outer s H E) rfl rfl rfl I2 b1 (fun b o e hb => ?_) F.fr fl.1 x1 x2
  obtain ⟨o1,e1⟩:=I.base.there b o e (fun z => nomatch z)
  refine b2 b o1 e1 fun z => ?_
  rcases List.mem_cons.mp (I.stkSub b z) with z | z
  ·exact absurd z (Nat.ne_of_lt (Nat.lt_of_lt_of_le (Heap.lt_size e) I.ok.above))
  ·exact hb z
 own:=PassesOwn.leaving
end
section
variable {X:Cx} {W:St→XK}
def VA (W:St→XK) (C:Addr):TS:=fun _ σ H => W σ (.ref C) none H
def LG (sp:Sp) (W:St→XK) (t:TA):TE:=fun σ H Q => t σ H fun vs H1 => sp vs H1 Q (W σ)
theorem XOk.f (x:XOk X W):XFly X W:=⟨x.fly⟩
theorem Jf {k:Nat} {f:Addr} {fd:FuncData} {ps:List Str} {sp:Sp} {x:Str} {p pos:Pos} {e:Expr} {es:List Expr} {t:TA} (xo:XFly X W) (F:FnOk X.prog X.w X.K X.mg X.base (CXe X.prog X.w) k f fd ps sp) (hr:Room k X.A) (hg:Gl X x) (hm:X.mg x = some (.ref f)) (hk:PySem.W.keepIn X.K (.ref f) = true) (hb:Binds X.K fd ps [])
  (ha:PA X (e :: es) t) (hdb:(x == ("__debug__" : Str)) = false:=by decide) (he:starEach (e :: es) X.env = (false,eval e X.env) :: starEach es X.env:=by rfl) (hpl:(backTo pos (starEach es X.env)).any (·.1) = false:=by rfl) :
  PE X (.Call (.Name x p) (e :: es) [] pos) (LG sp W t):=by
 intro pins s σ H Q I h
 refine wpAny_Call_Name_kw (Dz I hg hm ?_ hdb)
 refine PySem.W.callWith_K (h₀:=X.base) I.ok.mod.kin hk (Av (ha pos pins s σ H _ I h) fun us s1 ⟨vs,H1,I1,r,q⟩ => ⟨I1.kIn,?_⟩) he hpl
 have r2:Vals vs (us ++ []):=by rw [List.append_nil]; exact r
 have hl:(us ++ []).length = ps.length:=by rw [← r2.length]; exact F.len _ _ _ _ q
 refine wpAny_call (codeAny_mono (F.run X.A X.stack s1 H1 ⟨us,[]⟩ (us ++ []) vs Q (W σ) hr I1.env0 (hb s1 us I1.kIn hl) r2 q) fun r s' hq => ?_)
 cases r with
 | error e => exact xo.fly pins σ H1 s1 e s' I1 hq
 | ok fl =>
  cases fl with
  | ret u => exact I1.after hq
  | next => exact False.elim hq
  | brk => exact False.elim hq
  | cont => exact False.elim hq
end
open PySem.Calls
section
variable {prog:Program} {w:World} {A:Around} {E:Value→Shared→Prop} {s:Shared} {K:PySem.W.Frag} {x D:Addr} {ox:Obj} {od:Option Obj} {name:Str}
structure ExcCls (K:PySem.W.Frag) (D:Addr):Prop where
 ga:PySem.W.findIn K (.ref D) "__getattribute__" = some (some (.builtin "BaseException.__getattribute__"))
 gn:PySem.W.findIn K (.ref D) "__getattr__" = some none
 be:PySem.W.mroIn K D (.type "BaseException") = some true
 ob:PySem.W.mroIn K D (.type "object") = some true
 cl:PySem.W.findIn K (.ref D) "__class__" = some (some (.builtin "object.__class__"))
 gt:PySem.W.specialIn K (.builtin "object.__class__") "__get__" = some (some (.builtin "getset_descriptor.__get__"))
 tk:PySem.W.takesIn K (.builtin "object.__class__") = some true
def TyAt (D x:Addr) (h:Heap):Prop:=∃ ox,h.get? x = some ox∧ox.cls = .ref D
theorem TyAt.looks {M:Model} {h:Heap} (p:TyAt D x h):PySem.W.Looks M h (typeOf (.ref x)) (.ref D):=by
 obtain ⟨o,h1,h2⟩:=p
 exact h2 ▸ (PySem.W.Looks.ld h1).andThen .now
open PySem.W Builtin Builtin.ObjectAttr Builtin.Getset_descriptor in
theorem LH {R:Result→Shared→Prop} {tp:Value} (X:K.In s.heap) (I:TyAt D x s.heap) (hm:PySem.W.mroIn K D (.type "object") = some true) (h:R (.ok (.ret (.ref D))) s) :
  codeAny (model prog w) A (.call (.builtin "getset_descriptor.__get__") ⟨[.builtin "object.__class__",.ref x,tp],[]⟩) R s:=by
 obtain ⟨hh,gg,dd,tt,oo⟩:=s
 have L0:=I.looks (M:=model prog w)
 have L1:=PySem.W.looks_mroIn (M:=model prog w) X hm
 refine codeAny_call_builtin
  KF.slot_gs.plain KF.entry_gs (KF.slot_gs.check _ _ _ _ _ _ _ _
   KF.type_class (KF.args_gs _ _ _) ?_)
 unfold Builtin.«getset_descriptor.__get__»
  descrGet
 rw [dga_obj]
 refine wpAny_bind (wpAny_pure ?_)
 unfold descrGetter descrCheckInstance
  descrNameAndClass isInstance
 simp only [KF.owner_class]
 repeat lk
 refine ⟨Code.quiet_builtin _
  (by decide +kernel),codeAny_builtin KF.entry_class ?_⟩
 unfold Builtin.«object.__class__» shownTypeOf
 repeat lk
 exact h
theorem ExcCls.find {M:Model} {h:Heap} (c:ExcCls K D) (X:K.In h):PySem.W.Looks M h (Builtin.ObjectAttr.find (.ref x) (.ref D) "__class__") (.bind (.builtin "getset_descriptor.__get__") (.builtin "object.__class__")):=by
 have L1:=PySem.W.looks_findIn (M:=M) X c.cl
 have L2:PySem.W.Looks M h (Builtin.ObjectAttr.getOf (some (.builtin "object.__class__"))) (some (.builtin "getset_descriptor.__get__")):=PySem.W.looks_specialIn X c.gt
 have L3:=PySem.W.looks_takesIn (M:=M) X c.tk
 refine L1.andThen (L2.andThen ?_)
 exact (show PySem.W.Looks M h (Builtin.ObjectAttr.dataDescriptor? (some (.builtin "object.__class__")) (some (.builtin "getset_descriptor.__get__"))) (some (.builtin "getset_descriptor.__get__",.builtin "object.__class__"))
  from L3.andThen .now).andThen (PySem.W.Looks.tag .now)
theorem Nm {Q:Option Value→Shared→Prop} (c:ExcCls K D) (X:K.In s.heap) (I:TyAt D x s.heap) (h:Q (some (.ref D)) { s with toks:=s.toks + 1 }):wpAny (model prog w) A (getAttr? (.ref x) "__class__") Q E s:=by
 obtain ⟨hh,g,d,t,os⟩:=s
 have L0:=I.looks (M:=model prog w)
 have L1:=PySem.W.looks_findIn (M:=model prog w) X c.ga
 have L2:=PySem.W.looks_findIn (M:=model prog w) X c.gn
 have L3:=PySem.W.looks_mroIn (M:=model prog w) X c.be
 have L4:=c.find (x:=x) (M:=model prog w) X
 have hb:bindSpecial (.builtin "BaseException.__getattribute__") (.ref x) = pure (.builtin "BaseException.__getattribute__",[.ref x]):=PySem.F.excAttr_ValueError.ga.bind _
 have hk:builtinKind "BaseException.__getattribute__" = some .slot:=by decide +kernel
 have hsplit:splitId "BaseException.__getattribute__" = some ("BaseException","__getattribute__"):=by decide +kernel
 have hx2:(Value.builtin "BaseException.__getattribute__" == Value.builtin "object.__getattribute__") = false:=by decide +kernel
 unfold getAttr? getAttrBy? getAttrBy
 refine wpAny_bind (wpAny_mkText (wpAny_bind (wpAny_attempt (wpAny_holding (wpAny_bind (L0.at (wpAny_bind (L1.at ?_))))))))
 dsimp only
 rw [hx2,Bool.and_false,if_neg Bool.false_ne_true]
 unfold getAttrByItsOwn hookBefore
 refine wpAny_bind (L2.at ?_)
 refine wpAny_bind (wpAny_attempt (wpAny_holding ?_))
 unfold callGetattribute boundAndCalled
 rw [hb]
 show wpAny _ _ (call (.builtin "BaseException.__getattribute__") [.ref x,.str "__class__" t]) _ _ _
 refine wpAny_call (codeAny_call_builtin PySem.F.excAttr_ValueError.ga.plain PySem.F.entry_bexc_ga ?_)
 have ha:=PySem.F.args_bexc_ga (.ref x) (.str "__class__" t)
 simp only [checkBuiltinCall,hk,hsplit]
 refine wpAny_bind ?_
 unfold isInstance
 refine wpAny_bind (L0.at (L3.at ?_))
 rw [if_neg (by decide)]
 refine wpAny_of_eq ha ?_
 show wpAny _ _ (typeOf (.ref x) >>= fun tp => Builtin.ObjectAttr.find (.ref x) tp "__class__" >>= _) _ _ _
 refine wpAny_bind (L0.at (wpAny_bind (L4.at ?_)))
 show wpAny _ _ ((holding [.builtin "object.__class__"] (call (.builtin "getset_descriptor.__get__") [.builtin "object.__class__",.ref x,.ref D])) >>= ret) _ _ _
 refine wpAny_bind (wpAny_holding (wpAny_call (LH (s:=⟨hh,g,d,t + 1,os⟩) X I c.ob ?_)))
 exact wpAny_pure (wpAny_pure (wpAny_pure h))
theorem ExcCls.isTy {M:Model} {h:Heap} (c:ExcCls K D) (X:K.In h):PySem.W.Looks M h (isType (.ref D)) true:=by
 obtain ⟨cd,hc,_⟩:=Option.bind_eq_some_iff.mp (show (PySem.W.clsIn K D).bind _ = some true from c.be)
 unfold PySem.W.clsIn at hc
 split at hc
 ·rename_i c' d' cd' sl' ho
  intro A' Q' E' s' k q
  unfold isType loadHead
  exact wpAny_bind (wpAny_loadPart (k _ _ (X _ _ ho)) (wpAny_pure q))
 ·cases hc
theorem Oz (c:ExcCls K D):PySem.W.KitX K (.ref x) (.ref D) (TyAt D x) where
 ty:=fun _ _ _ I => I.looks
 it:=fun _ _ X _ => c.isTy X
 ne:=fun h tp dd its n sl X htp => by
  refine Bool.eq_false_iff.mpr fun q => ?_
  have e:D = tp:=Value.ref.inj (beq_iff_eq.mp q)
  subst e
  obtain ⟨cd,hc,_⟩:=Option.bind_eq_some_iff.mp (show (PySem.W.clsIn K D).bind _ = some true from c.be)
  unfold PySem.W.clsIn at hc
  split at hc
  ·rename_i c' d' cd' sl' ho
   have z:=(X _ _ ho).symm.trans htp
   cases z
  ·cases hc
 ca:=fun X I k => Nm c X I k
end
def IH (D x:Addr):HO:=.ext (TyAt D x)
theorem Rz {P:Program} {w:World} {H:Hp} {h:Heap} {D x:Addr} (p:TyAt D x h):ObjOk P w H h x (IH D x):=by
 refine ⟨p,?_,fun h1 h2 q k => ?_⟩
 ·obtain ⟨o,e,_⟩:=p
  exact ⟨o,e⟩
 ·obtain ⟨o,e,c⟩:=q
  exact ⟨o,k o e,c⟩
theorem LI {X:Cx} {pins:List (Addr × Obj)} {σ:St} {H:Hp} {s:Shared} {A:Around} {E:Value→Shared→Prop} {Q:Value→Shared→Prop} {c:Value} {b:Bool} {D x:Addr} (I:Inv X pins σ H s) (hx:H x = some (IH D x)) (k:ExcCls X.K D)
  (e:PySem.W.kitOne X.K (.ref D) c = some b) (h:∀ tk,Q (.bool b) { s with toks:=tk }):wpAny (model X.prog X.w) A (call (.builtin "isinstance") [.ref x,c]) Q E s:=by
 obtain ⟨p,_,_⟩:=(show ObjOk X.prog X.w H s.heap x (IH D x) from I.hok x _ hx)
 exact PySem.W.kia_one (Oz k) I.kIn p e (fun z => nomatch z) h
abbrev Go:List Value:=[.type "ValueError",.type "Exception",.type "BaseException",.type "object"]
theorem SA {K:PySem.W.Frag} {h:Heap} {C:Addr} {bmB:List Value} {newId:String} (X:K.In h) (q:PySem.W.excIn K C bmB newId = true) :
  ∃ bm N nm qn bs hdct sn sub ab col dd k0 k1 k2 k3 k5 mN,h.get? C = some (excClassObj nm qn C N bs bm hdct sn sub ab col dd k0 k1 k2 k3 k5 newId)∧h.Ns N mN∧mN "__init__" = none∧OwnTail h bmB bm:=by
 unfold PySem.W.excIn at q
 split at q
 ·rename_i dd cd sl ho
  split at q
  ·rename_i C' bm k0 k1 k2 k3 n k5 hm hs
   simp only [Bool.and_eq_true,beq_iff_eq,
    Bool.not_eq_true'] at q
   obtain ⟨⟨⟨⟨⟨e1,e2⟩,hdel⟩,ht⟩,hok⟩,hni⟩:=q
   subst e1 e2
   obtain ⟨nm,bs,mro,ns,qn,hd,sn,sub,ab,col,del⟩:=cd
   dsimp only at hm hdel hok hni
   subst hm hdel
   have hsl:sl = #[k0,k1,k2,k3,some (.builtin n),k5]:=by
    obtain ⟨l⟩:=sl
    simp only at hs
    rw [hs]
   subst hsl
   exact ⟨bm,ns,nm,qn,bs,hd,sn,sub,ab,col,dd,k0,k1,k2,k3,k5,_,X _ _ ho,
    .of_isNs (PySem.W.isNs_of_in X hok),PySem.W.nsMap_none_of_in X hok hni,PySem.W.tail_of_in X ht⟩
  ·cases q
 ·cases q
theorem Nn {X:Cx} {W:St→XK} {x:Str} {C:Addr} {np cpos pos:Pos} (xo:XOk X W) (hc:X.calm = true) (hg:Gl X x) (hm:X.mg x = some (.ref C)) (q:PySem.W.excIn X.K C Go "ValueError.__new__" = true)
  (hd:(x == ("__debug__" : Str)) = false:=by decide):PS X (.Raise (some (.Call (.Name x np) [] [] cpos)) none pos) (VA W C):=by
 intro pins s σ H D I h
 obtain ⟨bm,N,nm,qn,bs,hdct,sn,sub,ab,col,dd,k0,k1,k2,k3,k5,mN,hC,hN,hni,T⟩:=SA I.kIn q
 refine wpAny_Raise_call_subT (C:=C) (nm:=nm) (q:=qn) (N:=N) (bs:=bs) (bm:=bm) (hdct:=hdct) (sn:=sn) (sub:=sub) (ab:=ab) (col:=col) (dd:=dd) (k0:=k0) (k1:=k1) (k2:=k2) (k3:=k3) (k5:=k5)
  PySem.F.excBase_ValueError (mN:=mN) (T.hasType PySem.F.excBase_ValueError.hasBase) (I.ok.hd hc) rfl hni (Dz I hg hm ⟨rfl,?_⟩ hd)
 exact evalArgs_empty ⟨rfl,Nat.zero_le _,hC,hN,T,fun h' e hx => xo.made pins σ H s h' e (.ref C) I hx h⟩
theorem Jg {M:Model} {A:Around} {E:Value→Shared→Prop} {s:Shared} {K:PySem.W.Frag} {C B x:Addr} {b:Bool} {Q:Bool→Shared→Prop} (X:K.In s.heap) (p:TyAt C x s.heap) (k:PySem.W.kitCls K (.ref C) (.ref B) = some b)
  (hb:PySem.W.mroIn K B (.type "BaseException") = some true) (h:Q b s):wpAny M A (excMatches (.ref x) (.ref B)) Q E s:=by
 obtain ⟨L1,L2,L3⟩:=PySem.W.kit_cls (M:=M) X k
 have L4:=PySem.W.looks_mroIn (M:=M) X hb
 have L0:=p.looks (M:=M)
 have f:=tc_notTuple
 obtain ⟨hh,g,d,t,os⟩:=s
 unfold excMatches isInstance isExcClass
 refine wpAny_bind (wpAny_bind (L1.at ?_))
 rw [f]
 refine wpAny_pure ?_
 rw [if_neg Bool.false_ne_true]
 refine wpAny_bind (wpAny_pure ?_)
 simp only [List.forIn_cons,List.forIn_nil]
 refine wpAny_bind (wpAny_bind (wpAny_bind (wpAny_bind (L2.at ?_))))
 rw [if_pos rfl]
 refine L4.at ?_
 rw [if_neg (by decide)]
 refine wpAny_pure (wpAny_pure (wpAny_bind (L0.at (wpAny_bind (wpAny_bind (wpAny_bind (L3.at ?_)))))))
 cases b with
 | true =>
  rw [if_pos rfl]
  exact wpAny_pure (wpAny_pure (wpAny_pure h))
 | false =>
  rw [if_neg Bool.false_ne_true]
  exact wpAny_pure (wpAny_pure (wpAny_pure h))
section
variable {X:Cx} {pins:List (Addr × Obj)} {σ:St} {H:Hp} {s:Shared}
theorem Inv.track {x:Addr} {o:HO} {vs:Array Value} (I:Inv X pins σ H s) (hx:H x = none) (hf:∃ ob,s.heap.get? x = some ob∧ob.data = .fields vs) (hs0:X.s₀.heap.get? x = none) (hp:∀ p∈X.pn ++ pins,p.1≠x)
  (ok:ObjOk X.prog X.w (BG H x o) s.heap x o):Inv X pins σ (BG H x o) s:=by
 obtain ⟨ob,eob,dob⟩:=hf
 have ne:∀ b u,H b = some u→b≠x:=fun b u e z => by rw [z,hx] at e; cases e
 have hL:X.env.locals≠x:=fun z => by
  obtain ⟨m,⟨o',es,ep,ho',hd',_⟩,_⟩:=I.loc
  rw [z,eob] at ho'; cases ho'; rw [dob] at hd'; cases hd'
 have hC:∀ y c,X.env.cells.lookup y = some c→c≠x:=fun y c e z => by
  obtain ⟨v,o',ho',hd'⟩:=I.cell y c e
  rw [z,eob] at ho'; cases ho'; rw [dob] at hd'; cases hd'
 refine ⟨I.ok,I.os,I.bare,⟨I.base.keep,I.base.slot,fun b o e n hb => ?_,I.base.there,fun b xs e => ?_,fun b o u e => ?_,fun b ps e => ?_⟩,I.loc,I.cell,?_,fun y c e => ?_,fun p hp' => ?_,fun b u e => ?_,I.len⟩
 ·have nb:b≠x:=fun z => by rw [z,hs0] at e; cases e
  rw [AK nb]
  exact I.base.free b o e n hb
 ·have q:=I.base.tups b xs e
  rw [AK (ne b _ q)]
  exact q
 ·have q:=I.base.frzs b o u e
  rw [AK (ne b _ q)]
  exact q
 ·obtain ⟨more,q⟩:=I.base.tbls b ps e
  exact ⟨more,by rw [AK (ne b _ q)]; exact q⟩
 ·rw [AK hL]; exact I.free
 ·rw [AK (hC y c e)]; exact I.freeC y c e
 ·obtain ⟨e,n,r⟩:=I.pin p hp'
  exact ⟨e,by rw [AK (hp p hp')]; exact n,r⟩
 ·by_cases hb:b = x
  ·subst hb
   rw [AJ] at e; cases e
   exact ok
  ·rw [AK hb] at e
   exact (I.hok b u e).stay (fun _ _ _ q => q) (fun c q => by rw [AK (ne c _ q)]; exact q) fun c xs q => by rw [AK (ne c _ q)]; exact q
theorem Inv.gone {i:Nat} {n:Str} {pos:Pos} {M:Model} {A:Around} {E:Value→Shared→Prop} {Q:Unit→Shared→Prop} (I:Inv X pins σ H s) (hN:X.N.Nodup) (hi:X.N[i]? = some n) (hk:X.env.scope.names.lookup n = some .local)
  (h:∀ s',Inv X pins (σ.set i none) H s'→Q () s'):wpAny M A (do bindName X.env n .none; unbindBehindTheSuite X.env n pos) Q E s:=by
 obtain ⟨m,hn,hl⟩:=id I.loc
 have hcls:(X.env.scope.kind == .class || (X.env.scope.kind == .module && X.env.locals != X.env.globals)) = false:=by rw [I.ok.kind]; rfl
 have cne:=I.cne
 refine wpAny_nameGoes_keeps hk hn hcls fun h' v hn' hs => ?_
 obtain ⟨oL,_,_,hoL,_⟩:=id hn
 have old:∀ b o,X.s₀.heap.get? b = some o→b≠X.env.locals:=fun b o e => Nat.ne_of_lt (Nat.lt_of_lt_of_le (Heap.lt_size e) I.ok.above)
 refine h _ ⟨I.ok,I.os,I.bare,⟨fun b o e n hb hx => ?_,fun b o e n hb hx => ?_,I.base.free,fun b o e hx => ?_,I.base.tups,I.base.frzs,I.base.tbls⟩,⟨_,hn',fun j y v' e1 e2 e3 => ?_⟩,fun y c e => ?_,I.free,I.freeC,fun p hp => ?_,fun b u e => ?_,by simpa using I.len⟩
 ·exact (hs.2 b (old b o e)).trans (I.base.keep b o e n hb hx)
 ·obtain ⟨sl,e1⟩:=I.base.slot b o e n hb hx
  exact ⟨sl,(hs.2 b (old b o e)).trans e1⟩
 ·obtain ⟨o',e1⟩:=I.base.there b o e hx
  exact ⟨o',(hs.2 b (old b o e)).trans e1⟩
 ·by_cases hj:j = i
  ·subst hj
   have hiσ:j < σ.length:=by rw [I.len]; exact (List.getElem?_eq_some_iff.mp hi).1
   rw [List.getElem?_set_self hiσ] at e2
   cases e2
  ·rw [List.getElem?_set_ne (Ne.symm hj)] at e2
   obtain ⟨u',r',q⟩:=hl j y v' e1 e2 e3
   refine ⟨u',r',?_⟩
   rcases q with ⟨k,e⟩ | ⟨k,c,e,z⟩
   ·refine .inl ⟨k,?_⟩
    have:y≠n:=fun e => hj (Fa hN e1 (e ▸ hi))
    simp [this,e]
   ·exact .inr ⟨k,c,e,z.sameBut hs (cne y c e)⟩
 ·obtain ⟨w',z⟩:=I.cell y c e
  exact ⟨w',z.sameBut hs (cne y c e)⟩
 ·obtain ⟨e,n,ne,nf,d⟩:=I.pin p hp
  exact ⟨(hs.2 p.1 ne).trans e,n,ne,nf,d⟩
 ·refine (I.hok b u e).stay (fun c w' hc q => (hs.2 c ?_).trans q) (fun _ q => q) fun _ _ q => q
  rintro rfl
  rcases hc with rfl | hc
  ·rw [I.free] at e; cases e
  ·rw [I.free] at hc; cases hc
end
theorem Fly.un' {P:Program} {w:World} {outer:List Env} {H H':Hp} {s s':Shared} {x t:Addr} {cls:Value} {B h':Heap} (F:Fly P w outer H s H' x cls s') (b1:∀ b,H' b≠none→∃ o,B.get? b = some o) (b2:∀ b o,s.heap.get? b = some o→b ∉ FZ outer→∃ o',B.get? b = some o')
  (fl:Heap.FlyingW B outer x cls (.ref t) s'.heap) (st:B.StaysIn h') (up:s'.heap.UpToSlots h'):Un (FZ outer) [] H H' s.heap h'∧HOk P w H' h':=by
 have same:∀ b o o',B.get? b = some o'→s'.heap.get? b = some o→h'.get? b = some o:=fun b o o' e1 e2 => by
  have q:=fl.1 b o' e1
  rw [e2] at q; cases q
  exact st b o e1
 have fsm:∀ b o,b∈FZ outer→s'.heap.get? b = some o→∃ sl,h'.get? b = some { o with slots:=sl }:=fun b o hb e => by
  obtain ⟨_,o',e',hd⟩:=fl.2.2.1.mem hb
  rw [e] at e'; cases e'
  exact up b o e hd
 refine ⟨⟨fun b o e n hb hx => ?_,fun b o e n hb hx => ?_,F.un.free,fun b o e hx => ?_,F.un.tups,F.un.frzs,F.un.tbls⟩,F.hok.by_keep fun b o hb e => ?_⟩
 ·obtain ⟨o',e'⟩:=b2 b o e hb
  exact same b o o' e' (F.un.keep b o e n hb hx)
 ·obtain ⟨sl,e1⟩:=F.un.slot b o e n hb hx
  obtain ⟨sl',e2⟩:=fsm b _ hb e1
  exact ⟨sl',e2⟩
 ·obtain ⟨o1,e1⟩:=F.un.there b o e hx
  by_cases hb:b∈FZ outer
  ·obtain ⟨sl,e2⟩:=fsm b o1 hb e1
   exact ⟨_,e2⟩
  ·obtain ⟨o',e'⟩:=b2 b o e hb
   exact ⟨o',st b o' e'⟩
 ·obtain ⟨o',e'⟩:=b1 b hb
  exact same b o o' e' e
def Dh (X:Cx) (pins:List (Addr × Obj)) (E':Value→Shared→Prop):Cx:={ X with pn:=X.pn ++ pins,xe:=E' }
structure TryIs (X X':Cx):Prop where
 is:∃ pins E',X' = Dh X pins E'
def Rb (X:Cx) (x:Addr):Cx:={ X with A:=X.A.mark (some (.ref x)),calm:=false,xe:=fun _ _ => False }
section
variable {X:Cx} {pins pins':List (Addr × Obj)} {σ:St} {H:Hp} {s:Shared} {E':Value→Shared→Prop} {x:Addr}
theorem Cx.Ok.toTry (ok:X.Ok):(Dh X pins E').Ok :=
 ⟨ok.mod,ok.kind,ok.glob,ok.blt,ok.above,ok.inj,ok.has,ok.cab,ok.hd,ok.frames,ok.stk,ok.exf,ok.bs,ok.bsz,ok.noex,ok.exfs,ok.funs,ok.frf⟩
theorem Cx.Ok.ofTry (ok:(Dh X pins E').Ok):X.Ok :=
 ⟨ok.mod,ok.kind,ok.glob,ok.blt,ok.above,ok.inj,ok.has,ok.cab,ok.hd,ok.frames,ok.stk,ok.exf,ok.bs,ok.bsz,ok.noex,ok.exfs,ok.funs,ok.frf⟩
theorem Cx.Ok.toH (ok:X.Ok):(Rb X x).Ok :=
 ⟨ok.mod,ok.kind,ok.glob,ok.blt,ok.above,ok.inj,ok.has,ok.cab,fun (e:false = true) => (Bool.false_ne_true e).elim,ok.frames,ok.stk,ok.exf,ok.bs,ok.bsz,ok.noex,ok.exfs,ok.funs,ok.frf⟩
theorem Inv.toTry (I:Inv X pins σ H s):Inv (Dh X pins E') [] σ H s :=
 ⟨I.ok.toTry,I.os,I.bare,I.base,I.loc,I.cell,I.free,I.freeC,fun p hp => I.pin p (by rw [List.append_nil] at hp; exact hp),I.hok,I.len⟩
theorem Inv.ofTry (I:Inv (Dh X pins E') pins' σ H s):Inv X pins σ H s :=
 ⟨I.ok.ofTry,I.os,I.bare,I.base,I.loc,I.cell,I.free,I.freeC,fun p hp => I.pin p (List.mem_append_left _ hp),I.hok,I.len⟩
theorem Inv.toH (I:Inv X pins σ H s):Inv (Rb X x) pins σ H s:=⟨I.ok.toH,I.os,I.bare,I.base,I.loc,I.cell,I.free,I.freeC,I.pin,I.hok,I.len⟩
theorem Inv.ofH (ok:X.Ok) (I:Inv (Rb X x) pins σ H s):Inv X pins σ H s:=⟨ok,I.os,I.bare,I.base,I.loc,I.cell,I.free,I.freeC,I.pin,I.hok,I.len⟩
theorem SP.ofTry {D:Ends} {f:Flow} {s':Shared} (h:SP (Dh X pins E') [] D f s'):SP X pins D f s':=by
 cases f with
 | next => obtain ⟨σ',H',I,q⟩:=h; exact ⟨σ',H',I.ofTry,q⟩
 | brk => obtain ⟨σ',H',I,q⟩:=h; exact ⟨σ',H',I.ofTry,q⟩
 | cont => obtain ⟨σ',H',I,q⟩:=h; exact ⟨σ',H',I.ofTry,q⟩
 | ret u => obtain ⟨v,σ',H',I,r,q⟩:=h; exact ⟨v,σ',H',I.ofTry,r,q⟩
end
def Tm (i:Nat) (D:Ends):Ends:={ nx:=fun σ H => D.nx (σ.set i none) H,rt:=D.rt,bk:=fun σ H => D.bk (σ.set i none) H,ct:=fun σ H => D.ct (σ.set i none) H }
def WT (K:PySem.W.Frag) (B:Addr) (i:Nat) (th:TS) (D:Ends):St→XK:=fun σ cls _ H => ∃ C,cls = .ref C∧PySem.W.kitCls K (.ref C) (.ref B) = some true∧∀ x,H x = none→th (Tm i D) (σ.set i (some (.ref x))) (BG H x (IH C x))
def ZK (tb:(St→XK)→TS) (K:PySem.W.Frag) (B:Addr) (i:Nat) (th:TS):TS:=fun D σ H => tb (WT K B i th D) D σ H
theorem PB {X:Cx} {body suite:List Stmt} {b₀:Stmt} {n x:Str} {i:Nat} {B:Addr} {np hpos pos:Pos} {tb:(St→XK)→TS} {th:TS} (hst:X.stack = X.env :: X.outer) (hex:X.ex = []) (hfr:X.env.frame = some X.env.locals) (hN:X.N.Nodup) (hi:X.N[i]? = some n)
  (hk:X.env.scope.names.lookup n = some .local) (hg:Gl X x) (hm:X.mg x = some (.ref B)) (hbe:PySem.W.mroIn X.K B (.type "BaseException") = some true)
  (hb:∀ (W:St→XK) (X':Cx),TryIs X X'→XFly X' W→PSs X' body (tb W)) (hh:∀ y,PSs (Rb X y) (b₀ :: suite) th) (hd:(x == ("__debug__" : Str)) = false:=by decide) :
  PS X (.Try body [.ExceptHandler (some (.Name x np)) (some n) (b₀ :: suite) hpos] [] [] pos) (ZK tb X.K B i th):=by
 intro pins s σ H D I h
 refine wpAny_Try_except ?_
 generalize hXE:(fun (e:Value) (s₁:Shared) => wpAny (model X.prog X.w) X.A (noteFrame e X.env) (fun _ s₂ => wpAny (model X.prog X.w) X.A (setFlight e none) (fun _ s₃ => wpAny (model X.prog X.w) X.A (handleBy e X.env [.ExceptHandler (some (.Name x np)) (some n) (b₀ :: suite) hpos]) (SP X pins D) X.xe s₃) X.xe s₂) X.xe s₁) = XE
 have xf:XFly (Dh X pins XE) (WT X.K B i th D):=by
  refine ⟨fun pins' σ1 H1 s1 e s2 I1 c => ?_⟩
  obtain ⟨y,cls,H2,rfl,F,C,rfl,kc,hq⟩:=c
  obtain ⟨B',t,b1,b2,fl⟩:=F.fly
  have fl':Heap.FlyingW B' (X.env :: X.outer) y (.ref C) (.ref t) s2.heap:=hst ▸ (show Heap.FlyingW B' X.stack y (.ref C) (.ref t) s2.heap from fl)
  have frA:X.A.frames = some (X.env :: X.outer):=hst ▸ I.ok.frames
  have inv_at:∀ hp:Heap,B'.StaysIn hp→s2.heap.UpToSlots hp→Inv X pins σ1 H2 { s2 with heap:=hp }:=fun hp st up => by
   obtain ⟨u,ho⟩:=F.un' b1 b2 fl st up
   exact Inv.ofTry (I1.call' (s':={ s2 with heap:=hp }) (ch:=[]) F.os u ho F.bare fun b z => absurd z (by simp))
  show XE (.ref y) s2
  rw [← hXE]
  refine wpAny_looks_onW frA hfr fl' fun h4 held4 up4 => ?_
  refine wpAny_landsW held4 fun h5 fl5 up5 => ?_
  have up5':=up4.trans up5
  have I5:=inv_at h5 fl5.1 up5'
  refine wpAny_handleBy_cons (codeAny_handlers_test ?_) (by intro q; cases q)
  refine Dz (X:=Rb X y) I5.toH hg hm ?_ hd
  refine Jg (K:=X.K) I5.kIn fl5.there kc hbe ?_
  refine codeAny_handlers_suite_as ?_
  refine lands_againW fl5 fun h6 fl6 up6 => ?_
  have I6:=inv_at h6 fl6.1 (up5'.trans up6)
  have hyB:B'.get? y = none:=fl.2.1
  have nofr:∀ b o,s1.heap.get? b = some o→b ∉ FZ X.stack→b≠y:=fun b o e hb z => by
   obtain ⟨o',e'⟩:=b2 b o e hb
   rw [z,hyB] at e'; cases e'
  obtain ⟨oe,vs,eoe,_,doe,_⟩:=fl.first
  have yfr:y ∉ FZ X.stack:=fun z => by
   obtain ⟨_,o',e',hd'⟩:=fl.2.2.1.mem (show y∈(Dh X pins XE).stack.filterMap (·.frame) from z)
   rw [eoe] at e'; cases e'
   exact hd' vs doe
  have hs0:X.s₀.heap.get? y = none:=by
   cases e:X.s₀.heap.get? y with
   | none => rfl
   | some o =>
    have exf:y ∉ X.ex:=by rw [hex]; simp
    obtain ⟨o1,e1⟩:=I1.base.there y o e exf
    exact absurd rfl (nofr y o1 e1 yfr)
  obtain ⟨oe6,vs6,eoe6,_,doe6,_⟩:=fl6.first
  have I7:Inv X pins σ1 (BG H2 y (IH C y)) { s2 with heap:=h6 }:=I6.track F.fr ⟨oe6,eoe6,doe6⟩ hs0 (fun p hp => by
   obtain ⟨e,_,nl,nf,_⟩:=I1.pin p (List.mem_append_left _ hp)
   exact nofr p.1 p.2 e fun z => (List.mem_cons.mp (I1.stkSub p.1 z)).elim nl nf) (Rz fl6.there)
  refine CH (X:=Rb X y) I7.toH hN hi (.inl hk) (v:=.ref y) rfl (fun s8 I8 => ?_) (.inr hk)
  refine wpAny_mono (hh y _ s8 _ _ (Tm i D) I8 (hq y F.fr)) (fun f s9 hf => ?_) fun _ _ z => False.elim z
  cases f with
  | next => obtain ⟨σ9,H9,I9,q9⟩:=hf; exact (I9.ofH I.ok).gone hN hi hk fun s10 I10 => ⟨_,_,I10,q9⟩
  | brk => obtain ⟨σ9,H9,I9,q9⟩:=hf; exact (I9.ofH I.ok).gone hN hi hk fun s10 I10 => ⟨_,_,I10,q9⟩
  | cont => obtain ⟨σ9,H9,I9,q9⟩:=hf; exact (I9.ofH I.ok).gone hN hi hk fun s10 I10 => ⟨_,_,I10,q9⟩
  | ret u => obtain ⟨v,σ9,H9,I9,r,q9⟩:=hf; exact (I9.ofH I.ok).gone hN hi hk fun s10 I10 => ⟨v,_,_,I10,r,q9⟩
 have q:=hb _ (Dh X pins XE) ⟨_,_,rfl⟩ xf [] s σ H D I.toTry h
 refine wpAny_mono q (fun f s1 hf => ?_) fun e s1 he => he
 cases f with
 | next => exact wpAny_execs_nil (SP.ofTry (f:=.next) hf)
 | brk => exact SP.ofTry (f:=.brk) hf
 | cont => exact SP.ofTry (f:=.cont) hf
 | ret u => exact SP.ofTry (f:=.ret u) hf
structure RoomH (k:Nat) (A:Around):Prop where
 dp:A.depth + 3 * k + 5 < recursionLimit
 un:A.units + 16 * k + 200 < cLine
theorem Room.toH {k:Nat} {A:Around} {x:Value} (r:Room k A):RoomH k (A.mark (some x)):=⟨r.dp,r.un⟩
structure FnH (P:Program) (w:World) (K:PySem.W.Frag) (mg:Str→Option Value) (base:Heap) (k:Nat) (f:Addr) (fd:FuncData) (ps:List Str) (sp:Sp):Prop where
 len:∀ vs H Q E,sp vs H Q E→vs.length = ps.length
 run:∀ (A:Around) (outer:List Env) (s:Shared) (H:Hp) (args:Args) (us:List Value) (vs:List V) (Q:VK),RoomH k A→Env0 P w K mg base A outer s H→BindsTo s fd args (ps.zip us)→Vals vs us→sp vs H Q E0 →
  codeAny (model P w) A (.call (.ref f) args) (CR ZI outer P w H s Q E0) s
def VB (P:Program) (w:World) (K:PySem.W.Frag) (mg:Str→Option Value) (base:Heap) (N:List Str) (qual:Str) (scope:Scope) (f:Addr) (cd:Value) (A:Around) (outer:List Env) (s:Shared) (H:Hp):Cx :=
 { DA ZI P w K mg base N qual scope f cd A outer s H E0 with calm:=false,xe:=fun _ _ => False }
theorem Fun.okH {P:Program} {w:World} {K:PySem.W.Frag} {mg:Str→Option Value} {base:Heap} {x qual:Str} {st:Stmt} {f:Addr} {fd:FuncData} {N ps:List Str} {k:Nat} {sp:Sp} (F:Fun K x qual st f fd) (S:FnScope N ps (AB st))
  (len:∀ vs H Q E,sp vs H Q E→vs.length = ps.length)
  (hbody:∀ (cdv:Value) (A:Around) (outer:List Env) (s:Shared) (H:Hp) (vs:List V) (Q:VK),RoomH k (A.deeper (envOfC qual (AB st) s.heap.objs.size f cdv))→sp vs H Q E0 →
   ∃ t,PSs (VB P w K mg base N qual (AB st) f cdv A outer s H) (Aj st) t∧t { nx:=fun _ H' => Q .non H',rt:=Q } (start N vs) H):FnH P w K mg base (k + 1) f fd ps sp:=by
 obtain ⟨oc,od,kV,doc,pm,an,cdv,ct,osl,rfl,lk,hcd⟩:=F.ex
 refine ⟨len,fun A outer s H args us vs Q hr e0 hb r hsp => ?_⟩
 have hl:=len _ _ _ _ hsp
 have KX:K.In s.heap:=e0.mod.kin.keeps fun b o e => (e0.bs b o e).1
 have lim:s.heap.NoLimit:=e0.mod.nolimit.keeps fun b o e => (e0.bs b o e).1
 have hkind:∀ y∈ps.zip us,(AB st).names.lookup y.1 = some .local∨((AB st).names.lookup y.1 = some .cell∧((cellsFrom (s.heap.objs.size + 1) (AB st).names []).lookup y.1).isSome = true):=fun ⟨n,v⟩ hy => by
  rcases S.par n (List.of_mem_zip hy).1 with q | q
  ·exact .inl q
  ·exact .inr ⟨q,PySem.W.cellsFrom_some _ _ _ (.inl q)⟩
 refine codeAny_call_function (by have:=hr.dp; omega) (KX _ _ lk) rfl S.co S.gen rfl (PySem.W.codeRec_of KX hcd) (hb _ _ _ _ ?_)
 refine wpAny_newFunctionEnv_cells S.kind hkind fun env he s1 x => ?_
 subst he
 refine ⟨lim.keeps x.toInCall.keep,codeAny_func ?_⟩
 obtain ⟨t,ht,hq⟩:=hbody cdv A outer s H vs Q ⟨by have:=hr.dp; show A.depth + 1 + 3 * k + 5 < _; omega,by have:=hr.un; show A.units + 3 + 16 * k + 200 < _; omega⟩ hsp
 have I0:Inv (DA ZI P w K mg base N qual (AB st) f cdv { A with handled:=none } outer s H E0) [] (start N vs) H s1 :=
  HJ S rfl (⟨e0.frames,e0.mod,e0.bs,e0.bsz,e0.funs,e0.frf,e0.hok,e0.bare⟩:Env0 P w K mg base { A with handled:=none } outer s H) hl r x
 have I:Inv (VB P w K mg base N qual (AB st) f cdv A outer s H) [] (start N vs) H s1:=by
  have ok:=I0.ok
  exact ⟨⟨ok.mod,ok.kind,ok.glob,ok.blt,ok.above,ok.inj,ok.has,ok.cab,fun (e:false = true) => (Bool.false_ne_true e).elim,ok.frames,ok.stk,ok.exf,ok.bs,ok.bsz,ok.noex,ok.exfs,ok.funs,ok.frf⟩,I0.os,I0.bare,I0.base,I0.loc,I0.cell,I0.free,I0.freeC,I0.pin,I0.hok,I0.len⟩
 refine wpAny_mono (ht [] s1 (start N vs) H _ I hq) (fun fl s' hs => ?_) fun e s' hs => False.elim hs
 have fin:∀ {σ':St} {H':Hp} {v:V} {u:Value},Inv (VB P w K mg base N qual (AB st) f cdv A outer s H) [] σ' H' s'→RelV v u→Q v H'→CE outer P w H s Q u s' :=
  fun {σ' H' v u} J rv q => ⟨v,H',J.os,J.bare,J.base,J.hok,rv,q⟩
 cases fl with
 | ret u =>
  obtain ⟨v,σ',H',J,rv,q⟩:=hs
  exact fin J rv q
 | next =>
  obtain ⟨σ',H',J,q⟩:=hs
  exact fin (v:=V.non) (u:=Value.none) J rfl q
 | brk =>
  obtain ⟨_,_,_,q⟩:=hs
  exact False.elim q
 | cont =>
  obtain ⟨_,_,_,q⟩:=hs
  exact False.elim q
theorem Jh {X:Cx} {k:Nat} {f:Addr} {fd:FuncData} {ps:List Str} {sp:Sp} {x:Str} {p pos:Pos} {e:Expr} {es:List Expr} {t:TA} (F:FnH X.prog X.w X.K X.mg X.base k f fd ps sp) (hr:RoomH k X.A) (hg:Gl X x) (hm:X.mg x = some (.ref f)) (hk:PySem.W.keepIn X.K (.ref f) = true) (hb:Binds X.K fd ps [])
  (ha:PA X (e :: es) t) (hdb:(x == ("__debug__" : Str)) = false:=by decide) (he:starEach (e :: es) X.env = (false,eval e X.env) :: starEach es X.env:=by rfl) (hpl:(backTo pos (starEach es X.env)).any (·.1) = false:=by rfl) :
  PE X (.Call (.Name x p) (e :: es) [] pos) (LG sp (fun _ => E0) t):=by
 intro pins s σ H Q I h
 refine wpAny_Call_Name_kw (Dz I hg hm ?_ hdb)
 refine PySem.W.callWith_K (h₀:=X.base) I.ok.mod.kin hk (Av (ha pos pins s σ H _ I h) fun us s1 ⟨vs,H1,I1,r,q⟩ => ⟨I1.kIn,?_⟩) he hpl
 have r2:Vals vs (us ++ []):=by rw [List.append_nil]; exact r
 have hl:(us ++ []).length = ps.length:=by rw [← r2.length]; exact F.len _ _ _ _ q
 refine wpAny_call (codeAny_mono (F.run X.A X.stack s1 H1 ⟨us,[]⟩ (us ++ []) vs Q hr I1.env0 (hb s1 us I1.kIn hl) r2 q) fun r s' hq => ?_)
 cases r with
 | error e => exact False.elim hq
 | ok fl =>
  cases fl with
  | ret u => exact I1.after hq
  | next => exact False.elim hq
  | brk => exact False.elim hq
  | cont => exact False.elim hq
theorem Fun.okX {P:Program} {w:World} {K:PySem.W.Frag} {mg:Str→Option Value} {base:Heap} {x qual:Str} {st:Stmt} {f:Addr} {fd:FuncData} {N ps:List Str} {k:Nat} {sp:Sp} (F:Fun K x qual st f fd) (S:FnScope N ps (AB st)) (len:∀ vs H Q E,sp vs H Q E→vs.length = ps.length)
  (hbody:∀ (cdv:Value) (A:Around) (outer:List Env) (s:Shared) (H:Hp) (vs:List V) (Q:VK) (E:XK),Room k (A.deeper (envOfC qual (AB st) s.heap.objs.size f cdv))→sp vs H Q E →
   ∃ t,PSs (DA (CXe P w) P w K mg base N qual (AB st) f cdv A outer s H E) (Aj st) t∧t { nx:=fun _ H' => Q .non H',rt:=Q } (start N vs) H):FnOk P w K mg base (CXe P w) (k + 1) f fd ps sp:=by
 obtain ⟨oc,od,kV,doc,pm,an,cdv,ct,osl,rfl,lk,hcd⟩:=F.ex
 exact XA lk hcd S len fun A outer s H vs Q E hr hsp => hbody cdv A outer s H vs Q E hr hsp
section
variable {X:Cx}
def aD (K:PySem.W.Frag) (H:Hp) (x:V) (t:Value):Prop:=TyOf K H x t∨∃ a D,x = .ref a∧t = .ref D∧H a = some (IH D a)∧ExcCls K D
def XR (K:PySem.W.Frag):List V→Hp→VK→Prop:=fun vs H Q => ∃ x c t cv b,vs = [x,c]∧RelV c cv∧aD K H x t∧PySem.W.kitOne K t cv = some b∧Q (.bl b) H
theorem BM:BQ X (.builtin "isinstance") (XR X.K):=by
 intro pins s σ H xs us Q I r h
 obtain ⟨x,c,t,cv,b,rfl,rc,ty,e,q⟩:=h
 obtain ⟨u,w',rfl,rx,rw'⟩:=On r
 have e2:w' = cv:=by
  cases c with
  | ty n => exact (show w' = Value.type n from rw').trans (show cv = Value.type n from rc).symm
  | ref a => exact (show w' = Value.ref a from rw').trans (show cv = Value.ref a from rc).symm
  | non => exact (show w' = Value.none from rw').trans (show cv = Value.none from rc).symm
  | bl b => exact (show w' = Value.bool b from rw').trans (show cv = Value.bool b from rc).symm
  | int i => exact absurd e (by obtain ⟨k,rfl⟩:=rc; unfold PySem.W.kitOne; rcases ty with ty | ⟨_,_,_,rfl,_⟩ <;> first | (cases ty <;> (intro z; simp [PySem.W.kitCls] at z)) | (intro z; simp [PySem.W.kitCls] at z))
  | str i => exact absurd e (by obtain ⟨k,rfl⟩:=rc; unfold PySem.W.kitOne; rcases ty with ty | ⟨_,_,_,rfl,_⟩ <;> first | (cases ty <;> (intro z; simp [PySem.W.kitCls] at z)) | (intro z; simp [PySem.W.kitCls] at z))
  | byt i => exact absurd e (by obtain ⟨k,rfl⟩:=rc; unfold PySem.W.kitOne; rcases ty with ty | ⟨_,_,_,rfl,_⟩ <;> first | (cases ty <;> (intro z; simp [PySem.W.kitCls] at z)) | (intro z; simp [PySem.W.kitCls] at z))
  | flt i => exact absurd e (by obtain ⟨k,rfl⟩:=rc; unfold PySem.W.kitOne; rcases ty with ty | ⟨_,_,_,rfl,_⟩ <;> first | (cases ty <;> (intro z; simp [PySem.W.kitCls] at z)) | (intro z; simp [PySem.W.kitCls] at z))
 subst e2
 rcases ty with ty | ⟨a,D,rfl,rfl,hx,k⟩
 ·exact Ni I rx ty e fun tk => ⟨.bl b,H,I.tok tk,rfl,q⟩
 ·cases (show u = Value.ref a from rx)
  exact LI I hx k e fun tk => ⟨.bl b,H,I.tok tk,rfl,q⟩
theorem PC:Yd X .Mult (fun x y H Q => ∃ i j,x = .int i∧y = .int j∧CMul i j∧Q (.int (i * j)) H):=by
 intro pins s σ H x y v u Q I r1 r2 h
 obtain ⟨i,j,e1,e2,hc,q⟩:=h
 subst e1; subst e2
 obtain ⟨t,rfl⟩:=r1
 obtain ⟨t',rfl⟩:=r2
 exact PyProof.Rows.imul_int ⟨.int _,H,I.tok _,⟨_,rfl⟩,q⟩ hc.ok
def LJ:List V→List V→Bool
 | [],[] => true
 | x :: xs,y :: ys => Eg x y && LJ xs ys
 | _,_ => false
theorem Fk:∀ {xs ys:List V},xs.length = ys.length→(List.range xs.length).all (fun j => Eg (xs.getD j .non) (ys.getD j .non)) = LJ xs ys
 | [],[],_ => rfl
 | x :: xs,y :: ys,h => by
  have ih:=Fk (xs:=xs) (ys:=ys) (by simpa using h)
  rw [List.length_cons,List.range_succ_eq_map,List.all_cons,List.all_map]
  show (Eg x y && _) = (Eg x y && LJ xs ys)
  rw [← ih]
  rfl
 | [],_ :: _,h => by simp at h
 | _ :: _,[],h => by simp at h
def ZL (K:PySem.W.Frag):R2:=fun x y H Q => ∃ a b xs ys,x = .ref a∧y = .ref b∧SqL K H a xs∧SqL K H b ys∧xs.all Bh = true∧ys.all Bh = true∧xs.length = ys.length∧Q (.bl (!LJ xs ys)) H
theorem VC (hu:X.A.units < cLine):Co X (compareOp .NotEq) (ZL X.K):=by
 intro pins s σ H x y v u Q I rx ry h
 obtain ⟨a,b,xs,ys,rfl,rfl,ha,hb,fx,fy,hl,q⟩:=h
 cases rx; cases ry
 obtain ⟨its,r1,p1,z1⟩:=I.list ha
 obtain ⟨its2,r2,p2,z2⟩:=I.list hb
 have l1:=r1.length
 have l2:=r2.length
 refine SeqAt.RcNeAt.lists (e:=fun j => Eg (xs.getD j .non) (ys.getD j .non)) p1.isList p2.isList (by simp only [List.size_toArray]; omega) hu (fun j h1 h2 => ?_) _ _ _ _ ?_
 ·have j1:j < xs.length:=by simp only [List.size_toArray] at h1; omega
  have j2:j < ys.length:=by omega
  obtain ⟨u1,e1,q1⟩:=r1.get (i:=j) (x:=xs[j]) (by simp [j1])
  obtain ⟨u2,e2,q2⟩:=r2.get (i:=j) (x:=ys[j]) (by simp [j2])
  have f1:Bh xs[j] = true:=List.all_eq_true.mp fx _ (List.getElem_mem _)
  have f2:Bh ys[j] = true:=List.all_eq_true.mp fy _ (List.getElem_mem _)
  have d1:xs.getD j .non = xs[j]:=by simp [List.getD,j1]
  have d2:ys.getD j .non = ys[j]:=by simp [List.getD,j2]
  show SeqAt.EqAt _ _ its.toArray[j] its2.toArray[j] (Eg (xs.getD j .non) (ys.getD j .non))
  rw [d1,d2]
  have g1:its.toArray[j] = u1:=by
   have:its[j]'(by omega) = u1:=Option.some.inj (by rw [← e1]; simp)
   simpa using this
  have g2:its2.toArray[j] = u2:=by
   have:its2[j]'(by omega) = u2:=Option.some.inj (by rw [← e2]; simp)
   simpa using this
  rw [g1,g2]
  exact Ou q1 q2 f1 f2
 ·refine ⟨.bl _,H,I,rfl,?_⟩
  have e:(List.range its.toArray.size).all (fun j => Eg (xs.getD j .non) (ys.getD j .non)) = LJ xs ys:=by
   rw [List.size_toArray,← l1]; exact Fk hl
  rw [e]
  exact q
def VD (K:PySem.W.Frag):V→List V→Hp→VK→Prop:=fun x vs H Q => ∃ l xs y,x = .ref l∧vs = [y]∧SqL K H l xs∧Bh y = true∧xs.all Bh = true∧Q (.int (xs.countP fun z => Eg z y)) H
theorem Fl {x:V}:∀ {xs:List V} {us:List Value},Vals xs us→xs.all Bh = true→us.countP (Wb x) = xs.countP fun y => Eg y x
 | _,_,.nil,_ => rfl
 | y :: xs,u :: us,.cons r t,f => by
  rw [List.all_cons,Bool.and_eq_true] at f
  rw [List.countP_cons,List.countP_cons,LD r f.1,Fl t f.2]
theorem Ji:Yh X "list.count" (VD X.K):=by
 intro pins s σ H x vs v us Q I rx rv h
 obtain ⟨l,xs,y,rfl,rfl,hl,fy,fx,q⟩:=h
 cases rx
 obtain ⟨u,rfl,ru⟩:=rv.one
 obtain ⟨its,r,p,hz⟩:=I.list hl
 obtain ⟨⟨cls,dd,data,sl⟩,n,ho,hc,hdd,hd⟩:=id p
 simp only at hc hd
 subst hc hd
 refine call_meets F.slot_list_count ⟨_,ho,rfl⟩ F.entry_list_count (F.args_list_count_2 _ _) (SeqAt.list_countAt l its.toArray n dd sl u (Wb y)) ⟨ho,fun z hz => Fh ru fy r fx z (by simpa using hz),?_⟩
 rw [show its.toArray.toList = its from rfl,Fl r fx]
 exact ⟨.int _,H,I.tok _,⟨_,rfl⟩,q⟩
def VE (K:PySem.W.Frag):V→List V→Hp→VK→Prop:=fun x vs H Q => ∃ l xs y j,x = .ref l∧vs = [y]∧SqL K H l xs∧Bh y = true∧xs.all Bh = true∧(∃ z,xs[j]? = some z∧Eg z y = true)∧(∀ m z,m < j→xs[m]? = some z→Eg z y = false)∧Q (.int (j:Nat)) H
theorem PD:Yh X "list.index" (VE X.K):=by
 intro pins s σ H x vs v us Q I rx rv h
 obtain ⟨l,xs,y,j,rfl,rfl,hl,fy,fx,⟨z,ez,hit⟩,hno,q⟩:=h
 cases rx
 obtain ⟨u,rfl,ru⟩:=rv.one
 obtain ⟨its,r,p,hz⟩:=I.list hl
 obtain ⟨⟨cls,dd,data,sl⟩,n,ho,hc,hdd,hd⟩:=id p
 simp only at hc hd
 subst hc hd
 have hlen:=r.length
 have hj:j < xs.length:=(List.getElem?_eq_some_iff.mp ez).1
 have at_:∀ m (hm:m < its.toArray.size) z,xs[m]? = some z→Wb y its.toArray[m] = Eg z y:=fun m hm z e => by
  obtain ⟨w',e',rw'⟩:=r.get e
  have:its.toArray[m] = w':=by
   have:its[m]'(by simpa using hm) = w':=Option.some.inj (by rw [← e']; simp)
   simpa using this
  rw [this]
  exact LD rw' (List.all_eq_true.mp fx z (List.mem_of_getElem? e))
 refine call_meets F.slot_list_index ⟨_,ho,rfl⟩ F.entry_list_index (F.args_list_index_2 _ _)
  (SeqAt.list_indexAt l its.toArray n dd sl u (Wb y) j (by simpa [← hlen] using hj) (by have:=Ee; omega) ?_ ?_) ⟨ho,fun z hz => Fh ru fy r fx z (by simpa using hz),⟨.int _,H,I.tok _,⟨_,rfl⟩,q⟩⟩
 ·rw [at_ j _ z ez]; exact hit
 ·intro m hm hlt
  have hmx:m < xs.length:=by omega
  rw [at_ m hm xs[m] (by simp [hmx])]
  exact hno m _ hlt (by simp [hmx])
end
end L2
namespace StT
local macro_rules | `(tactic| omega) => `(tactic| first | lia | omega)
open PySem PySem.SetTable
theorem LK:∀ (m:Nat) (l:List Nat),(∀ e,e < m→e∈l)→m≤l.length
 | 0,_,_ => Nat.zero_le _
 | m + 1,l,h => by
  have hm:m∈l:=h m (Nat.lt_succ_self m)
  have ih:=LK m (l.erase m) fun e he => by
   rw [List.mem_erase_of_ne (Nat.ne_of_lt he)]
   exact h e (Nat.lt_succ_of_lt he)
  rw [List.length_erase_of_mem hm] at ih
  have:0 < l.length:=List.length_pos_of_mem hm
  omega
theorem BW:∀ (n:Nat) (l:List Nat),l.Nodup→(∀ x∈l,x < n)→l.length≤n
 | 0,[],_,_ => Nat.le_refl _
 | 0,x :: _,_,h => absurd (h x List.mem_cons_self) (Nat.not_lt_zero _)
 | n + 1,l,nd,h => by
  have ih:=BW n (l.erase n) (nd.erase n) fun x hx => by
   have h1:=h x (List.mem_of_mem_erase hx)
   have h2:x≠n:=fun e => by
    subst e
    exact absurd hx (List.Nodup.not_mem_erase nd)
   omega
  by_cases hn:n∈l
  ·rw [List.length_erase_of_mem hn] at ih
   omega
  ·rw [List.erase_of_not_mem hn] at ih
   omega
def PF (xs:Array Nat):Prop:=xs.toList.Pairwise (· < ·)
theorem Fm {xs:Array Nat} (r:PF xs) {i j:Nat} {x y:Nat} (hi:xs[i]? = some x) (hj:xs[j]? = some y) (h:i < j):x < y:=by
 obtain ⟨h1,rfl⟩:=Array.getElem?_eq_some_iff.mp hi
 obtain ⟨h2,rfl⟩:=Array.getElem?_eq_some_iff.mp hj
 have:=List.pairwise_iff_getElem.mp r i j (by simpa using h1) (by simpa using h2) h
 simpa using this
theorem II {xs:Array Nat} {j:Nat}:∀ (fuel lo hi:Nat),hi - lo≤fuel→lo≤hi→hi≤xs.size→(∀ i x,i < lo→xs[i]? = some x→x < j)→(∀ i x,hi≤i→xs[i]? = some x→j≤x)→PF xs →
  (below.go xs j fuel lo hi≤xs.size)∧(∀ i x,i < below.go xs j fuel lo hi→xs[i]? = some x→x < j)∧∀ i x,below.go xs j fuel lo hi≤i→xs[i]? = some x→j≤x
 | 0,lo,hi,hf,hlo,hhi,h1,h2,r => by
  have:lo = hi:=by omega
  subst this
  exact ⟨hhi,h1,h2⟩
 | fuel + 1,lo,hi,hf,hlo,hhi,h1,h2,r => by
  unfold below.go
  by_cases hl:lo < hi
  ·rw [if_pos hl]
   have hm:(lo + hi) / 2 < xs.size:=by omega
   have em:xs[(lo + hi) / 2]? = some xs[(lo + hi) / 2]:=by simp [hm]
   have eg:xs.getD ((lo + hi) / 2) j = xs[(lo + hi) / 2]:=by simp [Array.getD,hm]
   dsimp only
   rw [eg]
   by_cases hc:xs[(lo + hi) / 2] < j
   ·rw [if_pos hc]
    refine II fuel _ _ (by omega) (by omega) hhi (fun i x hi' e => ?_) h2 r
    by_cases hx:i = (lo + hi) / 2
    ·subst hx
     rw [em] at e; cases e
     exact hc
    ·exact Nat.lt_trans (Fm r e em (by omega)) hc
   ·rw [if_neg hc]
    refine II fuel _ _ (by omega) (by omega) (by omega) h1 (fun i x hi' e => ?_) r
    by_cases hx:i = (lo + hi) / 2
    ·subst hx
     rw [em] at e; cases e
     omega
    ·have:=Fm r em e (by omega)
     omega
  ·rw [if_neg hl]
   have:lo = hi:=by omega
   subst this
   exact ⟨hhi,h1,h2⟩
theorem Ca {xs:Array Nat} {j:Nat} (r:PF xs):(below xs j≤xs.size)∧(∀ i x,i < below xs j→xs[i]? = some x→x < j)∧∀ i x,below xs j≤i→xs[i]? = some x→j≤x :=
 II _ _ _ (by omega) (by omega) (Nat.le_refl _) (fun i x h => absurd h (Nat.not_lt_zero _)) (fun i x h e => by
  have:=(Array.getElem?_eq_some_iff.mp e).1
  omega) r
theorem Bo {xs:Array Nat} {i j:Nat} (r:PF xs) (h:xs[i]? = some j):below xs j = i:=by
 obtain ⟨b1,b2,b3⟩:=Ca (j:=j) r
 have hi:i < xs.size:=(Array.getElem?_eq_some_iff.mp h).1
 apply Nat.le_antisymm
 ·apply Nat.le_of_not_lt
  intro hc
  exact absurd (b2 i j hc h) (Nat.lt_irrefl _)
 ·apply Nat.le_of_not_lt
  intro hc
  have e:xs[below xs j]? = some xs[below xs j]:=by simp [Nat.lt_trans hc hi]
  have h1:=b3 _ _ (Nat.le_refl _) e
  have h2:=Fm r e h hc
  omega
theorem BC {α:Type} (xs:Array α) (p:Nat) (x:α):(insertAt xs p x).toList = xs.toList.take p ++ x :: xs.toList.drop p:=by
 unfold insertAt
 simp
 rw [List.take_of_length_le (by simp)]
theorem getElem?_insertAt {α:Type} (xs:Array α) (p:Nat) (x:α) (hp:p≤xs.size) (i:Nat):(insertAt xs p x)[i]? = if i < p then xs[i]? else if i = p then some x else xs[i - 1]?:=by
 have e:(insertAt xs p x)[i]? = (insertAt xs p x).toList[i]?:=by simp
 rw [e,BC]
 have hl:(xs.toList.take p).length = p:=by simp [hp]
 by_cases h1:i < p
 ·rw [if_pos h1,List.getElem?_append_left (by omega),List.getElem?_take_of_lt h1]
  simp
 ·rw [if_neg h1,List.getElem?_append_right (by omega),hl]
  by_cases h2:i = p
  ·subst h2
   simp
  ·rw [if_neg h2]
   have:i - p = (i - p - 1) + 1:=by omega
   rw [this,List.getElem?_cons_succ,List.getElem?_drop]
   have:p + (i - p - 1) = i - 1:=by omega
   rw [this]
   simp
theorem CA {α:Type} (xs:Array α) (p:Nat) (x:α) (hp:p≤xs.size):(insertAt xs p x).size = xs.size + 1:=by
 rw [← Array.length_toList,BC]
 simp
 omega
theorem LL {xs:Array Nat} {j:Nat} (r:PF xs) (hj:∀ i:Nat,xs[i]?≠some j):PF (insertAt xs (below xs j) j):=by
 obtain ⟨b1,b2,b3⟩:=Ca (j:=j) r
 unfold PF
 rw [BC]
 have lt:∀ y∈xs.toList.take (below xs j),y < j:=fun y hy => by
  obtain ⟨i,hi⟩:=List.getElem?_of_mem hy
  have hlt:i < below xs j:=by
   have:=(List.getElem?_eq_some_iff.mp hi).1
   simp at this; omega
  rw [List.getElem?_take_of_lt hlt] at hi
  exact b2 i y hlt (by simpa using hi)
 have gt:∀ y∈xs.toList.drop (below xs j),j < y:=fun y hy => by
  obtain ⟨i,hi⟩:=List.getElem?_of_mem hy
  rw [List.getElem?_drop] at hi
  have hi':xs[below xs j + i]? = some y:=by simpa using hi
  have h1:=b3 _ y (Nat.le_add_right _ _) hi'
  have h2:y≠j:=fun e => hj _ (e ▸ hi')
  omega
 refine List.pairwise_append.mpr ⟨List.Pairwise.sublist (List.take_sublist _ _) r,List.pairwise_cons.mpr ⟨gt,List.Pairwise.sublist (List.drop_sublist _ _) r⟩,fun a ha b hb => ?_⟩
 rcases List.mem_cons.mp hb with rfl | hb
 ·exact lt a ha
 ·exact Nat.lt_trans (lt a ha) (gt b hb)
def adv (m:Nat) (p:Probe):Probe:=(SetTable.mk m #[] #[] 0 false 0 false).advance p
theorem Fn (t:SetTable) (p:Probe):t.advance p = adv t.mask p:=rfl
theorem Fo {m:Nat} {p:Probe} (h:0 < p.more):adv m p = ⟨p.j + 1,p.more - 1,p.i,p.perturb,p.dummy⟩:=by
 unfold adv advance
 exact if_pos h
theorem Fp {m:Nat} {p:Probe} (h:¬ 0 < p.more):adv m p = ⟨(leap m p.i p.perturb).1,runEnd m (leap m p.i p.perturb).1 - (leap m p.i p.perturb).1,(leap m p.i p.perturb).1,(leap m p.i p.perturb).2,p.dummy⟩:=by
 unfold adv advance
 exact if_neg h
def advN (m:Nat):Nat→Probe→Probe
 | 0,p => p
 | n + 1,p => advN m n (adv m p)
theorem Bp (m:Nat):∀ (a b:Nat) (p:Probe),advN m (a + b) p = advN m b (advN m a p)
 | 0,b,p => by rw [Nat.zero_add]; rfl
 | a + 1,b,p => by
  rw [Nat.succ_add]
  exact Bp m a b (adv m p)
theorem HL (m n:Nat) (p:Probe):advN m (n + 1) p = adv m (advN m n p):=Bp m n 1 p
def st (m:Nat) (x:Nat × Nat) (d:Option Nat):Probe:={ j:=x.1,more:=runEnd m x.1 - x.1,i:=x.1,perturb:=x.2,dummy:=d }
theorem Jj (t:SetTable) (h:Int):t.probeStart h = st t.mask (bits h % (t.mask + 1),bits h) none:=rfl
def LM (m:Nat):Nat→Nat × Nat→Nat × Nat
 | 0,x => x
 | n + 1,x => LM m n (leap m x.1 x.2)
theorem Eh (m i:Nat) (h:i≤m):i + (runEnd m i - i)≤m∧runEnd m i - i≤9:=by
 unfold runEnd
 split <;> omega
theorem IJ (m:Nat):∀ (k:Nat) (p:Probe),k≤p.more→advN m k p = { p with j:=p.j + k,more:=p.more - k }
 | 0,p,_ => rfl
 | k + 1,p,h => by
  show advN m k (adv m p) = _
  have e:adv m p = { p with j:=p.j + 1,more:=p.more - 1 }:=Fo (by omega)
  rw [e,IJ m k _ (by show k≤p.more - 1; omega)]
  show ({ p with j:=p.j + 1 + k,more:=p.more - 1 - k }:Probe) = { p with j:=p.j + (k + 1),more:=p.more - (k + 1) }
  rw [show p.j + 1 + k = p.j + (k + 1) by omega,show p.more - 1 - k = p.more - (k + 1) by omega]
theorem Fq (m:Nat) (p:Probe):advN m (p.more + 1) p = st m (leap m p.i p.perturb) p.dummy:=by
 rw [HL,IJ m p.more p (Nat.le_refl _)]
 rw [Fp (by show ¬ 0 < p.more - p.more; omega)]
 rfl
theorem Fs (m:Nat):∀ (L:Nat) (x:Nat × Nat),x.1≤m→(LM m L x).1≤m
 | 0,_,h => h
 | L + 1,x,_ => Fs m L _ (by show (x.1 * 5 + 1 + x.2 / 32) % (m + 1)≤m; have:=Nat.mod_lt (x.1 * 5 + 1 + x.2 / 32) (show 0 < m + 1 by omega); omega)
theorem PH (m:Nat):∀ (L:Nat) (x:Nat × Nat) (d:Option Nat),x.1≤m→∃ n,n≤10 * L∧advN m n (st m x d) = st m (LM m L x) d
 | 0,x,d,_ => ⟨0,by omega,rfl⟩
 | L + 1,x,d,h => by
  have hl:(leap m x.1 x.2).1≤m:=Fs m 1 x h
  obtain ⟨n,hn,e⟩:=PH m L (leap m x.1 x.2) d hl
  have h9:=(Eh m x.1 h).2
  refine ⟨(st m x d).more + 1 + n,?_,?_⟩
  ·show runEnd m x.1 - x.1 + 1 + n≤_; omega
  ·rw [Bp,Fq]
   exact e
theorem Mb (m:Nat):∀ (a b:Nat) (x:Nat × Nat),LM m (a + b) x = LM m b (LM m a x)
 | 0,b,x => by rw [Nat.zero_add]; rfl
 | a + 1,b,x => by rw [Nat.succ_add]; exact Mb m a b _
theorem Mc (m:Nat):∀ (L:Nat) (x:Nat × Nat),(LM m L x).2 = x.2 / 32 ^ L
 | 0,x => by simp [LM]
 | L + 1,x => by
  show (LM m L (leap m x.1 x.2)).2 = _
  rw [Mc m L]
  show x.2 / 32 / 32 ^ L = x.2 / 32 ^ (L + 1)
  rw [Nat.div_div_eq_div_mul,Nat.pow_succ,Nat.mul_comm]
def Wc (m:Nat):Nat→Nat→List Nat
 | 0,_ => []
 | n + 1,i => i :: Wc m n ((i * 5 + 1) % (m + 1))
def fN (m:Nat):Nat→Nat→Nat
 | 0,i => i
 | n + 1,i => fN m n ((i * 5 + 1) % (m + 1))
theorem XS (m:Nat):∀ (L i:Nat),LM m L (i,0) = (fN m L i,0)
 | 0,_ => rfl
 | L + 1,i => by
  show LM m L ((i * 5 + 1 + 0 / 32) % (m + 1),0 / 32) = _
  rw [Nat.zero_div,Nat.add_zero]
  exact XS m L _
theorem IL (m:Nat):∀ (a b x:Nat),fN m (a + b) x = fN m b (fN m a x)
 | 0,b,x => by rw [Nat.zero_add]; rfl
 | a + 1,b,x => by rw [Nat.succ_add]; exact IL m a b _
theorem IM (m:Nat):∀ (n i e:Nat),e∈Wc m n i→∃ k,k < n∧fN m k i = e
 | 0,_,_,h => by simp [Wc] at h
 | n + 1,i,e,h => by
  rcases List.mem_cons.mp h with rfl | h
  ·exact ⟨0,Nat.succ_pos _,rfl⟩
  ·obtain ⟨k,hk,hf⟩:=IM m n _ e h
   exact ⟨k + 1,by omega,hf⟩
def Bq (m:Nat):Prop:=m = 7∨m = 31∨m = 127∨m = 511
theorem ZM {m:Nat} (h:Bq m):fN m (m + 1) 0 = 0∧∀ e,e≤m→e∈Wc m (m + 1) 0:=by
 have all:∀ k,((List.range (k + 1)).all fun e => (Wc k (k + 1) 0).contains e) = true→∀ e,e≤k→e∈Wc k (k + 1) 0:=fun k hk e he => by
  have:=List.all_eq_true.mp hk e (List.mem_range.mpr (Nat.lt_succ_of_le he))
  exact List.contains_iff_mem.mp this
 rcases h with rfl | rfl | rfl | rfl
 ·exact ⟨by decide +kernel,all 7 (by decide +kernel)⟩
 ·exact ⟨by decide +kernel,all 31 (by decide +kernel)⟩
 ·exact ⟨by decide +kernel,all 127 (by decide +kernel)⟩
 ·exact ⟨by decide +kernel,all 511 (by decide +kernel)⟩
theorem aE {m:Nat} (h:Bq m) {i e:Nat} (hi:i≤m) (he:e≤m):∃ k,k≤m∧fN m k i = e:=by
 obtain ⟨c0,call⟩:=ZM h
 obtain ⟨a,ha,ea⟩:=IM m _ _ _ (call i hi)
 obtain ⟨b,hb,eb⟩:=IM m _ _ _ (call e he)
 by_cases hab:a≤b
 ·refine ⟨b - a,by omega,?_⟩
  rw [← ea,← IL,show a + (b - a) = b by omega]
  exact eb
 ·refine ⟨m + 1 - a + b,by omega,?_⟩
  rw [← ea,← IL,show a + (m + 1 - a + b) = (m + 1) + b by omega,IL,c0]
  exact eb
structure Pr (m:Nat) (p:Probe):Prop where
 ij:p.j + p.more≤m
 more:p.more≤9
 i:p.i≤m
 pert:p.perturb < 2 ^ 64
theorem Pr.st {m:Nat} {x:Nat × Nat} {d:Option Nat} (h1:x.1≤m) (h2:x.2 < 2 ^ 64):Pr m (st m x d):=⟨(Eh m x.1 h1).1,(Eh m x.1 h1).2,h1,h2⟩
theorem Pr.adv {m:Nat} {p:Probe} (h:Pr m p):Pr m (adv m p):=by
 by_cases hm:0 < p.more
 ·rw [Fo hm]
  exact ⟨by have:=h.ij; show p.j + 1 + (p.more - 1)≤m; omega,by have:=h.more; show p.more - 1≤9; omega,h.i,h.pert⟩
 ·rw [Fp hm]
  have hl:(leap m p.i p.perturb).1≤m:=Fs m 1 (p.i,p.perturb) h.i
  exact ⟨(Eh m _ hl).1,(Eh m _ hl).2,hl,Nat.lt_of_le_of_lt (Nat.div_le_self _ _) h.pert⟩
theorem Pr.advN {m:Nat}:∀ {n:Nat} {p:Probe},Pr m p→Pr m (advN m n p)
 | 0,_,h => h
 | n + 1,_,h => Pr.advN (n:=n) h.adv
theorem Pr.j {m:Nat} {p:Probe} (h:Pr m p):p.j≤m:=by have:=h.ij; omega
theorem Md (h:Int):bits h < 2 ^ 64:=by
 unfold bits
 have h1:=Int.emod_nonneg h (show (2 ^ 64:Int)≠0 by decide)
 have h2:=Int.emod_lt_of_pos h (show (0:Int) < 2 ^ 64 by decide)
 have h3:((2:Nat) ^ 64:Nat) = 18446744073709551616:=by decide
 omega
def start (m:Nat) (h:Int):Probe:=st m (bits h % (m + 1),bits h) none
theorem Pr.start (m:Nat) (h:Int):Pr m (start m h):=Pr.st (by show bits h % (m + 1)≤m; have:=Nat.mod_lt (bits h) (show 0 < m + 1 by omega); omega) (Md h)
theorem XT {q:Nat} (h:q < 2 ^ 64):q / 32 ^ 13 = 0:=Nat.div_eq_of_lt (Nat.lt_of_lt_of_le h (by decide))
theorem Tn {m:Nat} (hm:Bq m) {x:Nat × Nat} (h1:x.1≤m) (h2:x.2 < 2 ^ 64) {e:Nat} (he:e≤m):∃ L,L≤m + 13∧(LM m L x).1 = e:=by
 have e13:LM m 13 x = ((LM m 13 x).1,0):=by
  have:=Mc m 13 x
  rw [XT h2] at this
  rw [← this]
 obtain ⟨k,hk,ek⟩:=aE hm (Fs m 13 x h1) he
 refine ⟨13 + k,by omega,?_⟩
 rw [Mb,e13,XS]
 exact ek
theorem To {m:Nat} (hm:Bq m) {p:Probe} (h:Pr m p) {e:Nat} (he:e≤m):∃ n,n < 10 * (m + 15)∧(advN m n p).j = e:=by
 have hl:(leap m p.i p.perturb).1≤m:=Fs m 1 (p.i,p.perturb) h.i
 obtain ⟨L,hL,eL⟩:=Tn hm (x:=leap m p.i p.perturb) hl (Nat.lt_of_le_of_lt (Nat.div_le_self _ _) h.pert) he
 obtain ⟨n,hn,en⟩:=PH m L (leap m p.i p.perturb) p.dummy hl
 refine ⟨p.more + 1 + n,by have:=h.more; omega,?_⟩
 rw [Bp,Fq,en]
 exact eL
theorem No (m:Nat) (p:Probe):(adv m p).dummy = p.dummy:=by
 by_cases h:0 < p.more
 ·rw [Fo h]
 ·rw [Fp h]
theorem Dn (m:Nat):∀ (n:Nat) (p:Probe),(advN m n p).dummy = p.dummy
 | 0,_ => rfl
 | n + 1,p => (Dn m n _).trans (No m p)
end StT
namespace StT
local macro_rules | `(tactic| omega) => `(tactic| first | lia | omega)
open PySem PySem.SetTable
def Jk (t:SetTable) (j:Nat):Prop:=∃ i:Nat,t.place[i]? = some j
structure Tb (t:SetTable) (hs:List Int):Prop where
 mask:Bq t.mask
 dum:t.dummies = #[]
 ris:PF t.place
 le:∀ i j:Nat,t.place[i]? = some j→j≤t.mask
 size:t.place.size = hs.length
 fnd:∀ (i j:Nat) (h:Int),t.place[i]? = some j→hs[i]? = some h→∃ n,(advN t.mask n (start t.mask h)).j = j∧∀ k,k < n→Jk t (advN t.mask k (start t.mask h)).j
section
variable {t:SetTable} {hs:List Int}
theorem Tb.odd (T:Tb t hs):t.mask % 2 = 1:=by rcases T.mask with h | h | h | h <;> rw [h]
theorem Tb.low (T:Tb t hs):7≤t.mask:=by rcases T.mask with h | h | h | h <;> omega
theorem Tb.live (T:Tb t hs) {i j:Nat} (h:t.place[i]? = some j):t.slot j = .live i:=by
 unfold slot
 rw [Bo T.ris h]
 simp only [h,beq_self_eq_true,if_true]
theorem Tb.empty (T:Tb t hs) {j:Nat} (h:¬ Jk t j):t.slot j = .empty:=by
 unfold slot
 have h1:(t.place[below t.place j]? == some j) = false:=by
  rw [beq_eq_false_iff_ne]
  exact fun e => h ⟨_,e⟩
 have h2:has t.dummies j = false:=by
  unfold has
  rw [T.dum]
  rfl
 simp only [h1,h2,Bool.false_eq_true,if_false]
theorem Tb.room (T:Tb t hs) (h:hs.length≤t.mask):∃ e,e≤t.mask∧¬ Jk t e:=by
 apply Classical.byContradiction
 intro hn
 have:=LK (t.mask + 1) t.place.toList fun e he => by
  have:Jk t e:=Classical.byContradiction fun hc => hn ⟨e,by omega,hc⟩
  obtain ⟨i,hi⟩:=this
  exact List.mem_of_getElem? (i:=i) (by simpa using hi)
 rw [Array.length_toList,T.size] at this
 omega
theorem SB (T:Tb t hs) {hashAt:Nat→Int} {h:Int} {p:Probe} {i:Nat} (fuel:Nat) (h1:t.place[i]? = some p.j) (h2:hashAt i≠h):probe.go t hashAt h (fuel + 1) p = probe.go t hashAt h fuel (adv t.mask p):=by
 rw [probe.go,T.live h1]
 simp only [beq_iff_eq,if_neg h2,Fn]
theorem Jl (T:Tb t hs) {hashAt:Nat→Int} {h:Int}:∀ (n fuel:Nat) (p:Probe),(∀ k,k < n→∃ i,t.place[i]? = some (advN t.mask k p).j∧hashAt i≠h)→probe.go t hashAt h (fuel + n) p = probe.go t hashAt h fuel (advN t.mask n p)
 | 0,_,_,_ => rfl
 | n + 1,fuel,p,hk => by
  obtain ⟨i,h1,h2⟩:=hk 0 (Nat.succ_pos _)
  have h1:t.place[i]? = some p.j:=h1
  rw [← Nat.add_assoc,SB T _ h1 h2]
  exact Jl T n fuel _ fun k hk' => hk (k + 1) (Nat.succ_lt_succ hk')
theorem PJ (T:Tb t hs) {hashAt:Nat→Int} {h:Int} {p:Probe} {fuel:Nat} (h1:¬ Jk t p.j):probe.go t hashAt h (fuel + 1) p = some (.empty p.j p.dummy):=by
 rw [probe.go,T.empty h1]
theorem VF (T:Tb t hs) {hashAt:Nat→Int} {h:Int} {p:Probe} {fuel i:Nat} (h1:t.place[i]? = some p.j) (h2:hashAt i = h):probe.go t hashAt h (fuel + 1) p = some (.candidate p.j i (adv t.mask p)):=by
 rw [probe.go,T.live h1]
 simp only [beq_iff_eq,if_pos h2,Fn]
theorem least {S:Nat→Prop}:∀ (n:Nat),S n→∃ m,m≤n∧S m∧∀ k,k < m→¬ S k:=by
 intro n
 induction n using Nat.strongRecOn with
 | ind n ih =>
  intro hn
  by_cases h:∃ k,k < n∧S k
  ·obtain ⟨k,hk,sk⟩:=h
   obtain ⟨m,h1,h2,h3⟩:=ih k hk sk
   exact ⟨m,by omega,h2,h3⟩
  ·exact ⟨n,Nat.le_refl _,hn,fun k hk sk => h ⟨k,hk,sk⟩⟩
theorem Ev (T:Tb t hs) (hl:hs.length≤t.mask) {p:Probe} (pr:Pr t.mask p) (hashAt:Nat→Int) (h:Int):∃ n,(∀ k,k < n→∃ i,t.place[i]? = some (advN t.mask k p).j∧hashAt i≠h) ∧
  ((¬ Jk t (advN t.mask n p).j∧t.probe hashAt h p = some (.empty (advN t.mask n p).j p.dummy))∨∃ i,t.place[i]? = some (advN t.mask n p).j∧hashAt i = h∧t.probe hashAt h p = some (.candidate (advN t.mask n p).j i (advN t.mask (n + 1) p))):=by
 obtain ⟨e,he,hne⟩:=T.room hl
 obtain ⟨n0,hn0,en0⟩:=To T.mask pr he
 obtain ⟨n,hn,sn,ln⟩:=least (S:=fun n => ¬ Jk t (advN t.mask n p).j∨∃ i,t.place[i]? = some (advN t.mask n p).j∧hashAt i = h) n0 (.inl (by rw [en0]; exact hne))
 have pre:∀ k,k < n→∃ i,t.place[i]? = some (advN t.mask k p).j∧hashAt i≠h:=fun k hk => by
  have:=ln k hk
  have ho:Jk t (advN t.mask k p).j:=Classical.byContradiction fun hc => this (.inl hc)
  obtain ⟨i,hi⟩:=ho
  exact ⟨i,hi,fun z => this (.inr ⟨i,hi,z⟩)⟩
 have hfuel:10 * turns t.mask = (10 * (t.mask + 15) - n - 1 + 1) + n:=by unfold turns; omega
 refine ⟨n,pre,?_⟩
 unfold probe
 rw [hfuel,Jl T n _ p pre]
 rcases sn with sn | ⟨i,h1,h2⟩
 ·exact .inl ⟨sn,by rw [PJ T sn,Dn]⟩
 ·exact .inr ⟨i,h1,h2,by rw [VF T h1 h2,HL]⟩
theorem Tb.put (T:Tb t hs) {h:Int} {n:Nat} (hfree:¬ Jk t (advN t.mask n (start t.mask h)).j) (hway:∀ k,k < n→Jk t (advN t.mask k (start t.mask h)).j) :
  Tb (t.put (advN t.mask n (start t.mask h)).j).1 (hs.take (t.put (advN t.mask n (start t.mask h)).j).2 ++ h :: hs.drop (t.put (advN t.mask n (start t.mask h)).j).2)∧(t.put (advN t.mask n (start t.mask h)).j).2≤hs.length ∧
   (t.put (advN t.mask n (start t.mask h)).j).1.mask = t.mask∧(t.put (advN t.mask n (start t.mask h)).j).1.plain = t.plain∧(t.put (advN t.mask n (start t.mask h)).j).1.led = t.led∧(t.put (advN t.mask n (start t.mask h)).j).1.moves = t.moves:=by
 have hj:(advN t.mask n (start t.mask h)).j≤t.mask:=(Pr.start t.mask h).advN.j
 generalize hJ:(advN t.mask n (start t.mask h)).j = J at *
 have hd:has t.dummies J = false:=by
  unfold has
  rw [T.dum]
  rfl
 have hnot:∀ i:Nat,t.place[i]?≠some J:=fun i e => hfree ⟨i,e⟩
 have hb:=(Ca (j:=J) T.ris).1
 have e1:(t.put J).1 = { t with place:=insertAt t.place (below t.place J) J }:=by
  unfold SetTable.put
  simp only [hd,Bool.false_eq_true,if_false]
 have e2:(t.put J).2 = below t.place J:=rfl
 rw [e1,e2]
 have ix:=getElem?_insertAt t.place (below t.place J) J hb
 have hl:(hs.take (below t.place J)).length = below t.place J:=by rw [List.length_take,← T.size]; omega
 have ih:∀ i:Nat,(hs.take (below t.place J) ++ h :: hs.drop (below t.place J))[i]? = if i < below t.place J then hs[i]? else if i = below t.place J then some h else hs[i - 1]?:=fun i => by
  by_cases h1:i < below t.place J
  ·rw [if_pos h1,List.getElem?_append_left (by omega),List.getElem?_take_of_lt h1]
  ·rw [if_neg h1,List.getElem?_append_right (by omega),hl]
   by_cases h2:i = below t.place J
   ·subst h2; simp
   ·rw [if_neg h2,show i - below t.place J = (i - below t.place J - 1) + 1 by omega,List.getElem?_cons_succ,List.getElem?_drop]
    rw [show below t.place J + (i - below t.place J - 1) = i - 1 by omega]
 have occ:∀ x,Jk t x→Jk { t with place:=insertAt t.place (below t.place J) J } x:=fun x ⟨i,hi⟩ => by
  by_cases h1:i < below t.place J
  ·exact ⟨i,by show (insertAt t.place (below t.place J) J)[i]? = some x; rw [ix,if_pos h1]; exact hi⟩
  ·exact ⟨i + 1,by show (insertAt t.place (below t.place J) J)[i + 1]? = some x; rw [ix,if_neg (by omega),if_neg (by omega)]; exact hi⟩
 refine ⟨⟨T.mask,T.dum,LL T.ris hnot,fun i j e => ?_,?_,fun i j h' e eh => ?_⟩,by rw [← T.size]; exact hb,rfl,rfl,rfl,rfl⟩
 ·have e:(insertAt t.place (below t.place J) J)[i]? = some j:=e
  rw [ix] at e
  by_cases h1:i < below t.place J
  ·rw [if_pos h1] at e; exact T.le i j e
  ·rw [if_neg h1] at e
   by_cases h2:i = below t.place J
   ·rw [if_pos h2] at e; cases e; exact hj
   ·rw [if_neg h2] at e; exact T.le _ j e
 ·show (insertAt t.place (below t.place J) J).size = _
  rw [CA _ _ _ hb,T.size]
  have hb':below t.place J≤hs.length:=by rw [← T.size]; exact hb
  rw [List.length_append,hl,List.length_cons,List.length_drop]
  omega
 ·have e:(insertAt t.place (below t.place J) J)[i]? = some j:=e
  rw [ix] at e
  rw [ih] at eh
  by_cases h1:i < below t.place J
  ·rw [if_pos h1] at e eh
   obtain ⟨k,ek,wk⟩:=T.fnd i j h' e eh
   exact ⟨k,ek,fun k' hk => occ _ (wk k' hk)⟩
  ·rw [if_neg h1] at e eh
   by_cases h2:i = below t.place J
   ·rw [if_pos h2] at e eh
    cases e; cases eh
    exact ⟨n,hJ,fun k hk => occ _ (hway k hk)⟩
   ·rw [if_neg h2] at e eh
    obtain ⟨k,ek,wk⟩:=T.fnd _ j h' e eh
    exact ⟨k,ek,fun k' hk => occ _ (wk k' hk)⟩
theorem Tb.fresh (f mv:Nat) (led:Bool):Tb (SetTable.fresh f mv led) []:=by
 refine ⟨.inl rfl,rfl,List.Pairwise.nil,fun i j e => ?_,rfl,fun i j h e => ?_⟩
 ·have e:(#[]:Array Nat)[i]? = some j:=e
  simp at e
 ·have e:(#[]:Array Nat)[i]? = some j:=e
  simp at e
end
end StT
namespace StT
local macro_rules | `(tactic| omega) => `(tactic| first | lia | omega)
open PySem PySem.SetTable
structure LC (m:Nat) (owner:Array (Option Nat)) (hs:List Int):Prop where
 size:owner.size = m + 1
 put:∀ (r:Nat) (h:Int),hs[r]? = some h→∃ j,j≤m∧owner[j]? = some (some r)∧∃ n,(advN m n (start m h)).j = j∧∀ k,k < n→∃ r',owner[(advN m k (start m h)).j]? = some (some r')
 lt:∀ j r:Nat,owner[j]? = some (some r)→r < hs.length
 inj:∀ j j' r:Nat,owner[j]? = some (some r)→owner[j']? = some (some r)→j = j'
section
variable {m:Nat} {owner:Array (Option Nat)} {hs:List Int}
theorem IN (hz:owner.size = m + 1) {x:Nat} (hx:x≤m):owner.getD x (some 0) = owner[x]'(by omega)∧owner[x]? = some (owner[x]'(by omega)):=by
 have hx':x < owner.size:=by omega
 exact ⟨by simp [Array.getD,hx'],by simp [hx']⟩
theorem Tp (hz:owner.size = m + 1) {x:Nat} (hx:x≤m) (h:(owner.getD x (some 0)).isNone = false):∃ r,owner[x]? = some (some r):=by
 obtain ⟨h1,h2⟩:=IN hz hx
 rw [h1] at h
 cases e:owner[x]'(by omega) with
 | none => rw [e] at h; cases h
 | some r => exact ⟨r,by rw [h2,e]⟩
theorem SC (hz:owner.size = m + 1) {x:Nat} (hx:x≤m) (h:(owner.getD x (some 0)).isNone = true):owner[x]? = some none:=by
 obtain ⟨h1,h2⟩:=IN hz hx
 rw [h1] at h
 cases e:owner[x]'(by omega) with
 | none => rw [h2,e]
 | some r => rw [e] at h; cases h
theorem LN {i q k:Nat} (hk:k≤runEnd m i - i):(advN m k (st m (i,q) none)).j = i + k:=by
 rw [IJ m k _ hk]
 rfl
theorem HM (m i:Nat):i≤runEnd m i:=by
 unfold runEnd
 split <;> omega
theorem HN (hz:owner.size = m + 1) {j:Nat}:∀ (fuel i q:Nat),i≤m→layClean.free m owner fuel i q = some j →
  ∃ n,(advN m n (st m (i,q) none)).j = j∧(∀ k,k < n→∃ r,owner[(advN m k (st m (i,q) none)).j]? = some (some r))∧owner[j]? = some none∧j≤m
 | 0,i,q,_,e => by simp [layClean.free] at e
 | fuel + 1,i,q,hi,e => by
  have hr:=Eh m i hi
  have hge:=HM m i
  rw [layClean.free] at e
  cases hf:(List.range (runEnd m i + 1 - i)).find? fun k => (owner.getD (i + k) (some 0)).isNone with
  | some k =>
   rw [hf] at e
   cases e
   have hk1:(owner.getD (i + k) (some 0)).isNone = true:=by simpa using List.find?_some hf
   have hkm:k < runEnd m i + 1 - i:=List.mem_range.mp (List.mem_of_find?_eq_some hf)
   refine ⟨k,LN (by omega),fun k' hk' => ?_,SC hz (by omega) hk1,by omega⟩
   rw [LN (by omega)]
   refine Tp hz (by omega) ?_
   have:=List.find?_range_eq_some.mp hf
   have h3:=this.2.2 k' hk'
   simpa using h3
  | none =>
   rw [hf] at e
   have hl:(leap m i q).1≤m:=Fs m 1 (i,q) hi
   obtain ⟨n,h1,h2,h3⟩:=HN hz fuel _ _ hl e
   have all:∀ k,k≤runEnd m i - i→∃ r,owner[(advN m k (st m (i,q) none)).j]? = some (some r):=fun k hk => by
    rw [LN hk]
    refine Tp hz (by omega) ?_
    have:=List.find?_eq_none.mp hf k (List.mem_range.mpr (by omega))
    exact Bool.eq_false_iff.mpr this
   have hleap:advN m (runEnd m i - i + 1) (st m (i,q) none) = st m (leap m i q) none:=Fq m (st m (i,q) none)
   refine ⟨(runEnd m i - i + 1) + n,?_,fun k hk => ?_,h3⟩
   ·rw [Bp,hleap]
    exact h1
   ·by_cases hk':k≤runEnd m i - i
    ·exact all k hk'
    ·have e2:k = (runEnd m i - i + 1) + (k - (runEnd m i - i + 1)):=by omega
     rw [e2,Bp,hleap]
     exact h2 _ (by omega)
theorem HP (hz:owner.size = m + 1) {e:Nat} (he:owner[e]? = some none) (hem:e≤m):∀ (fuel L i q:Nat),i≤m→L < fuel→(LM m L (i,q)).1 = e→layClean.free m owner fuel i q≠none
 | 0,L,_,_,_,h,_ => absurd h (Nat.not_lt_zero _)
 | fuel + 1,L,i,q,hi,hL,eL => by
  rw [layClean.free]
  have hge:=HM m i
  cases hf:(List.range (runEnd m i + 1 - i)).find? fun k => (owner.getD (i + k) (some 0)).isNone with
  | some k => simp
  | none =>
   cases L with
   | zero =>
    have eL:i = e:=eL
    subst eL
    have:=List.find?_eq_none.mp hf 0 (List.mem_range.mpr (by omega))
    obtain ⟨h1,h2⟩:=IN hz hem
    rw [he] at h2
    have h2:=Option.some.inj h2
    rw [Nat.add_zero,h1,← h2] at this
    exact absurd rfl this
   | succ L =>
    exact HP hz he hem fuel L _ _ (Fs m 1 (i,q) hi) (by omega) eL
def EG (m:Nat) (acc:Option (Array (Option Nat) × Nat)) (h:Int):Option (Array (Option Nat) × Nat):=do
 let (owner,k) ← acc
 let j ← layClean.free m owner (turns m) (bits h % (m + 1)) (bits h)
 pure (owner.setIfInBounds j (some k),k + 1)
theorem Jm (m:Nat) (hs:Array Int):layClean m hs = (hs.toList.foldl (EG m) (some (Array.replicate (m + 1) none,0))).map (·.1):=by
 unfold layClean
 rw [Array.foldl_toList]
 rfl
theorem LC.room (c:LC m owner hs) (h:hs.length≤m):∃ e,e≤m∧owner[e]? = some none:=by
 apply Classical.byContradiction
 intro hn
 have all:∀ e,e≤m→∃ r,owner[e]? = some (some r):=fun e he => by
  have hz:=c.size
  cases q:owner[e]'(by omega) with
  | none => exact absurd ⟨e,he,by rw [← q]; simp [show e < owner.size by omega]⟩ hn
  | some r => exact ⟨r,by rw [← q]; simp [show e < owner.size by omega]⟩
 have hf:∀ e,∃ r,e≤m→owner[e]? = some (some r):=fun e => by
  by_cases he:e≤m
  ·obtain ⟨r,hr⟩:=all e he; exact ⟨r,fun _ => hr⟩
  ·exact ⟨0,fun z => absurd z he⟩
 obtain ⟨f,hf⟩:=Classical.axiomOfChoice hf
 have hl:=BW hs.length ((List.range (m + 1)).map f) (by
  refine List.Pairwise.map f (R:=fun a b => a≠b∧a≤m∧b≤m) (fun a b hab e => ?_) ?_
  ·have h1:=hf a hab.2.1
   have h2:=hf b hab.2.2
   rw [e] at h1
   exact hab.1 (c.inj a b _ h1 h2)
  ·refine List.Pairwise.imp_of_mem (fun {a b} ha hb h => ⟨Nat.ne_of_lt h,?_,?_⟩) (List.pairwise_lt_range (n:=m + 1))
   ·have:=List.mem_range.mp ha; omega
   ·have:=List.mem_range.mp hb; omega) (fun x hx => by
  obtain ⟨e,he,rfl⟩:=List.mem_map.mp hx
  exact c.lt e _ (hf e (by have:=List.mem_range.mp he; omega)))
 rw [List.length_map,List.length_range] at hl
 omega
theorem LC.step (hm:Bq m) (c:LC m owner hs) (hl:hs.length≤m) (h:Int):∃ o',EG m (some (owner,hs.length)) h = some (o',hs.length + 1)∧LC m o' (hs ++ [h]):=by
 obtain ⟨e,he,hne⟩:=c.room hl
 have hb:bits h % (m + 1)≤m:=by have:=Nat.mod_lt (bits h) (show 0 < m + 1 by omega); omega
 obtain ⟨L,hL,eL⟩:=Tn hm (x:=(bits h % (m + 1),bits h)) hb (Md h) he
 have hs':=HP c.size hne he (turns m) L _ _ hb (by unfold turns; omega) eL
 cases hf:layClean.free m owner (turns m) (bits h % (m + 1)) (bits h) with
 | none => exact absurd hf hs'
 | some j =>
  obtain ⟨n,h1,h2,h3,h4⟩:=HN c.size _ _ _ hb hf
  have hj:j < owner.size:=by rw [c.size]; omega
  refine ⟨owner.setIfInBounds j (some hs.length),?_,?_⟩
  ·unfold EG
   show (layClean.free m owner (turns m) (bits h % (m + 1)) (bits h) >>= _) = _
   rw [hf]
   rfl
  ·have at_:∀ x:Nat,(owner.setIfInBounds j (some hs.length))[x]? = if x = j then some (some hs.length) else owner[x]?:=fun x => by
    rw [Array.getElem?_setIfInBounds]
    by_cases hx:x = j
    ·subst hx; simp [hj]
    ·rw [if_neg (Ne.symm hx),if_neg hx]
   have occ:∀ x r:Nat,owner[x]? = some (some r)→∃ r',(owner.setIfInBounds j (some hs.length))[x]? = some (some r'):=fun x r hr => by
    rw [at_]
    by_cases hx:x = j
    ·exact ⟨_,if_pos hx⟩
    ·exact ⟨r,by rw [if_neg hx]; exact hr⟩
   refine ⟨by simpa using c.size,fun r h' e' => ?_,fun x r hr => ?_,fun x y r hx hy => ?_⟩
   ·by_cases hr:r < hs.length
    ·rw [List.getElem?_append_left hr] at e'
     obtain ⟨x,q1,q2,n',q3,q4⟩:=c.put r h' e'
     refine ⟨x,q1,?_,n',q3,fun k hk => ?_⟩
     ·rw [at_,if_neg]; exact q2
      rintro rfl
      rw [h3] at q2; cases q2
     ·obtain ⟨r',hr'⟩:=q4 k hk
      exact occ _ r' hr'
    ·rw [List.getElem?_append_right (by omega)] at e'
     have hr0:r - hs.length = 0:=by
      have:=(List.getElem?_eq_some_iff.mp e').1
      simp at this; omega
     rw [hr0] at e'
     cases e'
     have:r = hs.length:=by omega
     subst this
     refine ⟨j,h4,by rw [at_,if_pos rfl],n,h1,fun k hk => ?_⟩
     obtain ⟨r',hr'⟩:=h2 k hk
     exact occ _ r' hr'
   ·rw [at_] at hr
    rw [List.length_append]
    by_cases hx:x = j
    ·rw [if_pos hx] at hr; cases hr; simp
    ·rw [if_neg hx] at hr
     have:=c.lt x r hr
     omega
   ·rw [at_] at hx hy
    by_cases h1:x = j
    ·rw [if_pos h1] at hx
     cases hx
     by_cases h2:y = j
     ·rw [h1,h2]
     ·rw [if_neg h2] at hy
      exact absurd (c.lt y _ hy) (Nat.lt_irrefl _)
    ·rw [if_neg h1] at hx
     by_cases h2:y = j
     ·rw [if_pos h2] at hy
      cases hy
      exact absurd (c.lt x _ hx) (Nat.lt_irrefl _)
     ·rw [if_neg h2] at hy
      exact c.inj x y r hx hy
theorem LC.steps (hm:Bq m):∀ (rest hs:List Int) (owner:Array (Option Nat)),LC m owner hs→hs.length + rest.length≤m + 1→∃ o',rest.foldl (EG m) (some (owner,hs.length)) = some (o',hs.length + rest.length)∧LC m o' (hs ++ rest)
 | [],hs,owner,c,_ => ⟨owner,rfl,by rw [List.append_nil]; exact c⟩
 | h :: rest,hs,owner,c,hl => by
  simp only [List.length_cons] at hl
  obtain ⟨o1,e1,c1⟩:=c.step hm (by omega) h
  obtain ⟨o2,e2,c2⟩:=LC.steps hm rest (hs ++ [h]) o1 c1 (by rw [List.length_append]; simp; omega)
  refine ⟨o2,?_,by rw [List.append_assoc] at c2; exact c2⟩
  rw [List.foldl_cons,e1]
  have:(hs ++ [h]).length = hs.length + 1:=by simp
  rw [this] at e2
  rw [e2]
  simp only [List.length_cons]
  congr 2
  omega
theorem Jn (hm:Bq m) (hs:Array Int) (hl:hs.size≤m + 1):∃ owner,layClean m hs = some owner∧LC m owner hs.toList:=by
 have c0:LC m (Array.replicate (m + 1) none) []:=⟨by simp,fun r h e => by simp at e,fun j r e => by
  rw [Array.getElem?_replicate] at e; split at e <;> simp at e,fun j j' r e => by
  rw [Array.getElem?_replicate] at e; split at e <;> simp at e⟩
 obtain ⟨o,e,c⟩:=LC.steps hm hs.toList [] _ c0 (by simpa using hl)
 refine ⟨o,?_,by simpa using c⟩
 rw [Jm]
 have e':hs.toList.foldl (EG m) (some (Array.replicate (m + 1) none,0)) = _:=e
 rw [e']
 rfl
end
end StT
namespace StT
open PySem PySem.SetTable
section
variable {m:Nat}
theorem Me (hm:Bq m) (hs:Array Int) (hl:hs.size≤m + 1) (f mv:Nat) (led plain:Bool):∃ t' order,laid m f mv led plain hs = some (t',order)∧t'.mask = m∧t'.led = led∧t'.plain = plain∧t'.moves = mv∧order.size = hs.size ∧
  (∀ i r:Nat,order[i]? = some r→r < hs.size)∧(∀ i i' r:Nat,order[i]? = some r→order[i']? = some r→i = i')∧(∀ r,r < hs.size→∃ i:Nat,order[i]? = some r)∧Tb t' (order.toList.map fun r => hs.getD r 0):=by
 obtain ⟨owner,e,c⟩:=Jn hm hs hl
 generalize hlive:(List.range (m + 1)).filterMap (fun j => (owner.getD j none).map (j,·)) = live
 have mem:∀ j r,(j,r)∈live↔j≤m∧owner[j]? = some (some r):=fun j r => by
  rw [← hlive,List.mem_filterMap]
  constructor
  ·rintro ⟨x,hx,ex⟩
   have hx:=List.mem_range.mp hx
   have hxo:x < owner.size:=by rw [c.size]; exact hx
   have eg:owner.getD x none = owner[x]:=by simp [Array.getD,hxo]
   rw [eg] at ex
   cases q:owner[x] with
   | none => rw [q] at ex; cases ex
   | some r' =>
    rw [q] at ex
    cases ex
    exact ⟨by omega,by rw [← q]; simp [hxo]⟩
  ·rintro ⟨h1,h2⟩
   obtain ⟨hxo,q⟩:=Array.getElem?_eq_some_iff.mp h2
   refine ⟨j,List.mem_range.mpr (by omega),?_⟩
   have eg:owner.getD j none = owner[j]:=by simp [Array.getD,hxo]
   rw [eg,q]
   rfl
 have pw:live.Pairwise fun a b => a.1 < b.1:=by
  rw [← hlive,List.pairwise_filterMap]
  refine List.Pairwise.imp (fun {a b} h x hx y hy => ?_) (List.pairwise_lt_range (n:=m + 1))
  cases q1:owner.getD a none with
  | none => rw [q1] at hx; cases hx
  | some r1 =>
   cases q2:owner.getD b none with
   | none => rw [q2] at hy; cases hy
   | some r2 =>
    rw [q1] at hx; rw [q2] at hy
    cases hx; cases hy
    exact h
 have lt:∀ j r,(j,r)∈live→r < hs.size:=fun j r h => by have:=c.lt j r ((mem j r).mp h).2; simpa using this
 have pwr:live.Pairwise fun a b => a.2≠b.2:=by
  refine List.Pairwise.imp_of_mem (fun {a b} ha hb h e => ?_) pw
  obtain ⟨a1,a2⟩:=a
  obtain ⟨b1,b2⟩:=b
  have h1:=(mem _ _).mp ha
  have h2:=(mem _ _).mp hb
  have e:a2 = b2:=e
  subst e
  have:=c.inj _ _ _ h1.2 h2.2
  have h:a1 < b1:=h
  omega
 have nd:(live.map (·.2)).Nodup:=List.Pairwise.map _ (fun _ _ h => h) pwr
 have all:∀ r,r < hs.size→∃ j,(j,r)∈live:=fun r hr => by
  obtain ⟨j,h1,h2,_⟩:=c.put r (hs[r]) (by simp [hr])
  exact ⟨j,(mem j r).mpr ⟨h1,h2⟩⟩
 have len:live.length = hs.size:=by
  apply Nat.le_antisymm
  ·have:=BW hs.size (live.map (·.2)) nd fun x hx => by
    obtain ⟨⟨j,r⟩,h1,rfl⟩:=List.mem_map.mp hx
    exact lt j r h1
   simpa using this
  ·have:=LK hs.size (live.map (·.2)) fun r hr => by
    obtain ⟨j,hj⟩:=all r hr
    exact List.mem_map.mpr ⟨_,hj,rfl⟩
   simpa using this
 refine ⟨{ mask:=m,place:=(live.map (·.1)).toArray,dummies:=#[],finger:=f,led:=led,moves:=mv,plain:=plain },(live.map (·.2)).toArray,?_,rfl,rfl,rfl,rfl,by simpa using len,fun i r h => ?_,fun i i' r h h' => ?_,fun r hr => ?_,?_⟩
 ·unfold laid
  rw [e]
  show some _ = some _
  rw [hlive]
 ·have h:(live.map (·.2))[i]? = some r:=by simpa using h
  rw [List.getElem?_map] at h
  cases q:live[i]? with
  | none => rw [q] at h; cases h
  | some x => rw [q] at h; cases h; exact lt x.1 x.2 (List.mem_of_getElem? q)
 ·have h:(live.map (·.2))[i]? = some r:=by simpa using h
  have h':(live.map (·.2))[i']? = some r:=by simpa using h'
  obtain ⟨l1,e1⟩:=List.getElem?_eq_some_iff.mp h
  obtain ⟨l2,e2⟩:=List.getElem?_eq_some_iff.mp h'
  rcases Nat.lt_trichotomy i i' with hlt | heq | hgt
  ·exact absurd (e1.trans e2.symm) (List.pairwise_iff_getElem.mp nd i i' l1 l2 hlt)
  ·exact heq
  ·exact absurd (e2.trans e1.symm) (List.pairwise_iff_getElem.mp nd i' i l2 l1 hgt)
 ·obtain ⟨j,hj⟩:=all r hr
  obtain ⟨i,hi⟩:=List.getElem?_of_mem hj
  exact ⟨i,by simp [hi]⟩
 ·have at_:∀ i j:Nat,(live.map (·.1)).toArray[i]? = some j→∃ r,live[i]? = some (j,r):=fun i j h => by
   have h:(live.map (·.1))[i]? = some j:=by simpa using h
   rw [List.getElem?_map] at h
   cases q:live[i]? with
   | none => rw [q] at h; cases h
   | some x =>
    rw [q] at h
    cases h
    exact ⟨x.2,rfl⟩
  refine ⟨hm,rfl,?_,fun i j h => ?_,by simp,fun i j h e1 e2 => ?_⟩
  ·show (live.map (·.1)).toArray.toList.Pairwise (· < ·)
   exact List.Pairwise.map _ (fun _ _ h => h) pw
  ·obtain ⟨r,hr⟩:=at_ i j h
   exact ((mem j r).mp (List.mem_of_getElem? hr)).1
  ·obtain ⟨r,hr⟩:=at_ i j e1
   have hrlt:=lt j r (List.mem_of_getElem? hr)
   have e2:((live.map (·.2)).map fun r => hs.getD r 0)[i]? = some h:=by simpa using e2
   rw [List.getElem?_map,List.getElem?_map,hr] at e2
   have e2:hs.getD r 0 = h:=Option.some.inj e2
   have eh:hs.toList[r]? = some h:=by
    rw [← e2]
    simp [Array.getD,hrlt]
   obtain ⟨j2,q1,q2,n,q3,q4⟩:=c.put r h eh
   have ej:=c.inj j2 j r q2 ((mem j r).mp (List.mem_of_getElem? hr)).2
   subst ej
   refine ⟨n,q3,fun k hk => ?_⟩
   obtain ⟨r',hr'⟩:=q4 k hk
   have hk':(advN m k (start m h)).j≤m:=(Pr.start m h).advN.j
   obtain ⟨i',hi'⟩:=List.getElem?_of_mem ((mem _ r').mpr ⟨hk',hr'⟩)
   refine ⟨i',?_⟩
   show (live.map (·.1)).toArray[i']? = _
   simp [hi']
theorem HQ {n:Nat} (h:Bq m) (h1:n * 5 < m * 3) (h2:m * 3≤(n + 1) * 5) (h3:n < 300):Bq (sizeAbove (grown (n + 1)) - 1)∧n + 1≤sizeAbove (grown (n + 1)) - 1∧(n + 1) * 5 < (sizeAbove (grown (n + 1)) - 1) * 3∧sizeAbove (grown (n + 1))≤512:=by
 rcases h with rfl | rfl | rfl | rfl
 ·have:n = 4:=by omega
  subst this
  refine ⟨.inr (.inl (by decide)),by decide,by decide,by decide⟩
 ·have:n = 18:=by omega
  subst this
  refine ⟨.inr (.inr (.inl (by decide))),by decide,by decide,by decide⟩
 ·have:n = 76:=by omega
  subst this
  refine ⟨.inr (.inr (.inr (by decide))),by decide,by decide,by decide⟩
 ·omega
theorem BK {α:Type} (es:Array α):∀ (l:List Nat),(∀ r∈l,r < es.size)→∀ i:Nat,(l.filterMap fun r => es[r]?)[i]? = (l[i]?).bind fun r => es[r]?
 | [],_,i => by simp
 | r :: l,h,i => by
  have hr:=h r List.mem_cons_self
  have e:es[r]? = some es[r]:=by simp [hr]
  rw [List.filterMap_cons,e]
  cases i with
  | zero => simp
  | succ i =>
   simp only [List.getElem?_cons_succ]
   exact BK es l (fun x hx => h x (List.mem_cons_of_mem _ hx)) i
theorem BZ {α:Type} (es:Array α):∀ (l:List Nat),(∀ r∈l,r < es.size)→(l.filterMap fun r => es[r]?).length = l.length
 | [],_ => rfl
 | r :: l,h => by
  have hr:=h r List.mem_cons_self
  have e:es[r]? = some es[r]:=by simp [hr]
  rw [List.filterMap_cons,e]
  simp [BZ es l (fun x hx => h x (List.mem_cons_of_mem _ hx))]
end
open PyProof.Rows
section
variable {prog:Program} {w:World} {A:Around} {E:Value→Shared→Prop} {s:Shared}
abbrev IK (prog:Program) (w:World) (h:Heap) (k:List Int) (a:Addr):Prop:=IsTupleKey (intKind prog w) h k a
abbrev tk (prog:Program) (w:World):HeapKind prog w (List Int):=tupleKind (intKind prog w)
theorem DQ {n:Int} {v:Value} (h:(intKind prog w).is n v = true):∃ t,v = .int n t:=by
 cases v with
 | int m t =>
  have h2:(intKind prog w).is m (.int m t) = true:=intKind_is _ _ _ _
  have e:=(intKind prog w).inj _ _ _ h h2
  subst e
  exact ⟨t,rfl⟩
 | _ => exact absurd h (by simp [intKind,Value.isInt])
theorem Ft {ks:List Int} {vs:List Value} (h:ItemsAre (intKind prog w) ks vs):∀ v∈vs,∃ n t,v = .int n t:=by
 induction h with
 | nil => intro v hv; simp at hv
 | cons h1 _ ih =>
  intro v hv
  rcases List.mem_cons.mp hv with rfl | hv
  ·obtain ⟨t,e⟩:=DQ h1
   exact ⟨_,t,e⟩
  ·exact ih v hv
theorem XU {k:List Int} {a:Addr} {Q:Bool→Shared→Prop} (hk:IK prog w s.heap k a) (h:Q true s):wpAny (model prog w) A (hashByValue 8 (.ref a)) Q E s:=by
 have hT:=hk.typeIs
 obtain ⟨o,items,n,ho,_,hd,hi⟩:=hk
 have hints:=Ft hi
 unfold hashByValue
 refine wpAny_bind (wpAny_specialOf hT PySem.F.slot_tuple_hash.lookup ?_)
 dsimp only
 refine wpAny_bind (wpAny_seqItems ho hd ?_)
 show wpAny _ _ ((forIn items _ _) >>= _) _ _ s
 rw [← Array.forIn_toList]
 refine wpAny_bind (wpAny_forIn_list _ (fun rest r s' => r.1 = none∧s' = s∧∀ v∈rest,∃ n t,v = Value.int n t) _ ?_ ?_ _ _ ⟨rfl,rfl,hints⟩)
 ·rintro v rest r s' ⟨hr,rfl,hall⟩
  obtain ⟨n,t,rfl⟩:=hall v List.mem_cons_self
  refine wpAny_bind (wpAny_pure ?_)
  simp only [Bool.not_true,Bool.false_eq_true,if_false]
  exact wpAny_pure ⟨rfl,rfl,fun u hu' => hall u (List.mem_cons_of_mem _ hu')⟩
 ·rintro ⟨r1,r2⟩ s' ⟨hr,rfl,_⟩
  simp only at hr
  subst hr
  exact wpAny_pure h
theorem Mf {k:List Int} {a:Addr} {Q:Bool→Shared→Prop} (hk:IK prog w s.heap k a) (h:Q false s):wpAny (model prog w) A (ofAClassStatement 8 (.ref a)) Q E s:=by
 have hT:=hk.typeIs
 obtain ⟨o,items,n,ho,hc,hd,hi⟩:=hk
 have hints:=Ft hi
 unfold ofAClassStatement
 refine wpAny_bind (wpAny_typeOf hT ?_)
 dsimp only
 rw [if_pos (by decide)]
 refine wpAny_bind (wpAny_pure ?_)
 simp only [Bool.not_true,Bool.false_eq_true,if_false]
 refine wpAny_bind (wpAny_seqItems ho hd ?_)
 show wpAny _ _ ((forIn items _ _) >>= _) _ _ s
 rw [← Array.forIn_toList]
 refine wpAny_bind (wpAny_forIn_list _ (fun rest r s' => r.1 = none∧s' = s∧∀ v∈rest,∃ n t,v = Value.int n t) _ ?_ ?_ _ _ ⟨rfl,rfl,hints⟩)
 ·rintro v rest r s' ⟨hr,rfl,hall⟩
  obtain ⟨n,t,rfl⟩:=hall v List.mem_cons_self
  unfold ofAClassStatement
  refine wpAny_bind (wpAny_pure ?_)
  simp only [Bool.false_eq_true,if_false]
  exact wpAny_pure ⟨rfl,rfl,fun u hu' => hall u (List.mem_cons_of_mem _ hu')⟩
 ·rintro ⟨r1,r2⟩ s' ⟨hr,rfl,_⟩
  simp only at hr
  subst hr
  exact wpAny_pure h
theorem SD {k:List Int} {a:Addr} {Q:Bool→Shared→Prop} {l:List Value} (hk:IK prog w s.heap k a) (hl:∀ v∈l,∃ k' b,v = .ref b∧IK prog w s.heap k' b) (h:Q false s):wpAny (model prog w) A (searchCouldBeSeen (.ref a) l) Q E s:=by
 unfold searchCouldBeSeen
 refine wpAny_bind (wpAny_forIn_list _ (fun rest r s' => r.1 = none∧s' = s∧∀ v∈rest,∃ k' b,v = Value.ref b∧IK prog w s.heap k' b) _ ?_ ?_ _ _ ⟨rfl,rfl,hl⟩)
 ·rintro v rest r s' ⟨hr,rfl,hall⟩
  obtain ⟨k',b,rfl,hb⟩:=hall v List.mem_cons_self
  have go:∀ u∈rest,∃ k' b,u = Value.ref b∧IK prog w s'.heap k' b:=fun u hu' => hall u (List.mem_cons_of_mem _ hu')
  dsimp only
  split
  ·exact wpAny_pure ⟨rfl,rfl,go⟩
  ·refine wpAny_bind (wpAny_eqIsQuiet_tuple hk ?_)
   simp only [Bool.not_true,Bool.false_eq_true,if_false]
   refine wpAny_bind (wpAny_eqIsQuiet_tuple hb ?_)
   simp only [Bool.not_true,Bool.false_eq_true,if_false]
   refine wpAny_bind (Mf hk ?_)
   simp only [Bool.false_eq_true,if_false]
   refine wpAny_bind (Mf hb ?_)
   simp only [Bool.false_eq_true,if_false]
   exact wpAny_pure ⟨rfl,rfl,go⟩
 ·rintro ⟨r1,r2⟩ s' ⟨hr,rfl,_⟩
  simp only at hr
  subst hr
  exact wpAny_pure h
end
local macro_rules | `(tactic| omega) => `(tactic| first | lia | omega)
open PySem PySem.SetTable PyProof.Rows
section
variable {prog:Program} {w:World} {A:Around} {E:Value→Shared→Prop} {s:Shared}
def Np (xs:List (List Int × Addr)) (prog:Program) (w:World):List (Int × Value):=xs.map fun p => ((tk prog w).hash p.1,Value.ref p.2)
structure SetD (prog:Program) (w:World) (h:Heap) (a:Addr) (xs:List (List Int × Addr)) (o:Obj) (es:Array (Int × Value)) (ep:Nat) (t:SetTable):Prop where
 get:h.get? a = some o
 ex:o.ExactSet
 dat:o.data = .set es ep t
 es:es.toList = Np xs prog w
 key:∀ (i:Nat) (k:List Int) (x:Addr),xs[i]? = some (k,x)→IK prog w h k x
 nd:(xs.map (·.1)).Nodup
 tb:Tb t (xs.map fun p => (tk prog w).hash p.1)
 pl:t.plain = true
 room:xs.length * 5 < t.mask * 3
 led:t.led = !w.params.followText "set-order"
variable {a:Addr} {xs:List (List Int × Addr)} {o:Obj} {es:Array (Int × Value)} {ep:Nat} {t:SetTable}
theorem SetD.size (S:SetD prog w s.heap a xs o es ep t):es.size = xs.length:=by
 rw [← Array.length_toList,S.es]; simp [Np]
theorem SetD.fits (S:SetD prog w s.heap a xs o es ep t):t.fits es.size = true:=by
 have h1:=S.tb.size
 have h2:=S.room
 have h3:t.fill = t.place.size:=by unfold SetTable.fill; rw [S.tb.dum]; rfl
 rw [List.length_map] at h1
 unfold SetTable.fits
 rw [h3,S.size,h1]
 simp only [beq_self_eq_true,Bool.true_and,decide_eq_true_eq]
 omega
theorem SetD.len (S:SetD prog w s.heap a xs o es ep t):(xs.map fun p => (tk prog w).hash p.1).length≤t.mask:=by
 have:=S.room
 rw [List.length_map]; omega
theorem SetD.at (S:SetD prog w s.heap a xs o es ep t) {i:Nat} {k:List Int} {x:Addr} (h:xs[i]? = some (k,x)):es[i]? = some ((tk prog w).hash k,.ref x):=by
 have:es[i]? = es.toList[i]?:=by simp
 rw [this,S.es,Np,List.getElem?_map,h]
 rfl
theorem SetD.of_at (S:SetD prog w s.heap a xs o es ep t) {i:Nat} (h:i < xs.length):∃ k x,xs[i]? = some (k,x):=⟨_,_,by simp [h]; rfl⟩
abbrev FM:Array (Int × Value)→Nat→Int:=PySem.W.hashAt
theorem SetD.hash (S:SetD prog w s.heap a xs o es ep t) {i:Nat} {k:List Int} {x:Addr} (h:xs[i]? = some (k,x)):FM es i = (tk prog w).hash k:=by
 show ((es[i]?).map Prod.fst).getD 0 = _
 rw [S.at h]
 rfl
theorem Jo (S:SetD prog w s.heap a xs o es ep t) (hu:A.units < cLine) {k:List Int} {x:Addr} (hk:IK prog w s.heap k x) {Q:SetFound→Shared→Prop}
  (hT:∀ (i:Nat) (y:Addr),xs[i]? = some (k,y)→Q (.there none) s)
  (hF:(∀ (i:Nat) (y:Addr),xs[i]?≠some (k,y))→∀ n,¬ Jk t (advN t.mask n (start t.mask ((tk prog w).hash k))).j→(∀ c,c < n→Jk t (advN t.mask c (start t.mask ((tk prog w).hash k))).j)→Q (.free (advN t.mask n (start t.mask ((tk prog w).hash k))).j false) s) :
  ∀ (fuel c:Nat) (stand:Option Probe),stand.getD (t.probeStart ((tk prog w).hash k)) = advN t.mask c (start t.mask ((tk prog w).hash k)) →
   (∀ c',c' < c→Jk t (advN t.mask c' (start t.mask ((tk prog w).hash k))).j∧∀ (i:Nat) (y:Addr),t.place[i]? = some (advN t.mask c' (start t.mask ((tk prog w).hash k))).j→xs[i]?≠some (k,y)) →
   (∃ N,c≤N∧¬ Jk t (advN t.mask N (start t.mask ((tk prog w).hash k))).j∧N - c < fuel) →
   wpAny (model prog w) A (setSearchFrom a (.ref x) ((tk prog w).hash k) true fuel stand) Q E s:=by
 intro fuel
 induction fuel with
 | zero => rintro c stand _ _ ⟨N,_,_,h⟩; exact absurd h (Nat.not_lt_zero _)
 | succ fuel ih =>
  rintro c stand hst hpre ⟨N,hcN,hN,hfu⟩
  have hsz:t.place.size = xs.length:=by have:=S.tb.size; rwa [List.length_map] at this
  unfold setSearchFrom
  refine wpAny_bind (wpAny_setState_of S.get S.dat S.fits ?_)
  dsimp only
  have hgw:t.gaveWay = false:=by unfold SetTable.gaveWay; rw [S.tb.odd]; rfl
  rw [hgw]
  simp only [Bool.false_eq_true,if_false]
  obtain ⟨n,hn,hstop⟩:=Ev S.tb S.len (p:=advN t.mask c (start t.mask ((tk prog w).hash k))) (Pr.start _ _).advN (FM es) ((tk prog w).hash k)
  rw [hst]
  have hadd:∀ m,advN t.mask m (advN t.mask c (start t.mask ((tk prog w).hash k))) = advN t.mask (c + m) (start t.mask ((tk prog w).hash k)):=fun m => (Bp _ _ _ _).symm
  have pre2:∀ c',c' < c + n→Jk t (advN t.mask c' (start t.mask ((tk prog w).hash k))).j∧∀ (i:Nat) (y:Addr),t.place[i]? = some (advN t.mask c' (start t.mask ((tk prog w).hash k))).j→xs[i]?≠some (k,y):=fun c' hc' => by
   by_cases hlt:c' < c
   ·exact hpre c' hlt
   ·obtain ⟨i,h1,h2⟩:=hn (c' - c) (by omega)
    rw [hadd,show c + (c' - c) = c' by omega] at h1
    refine ⟨⟨i,h1⟩,fun i' y h1' e => ?_⟩
    have:i' = i:=by
     rw [← Bo S.tb.ris h1',← Bo S.tb.ris h1]
    subst this
    exact h2 (S.hash e)
  obtain ⟨met,hmet⟩:∃ met,t.probe (FM es) ((tk prog w).hash k) (advN t.mask c (start t.mask ((tk prog w).hash k))) = some met:=by
   rcases hstop with ⟨_,hp⟩ | ⟨_,_,_,hp⟩ <;> exact ⟨_,hp⟩
  split
  case h_2 heq => exact absurd hmet (heq met)
  rename_i met' heq
  have heq:t.probe (FM es) ((tk prog w).hash k) (advN t.mask c (start t.mask ((tk prog w).hash k))) = some met':=heq
  rcases hstop with ⟨hf,hp⟩ | ⟨i,h1,h2,hp⟩
  ·rw [hp] at heq
   cases heq
   dsimp only
   rw [Dn]
   show wpAny _ _ (pure _) _ _ s
   rw [hadd] at hf ⊢
   refine wpAny_pure (hF (fun i y e => ?_) (c + n) hf fun c' hc' => (pre2 c' hc').1)
   have hi:i < xs.length:=(List.getElem?_eq_some_iff.mp e).1
   have hpl:t.place[i]? = some (t.place[i]'(by omega)):=by simp [show i < t.place.size by omega]
   obtain ⟨n',e1,w1⟩:=S.tb.fnd i _ ((tk prog w).hash k) hpl (by rw [List.getElem?_map,e]; rfl)
   by_cases hlt:n' < c + n
   ·exact (pre2 n' hlt).2 i y (by rw [e1]; exact hpl) e
   ·by_cases heq:n' = c + n
    ·subst heq
     exact hf ⟨i,by rw [e1]; exact hpl⟩
    ·exact hf (w1 (c + n) (by omega))
  ·rw [hp] at heq
   cases heq
   dsimp only
   rw [hadd] at h1
   have hi:i < xs.length:=by rw [← hsz]; exact (Array.getElem?_eq_some_iff.mp h1).1
   obtain ⟨k',y,ek⟩:=S.of_at hi
   have hky:=S.key i k' y ek
   have seen:∀ v,v∈(es.filter fun e => e.1 == (tk prog w).hash k).toList.map (·.2)→∃ k' b,v = Value.ref b∧IK prog w s.heap k' b:=fun v hv => by
    obtain ⟨⟨h',v'⟩,hm,rfl⟩:=List.mem_map.mp hv
    have hm:(h',v')∈es.toList:=by
     have:=hm
     simp only [Array.toList_filter] at this
     exact (List.mem_filter.mp this).1
    rw [S.es,Np] at hm
    obtain ⟨⟨k2,b⟩,hb,eb⟩:=List.mem_map.mp hm
    cases eb
    obtain ⟨j,hj⟩:=List.getElem?_of_mem hb
    exact ⟨k2,b,rfl,S.key j k2 b hj⟩
   cases hled:t.led with
   | true =>
    simp only [Bool.not_true,Bool.false_eq_true,if_false]
    rw [S.at ek]
    dsimp only
    refine wpAny_bind (wpAny_holding (wpAny_eqBool_tuple hu hky hk ?_))
    refine wpAny_bind (wpAny_setState_of S.get S.dat S.fits ?_)
    dsimp only
    by_cases hkk:k' = k
    ·subst hkk
     rw [decide_eq_true rfl]
     exact wpAny_pure (hT i y ek)
    ·rw [decide_eq_false hkk]
     have hsm:t.sameMemory t.moves t.mask = some true:=by unfold SetTable.sameMemory; rw [if_pos (by simp)]
     rw [hsm]
     simp only [Bool.and_false,Bool.false_eq_true,if_false,if_true]
     rw [hadd,S.tb.live h1]
     dsimp only
     rw [S.at ek]
     dsimp only
     have hss:isSame (Value.ref y) (Value.ref y) = pure true:=by
      show (if (y == y) = true then _ else _) = _
      rw [if_pos (beq_self_eq_true y)]
     rw [hss]
     refine wpAny_bind (wpAny_pure ?_)
     simp only [if_true]
     refine wpAny_bind (wpAny_pure ?_)
     dsimp only
     rw [hadd]
     refine ih (c + n + 1) _ rfl (fun c' hc' => ?_) ?_
     ·by_cases hlt:c' < c + n
      ·exact pre2 c' hlt
      ·have:c' = c + n:=by omega
       subst this
       refine ⟨⟨i,h1⟩,fun i' y' h1' e => ?_⟩
       have:i' = i:=by
        rw [← Bo S.tb.ris h1',← Bo S.tb.ris h1]
       subst this
       rw [ek] at e
       exact hkk (congrArg Prod.fst (Option.some.inj e))
     ·have hle:c + n < N:=by
       rcases Nat.lt_trichotomy (c + n) N with hlt | heq | hgt
       ·exact hlt
       ·exact absurd ⟨i,by rw [← heq]; exact h1⟩ hN
       ·exact absurd (pre2 N hgt).1 hN
      exact ⟨N,by omega,hN,by omega⟩
   | false =>
    simp only [Bool.not_false,if_true]
    refine wpAny_bind (SD hk seen ?_)
    simp only [Bool.false_eq_true,if_false]
    rw [S.at ek]
    dsimp only
    refine wpAny_bind (wpAny_holding (wpAny_eqBool_tuple hu hky hk ?_))
    refine wpAny_bind (wpAny_setState_of S.get S.dat S.fits ?_)
    dsimp only
    by_cases hkk:k' = k
    ·subst hkk
     rw [decide_eq_true rfl]
     exact wpAny_pure (hT i y ek)
    ·rw [decide_eq_false hkk]
     have hsm:t.sameMemory t.moves t.mask = some true:=by unfold SetTable.sameMemory; rw [if_pos (by simp)]
     rw [hsm]
     simp only [Bool.and_false,Bool.false_eq_true,if_false,if_true]
     rw [hadd,S.tb.live h1]
     dsimp only
     rw [S.at ek]
     dsimp only
     have hss:isSame (Value.ref y) (Value.ref y) = pure true:=by
      show (if (y == y) = true then _ else _) = _
      rw [if_pos (beq_self_eq_true y)]
     rw [hss]
     refine wpAny_bind (wpAny_pure ?_)
     simp only [if_true]
     refine wpAny_bind (wpAny_pure ?_)
     dsimp only
     rw [hadd]
     refine ih (c + n + 1) _ rfl (fun c' hc' => ?_) ?_
     ·by_cases hlt:c' < c + n
      ·exact pre2 c' hlt
      ·have:c' = c + n:=by omega
       subst this
       refine ⟨⟨i,h1⟩,fun i' y' h1' e => ?_⟩
       have:i' = i:=by
        rw [← Bo S.tb.ris h1',← Bo S.tb.ris h1]
       subst this
       rw [ek] at e
       exact hkk (congrArg Prod.fst (Option.some.inj e))
     ·have hle:c + n < N:=by
       rcases Nat.lt_trichotomy (c + n) N with hlt | heq | hgt
       ·exact hlt
       ·exact absurd ⟨i,by rw [← heq]; exact h1⟩ hN
       ·exact absurd (pre2 N hgt).1 hN
      exact ⟨N,by omega,hN,by omega⟩
end
end StT
namespace StT
local macro_rules | `(tactic| omega) => `(tactic| first | lia | omega)
open PySem PySem.SetTable PyProof.Rows
section
variable {prog:Program} {w:World} {A:Around} {E:Value→Shared→Prop} {s:Shared}
variable {a:Addr} {xs:List (List Int × Addr)} {o:Obj} {es:Array (Int × Value)} {ep:Nat} {t:SetTable}
def SetX (prog:Program) (w:World) (h:Heap) (a:Addr) (xs:List (List Int × Addr)):Prop:=∃ o es ep t,SetD prog w h a xs o es ep t
theorem PK {h:Heap} {k:List Int} {x:Addr} (hk:IK prog w h k x) (hg:h.get? a = some o) (he:o.ExactSet):x≠a:=by
 rintro rfl
 obtain ⟨o',items,n,ho,hc,_⟩:=hk
 rw [hg] at ho
 cases ho
 rw [he.1] at hc
 exact absurd hc (by decide)
theorem Cb {h h':Heap} {k:List Int} {x:Addr} (hk:IK prog w h k x) (hs:∀ u,h.get? x = some u→h'.get? x = some u):IK prog w h' k x:=by
 obtain ⟨o',items,n,ho,hc,hd,hi⟩:=hk
 exact ⟨o',items,n,hs _ ho,hc,hd,hi⟩
theorem DR (hg:s.heap.get? a = some o) (hd:o.data = .set es ep t) (es':Array (Int × Value)) (t':SetTable):(s.heap.update a (Obj.putSet es' t')).get? a = some { o with data:=.set es' (ep + 1) t' }:=by
 have:=Heap.get?_update_self (Obj.putSet es' t') hg (by rw [putSet_of es' t' hd]; rfl)
 rw [putSet_of es' t' hd] at this; exact this
theorem LO:(Np xs prog w).length = xs.length:=by simp [Np]
theorem PL {n:Nat} (hg:s.heap.get? a = some o) (he:o.ExactSet) (hd:o.data = .set es ep t) (hes:es.toList = Np xs prog w) (hkey:∀ (i:Nat) (k:List Int) (x:Addr),xs[i]? = some (k,x)→IK prog w s.heap k x)
  (hnd:(xs.map (·.1)).Nodup) (htb:Tb t (xs.map fun p => (tk prog w).hash p.1)) (hpl:t.plain = true) (hled:t.led = !w.params.followText "set-order") (hn:xs.length = n + 1) (h1:n * 5 < t.mask * 3) (h2:t.mask * 3≤(n + 1) * 5) (h3:n < 300) {Q:Unit→Shared→Prop}
  (h:∀ h' xs',Heap.SameBut a s.heap h'→SetX prog w h' a xs'→(∀ p,p∈xs'↔p∈xs)→xs'.length = xs.length→Q () { s with heap:=h' }):wpAny (model prog w) A (setRelay a (grown (n + 1))) Q E s:=by
 obtain ⟨m1,m2,m3,m4⟩:=HQ htb.mask h1 h2 h3
 have hsz:es.size = n + 1:=by rw [← Array.length_toList,hes,LO,hn]
 have hfill:t.fill = t.place.size:=by unfold SetTable.fill; rw [htb.dum]; rfl
 have hps:t.place.size = n + 1:=by have:=htb.size; rw [List.length_map,hn] at this; exact this
 have hlow:=htb.low
 have hfit:t.fits es.size = true:=by
  unfold SetTable.fits
  rw [hfill,hsz,hps]
  simp only [beq_self_eq_true,Bool.true_and,decide_eq_true_eq]
  omega
 unfold setRelay
 refine wpAny_bind (wpAny_setState_of hg hd hfit ?_)
 dsimp only
 rw [if_neg (by rw [sizeLine_eq]; omega)]
 refine wpAny_bind ?_
 obtain ⟨t',order,el,q1,q2,q3,q4,q5,q6,q7,q8,q9⟩:=Me m1 (es.map (·.1)) (by rw [Array.size_map,hsz]; omega) t.finger (t.movedTo (sizeAbove (grown (n + 1)) - 1)) t.led t.plain
 rw [Array.size_map] at q5 q6 q8
 have el':t.relaid (es.map (·.1)) (grown (n + 1)) = some (t',order):=el
 rw [el']
 have hfm:(order.filterMap (es[·]?)).toList = order.toList.filterMap fun r => es[r]?:=by simp
 have hmem:∀ r∈order.toList,r < es.size:=fun r hr => by
  obtain ⟨i,hi⟩:=List.getElem?_of_mem hr
  exact q6 i r (by simpa using hi)
 have hes':(order.filterMap (es[·]?)).size = es.size:=by
  rw [← Array.length_toList,hfm,BZ es _ hmem,Array.length_toList,q5]
 show wpAny _ _ (if ((order.filterMap fun r => es[r]?).size != es.size) = true then _ else pure (order.filterMap fun r => es[r]?,t')) _ _ s
 rw [if_neg (by rw [hes']; simp)]
 refine wpAny_pure ?_
 dsimp only
 refine wpAny_storeSet_of hg hd ?_ (by rw [hes',hsz,sizeLine_eq]; omega)
 generalize hE:order.filterMap (es[·]?) = es' at *
 have hxs:∀ r,r < es.size→∃ p,xs[r]? = some p:=fun r hr => ⟨_,by simp [show r < xs.length by rw [hn]; omega]; rfl⟩
 have hfx:(order.toList.filterMap fun r => xs[r]?).length = es.size:=by
  have:=BZ xs.toArray order.toList (fun r hr => by rw [List.size_toArray,hn]; have:=hmem r hr; omega)
  simp only [List.getElem?_toArray] at this
  rw [this,Array.length_toList,q5]
 have at_:∀ i:Nat,(order.toList.filterMap fun r => xs[r]?)[i]? = (order.toList[i]?).bind fun r => xs[r]?:=fun i => by
  have:=BK xs.toArray order.toList (fun r hr => by rw [List.size_toArray,hn]; have:=hmem r hr; omega) i
  simpa only [List.getElem?_toArray] using this
 have mem:∀ p,p∈(order.toList.filterMap fun r => xs[r]?)↔p∈xs:=fun p => by
  rw [List.mem_filterMap]
  constructor
  ·rintro ⟨r,_,e⟩; exact List.mem_of_getElem? e
  ·intro hp
   obtain ⟨r,hr⟩:=List.getElem?_of_mem hp
   have hrl:r < es.size:=by rw [hsz,← hn]; exact (List.getElem?_eq_some_iff.mp hr).1
   obtain ⟨i,hi⟩:=q8 r hrl
   exact ⟨r,List.mem_of_getElem? (i:=i) (by simpa using hi),hr⟩
 have hesx:∀ i:Nat,es[i]? = (xs[i]?).map fun p => ((tk prog w).hash p.1,Value.ref p.2):=fun i => by
  have:es[i]? = es.toList[i]?:=by simp
  rw [this,hes,Np,List.getElem?_map]
 refine h _ (order.toList.filterMap fun r => xs[r]?) (Heap.SameBut.update ..) ⟨_,es',ep + 1,t',⟨DR hg hd es' t',he,rfl,?_,fun i k x e => ?_,?_,?_,?_,?_,?_⟩⟩ mem (by rw [hfx,hsz,hn])
 ·apply List.ext_getElem?
  intro i
  rw [hfm,BK es _ hmem,Np,List.getElem?_map,at_]
  cases order.toList[i]? with
  | none => rfl
  | some r => exact hesx r
 ·have hp:(k,x)∈xs:=(mem _).mp (List.mem_of_getElem? e)
  obtain ⟨r,hr⟩:=List.getElem?_of_mem hp
  have ik:=hkey r k x hr
  exact Cb ik fun u hu => ((Heap.SameBut.update s.heap a (Obj.putSet es' t')).2 x (PK ik hg he)).trans hu
 ·rw [List.nodup_iff_pairwise_ne]
  refine List.pairwise_iff_getElem.mpr fun i j hi hj hij e => ?_
  rw [List.length_map] at hi hj
  have e1:=at_ i
  have e2:=at_ j
  rw [List.getElem?_eq_getElem hi] at e1
  rw [List.getElem?_eq_getElem hj] at e2
  rw [List.getElem_map,List.getElem_map] at e
  cases r1:order.toList[i]? with
  | none => rw [r1] at e1; cases e1
  | some r =>
   cases r2:order.toList[j]? with
   | none => rw [r2] at e2; cases e2
   | some r' =>
    rw [r1] at e1
    rw [r2] at e2
    have e1:xs[r]? = some _:=e1.symm
    have e2:xs[r']? = some _:=e2.symm
    obtain ⟨l1,g1⟩:=List.getElem?_eq_some_iff.mp e1
    obtain ⟨l2,g2⟩:=List.getElem?_eq_some_iff.mp e2
    have ee:(xs.map (·.1))[r]'(by simpa using l1) = (xs.map (·.1))[r']'(by simpa using l2):=by rw [List.getElem_map,List.getElem_map,g1,g2]; exact e
    have nd:=List.nodup_iff_pairwise_ne.mp hnd
    have:r = r':=by
     rcases Nat.lt_trichotomy r r' with hlt | heq | hgt
     ·exact absurd ee (List.pairwise_iff_getElem.mp nd r r' _ _ hlt)
     ·exact heq
     ·exact absurd ee.symm (List.pairwise_iff_getElem.mp nd r' r _ _ hgt)
    subst this
    have:=q7 i j r (by simpa using r1) (by simpa using r2)
    omega
 ·have:(order.toList.filterMap fun r => xs[r]?).map (fun p => (tk prog w).hash p.1) = order.toList.map fun r => (es.map (·.1)).getD r 0:=by
   apply List.ext_getElem?
   intro i
   rw [List.getElem?_map,at_,List.getElem?_map]
   cases hr:order.toList[i]? with
   | none => rfl
   | some r =>
    have hrl:=hmem r (List.mem_of_getElem? hr)
    obtain ⟨p,hp⟩:=hxs r hrl
    show (xs[r]?).map _ = some ((es.map (·.1)).getD r 0)
    rw [hp]
    have e3:=hesx r
    rw [hp] at e3
    obtain ⟨l,g⟩:=Array.getElem?_eq_some_iff.mp e3
    simp [Array.getD,hrl,g]
  rw [this]
  exact q9
 ·rw [q3]; exact hpl
 ·rw [hfx,hsz,q1]; exact m3
 ·rw [q2]; exact hled
end
end StT
namespace StT
local macro_rules | `(tactic| omega) => `(tactic| first | lia | omega)
open PySem PySem.SetTable PyProof.Rows
section
variable {prog:Program} {w:World} {A:Around} {E:Value→Shared→Prop} {s:Shared}
variable {a:Addr} {xs:List (List Int × Addr)} {o:Obj} {es:Array (Int × Value)} {ep:Nat} {t:SetTable}
theorem VG (S:SetX prog w s.heap a xs) (hu:A.units < cLine) {k:List Int} {x:Addr} (hk:IK prog w s.heap k x) (hl:xs.length < 300) {Q:Bool→Shared→Prop}
  (hT:∀ y,(k,y)∈xs→Q false s)
  (hF:(∀ y,(k,y) ∉ xs)→∀ h' xs',Heap.SameBut a s.heap h'→SetX prog w h' a xs'→(∀ p,p∈xs'↔p∈xs∨p = (k,x))→xs'.length = xs.length + 1→Q true { s with heap:=h' }) :
  wpAny (model prog w) A (setAddHashed a (.ref x) ((tk prog w).hash k)) Q E s:=by
 obtain ⟨o,es,ep,t,S⟩:=S
 unfold setAddHashed setAddHashedIn
 refine wpAny_holding (wpAny_bind (wpAny_setState_of S.get S.dat S.fits ?_))
 dsimp only
 have hbs:byScan (.ref x) es = false:=rfl
 rw [hbs]
 simp only [Bool.false_eq_true,if_false]
 obtain ⟨e,he,hne⟩:=S.tb.room S.len
 obtain ⟨N,hN,eN⟩:=To S.tb.mask (Pr.start t.mask ((tk prog w).hash k)) he
 have hm511:t.mask≤511:=by rcases S.tb.mask with h | h | h | h <;> omega
 refine wpAny_bind (Jo S hu hk (fun i y e => ?_) (fun hno n hf hw => ?_) 100000 0 none (Jj t _) (fun c hc => absurd hc (Nat.not_lt_zero _)) ⟨N,Nat.zero_le _,by rw [eN]; exact hne,by omega⟩)
 ·dsimp only
  exact wpAny_pure (hT y (List.mem_of_getElem? e))
 ·dsimp only
  refine wpAny_bind (wpAny_setState_of S.get S.dat S.fits ?_)
  dsimp only
  obtain ⟨p1,p2,p3,p4,p5,p6⟩:=S.tb.put hf hw
  generalize hJ:(advN t.mask n (start t.mask ((tk prog w).hash k))).j = J at *
  generalize hput:t.put J = tp at *
  obtain ⟨t1,q⟩:=tp
  dsimp only at p1 p2 p3 p4 p5 p6 ⊢
  rw [List.length_map] at p2
  rw [p4,S.pl]
  simp only [if_true]
  refine wpAny_bind (XU hk ?_)
  simp only [if_true]
  refine wpAny_bind (wpAny_storeSet_of S.get S.dat ?_ (by
   rw [CA _ _ _ (by rw [S.size]; exact p2),S.size,sizeLine_eq]; omega))
  have hes1:(insertAt es q ((tk prog w).hash k,.ref x)).toList = Np (xs.take q ++ (k,x) :: xs.drop q) prog w:=by
   rw [BC,S.es]
   simp [Np]
  have hmem:∀ p,p∈xs.take q ++ (k,x) :: xs.drop q↔p∈xs∨p = (k,x):=fun p => by
   rw [List.mem_append,List.mem_cons]
   constructor
   ·rintro (h | h | h)
    ·exact .inl (List.mem_of_mem_take h)
    ·exact .inr h
    ·exact .inl (List.mem_of_mem_drop h)
   ·rintro (h | h)
    ·rw [← List.take_append_drop q xs] at h
     rcases List.mem_append.mp h with h | h
     ·exact .inl h
     ·exact .inr (.inr h)
    ·exact .inr (.inl h)
  have hlen:(xs.take q ++ (k,x) :: xs.drop q).length = xs.length + 1:=by
   rw [List.length_append,List.length_cons,List.length_take,List.length_drop]; omega
  have hnod:((xs.take q ++ (k,x) :: xs.drop q).map (·.1)).Nodup:=by
   have hxs:(xs.take q).map (·.1) ++ (xs.drop q).map (·.1) = xs.map (·.1):=by rw [← List.map_append,List.take_append_drop]
   have nd:=S.nd
   rw [← hxs] at nd
   rw [List.map_append,List.map_cons]
   have hkn:k ∉ (xs.take q).map (·.1) ++ (xs.drop q).map (·.1):=by
    rw [hxs]
    intro hm
    obtain ⟨⟨k',y⟩,hp,rfl⟩:=List.mem_map.mp hm
    obtain ⟨i,hi⟩:=List.getElem?_of_mem hp
    exact hno i y hi
   rw [List.mem_append,not_or] at hkn
   obtain ⟨n1,n2,n3⟩:=List.nodup_append.mp nd
   refine List.nodup_append.mpr ⟨n1,List.nodup_cons.mpr ⟨hkn.2,n2⟩,fun b hb c hc => ?_⟩
   rcases List.mem_cons.mp hc with rfl | hc
   ·rintro rfl; exact hkn.1 hb
   ·exact n3 b hb c hc
  have hsb:=Heap.SameBut.update s.heap a (Obj.putSet (insertAt es q ((tk prog w).hash k,.ref x)) t1)
  have hg1:=DR (s:=s) S.get S.dat (insertAt es q ((tk prog w).hash k,.ref x)) t1
  have hkey1:∀ (i:Nat) (k':List Int) (x':Addr),(xs.take q ++ (k,x) :: xs.drop q)[i]? = some (k',x')→IK prog w (s.heap.update a (Obj.putSet (insertAt es q ((tk prog w).hash k,.ref x)) t1)) k' x':=fun i k' x' e => by
   have ik:IK prog w s.heap k' x':=by
    rcases (hmem _).mp (List.mem_of_getElem? e) with h | h
    ·obtain ⟨j,hj⟩:=List.getElem?_of_mem h
     exact S.key j k' x' hj
    ·cases h; exact hk
   exact Cb ik fun u hu => (hsb.2 x' (PK ik S.get S.ex)).trans hu
  have htb1:Tb t1 ((xs.take q ++ (k,x) :: xs.drop q).map fun p => (tk prog w).hash p.1):=by
   simpa using p1
  have hno':∀ y,(k,y) ∉ xs:=fun y hy => by
   obtain ⟨i,hi⟩:=List.getElem?_of_mem hy
   exact hno i y hi
  have hfill:t1.fill = xs.length + 1:=by
   unfold SetTable.fill
   rw [htb1.dum]
   have:=htb1.size
   rw [List.length_map,hlen] at this
   rw [this]; rfl
  have hroom:=S.room
  simp only [Bool.not_false,Bool.true_and]
  cases htf:t1.tooFull with
  | true =>
   simp only [if_true]
   have htf':t1.mask * 3≤(xs.length + 1) * 5:=by
    unfold SetTable.tooFull at htf
    rw [hfill] at htf
    simpa using htf
   rw [S.size]
   refine wpAny_bind (PL (s:={ s with heap:=s.heap.update a (Obj.putSet (insertAt es q ((tk prog w).hash k,.ref x)) t1) }) hg1 S.ex rfl hes1 hkey1 hnod htb1 (by rw [p4]; exact S.pl) (by rw [p5]; exact S.led) hlen (by rw [p3]; exact hroom) htf' hl fun h' xs' sb sx mm ll => ?_)
   refine wpAny_pure (hF hno' h' xs' (hsb.trans sb) sx (fun p => (mm p).trans (hmem p)) (ll.trans hlen))
  | false =>
   simp only [Bool.false_eq_true,if_false]
   refine wpAny_pure (hF hno' _ _ hsb ⟨_,_,_,t1,hg1,S.ex,rfl,hes1,hkey1,hnod,htb1,by rw [p4]; exact S.pl,?_,by rw [p5]; exact S.led⟩ hmem hlen)
   unfold SetTable.tooFull at htf
   rw [hfill] at htf
   rw [hlen]
   simpa using htf
def IO (ks:List (List Int × Addr)) (xs:List (List Int × Addr)):Prop:=(∀ p,p∈xs→p∈ks)∧(∀ k y,(k,y)∈ks→∃ y',(k,y')∈xs)∧xs.length≤ks.length
theorem SetX.keep' {h h':Heap} (S:SetX prog w h a xs) (ha:∀ u,h.get? a = some u→h'.get? a = some u) (hk:∀ k x,(k,x)∈xs→∀ u,h.get? x = some u→h'.get? x = some u):SetX prog w h' a xs:=by
 obtain ⟨o,es,ep,t,S⟩:=S
 exact ⟨o,es,ep,t,ha _ S.get,S.ex,S.dat,S.es,fun i k x e => Cb (S.key i k x e) (hk k x (List.mem_of_getElem? e)),S.nd,S.tb,S.pl,S.room,S.led⟩
theorem SE {I l:Addr} {items:Array Value} {ps:List (List Int × Addr)} (hh:A.in1.handled = none) (hne:l≠I) (hI:a≠I) (hla:a≠l) (hps:items.toList = ps.map fun p => Value.ref p.2) (hz:ps.length≤300) (hu:A.units + 1 < cLine)
  {R:Result→Shared→Prop}:∀ (n i:Nat) (s:Shared) (xs:List (List Int × Addr)),n = ps.length - i→i≤ps.length→s.heap.IsListIter I l i→s.heap.IsList l items→(∀ k x,(k,x)∈ps→IK prog w s.heap k x∧x≠I)→SetX prog w s.heap a xs→IO (ps.take i) xs →
   (∀ h' tk' xs',(∀ b u,b≠a→b≠I→s.heap.get? b = some u→h'.get? b = some u)→SetX prog w h' a xs'→IO ps xs'→R (.ok (.ret .none)) { s with heap:=h',toks:=tk' }) →
   codeAny (model prog w) A (.builtin "set.update.loop" ⟨[.ref a,.ref I],[]⟩) R s:=by
 have W:=Walks.list (A:=A.in1) (prog:=prog) (w:=w) hh I l hne items
 have hsz:items.size = ps.length:=by rw [← Array.length_toList,hps,List.length_map]
 intro n
 induction n with
 | zero =>
  intro i s xs hn hi hit hl hp hX hS hR
  have:i = ps.length:=by omega
  subst this
  rw [List.take_length] at hS
  refine codeAny_builtin PyProof.Rows.F.entry_set_update_loop ?_
  rw [Around.under_plainId PyProof.Rows.F.plain_set_update_loop _]
  show wpAny _ A.in1 (pyNext (.ref I) >>= _) _ _ s
  refine wpAny_bind (wpAny_pyNext_list_end hh hit hl (by simp [hsz]) fun h' hk => ?_)
  show wpAny _ A.in1 (ret Value.none) _ _ _
  refine wpAny_pure (hR h' s.toks xs (fun b u _ hb e => hk b u hb e) (hX.keep' (fun u e => hk a u hI e) fun k x hx u e => hk x u (hp k x (hS.1 _ hx)).2 e) hS)
 | succ n ih =>
  intro i s xs hn hi hit hl hp hX hS hR
  have hlt:i < ps.length:=by omega
  obtain ⟨⟨k,x⟩,hkx⟩:∃ p,ps[i]? = some p:=⟨_,by simp [hlt]; rfl⟩
  have hitem:items[i]? = some (.ref x):=by
   have:items[i]? = items.toList[i]?:=by simp
   rw [this,hps,List.getElem?_map,hkx]; rfl
  refine codeAny_builtin PyProof.Rows.F.entry_set_update_loop ?_
  rw [Around.under_plainId PyProof.Rows.F.plain_set_update_loop _]
  show wpAny _ A.in1 (pyNext (.ref I) >>= _) _ _ s
  refine wpAny_bind (wpAny_pyNext_list_item hit hl hitem fun h1 hit1 sb1 => ?_)
  have hk1:∀ b u,b≠I→s.heap.get? b = some u→h1.get? b = some u:=fun b u hb e => (sb1.2 b hb).trans e
  have kx:=hp k x (List.mem_of_getElem? hkx)
  have hX1:SetX prog w h1 a xs:=hX.keep' (fun u e => hk1 a u hI e) fun k x hx u e => hk1 x u (hp k x (List.mem_of_mem_take (hS.1 _ hx))).2 e
  have ik1:∀ k x,(k,x)∈ps→IK prog w h1 k x∧x≠I:=fun k x hx => ⟨Cb (hp k x hx).1 fun u e => hk1 x u (hp k x hx).2 e,(hp k x hx).2⟩
  have hl1:h1.IsList l items:=hl.at fun o e => hk1 l o hne e
  show wpAny _ A.in1 (holding [Value.ref x] (setAdd a (.ref x)) >>= _) _ _ _
  refine wpAny_bind (wpAny_holding ?_)
  unfold setAdd
  refine wpAny_holding ?_
  refine wpAny_bind ((tk prog w).pyHash (s:={ s with heap:=h1 }) hu (ik1 k x (List.mem_of_getElem? hkx)).1 ?_)
  have htake:ps.take (i + 1) = ps.take i ++ [(k,x)]:=by rw [List.take_add_one,hkx]; rfl
  have hlen:xs.length≤i:=by have:=hS.2.2; rw [List.length_take] at this; omega
  refine VG (s:={ s with heap:=h1,toks:=s.toks + (tk prog w).draws k }) hX1 hu (ik1 k x (List.mem_of_getElem? hkx)).1 (by omega) (fun y hy => ?_) (fun hno h2 xs' sb sx mm ll => ?_)
  ·refine wpAny_pure ⟨plainId_quiet PyProof.Rows.F.plain_set_update_loop _,ih (i + 1) _ xs (by omega) (by omega) hit1 hl1 ik1 hX1 ⟨fun p hp' => by rw [htake]; exact List.mem_append_left _ (hS.1 p hp'),fun k' y' hm => ?_,by rw [htake,List.length_append]; have:=hS.2.2; omega⟩ fun h' tk' xs' kp sx so => hR h' tk' xs' (fun b u h1' h2' e => kp b u h1' h2' (hk1 b u h2' e)) sx so⟩
   rw [htake] at hm
   rcases List.mem_append.mp hm with hm | hm
   ·exact hS.2.1 k' y' hm
   ·cases List.mem_singleton.mp hm
    exact ⟨y,hy⟩
  ·have keep2:∀ b u,b≠a→h1.get? b = some u→h2.get? b = some u:=fun b u hb e => (sb.2 b hb).trans e
   have nea:∀ k x,(k,x)∈ps→x≠a:=fun k x hx => by
    obtain ⟨o,es,ep,t,S⟩:=hX1
    exact PK (ik1 k x hx).1 S.get S.ex
   refine wpAny_pure ⟨plainId_quiet PyProof.Rows.F.plain_set_update_loop _,ih (i + 1) { s with heap:=h2,toks:=s.toks + (tk prog w).draws k } xs' (by omega) (by omega) (hit1.at fun o e => keep2 I o (Ne.symm hI) e) (hl1.at fun o e => keep2 l o (Ne.symm hla) e)
    (fun k x hx => ⟨Cb (ik1 k x hx).1 fun u e => keep2 x u (nea k x hx) e,(hp k x hx).2⟩) sx ⟨fun p hp' => ?_,fun k' y' hm => ?_,by rw [htake,List.length_append,ll]; have:=hS.2.2; simp; omega⟩ fun h' tk' xs2 kp sx so => hR h' tk' xs2 (fun b u h1' h2' e => kp b u h1' h2' (keep2 b u h1' (hk1 b u h2' e))) sx so⟩
   ·rw [htake]
    rcases (mm p).mp hp' with h | h
    ·exact List.mem_append_left _ (hS.1 p h)
    ·exact List.mem_append_right _ (List.mem_singleton.mpr h)
   ·rw [htake] at hm
    rcases List.mem_append.mp hm with hm | hm
    ·obtain ⟨y2,hy2⟩:=hS.2.1 k' y' hm
     exact ⟨y2,(mm _).mpr (.inl hy2)⟩
    ·cases List.mem_singleton.mp hm
     exact ⟨x,(mm _).mpr (.inr rfl)⟩
end
end StT
namespace StT
open PySem PySem.SetTable PyProof.Rows
theorem Am:Slot "set_iterator" "__next__" "set_iterator.__next__" :=
 .of (owner:="set_iterator") (n:="__next__") (by rw [typeLookup_type,builtinLookup_eq_fast]; kernel_rfl) (by decide +kernel) (by decide +kernel) (by decide +kernel)
  (by first | exact .inl (by decide +kernel) | exact .inr (by decide +kernel)) (by rw [isSubtype_type]; kernel_rfl)
theorem Cp:Slot "set_iterator" "__iter__" "set_iterator.__iter__" :=
 .of (owner:="set_iterator") (n:="__iter__") (by rw [typeLookup_type,builtinLookup_eq_fast]; kernel_rfl) (by decide +kernel) (by decide +kernel) (by decide +kernel)
  (by first | exact .inl (by decide +kernel) | exact .inr (by decide +kernel)) (by rw [isSubtype_type]; kernel_rfl)
theorem CI:entryFor table "set_iterator.__next__" = some Builtin.«set_iterator.__next__»:=entryFor_of_tree (by kernel_rfl)
theorem Ei:entryFor table "set_iterator.__iter__" = some Builtin.«dict_keyiterator.__iter__» :=
 entryFor_alias (id':="dict_keyiterator.__iter__") (by kernel_rfl) (by first | rfl | decide +kernel | (unfold String.splitOn; simp +decide [String.splitOnAux])) (by decide +kernel) (by kernel_rfl)
theorem Fu:entryFor table "set.__iter__" = some Builtin.«frozenset.__iter__» :=
 entryFor_alias (id':="frozenset.__iter__") (by kernel_rfl) (by first | rfl | decide +kernel | (unfold String.splitOn; simp +decide [String.splitOnAux])) (by decide +kernel) (by kernel_rfl)
theorem Ew:Manifest.owners.lookup (String.ofList ['r','o','t','a','r','e','t','i','_','t','e','s'].reverse) = some Manifest.sig_set_iterator:=by kernel_rfl
theorem Cq (a:Value):argsOk "set_iterator.__next__" ⟨[a],[]⟩:=by
 unfold argsOk; rw [signature?_of (id:="set_iterator.__next__") (n:=['_','_','t','x','e','n','_','_']) (o:=['r','o','t','a','r','e','t','i','_','t','e','s']) (by kernel_rfl) Ew]; kernel_rfl
theorem FB (a:Value):argsOk "set_iterator.__iter__" ⟨[a],[]⟩:=by
 unfold argsOk; rw [signature?_of (id:="set_iterator.__iter__") (n:=['_','_','r','e','t','i','_','_']) (o:=['r','o','t','a','r','e','t','i','_','t','e','s']) (by kernel_rfl) Ew]; kernel_rfl
theorem Mh {α:Type}:∀ (l:List α) (i:Nat) (h:i < l.length),(l[i] :: l.eraseIdx i).Perm l
 | x :: l,0,_ => List.Perm.refl _
 | x :: l,i + 1,h => by
  have ih:=Mh l i (by simpa using h)
  simp only [List.getElem_cons_succ,List.eraseIdx_cons_succ]
  exact (List.Perm.swap _ _ _).trans (ih.cons x)
theorem Mi {α:Type} (next:Nat→Nat):∀ (n k:Nat) (left:List α) (out:Array α),left.length = n→(pickOrder.go next n k left out).toList.Perm (out.toList ++ left)
 | 0,k,left,out,h => by
  have:left = []:=List.length_eq_zero_iff.mp h
  subst this
  simp [pickOrder.go]
 | n + 1,k,left,out,h => by
  have hlt:next k % left.length < left.length:=Nat.mod_lt _ (by omega)
  have e:left[next k % left.length]? = some left[next k % left.length]:=by simp [hlt]
  rw [pickOrder.go,e]
  have ih:=Mi next n (k + 1) (left.eraseIdx (next k % left.length)) (out.push left[next k % left.length]) (by rw [List.length_eraseIdx_of_lt hlt]; omega)
  refine ih.trans ?_
  rw [Array.toList_push,List.append_assoc]
  exact List.Perm.append_left _ (Mh left _ hlt)
theorem Nq {α:Type} (next:Nat→Nat) (xs:Array α):(pickOrder next xs).toList.Perm xs.toList:=by
 have:=Mi next xs.size 0 xs.toList #[] (by simp)
 simp only [List.nil_append] at this
 exact this
def Cy (w:World) (a:Addr) (ep:Nat) (es:Array (Int × Value)):Array (Int × Value):=if w.params.followText "set-order" = true then pickOrder (w.params.setOrder a ep) es else es
theorem Ej (w:World) (a:Addr) (ep:Nat) (es:Array (Int × Value)):(Cy w a ep es).toList.Perm es.toList:=by
 unfold Cy
 split
 ·exact Nq _ _
 ·exact List.Perm.refl _
theorem DS (w:World) (a:Addr) (ep:Nat) (es:Array (Int × Value)):(Cy w a ep es).size = es.size:=by
 rw [← Array.length_toList,← Array.length_toList]; exact (Ej w a ep es).length_eq
theorem LP {xs:Array Nat} (r:PF xs) {i:Nat} (hi:i≤xs.size) {slot:Nat} (hs:(i = 0∧slot = 0)∨(0 < i∧∃ j,xs[i - 1]? = some j∧slot = j + 1)):below xs slot = i:=by
 obtain ⟨b1,b2,b3⟩:=Ca (j:=slot) r
 rcases hs with ⟨rfl,rfl⟩ | ⟨h0,j,hj,rfl⟩
 ·apply Classical.byContradiction
  intro hne
  have h0:0 < xs.size:=by omega
  have:=b2 0 xs[0] (by omega) (by simp [h0])
  omega
 ·have hlt:i - 1 < xs.size:=(Array.getElem?_eq_some_iff.mp hj).1
  rcases Nat.lt_trichotomy (below xs (j + 1)) i with hl | he | hg
  ·have hx:xs[below xs (j + 1)]? = some xs[below xs (j + 1)]:=by simp [show below xs (j + 1) < xs.size by omega]
   have h1:=b3 _ _ (Nat.le_refl _) hx
   by_cases hq:below xs (j + 1) = i - 1
   ·have hx2:xs[below xs (j + 1)]? = some j:=by rw [hq]; exact hj
    have:=Option.some.inj (hx.symm.trans hx2)
    omega
   ·have:=Fm r hx hj (by omega)
    omega
  ·exact he
  ·have hx:xs[i]? = some xs[i]:=by simp [show i < xs.size by omega]
   have h1:=b2 i _ hg hx
   have:=Fm r hj hx (by omega)
   omega
section
variable {prog:Program} {w:World} {A:Around} {E:Value→Shared→Prop} {s:Shared}
variable {a:Addr} {xs:List (List Int × Addr)} {o:Obj} {es:Array (Int × Value)} {ep:Nat} {t:SetTable}
def CJ (w:World) (h:Heap) (I a:Addr) (t:SetTable) (ep n i:Nat):Prop:=∃ slot:Nat,h.get? I = some { cls:=.type "set_iterator",dict:=none,data:=.fields #[rawInt slot,rawInt i,.ref a,rawInt n,rawInt ep],slots:=#[] } ∧
 (w.params.followText "set-order" = false→(i = 0∧slot = 0)∨(0 < i∧∃ j,t.place[i - 1]? = some j∧slot = j + 1))
theorem Fv (hg:s.heap.get? a = some o) (hd:o.data = .set es ep t) (hf:t.fits es.size = true) (hr:PF t.place) (hpl:t.plain = true) (hled:t.led = !w.params.followText "set-order") {i slot:Nat} (hi:i≤es.size)
  (hs:w.params.followText "set-order" = false→(i = 0∧slot = 0)∨(0 < i∧∃ j,t.place[i - 1]? = some j∧slot = j + 1)) {Q:Option (Value × Nat)→Shared→Prop}
  (hsome:∀ e slot',(Cy w a ep es)[i]? = some e→(w.params.followText "set-order" = false→∃ j,t.place[i]? = some j∧slot' = j + 1)→Q (some (e.2,slot')) s) (hnone:i = es.size→Q none s):wpAny (model prog w) A (setNext a slot i ep) Q E s:=by
 have hps:t.place.size = es.size:=by
  simp only [SetTable.fits,Bool.and_eq_true,beq_iff_eq] at hf
  exact hf.1
 have ask:∀ {R:Bool→Shared→Prop},R (w.params.followText "set-order") s→wpAny (model prog w) A setsByText R E s:=fun h => wpAny_bind (wpAny_askSetting (wpAny_pure h))
 unfold setNext
 refine wpAny_bind (wpAny_setState_of hg hd hf ?_)
 dsimp only
 refine wpAny_bind (ask ?_)
 cases hb:w.params.followText "set-order" with
 | true =>
  simp only [if_true]
  rw [if_neg (by simp)]
  refine wpAny_bind ?_
  unfold setWalk
  refine wpAny_bind (wpAny_setState_of hg hd hf ?_)
  dsimp only
  refine wpAny_bind (ask ?_)
  rw [hb]
  simp only [if_true]
  refine wpAny_bind (wpAny_askSetting (wpAny_pure ?_))
  refine wpAny_pure ?_
  have ho:Cy w a ep es = pickOrder (w.params.setOrder a ep) es:=by unfold Cy; rw [if_pos hb]
  show Q (((pickOrder (w.params.setOrder a ep) es)[i]?).map fun e => (e.2,slot)) s
  rw [← ho]
  cases he:(Cy w a ep es)[i]? with
  | some e => exact hsome e slot he fun z => by rw [hb] at z; cases z
  | none =>
   refine hnone ?_
   have:=Array.getElem?_eq_none_iff.mp he
   rw [DS] at this
   omega
 | false =>
  rw [hb] at hled
  simp only [Bool.false_eq_true,if_false]
  have hdr:(!t.plain && decide (es.size > 1)) = false:=by rw [hpl]; rfl
  show wpAny _ _ (if (!t.plain && decide (es.size > 1)) = true then _ else _) _ _ s
  rw [hdr]
  simp only [Bool.false_eq_true,if_false]
  refine wpAny_bind ?_
  show wpAny _ _ (if (!t.led && !es.isEmpty) = true then _ else pure ()) _ _ s
  rw [hled]
  simp only [Bool.not_false,Bool.not_true,Bool.false_and,Bool.false_eq_true,if_false]
  refine wpAny_pure ?_
  rw [LP hr (by omega) (hs hb)]
  have ho:Cy w a ep es = es:=by unfold Cy; rw [if_neg (by rw [hb]; decide)]
  by_cases hlt:i < es.size
  ·have e1:es[i]? = some es[i]:=by simp [hlt]
   have e2:t.place[i]? = some (t.place[i]'(by omega)):=by simp [show i < t.place.size by omega]
   rw [e1,e2]
   exact wpAny_pure (hsome es[i] _ (by rw [ho]; exact e1) fun _ => ⟨_,e2,rfl⟩)
  ·have e1:es[i]? = none:=by simp; omega
   rw [e1]
   exact wpAny_pure (hnone (by omega))
end
section
variable {prog:Program} {w:World} {A:Around} {E:Value→Shared→Prop} {s:Shared}
variable {a I:Addr} {xs:List (List Int × Addr)} {o:Obj} {es:Array (Int × Value)} {ep:Nat} {t:SetTable}
structure Wk (w:World) (o:Obj) (es:Array (Int × Value)) (ep:Nat) (t:SetTable):Prop where
 cls:o.cls = .type "set"
 dat:o.data = .set es ep t
 fits:t.fits es.size = true
 ris:PF t.place
 pl:t.plain = true
 led:t.led = !w.params.followText "set-order"
theorem SetD.wk (S:SetD prog w s.heap a xs o es ep t):Wk w o es ep t:=⟨S.ex.1,S.dat,S.fits,S.tb.ris,S.pl,S.led⟩
theorem CB (K:Wk w o es ep t) (hg:s.heap.get? a = some o) {Q:Array (Int × Value)→Shared→Prop} (h:Q es s):wpAny (model prog w) A (setEntries a) Q E s:=by
 unfold setEntries
 exact wpAny_bind (wpAny_setState_of hg K.dat K.fits (wpAny_pure h))
theorem Nr (K:Wk w o es ep t) (hg:s.heap.get? a = some o) (hne:a≠I) {i:Nat} (hi:i < es.size) (it:CJ w s.heap I a t ep es.size i) {Q:Option Value→Shared→Prop}
  (hQ:∀ e h',(Cy w a ep es)[i]? = some e→CJ w h' I a t ep es.size (i + 1)→Heap.SameBut I s.heap h'→Q (some e.2) { s with heap:=h' }):wpAny (model prog w) A (pyNext (.ref I)) Q E s:=by
 obtain ⟨slot,ho,hsl⟩:=it
 have hT:s.TypeIs (.ref I) "set_iterator":=⟨_,ho,rfl⟩
 unfold pyNext
 refine wpAny_bind (wpAny_attempt (wpAny_callSpecial?_slot (name:=Str.ofString "__next__") hT Am (wpAny_call_entry Am hT CI ?_ (Cq _))))
 refine wpAny_bind (wpAny_pure ?_)
 refine wpAny_bind (wpAny_fieldsOf ho rfl ?_)
 show wpAny _ _ (setEntries a >>= _) _ _ s
 refine wpAny_bind (CB K hg ?_)
 rw [if_neg (by simp)]
 show wpAny _ _ (setNext a ((slot:Int).toNat) ((i:Int).toNat) ((ep:Int).toNat) >>= _) _ _ s
 simp only [Int.toNat_natCast]
 refine wpAny_bind (Fv hg K.dat K.fits K.ris K.pl K.led (Nat.le_of_lt hi) hsl (fun e slot' he hs' => ?_) fun z => by omega)
 dsimp only
 refine wpAny_bind (wpAny_setField_rec ho (by simp) fun h1 ho1 hs1 => ?_)
 refine wpAny_bind (wpAny_setField_rec (s:={ s with heap:=h1 }) ho1 (by simp) fun h2 ho2 hs2 => ?_)
 refine wpAny_pure ⟨_,rfl,wpAny_pure (hQ e h2 he ⟨slot',?_,fun hb => .inr ⟨Nat.succ_pos _,?_⟩⟩ (hs1.trans hs2))⟩
 ·simpa using ho2
 ·simpa using hs' hb
theorem PM (K:Wk w o es ep t) (hh:A.handled = none) (hg:s.heap.get? a = some o) (hne:a≠I) (it:CJ w s.heap I a t ep es.size es.size) {Q:Option Value→Shared→Prop}
  (hQ:∀ h',Heap.ExtBut I s.heap h'→Q none { s with heap:=h' }):wpAny (model prog w) A (pyNext (.ref I)) Q E s:=by
 obtain ⟨slot,ho,hsl⟩:=it
 have hT:s.TypeIs (.ref I) "set_iterator":=⟨_,ho,rfl⟩
 unfold pyNext
 refine wpAny_bind (wpAny_attempt (wpAny_callSpecial?_slot (name:=Str.ofString "__next__") hT Am (wpAny_call_entry Am hT CI ?_ (Cq _))))
 refine wpAny_bind (wpAny_pure ?_)
 refine wpAny_bind (wpAny_fieldsOf ho rfl ?_)
 show wpAny _ _ (setEntries a >>= _) _ _ s
 refine wpAny_bind (CB K hg ?_)
 rw [if_neg (by simp)]
 show wpAny _ _ (setNext a ((slot:Int).toNat) ((es.size:Int).toNat) ((ep:Int).toNat) >>= _) _ _ s
 simp only [Int.toNat_natCast]
 refine wpAny_bind (Fv hg K.dat K.fits K.ris K.pl K.led (Nat.le_refl _) hsl (fun e slot' he hs' => ?_) fun z => ?_)
 ·have:=(Array.getElem?_eq_some_iff.mp he).1
  rw [DS] at this
  omega
 dsimp only
 refine wpAny_bind (wpAny_setField_rec ho (by simp) fun h1 ho1 hs1 => ?_)
 show wpAny _ _ (newExc (.type "StopIteration") [] >>= _) _ _ _
 refine wpAny_bind ?_
 simp only [newExc,newTuple]
 refine wpAny_bind (wpAny_newObj_type ?_ (by size_fits))
 refine wpAny_bind (m:=firstArgMember _ _) (wpAny_of_eq (a:=Value.none) (by first | rfl | (simp only [firstArgMember]; rfl)) ?_)
 refine wpAny_newObj_type ?_ (by size_fits)
 simp only [raiseNew]
 refine wpAny_bind (wpAny_handled ?_)
 rw [show A.in1.handled = none from hh]
 refine wpAny_bind (wpAny_pure (wpAny_throw ?_))
 refine wpAny_bind (wpAny_isInstance (T:="StopIteration") (b:=true) ⟨_,Heap.get?_push_size _ rfl,rfl⟩ isSubtype_stop ?_)
 exact wpAny_pure (hQ _ ((hs1.extBut.push _).push _))
theorem Nt {n i:Nat} (it:CJ w s.heap I a t ep n i) {Q:Value→Shared→Prop} (h:Q (.ref I) s):wpAny (model prog w) A (pyIter (.ref I)) Q E s:=by
 obtain ⟨slot,ho,_⟩:=it
 have hT:s.TypeIs (.ref I) "set_iterator":=⟨_,ho,rfl⟩
 refine wpAny_pyIter_slot hT Cp (wpAny_call_entry Cp hT Ei ?_ (FB _))
 show wpAny _ _ (ret (.ref I)) _ _ s
 exact wpAny_pure ⟨_,rfl,"set_iterator",_,hT,Am.lookup,h⟩
theorem PN (K:Wk w o es ep t) (hg:s.heap.get? a = some o) {Q:Value→Shared→Prop}
  (h:Q (.ref s.heap.objs.size) { s with heap:=s.heap.push { cls:=.type "set_iterator",data:=.fields #[rawInt 0,rawInt 0,.ref a,rawInt es.size,rawInt ep] } }):wpAny (model prog w) A (pyIter (.ref a)) Q E s:=by
 have hT:s.TypeIs (.ref a) "set":=⟨_,hg,K.cls⟩
 have ask:∀ {A:Around} {E:Value→Shared→Prop} {R:Bool→Shared→Prop},R (w.params.followText "set-order") s→wpAny (model prog w) A setsByText R E s:=fun h => wpAny_bind (wpAny_askSetting (wpAny_pure h))
 refine wpAny_pyIter_slot hT PySem.F.slot_set_iter (wpAny_call_entry PySem.F.slot_set_iter hT Fu ?_ (PySem.F.args_set_iter_1 _))
 unfold Builtin.«frozenset.__iter__»
 refine wpAny_bind (wpAny_bind (wpAny_pure (wpAny_pure ?_)))
 refine wpAny_bind (wpAny_bind (CB K hg (wpAny_pure ?_)))
 refine wpAny_bind ?_
 unfold setDrawn
 refine wpAny_bind (wpAny_setState_of hg K.dat K.fits ?_)
 dsimp only
 refine wpAny_bind (ask (wpAny_pure ?_))
 have hdr:(!w.params.followText "set-order" && (!t.plain && decide (es.size > 1))) = false:=by rw [K.pl]; simp
 show wpAny _ _ (if (!w.params.followText "set-order" && (!t.plain && decide (es.size > 1))) = true then _ else _) _ _ s
 rw [hdr]
 simp only [Bool.false_eq_true,if_false]
 refine wpAny_bind (wpAny_pure ?_)
 refine wpAny_bind (wpAny_setEpoch_of hg K.dat K.fits ?_)
 refine wpAny_bind ?_
 unfold newFields
 refine wpAny_newObj_type ?_
 refine wpAny_pure ⟨_,rfl,"set_iterator",_,⟨_,Heap.get?_push_size _ rfl,rfl⟩,Am.lookup,h⟩
theorem Nu (K:Wk w o es ep t) (hh:A.handled = none) (hne:a≠I):Walks prog w A I [I,a] [I] es.size (fun i v => ∃ h,(Cy w a ep es)[i]? = some (h,v)) (fun i h => CJ w h I a t ep es.size i∧h.get? a = some o) where
 sub:=fun b hb => by simp at hb; simp [hb]
 frame:=fun i h h' st hk => by
  obtain ⟨⟨slot,h1,h2⟩,h3⟩:=st
  exact ⟨⟨slot,hk I (by simp) _ h1,h2⟩,hk a (by simp) _ h3⟩
 item:=fun i s Q E hi st hQ => Nr K st.2 hne hi st.1 fun e h' he it' sb => hQ e.2 h' s.toks ⟨e.1,he⟩ ⟨it',(sb.2 a hne).trans st.2⟩ fun b o hb e => (sb.2 b (fun z => hb (by simp [z]))).trans e
 done:=fun s Q E st hQ => PM K hh st.2 hne st.1 fun h' he => hQ h' s.toks fun b o hb e => he b o (fun z => hb (by simp [z])) e
 self:=fun i s Q E st hQ => Nt st.1 hQ
theorem PP {r:Addr} {Q:Bool→Shared→Prop} (hT:s.TypeIs (.ref r) "set") (h:Q false s):wpAny (model prog w) A (Builtin.List.listLengthHint (.ref r)) Q E s:=by
 unfold Builtin.List.listLengthHint
 refine wpAny_bind (wpAny_specialOf hT PySem.F.slot_set_len.lookup ?_)
 generalize hid:("set.__len__" : String) = id0
 wp_delta
 rw [show splitId id0 = some ("set","__len__") from by subst hid; decide +kernel]
 subst hid
 refine wpAny_bind (wpAny_isInstance (T:="set") (b:=true) hT (by rw [isSubtype_type]; kernel_rfl) ?_)
 refine wpAny_ite_split (fun hab => absurd hab (by decide)) (fun _ => ?_)
 refine wpAny_ite_split (fun _ => ?_) (fun hab => absurd (by decide +kernel) hab)
 refine wpAny_bind (wpAny_typeOf hT ?_)
 exact wpAny_pure h
theorem Mj (K:Wk w o es ep t):PySem.W.KdlSrc prog w "set" a a es.size (fun i v => ∃ h,(Cy w a ep es)[i]? = some (h,v)) (fun h => h.get? a = some o) where
 type:=fun _ hm => ⟨_,hm,K.cls⟩
 there:=fun _ hm => ⟨Heap.lt_size hm,Heap.lt_size hm⟩
 keep:=fun _ _ hm hk => hk a (.inl rfl) _ hm
 notList:=by decide
 notTuple:=by decide
 hint:=fun _ _ _ _ hm hq => PP ⟨_,hm,K.cls⟩ hq
 iter:=fun A s hh hm => ⟨_,_,(fun _ _ hq => PN K hm hq),Nu K hh (Nat.ne_of_lt (Heap.lt_size hm)),⟨⟨0,Heap.get?_push_size _ rfl,fun _ => .inl ⟨rfl,rfl⟩⟩,Heap.get?_push_of_some _ hm⟩⟩
end
end StT
namespace SrtG
open PySem PyProof.Rows
def Ml:Bool→Keyed→Array Keyed→Nat→Nat→Nat→StateT SortSt Sem (Option Nat):=sortPriv% PySem.Builtin.gallop
def BL (left:Bool) (key:Keyed) (arr:Array Keyed) (base i:Nat):StateT SortSt Sem (Option Bool):=do
 let x ← elem' arr (base + i)
 if left then lt' x key else return (← lt' key x).map (!·)
section
variable {prog:Program} {w:World} {A:Around} {E:Value→Shared→Prop} {s:Shared}
def PQ (prog:Program) (w:World) (A:Around) (E:Value→Shared→Prop) (s:Shared) (kd:SortKind) (U:Keyed→Prop) (rk:Keyed→Int):Prop :=
 ∀ (st:SortSt) (x y:Keyed) (Q:Option Bool→SortSt→Prop),kindOf st = kd→U x→U y→Q (some (decide (rk x < rk y))) st→wpS (model prog w) A E s (lt' x y) Q st
variable {kd:SortKind} {U:Keyed→Prop} {rk:Keyed→Int}
def RK (rk:Keyed→Int) (xs:Array Keyed) (i:Nat):Int:=match xs[i]? with
 | some p => rk p
 | none => 0
def AllU (U:Keyed→Prop) (xs:Array Keyed):Prop:=∀ (i:Nat) (p:Keyed),xs[i]? = some p→U p
def bt (left:Bool) (rk:Keyed→Int) (key:Keyed) (arr:Array Keyed) (base i:Nat):Bool:=if left then decide (RK rk arr (base + i) < rk key) else !decide (rk key < RK rk arr (base + i))
theorem SF {left:Bool} {key:Keyed} {arr:Array Keyed} {base i:Nat} {st:SortSt} {Q:Option Bool→SortSt→Prop} (C:PQ prog w A E s kd U rk) (hk:kindOf st = kd) (hK:U key) (hU:AllU U arr) (hi:base + i < arr.size)
  (h:Q (some (bt left rk key arr base i)) st):wpS (model prog w) A E s (BL left key arr base i) Q st:=by
 unfold BL
 have e:arr[base + i]? = some arr[base + i]:=getElem?_pos arr (base + i) hi
 rw [elem'_eq,e]
 refine wpS_bind (wpS_pure ?_)
 have eR:RK rk arr (base + i) = rk arr[base + i]:=by unfold RK; rw [e]
 unfold bt at h
 rw [eR] at h
 cases left with
 | true =>
  rw [if_pos rfl] at h ⊢
  exact C st _ _ _ hk (hU _ _ e) hK h
 | false =>
  rw [if_neg Bool.false_ne_true] at h ⊢
  exact wpS_bind (C st _ _ _ hk hK (hU _ _ e) (wpS_pure h))
def Tq (P:Nat→Bool) (n r:Nat):Prop:=r≤n∧(∀ i,i < r→P i = true)∧∀ i,r≤i→i < n→P i = false
theorem PR {α:Type} {P:Nat→Bool} {b:Nat→StateT SortSt Sem (Option Bool)} {n l h:Nat} {st:SortSt} (hb:∀ i (Q:Option Bool→SortSt→Prop),i < n→Q (some (P i)) st→wpS (model prog w) A E s (b i) Q st)
  (mono:∀ i j,i≤j→j < n→P j = true→P i = true) (hl:l≤h) (hn:h≤n) (h1:∀ i,i < l→P i = true) (h2:∀ i,h≤i→i < n→P i = false) :
  wpS (model prog w) A E s (forIn [:n] ((none:Option (Option Nat)),l,h) fun x __s =>
   if __s.snd.fst ≥ __s.snd.snd then pure (ForInStep.done (none,__s.snd.fst,__s.snd.snd))
   else do
    let __x ← b (__s.snd.fst + (__s.snd.snd - __s.snd.fst) / 2)
    match __x with
     | some mr =>
      if mr = true then pure (ForInStep.yield (none,__s.snd.fst + (__s.snd.snd - __s.snd.fst) / 2 + 1,__s.snd.snd))
      else pure (ForInStep.yield (none,__s.snd.fst,__s.snd.fst + (__s.snd.snd - __s.snd.fst) / 2))
     | x => pure (ForInStep.done (some none,__s.snd.fst,__s.snd.snd))) (fun c st' => st' = st∧c.1 = none∧Tq P n c.2.2) st:=by
 refine wpS_forRange (I:=fun x c st' => st' = st∧∃ l h,c = (none,l,h)∧l≤h∧h≤n∧(∀ i,i < l→P i = true)∧(∀ i,h≤i→i < n→P i = false)∧h - l≤n - x) ?_ ?_ ⟨rfl,l,h,rfl,hl,hn,h1,h2,by omega⟩
 ·rintro x c st' _ hx ⟨rfl,l,h,rfl,hl,hn,h1,h2,hm⟩
  dsimp only
  by_cases hlh:l ≥ h
  ·rw [if_pos hlh]
   have e:l = h:=by omega
   subst e
   exact wpS_pure ⟨rfl,rfl,hn,h1,h2⟩
  ·rw [if_neg hlh]
   refine wpS_bind (hb _ _ (by omega) ?_)
   dsimp only
   cases hP:P (l + (h - l) / 2) with
   | true =>
    rw [if_pos rfl]
    exact wpS_pure ⟨rfl,_,_,rfl,by omega,hn,fun i hi => mono i _ (by omega) (by omega) hP,h2,by omega⟩
   | false =>
    rw [if_neg Bool.false_ne_true]
    refine wpS_pure ⟨rfl,_,_,rfl,by omega,by omega,h1,fun i hi hin => ?_,by omega⟩
    cases q:P i with
    | false => rfl
    | true => rw [mono _ i hi hin q] at hP; cases hP
 ·rintro c st' ⟨rfl,l,h,rfl,hl,hn,h1,h2,hm⟩
  have e:l = h:=by
   have:max 0 n = n:=by omega
   rw [this] at hm
   omega
  subst e
  exact ⟨rfl,rfl,hn,h1,h2⟩
theorem BH {left : Bool} {key : Keyed} {arr : Array Keyed} {base n hint : Nat} {st : SortSt} {Q : Option Nat → SortSt → Prop} (C : PQ prog w A E s kd U rk) (hk : kindOf st = kd) (hK : U key) (hU : AllU U arr) (hb : base + n ≤ arr.size) (hh : hint < n)
    (mono : ∀ i j, i ≤ j → j < n → bt left rk key arr base j = true → bt left rk key arr base i = true)
    (h : ∀ r, Tq (bt left rk key arr base) n r → Q (some r) st) : wpS (model prog w) A E s (Ml left key arr base n hint) Q st := by
  delta Ml
  have hbey : ∀ i (Q : Option Bool → SortSt → Prop), i < n → Q (some (bt left rk key arr base i)) st → wpS (model prog w) A E s (BL left key arr base i) Q st := fun i Q hi q => SF C hk hK hU (by omega) q
  have fals : ∀ i j, i ≤ j → j < n → bt left rk key arr base i = false → bt left rk key arr base j = false := fun i j hij hj e => by
    cases q : bt left rk key arr base j with
    | false => rfl
    | true => rw [mono i j hij hj q] at e; cases e
  refine wpS_bind (hbey _ _ hh ?_)
  dsimp only
  cases hP : bt left rk key arr base hint with
  | true =>
    rw [if_pos rfl]
    refine wpS_bind (wpS_mono (wpS_forRange (I := fun x c st' => st' = st ∧ ∃ la o, c = (none, la, o) ∧ la < o ∧ x + 1 ≤ o ∧ hint + la < n ∧ bt left rk key arr base (hint + la) = true)
      (Q := fun c st' => st' = st ∧ ∃ la o, c = (none, la, o) ∧ la < o ∧ hint + la < n ∧ bt left rk key arr base (hint + la) = true ∧ (n - hint ≤ o ∨ bt left rk key arr base (hint + o) = false)) ?_ ?_ ⟨rfl, 0, 1, rfl, by omega, by omega, hh, hP⟩) ?_)
    · rintro x c st' _ hx ⟨rfl, la, o, rfl, h1, h2, h3, h4⟩
      dsimp only
      by_cases ho : o ≥ n - hint
      · rw [if_pos ho]
        exact wpS_pure ⟨rfl, la, o, rfl, h1, h3, h4, .inl ho⟩
      · rw [if_neg ho]
        refine wpS_bind (hbey _ _ (by omega) ?_)
        dsimp only
        cases hq : bt left rk key arr base (hint + o) with
        | false =>
          rw [if_pos (by decide)]
          exact wpS_pure ⟨rfl, la, o, rfl, h1, h3, h4, .inr hq⟩
        | true =>
          rw [if_neg (by decide)]
          exact wpS_pure ⟨rfl, o, _, rfl, by omega, by omega, by omega, hq⟩
    · rintro c st' ⟨rfl, la, o, rfl, h1, h2, h3, h4⟩
      exact ⟨rfl, la, o, rfl, h1, h3, h4, .inl (by have : max 0 n = n := by omega
                                                   omega)⟩
    · rintro c st' ⟨rfl, la, o, rfl, h1, h3, h4, h5⟩
      dsimp only
      refine wpS_bind (wpS_mono (PR (α := Unit) hbey mono (by omega) (by omega) (fun i hi => mono i (hint + la) (by omega) h3 h4) (fun i hi hin => ?_)) ?_)
      · rcases h5 with h5 | h5
        · omega
        · exact fals (hint + o) i (by omega) hin h5
      · rintro ⟨c1, c2, c3⟩ st'' ⟨rfl, e, pt⟩
        cases e
        exact wpS_pure (h _ pt)
  | false =>
    rw [if_neg Bool.false_ne_true]
    refine wpS_bind (wpS_mono (wpS_forRange (I := fun x c st' => st' = st ∧ ∃ la o, c = (none, la, o) ∧ la < o ∧ x + 1 ≤ o ∧ la ≤ hint ∧ bt left rk key arr base (hint - la) = false)
      (Q := fun c st' => st' = st ∧ ∃ la o, c = (none, la, o) ∧ la < o ∧ la ≤ hint ∧ bt left rk key arr base (hint - la) = false ∧ (hint + 1 ≤ o ∨ bt left rk key arr base (hint - o) = true)) ?_ ?_ ⟨rfl, 0, 1, rfl, by omega, by omega, by omega, hP⟩) ?_)
    · rintro x c st' _ hx ⟨rfl, la, o, rfl, h1, h2, h3, h4⟩
      dsimp only
      by_cases ho : o ≥ hint + 1
      · rw [if_pos ho]
        exact wpS_pure ⟨rfl, la, o, rfl, h1, h3, h4, .inl ho⟩
      · rw [if_neg ho]
        refine wpS_bind (hbey _ _ (by omega) ?_)
        dsimp only
        cases hq : bt left rk key arr base (hint - o) with
        | true =>
          rw [if_pos rfl]
          exact wpS_pure ⟨rfl, la, o, rfl, h1, h3, h4, .inr hq⟩
        | false =>
          rw [if_neg Bool.false_ne_true]
          exact wpS_pure ⟨rfl, o, _, rfl, by omega, by omega, by omega, hq⟩
    · rintro c st' ⟨rfl, la, o, rfl, h1, h2, h3, h4⟩
      exact ⟨rfl, la, o, rfl, h1, h3, h4, .inl (by have : max 0 n = n := by omega
                                                   omega)⟩
    · rintro c st' ⟨rfl, la, o, rfl, h1, h3, h4, h5⟩
      dsimp only
      refine wpS_bind (wpS_mono (PR (α := Unit) hbey mono (by omega) (by omega) (fun i hi => ?_) (fun i hi hin => fals (hint - la) i hi hin h4)) ?_)
      · rcases h5 with h5 | h5
        · omega
        · exact mono i (hint - o) (by omega) (by omega) h5
      · rintro ⟨c1, c2, c3⟩ st'' ⟨rfl, e, pt⟩
        cases e
        exact wpS_pure (h _ pt)
end
local macro_rules | `(tactic| omega) => `(tactic| first | lia | omega)
open PySem PyProof.Rows
variable {rk:Keyed→Int}
def Ek (rk:Keyed→Int) (a:Array Keyed):Prop:=∀ i j,i≤j→j < a.size→RK rk a i≤RK rk a j
structure Mrg (rk:Keyed→Int) (a b out:Array Keyed) (i j:Nat):Prop where
 hi:i≤a.size
 hj:j≤b.size
 perm:out.toList.Perm (a.toList.take i ++ b.toList.take j)
 srt:out.toList.Pairwise fun x y => rk x≤rk y
 ha:∀ x,x∈out.toList→∀ y,i≤y→y < a.size→rk x≤RK rk a y
 hb:∀ x,x∈out.toList→∀ y,j≤y→y < b.size→rk x≤RK rk b y
structure Fin2 (rk:Keyed→Int) (a b r:Array Keyed):Prop where
 perm:r.toList.Perm (a.toList ++ b.toList)
 srt:r.toList.Pairwise fun x y => rk x≤rk y
theorem Aw {a:Array Keyed} {i:Nat} (h:i < a.size):RK rk a i = rk a[i]:=by
 unfold RK
 rw [getElem?_pos a i h]
theorem Mrg.sym {a b out:Array Keyed} {i j:Nat} (m:Mrg rk a b out i j):Mrg rk b a out j i :=
 ⟨m.hj,m.hi,m.perm.trans List.perm_append_comm,m.srt,m.hb,m.ha⟩
theorem Mrg.pushA {a b out:Array Keyed} {i j:Nat} (m:Mrg rk a b out i j) (sa:Ek rk a) (h:i < a.size) (hb:∀ y,j≤y→y < b.size→rk a[i]≤RK rk b y):Mrg rk a b (out.push a[i]) (i + 1) j:=by
 have e:(out.push a[i]).toList = out.toList ++ [a[i]]:=Array.toList_push ..
 have t:a.toList.take (i + 1) = a.toList.take i ++ [a[i]]:=by
  rw [List.take_succ]
  have:a.toList[i]? = some a[i]:=by rw [Array.getElem?_toList]; exact getElem?_pos a i h
  rw [this]; rfl
 refine ⟨h,m.hj,?_,?_,?_,?_⟩
 ·rw [e,t]
  have p1:=m.perm.append_right [a[i]]
  refine p1.trans ?_
  rw [List.append_assoc,List.append_assoc]
  exact List.Perm.append_left _ List.perm_append_comm
 ·rw [e,List.pairwise_append]
  refine ⟨m.srt,List.pairwise_singleton _ _,fun x hx y hy => ?_⟩
  cases List.mem_singleton.mp hy
  have:=m.ha x hx i (Nat.le_refl _) h
  rwa [Aw h] at this
 ·intro x hx y hy hys
  rw [e] at hx
  rcases List.mem_append.mp hx with hx | hx
  ·exact m.ha x hx y (by omega) hys
  ·cases List.mem_singleton.mp hx
   have:=sa i y (by omega) hys
   rwa [Aw h] at this
 ·intro x hx y hy hys
  rw [e] at hx
  rcases List.mem_append.mp hx with hx | hx
  ·exact m.hb x hx y hy hys
  ·cases List.mem_singleton.mp hx
   exact hb y hy hys
theorem Mrg.pushB {a b out:Array Keyed} {i j:Nat} (m:Mrg rk a b out i j) (sb:Ek rk b) (h:j < b.size) (ha:∀ y,i≤y→y < a.size→rk b[j]≤RK rk a y):Mrg rk a b (out.push b[j]) i (j + 1):=(m.sym.pushA sb h ha).sym
theorem IP (a:Array Keyed) (i k:Nat) (h:i + k < a.size):a.extract i (i + (k + 1)) = (a.extract i (i + k)).push a[i + k]:=by
 apply Array.ext'
 rw [Array.toList_push,Array.toList_extract,Array.toList_extract,List.extract_eq_drop_take,List.extract_eq_drop_take]
 have e1:i + (k + 1) - i = k + 1:=by omega
 have e2:i + k - i = k:=by omega
 rw [e1,e2,List.take_succ,List.getElem?_drop,Array.getElem?_toList,getElem?_pos a (i + k) h]
 rfl
theorem Mrg.appA {a b:Array Keyed} {i j:Nat}:∀ (k:Nat) {out:Array Keyed},Mrg rk a b out i j→Ek rk a→i + k≤a.size→(∀ x,x < k→∀ y,j≤y→y < b.size→RK rk a (i + x)≤RK rk b y)→Mrg rk a b (out ++ a.extract i (i + k)) (i + k) j
 | 0,out,m,_,_,_ => by
  have:out ++ a.extract i (i + 0) = out:=by
   apply Array.ext'
   rw [Array.toList_append,Array.toList_extract,List.extract_eq_drop_take]
   have:i + 0 - i = 0:=by omega
   rw [this,List.take_zero,List.append_nil]
  rw [this]; exact m
 | k + 1,out,m,sa,h,hb => by
  have m':=Mrg.appA k m sa (by omega) fun x hx => hb x (by omega)
  have hk:i + k < a.size:=by omega
  rw [IP a i k hk,Array.append_push]
  exact m'.pushA sa hk fun y h1 h2 => by
   have:=hb k (by omega) y h1 h2
   rwa [Aw hk] at this
theorem Mrg.appB {a b:Array Keyed} {i j:Nat} (k:Nat) {out:Array Keyed} (m:Mrg rk a b out i j) (sb:Ek rk b) (h:j + k≤b.size) (ha:∀ x,x < k→∀ y,i≤y→y < a.size→RK rk b (j + x)≤RK rk a y):Mrg rk a b (out ++ b.extract j (j + k)) i (j + k):=(Mrg.appA k m.sym sb h ha).sym
theorem Mrg.fin {a b out:Array Keyed} (m:Mrg rk a b out a.size b.size):Fin2 rk a b out:=by
 have p:=m.perm
 rw [← Array.length_toList,← Array.length_toList,List.take_length,List.take_length] at p
 exact ⟨p,m.srt⟩
theorem Mrg.restAB {a b out:Array Keyed} {i j:Nat} (m:Mrg rk a b out i j) (sa:Ek rk a) (sb:Ek rk b) (h:∀ x y,i≤x→x < a.size→j≤y→y < b.size→RK rk a x≤RK rk b y):Fin2 rk a b (out ++ a.extract i a.size ++ b.extract j b.size):=by
 have hi:=m.hi
 have hj:=m.hj
 have m1:=m.appA (a.size - i) sa (by omega) fun x hx y h1 h2 => h _ _ (by omega) (by omega) h1 h2
 have e1:i + (a.size - i) = a.size:=by omega
 rw [e1] at m1
 have m2:=m1.appB (b.size - j) sb (by omega) fun x hx y h1 h2 => by omega
 have e2:j + (b.size - j) = b.size:=by omega
 rw [e2] at m2
 exact m2.fin
theorem Mrg.restBA {a b out:Array Keyed} {i j:Nat} (m:Mrg rk a b out i j) (sa:Ek rk a) (sb:Ek rk b) (h:∀ x y,i≤x→x < a.size→j≤y→y < b.size→RK rk b y≤RK rk a x):Fin2 rk a b (out ++ b.extract j b.size ++ a.extract i a.size):=by
 have f:=m.sym.restAB sb sa fun x y h1 h2 h3 h4 => h y x h3 h4 h1 h2
 exact ⟨f.perm.trans List.perm_append_comm,f.srt⟩
end SrtG
namespace SrtG
local macro_rules | `(tactic| omega) => `(tactic| first | lia | omega)
open PySem PyProof.Rows
def Jp:Array Keyed→Array Keyed→StateT SortSt Sem (Array Keyed):=sortPriv% PySem.Builtin.mergeLo
def Mm:Nat→StateT SortSt Sem Unit:=sortPriv% PySem.Builtin.setMinGallop
theorem LQ (g:Nat):Mm g = modify fun s => SortSt.mk' (kindOf s) (arrOf s) (pendingOf s) g (failedOf s):=rfl
abbrev dn (a b out:Array Keyed) (ia ib:Nat):Array Keyed:=out ++ a.extract ia a.size ++ b.extract ib b.size
abbrev la (a b out:Array Keyed) (ia ib:Nat):Array Keyed:=out ++ b.extract ib b.size ++ a.extract ia a.size
section
variable {prog:Program} {w:World} {A:Around} {E:Value→Shared→Prop} {s:Shared} {kd:SortKind} {U:Keyed→Prop} {rk:Keyed→Int}
structure Like (st st':SortSt):Prop where
 kd:kindOf st' = kindOf st
 arr:arrOf st' = arrOf st
 pd:pendingOf st' = pendingOf st
 fl:failedOf st' = failedOf st
theorem Like.refl (st:SortSt):Like st st:=⟨rfl,rfl,rfl,rfl⟩
theorem Cc {g:Nat} {st0 st:SortSt} {Q:Unit→SortSt→Prop} (l:Like st0 st) (h:∀ st',Like st0 st'→Q () st'):wpS (model prog w) A E s (Mm g) Q st:=by
 rw [LQ]
 exact wpS_modify (h _ ⟨l.kd,l.arr,l.pd,l.fl⟩)
theorem AO {arr:Array Keyed} {i:Nat} {st:SortSt} {Q:Keyed→SortSt→Prop} (hi:i < arr.size) (h:Q arr[i] st):wpS (model prog w) A E s (elem' arr i) Q st:=by
 rw [elem'_eq,getElem?_pos arr i hi]
 exact wpS_pure h
structure Hd (rk:Keyed→Int) (a b out:Array Keyed) (i j n:Nat):Prop where
 m:Mrg rk a b out i j
 hi:i + 1 < a.size
 hj:j < b.size
 hn:n≤i + j
theorem Jq {a b:Array Keyed} {st:SortSt} {Q:Array Keyed→SortSt→Prop} (C:PQ prog w A E s kd U rk) (hk:kindOf st = kd) (uA:AllU U a) (uB:AllU U b) (sa:Ek rk a) (sb:Ek rk b) (ha0:0 < a.size) (hb0:0 < b.size)
  (hfst:RK rk b 0≤RK rk a 0) (hlst:RK rk b (b.size - 1)≤RK rk a (a.size - 1))
  (h:∀ r st',Like st st'→Fin2 rk a b r→Q r st'):wpS (model prog w) A E s (Jp a b) Q st:=by
 have Udn:∀ {out i j},Mrg rk a b out i j→i = a.size∨j = b.size→Fin2 rk a b (dn a b out i j):=fun m hh => m.restAB sa sb fun x y _ _ _ _ => by omega
 have Ula:∀ {out i j},Mrg rk a b out i j→i + 1 = a.size→Fin2 rk a b (la a b out i j):=fun {out i j} m hh => m.restBA sa sb fun x y h1 h2 h3 h4 => by
  have e1:=sb y (b.size - 1) (by omega) (by omega)
  have e:x = a.size - 1:=by omega
  subst e
  omega
 have uAt:∀ {i} (hi:i < a.size),U a[i]:=fun hi => uA _ _ (getElem?_pos a _ hi)
 have uBt:∀ {i} (hi:i < b.size),U b[i]:=fun hi => uB _ _ (getElem?_pos b _ hi)
 delta Jp
 refine wpS_bind (wpS_lift (wpAny_rule ⟨rfl,?_⟩))
 refine wpS_bind (AO hb0 ?_)
 have m0:Mrg rk a b #[] 0 0:=⟨by omega,by omega,List.Perm.nil,List.Pairwise.nil,(fun x hx => by cases hx),(fun x hx => by cases hx)⟩
 have m1:Mrg rk a b #[b[0]] 0 1:=m0.pushB sb hb0 fun y _ hy => by
  have e1:=sa 0 y (by omega) hy
  rw [← Aw (rk:=rk) hb0]
  omega
 dsimp only
 by_cases c1:1 = b.size
 ·rw [if_pos (beq_iff_eq.mpr c1)]
  exact wpS_pure (h _ _ (Like.refl _) (Udn m1 (.inr c1)))
 rw [if_neg (fun q => c1 (beq_iff_eq.mp q))]
 by_cases c2:0 + 1 = a.size
 ·rw [if_pos (beq_iff_eq.mpr c2)]
  exact wpS_pure (h _ _ (Like.refl _) (Ula m1 c2))
 rw [if_neg (fun q => c2 (beq_iff_eq.mp q))]
 refine wpS_bind (wpS_get ?_)
 refine wpS_bind (wpS_mono (wpS_forRange (I:=fun x c st' => Like st st'∧∃ out i j mg,c = (none,out,i,j,mg)∧Hd rk a b out i j (x + 1))
  (Q:=fun c st' => Like st st'∧∃ r,c.1 = some r∧Fin2 rk a b r) ?_ ?_ ⟨Like.refl _,_,_,_,_,rfl,m1,by omega,by omega,by omega⟩) ?_)
 ·rintro x c st1 _ hx ⟨lk,out,i,j,mg,rfl,hd⟩
  dsimp only
  refine wpS_bind (wpS_mono (wpS_forRange (I:=fun _ c st' => Like st st'∧∃ out i j ac bc,c = (none,out,i,j,ac,bc)∧Hd rk a b out i j (x + 1))
   (Q:=fun c st' => Like st st'∧((∃ r,c.1 = some r∧Fin2 rk a b r)∨∃ out i j ac bc,c = (none,out,i,j,ac,bc)∧Hd rk a b out i j (x + 1))) ?_ ?_ ⟨lk,_,_,_,_,_,rfl,hd⟩) ?_)
  ·rintro x1 c st2 _ hx1 ⟨lk,out,i,j,ac,bc,rfl,hd⟩
   have hia:i < a.size:=by have:=hd.hi; omega
   have hjb:=hd.hj
   have hin:=hd.hn
   dsimp only
   refine wpS_bind (AO hd.hj ?_)
   refine wpS_bind (AO hia ?_)
   refine wpS_bind (C _ _ _ _ (lk.kd.trans hk) (uBt hd.hj) (uAt hia) ?_)
   dsimp only
   by_cases hlt:rk b[j] < rk a[i]
   ·rw [if_pos (by exact decide_eq_true hlt)]
    have m:=hd.m.pushB sb hd.hj fun y h1 h2 => by
     have:=sa i y h1 h2
     rw [Aw hia] at this
     omega
    refine wpS_bind (AO hd.hj ?_)
    by_cases c3:j + 1 = b.size
    ·rw [if_pos (beq_iff_eq.mpr c3)]
     exact wpS_pure ⟨lk,.inl ⟨_,rfl,Udn m (.inr c3)⟩⟩
    rw [if_neg (fun q => c3 (beq_iff_eq.mp q))]
    have hd':Hd rk a b (out.push b[j]) i (j + 1) (x + 1):=⟨m,hd.hi,by have:=hd.hj; omega,by omega⟩
    split
    ·exact wpS_pure ⟨lk,.inr ⟨_,_,_,_,_,rfl,hd'⟩⟩
    ·exact wpS_pure ⟨lk,_,_,_,_,_,rfl,hd'⟩
   ·rw [if_neg (fun q => hlt (of_decide_eq_true q))]
    have m:=hd.m.pushA sa hia fun y h1 h2 => by
     have:=sb j y h1 h2
     rw [Aw hd.hj] at this
     omega
    refine wpS_bind (AO hia ?_)
    by_cases c3:i + 1 + 1 = a.size
    ·rw [if_pos (beq_iff_eq.mpr c3)]
     exact wpS_pure ⟨lk,.inl ⟨_,rfl,Ula m c3⟩⟩
    rw [if_neg (fun q => c3 (beq_iff_eq.mp q))]
    have hd':Hd rk a b (out.push a[i]) (i + 1) j (x + 1):=⟨m,by have:=hd.hi; omega,hd.hj,by omega⟩
    split
    ·exact wpS_pure ⟨lk,.inr ⟨_,_,_,_,_,rfl,hd'⟩⟩
    ·exact wpS_pure ⟨lk,_,_,_,_,_,rfl,hd'⟩
  ·rintro c st2 ⟨lk,hh⟩
   exact ⟨lk,.inr hh⟩
  rintro c st2 ⟨lk,⟨r,e,f⟩ | ⟨out,i,j,ac,bc,rfl,hd⟩⟩
  ·obtain ⟨c1,c2⟩:=c
   cases e
   exact wpS_pure ⟨lk,_,rfl,f⟩
  dsimp only
  refine wpS_bind (wpS_lift (wpAny_rule ⟨rfl,?_⟩))
  refine wpS_bind (wpS_mono (wpS_forRange (I:=fun y c st' => Like st st'∧∃ out i j mg ac bc,c = (none,out,i,j,mg,ac,bc)∧Hd rk a b out i j (x + 1 + y))
   (Q:=fun c st' => Like st st'∧((∃ r,c.1 = some r∧Fin2 rk a b r)∨∃ out i j mg ac bc,c = (none,out,i,j,mg,ac,bc)∧Hd rk a b out i j (x + 1 + 1))) ?_ ?_ ⟨lk,_,_,_,_,_,_,rfl,hd⟩) ?_)
  ·rintro x1 c st2 _ hx1 ⟨lk,out,i,j,mg,ac,bc,rfl,hd⟩
   have hia:i < a.size:=by have:=hd.hi; omega
   have hjb:=hd.hj
   have hin:=hd.hn
   dsimp only
   refine dite (mg > 1) (fun hmg => ?_) (fun hmg => ?_)
   all_goals first | rw [if_pos hmg] | rw [if_neg hmg]
   all_goals
    refine wpS_bind (Cc lk fun st3 lk => ?_)
    refine wpS_bind (AO hjb ?_)
    refine wpS_bind (BH C (lk.kd.trans hk) (uBt hjb) uA (by omega) (by omega) ?_ ?_)
    ·intro p q hpq hq e
     unfold bt at e ⊢
     rw [if_neg Bool.false_ne_true] at e ⊢
     have e':=of_decide_eq_false (Bool.not_eq_true' _ |>.mp e)
     have:=sa (i + p) (i + q) (by omega) (by omega)
     exact (Bool.not_eq_true' _).mpr (decide_eq_false (by omega))
    rintro k ⟨kn,kt,kf⟩
    have kt':∀ x,x < k→RK rk a (i + x)≤RK rk b j:=fun x hx => by
     have e:=kt x hx
     unfold bt at e
     rw [if_neg Bool.false_ne_true] at e
     have e':=of_decide_eq_false (Bool.not_eq_true' _ |>.mp e)
     rw [Aw hjb]
     omega
    have kf':∀ y,i + k≤y→y < a.size→rk b[j]≤RK rk a y:=fun y h1 h2 => by
     have e:=kf (y - i) (by omega) (by omega)
     unfold bt at e
     rw [if_neg Bool.false_ne_true] at e
     have e':=of_decide_eq_true (Bool.not_eq_false' _ |>.mp e)
     have ey:i + (y - i) = y:=by omega
     rw [ey] at e'
     omega
    have m:=hd.m.appA k sa (by omega) fun x hx y h1 h2 => by
     have:=sb j y h1 h2
     have:=kt' x hx
     omega
    dsimp only
    by_cases k0:k > 0
    ·rw [if_pos k0]
     by_cases c3:i + k + 1 = a.size
     ·rw [if_pos (beq_iff_eq.mpr c3)]
      exact wpS_pure ⟨lk,.inl ⟨_,rfl,Ula m c3⟩⟩
     rw [if_neg (fun q => c3 (beq_iff_eq.mp q))]
     by_cases c4:i + k = a.size
     ·rw [if_pos (beq_iff_eq.mpr c4)]
      exact wpS_pure ⟨lk,.inl ⟨_,rfl,Udn m (.inl c4)⟩⟩
     rw [if_neg (fun q => c4 (beq_iff_eq.mp q))]
     have hi':i + k < a.size:=by omega
     have hi2:i + k + 1 < a.size:=by omega
     have hn':x + 1 + x1≤i + k + j:=by omega
     refine wpS_bind (AO hjb ?_)
     have m2:=m.pushB sb hjb kf'
     by_cases c5:j + 1 = b.size
     ·rw [if_pos (beq_iff_eq.mpr c5)]
      exact wpS_pure ⟨lk,.inl ⟨_,rfl,Udn m2 (.inr c5)⟩⟩
     rw [if_neg (fun q => c5 (beq_iff_eq.mp q))]
     refine wpS_bind (AO hi' ?_)
     refine wpS_bind (BH C (lk.kd.trans hk) (uAt hi') uB (by omega) (by omega) ?_ ?_)
     ·intro p q hpq hq e
      unfold bt at e ⊢
      rw [if_pos rfl] at e ⊢
      have e':=of_decide_eq_true e
      have:=sb (j + 1 + p) (j + 1 + q) (by omega) (by omega)
      exact decide_eq_true (by omega)
     rintro k2 ⟨k2n,k2t,k2f⟩
     have k2t':∀ x,x < k2→∀ y,_≤y→y < a.size→RK rk b (j + 1 + x)≤RK rk a y:=fun x hx y h1 h2 => by
      have e:=k2t x hx
      unfold bt at e
      rw [if_pos rfl] at e
      have e':=of_decide_eq_true e
      have:=sa _ y h1 h2
      rw [Aw hi'] at this
      omega
     have k2f':∀ y,j + 1 + k2≤y→y < b.size→rk (a[i + k]'hi')≤RK rk b y:=fun y h1 h2 => by
      have e:=k2f (y - (j + 1)) (by omega) (by omega)
      unfold bt at e
      rw [if_pos rfl] at e
      have e':=of_decide_eq_false e
      have ey:j + 1 + (y - (j + 1)) = y:=by omega
      rw [ey] at e'
      omega
     dsimp only
     by_cases k20:k2 > 0
     ·rw [if_pos k20]
      have m3:=m2.appB k2 sb (by omega) k2t'
      by_cases c6:j + 1 + k2 = b.size
      ·rw [if_pos (beq_iff_eq.mpr c6)]
       exact wpS_pure ⟨lk,.inl ⟨_,rfl,Udn m3 (.inr c6)⟩⟩
      rw [if_neg (fun q => c6 (beq_iff_eq.mp q))]
      have m4:=m3.pushA sa hi' k2f'
      refine wpS_bind (AO hi' ?_)
      split
      ·rename_i c7
       exact wpS_pure ⟨lk,.inl ⟨_,rfl,Ula m4 (beq_iff_eq.mp c7)⟩⟩
      ·rename_i c7
       have c7':¬ _ = _:=fun q => c7 (beq_iff_eq.mpr q)
       split
       ·exact wpS_pure ⟨lk,.inr ⟨_,_,_,_,_,_,rfl,m4,by omega,by omega,by omega⟩⟩
       ·exact wpS_pure ⟨lk,_,_,_,_,_,_,rfl,m4,by omega,by omega,by omega⟩
     ·rw [if_neg k20]
      have e2:j + 1 + k2 = j + 1:=by omega
      rw [e2] at k2f'
      have m4:=m2.pushA sa hi' k2f'
      refine wpS_bind (AO hi' ?_)
      split
      ·rename_i c7
       exact wpS_pure ⟨lk,.inl ⟨_,rfl,Ula m4 (beq_iff_eq.mp c7)⟩⟩
      ·rename_i c7
       have c7':¬ _ = _:=fun q => c7 (beq_iff_eq.mpr q)
       split
       ·exact wpS_pure ⟨lk,.inr ⟨_,_,_,_,_,_,rfl,m4,by omega,by omega,by omega⟩⟩
       ·exact wpS_pure ⟨lk,_,_,_,_,_,_,rfl,m4,by omega,by omega,by omega⟩
    ·rw [if_neg k0]
     have e0:i + k = i:=by omega
     rw [e0] at kf'
     clear m
     have m:=hd.m
     have hi2:=hd.hi
     have hi':=hia
     have hn':=hin
     refine wpS_bind (AO hjb ?_)
     have m2:=m.pushB sb hjb kf'
     by_cases c5:j + 1 = b.size
     ·rw [if_pos (beq_iff_eq.mpr c5)]
      exact wpS_pure ⟨lk,.inl ⟨_,rfl,Udn m2 (.inr c5)⟩⟩
     rw [if_neg (fun q => c5 (beq_iff_eq.mp q))]
     refine wpS_bind (AO hi' ?_)
     refine wpS_bind (BH C (lk.kd.trans hk) (uAt hi') uB (by omega) (by omega) ?_ ?_)
     ·intro p q hpq hq e
      unfold bt at e ⊢
      rw [if_pos rfl] at e ⊢
      have e':=of_decide_eq_true e
      have:=sb (j + 1 + p) (j + 1 + q) (by omega) (by omega)
      exact decide_eq_true (by omega)
     rintro k2 ⟨k2n,k2t,k2f⟩
     have k2t':∀ x,x < k2→∀ y,_≤y→y < a.size→RK rk b (j + 1 + x)≤RK rk a y:=fun x hx y h1 h2 => by
      have e:=k2t x hx
      unfold bt at e
      rw [if_pos rfl] at e
      have e':=of_decide_eq_true e
      have:=sa _ y h1 h2
      rw [Aw hi'] at this
      omega
     have k2f':∀ y,j + 1 + k2≤y→y < b.size→rk (a[i]'hi')≤RK rk b y:=fun y h1 h2 => by
      have e:=k2f (y - (j + 1)) (by omega) (by omega)
      unfold bt at e
      rw [if_pos rfl] at e
      have e':=of_decide_eq_false e
      have ey:j + 1 + (y - (j + 1)) = y:=by omega
      rw [ey] at e'
      omega
     dsimp only
     by_cases k20:k2 > 0
     ·rw [if_pos k20]
      have m3:=m2.appB k2 sb (by omega) k2t'
      by_cases c6:j + 1 + k2 = b.size
      ·rw [if_pos (beq_iff_eq.mpr c6)]
       exact wpS_pure ⟨lk,.inl ⟨_,rfl,Udn m3 (.inr c6)⟩⟩
      rw [if_neg (fun q => c6 (beq_iff_eq.mp q))]
      have m4:=m3.pushA sa hi' k2f'
      refine wpS_bind (AO hi' ?_)
      split
      ·rename_i c7
       exact wpS_pure ⟨lk,.inl ⟨_,rfl,Ula m4 (beq_iff_eq.mp c7)⟩⟩
      ·rename_i c7
       have c7':¬ _ = _:=fun q => c7 (beq_iff_eq.mpr q)
       split
       ·exact wpS_pure ⟨lk,.inr ⟨_,_,_,_,_,_,rfl,m4,by omega,by omega,by omega⟩⟩
       ·exact wpS_pure ⟨lk,_,_,_,_,_,_,rfl,m4,by omega,by omega,by omega⟩
     ·rw [if_neg k20]
      have e2:j + 1 + k2 = j + 1:=by omega
      rw [e2] at k2f'
      have m4:=m2.pushA sa hi' k2f'
      refine wpS_bind (AO hi' ?_)
      split
      ·rename_i c7
       exact wpS_pure ⟨lk,.inl ⟨_,rfl,Ula m4 (beq_iff_eq.mp c7)⟩⟩
      ·rename_i c7
       have c7':¬ _ = _:=fun q => c7 (beq_iff_eq.mpr q)
       split
       ·exact wpS_pure ⟨lk,.inr ⟨_,_,_,_,_,_,rfl,m4,by omega,by omega,by omega⟩⟩
       ·exact wpS_pure ⟨lk,_,_,_,_,_,_,rfl,m4,by omega,by omega,by omega⟩
  ·rintro c st2 ⟨lk,out,i,j,mg,ac,bc,rfl,hd⟩
   have e:max 0 (a.size + b.size) = a.size + b.size:=by omega
   rw [e] at hd
   exact ⟨lk,.inr ⟨_,_,_,_,_,_,rfl,hd.m,hd.hi,hd.hj,by have:=hd.hn; omega⟩⟩
  rintro c st2 ⟨lk,⟨r,e,f⟩ | ⟨out,i,j,mg,ac,bc,rfl,hd⟩⟩
  ·obtain ⟨c1,c2⟩:=c
   cases e
   exact wpS_pure ⟨lk,_,rfl,f⟩
  dsimp only
  refine wpS_bind (Cc lk fun st3 lk => ?_)
  exact wpS_pure ⟨lk,_,_,_,_,rfl,hd⟩
 ·rintro c st1 ⟨lk,out,i,j,mg,rfl,hd⟩
  have e:max 0 (a.size + b.size) = a.size + b.size:=by omega
  rw [e] at hd
  have:=hd.hn
  have:=hd.hi
  have:=hd.hj
  omega
 ·rintro c st1 ⟨lk,r,e,f⟩
  obtain ⟨c1,c2⟩:=c
  cases e
  exact wpS_pure (h _ _ lk f)
end
end SrtG
namespace SrtG
local macro_rules | `(tactic| omega) => `(tactic| first | lia | omega)
open PySem PyProof.Rows
variable {rk:Keyed→Int}
structure Mrh (rk:Keyed→Int) (a b out:Array Keyed) (i j:Nat):Prop where
 hi:i≤a.size
 hj:j≤b.size
 perm:out.toList.Perm (a.toList.drop i ++ b.toList.drop j)
 srt:out.toList.Pairwise fun x y => rk y≤rk x
 ha:∀ x,x∈out.toList→∀ y,y < i→RK rk a y≤rk x
 hb:∀ x,x∈out.toList→∀ y,y < j→RK rk b y≤rk x
theorem Mrh.sym {a b out:Array Keyed} {i j:Nat} (m:Mrh rk a b out i j):Mrh rk b a out j i :=
 ⟨m.hj,m.hi,m.perm.trans List.perm_append_comm,m.srt,m.hb,m.ha⟩
theorem Mrh.pushA {a b out:Array Keyed} {i j:Nat} (m:Mrh rk a b out (i + 1) j) (sa:Ek rk a) (h:i < a.size) (hb:∀ y,y < j→RK rk b y≤rk a[i]):Mrh rk a b (out.push a[i]) i j:=by
 have e:(out.push a[i]).toList = out.toList ++ [a[i]]:=Array.toList_push ..
 have t:a.toList.drop i = a[i] :: a.toList.drop (i + 1):=by
  have hl:i < a.toList.length:=by rw [Array.length_toList]; exact h
  rw [List.drop_eq_getElem_cons hl]
  rfl
 refine ⟨by omega,m.hj,?_,?_,?_,?_⟩
 ·rw [e,t]
  exact List.perm_append_comm.trans (m.perm.cons a[i])
 ·rw [e,List.pairwise_append]
  refine ⟨m.srt,List.pairwise_singleton _ _,fun x hx y hy => ?_⟩
  cases List.mem_singleton.mp hy
  have:=m.ha x hx i (Nat.lt_succ_self _)
  rwa [Aw h] at this
 ·intro x hx y hy
  rw [e] at hx
  rcases List.mem_append.mp hx with hx | hx
  ·exact m.ha x hx y (by omega)
  ·cases List.mem_singleton.mp hx
   have:=sa y i (by omega) h
   rwa [Aw h] at this
 ·intro x hx y hy
  rw [e] at hx
  rcases List.mem_append.mp hx with hx | hx
  ·exact m.hb x hx y hy
  ·cases List.mem_singleton.mp hx
   exact hb y hy
theorem Mrh.pushB {a b out:Array Keyed} {i j:Nat} (m:Mrh rk a b out i (j + 1)) (sb:Ek rk b) (h:j < b.size) (ha:∀ y,y < i→RK rk a y≤rk b[j]):Mrh rk a b (out.push b[j]) i j:=(m.sym.pushA sb h ha).sym
theorem IQ (a:Array Keyed) (l h:Nat) (hl:l < h) (hh:h≤a.size):(a.extract l h).reverse = (a.extract (l + 1) h).reverse.push (a[l]'(by omega)):=by
 apply Array.ext'
 rw [Array.toList_push,Array.toList_reverse,Array.toList_reverse,Array.toList_extract,Array.toList_extract,List.extract_eq_drop_take,List.extract_eq_drop_take]
 have hln:l < a.toList.length:=by rw [Array.length_toList]; omega
 have e1:h - l = (h - (l + 1)) + 1:=by omega
 rw [List.drop_eq_getElem_cons hln,e1,List.take_succ_cons,List.reverse_cons]
 rfl
theorem Mrh.appA {a b:Array Keyed} {i j:Nat}:∀ (k:Nat) {out:Array Keyed},Mrh rk a b out i j→Ek rk a→k≤i→(∀ x,i - k≤x→x < i→∀ y,y < j→RK rk b y≤RK rk a x)→Mrh rk a b (out ++ (a.extract (i - k) i).reverse) (i - k) j
 | 0,out,m,_,_,_ => by
  have:out ++ (a.extract (i - 0) i).reverse = out:=by
   apply Array.ext'
   rw [Array.toList_append,Array.toList_reverse,Array.toList_extract,List.extract_eq_drop_take]
   have:i - (i - 0) = 0:=by omega
   rw [this,List.take_zero,List.reverse_nil,List.append_nil]
  rw [this]; exact m
 | k + 1,out,m,sa,h,hb => by
  have hi:=m.hi
  have m':=Mrh.appA k m sa (by omega) fun x hx => hb x (by omega)
  have hk:i - (k + 1) < a.size:=by omega
  have e:i - (k + 1) + 1 = i - k:=by omega
  rw [IQ a (i - (k + 1)) i (by omega) hi,Array.append_push,e]
  rw [← e] at m'
  have q:=m'.pushA sa hk fun y h1 => by
   have:=hb (i - (k + 1)) (by omega) (by omega) y h1
   rwa [Aw hk] at this
  rw [e] at q
  exact q
theorem Mrh.appA' {a b out:Array Keyed} {i j l:Nat} (m:Mrh rk a b out i j) (sa:Ek rk a) (h:l≤i) (hb:∀ x,l≤x→x < i→∀ y,y < j→RK rk b y≤RK rk a x):Mrh rk a b (out ++ (a.extract l i).reverse) l j:=by
 have e:i - (i - l) = l:=by omega
 have q:=m.appA (i - l) sa (by omega) (by rw [e]; exact hb)
 rwa [e] at q
theorem Mrh.appB' {a b out:Array Keyed} {i j l:Nat} (m:Mrh rk a b out i j) (sb:Ek rk b) (h:l≤j) (ha:∀ x,l≤x→x < j→∀ y,y < i→RK rk a y≤RK rk b x):Mrh rk a b (out ++ (b.extract l j).reverse) i l:=(m.sym.appA' sb h ha).sym
theorem Mrh.fin {a b out:Array Keyed} (m:Mrh rk a b out 0 0):Fin2 rk a b out.reverse:=by
 have p:=m.perm
 rw [List.drop_zero,List.drop_zero] at p
 constructor
 ·rw [Array.toList_reverse]
  exact (List.reverse_perm _).trans p
 ·rw [Array.toList_reverse,List.pairwise_reverse]
  exact m.srt
theorem Mrh.restAB {a b out:Array Keyed} {i j:Nat} (m:Mrh rk a b out i j) (sa:Ek rk a) (sb:Ek rk b) (h:∀ x y,x < i→y < j→RK rk a x≤RK rk b y):Fin2 rk a b (a.extract 0 i ++ b.extract 0 j ++ out.reverse):=by
 have m1:=m.appB' (l:=0) sb (by omega) fun x _ hx y hy => h y x hy hx
 have m2:=m1.appA' (l:=0) sa (by omega) fun x _ _ y hy => by omega
 have f:=m2.fin
 have e:(out ++ (b.extract 0 j).reverse ++ (a.extract 0 i).reverse).reverse = a.extract 0 i ++ b.extract 0 j ++ out.reverse:=by
  apply Array.ext'
  rw [Array.toList_reverse,Array.toList_append,Array.toList_append,Array.toList_append,Array.toList_append,Array.toList_reverse,Array.toList_reverse,Array.toList_reverse,List.reverse_append,List.reverse_append,List.reverse_reverse,List.reverse_reverse,List.append_assoc]
 rwa [e] at f
theorem Mrh.restBA {a b out:Array Keyed} {i j:Nat} (m:Mrh rk a b out i j) (sa:Ek rk a) (sb:Ek rk b) (h:∀ x y,x < i→y < j→RK rk b y≤RK rk a x):Fin2 rk a b (b.extract 0 j ++ a.extract 0 i ++ out.reverse):=by
 have f:=m.sym.restAB sb sa fun x y h1 h2 => h y x h2 h1
 exact ⟨f.perm.trans List.perm_append_comm,f.srt⟩
def Jr:Array Keyed→Array Keyed→StateT SortSt Sem (Array Keyed):=sortPriv% PySem.Builtin.mergeHi
abbrev aF (a b out:Array Keyed) (i j:Nat):Array Keyed:=a.extract 0 i ++ b.extract 0 j ++ out.reverse
abbrev aG (a b out:Array Keyed) (i j:Nat):Array Keyed:=b.extract 0 j ++ a.extract 0 i ++ out.reverse
end SrtG
namespace SrtG
local macro_rules | `(tactic| omega) => `(tactic| first | lia | omega)
open PySem PyProof.Rows
variable {prog:Program} {w:World} {A:Around} {E:Value→Shared→Prop} {s:Shared} {kd:SortKind} {U:Keyed→Prop} {rk:Keyed→Int}
theorem Mrh.pushA1 {a b out:Array Keyed} {i j:Nat} (m:Mrh rk a b out i j) (sa:Ek rk a) (h0:0 < i) (h:i - 1 < a.size) (hb:∀ y,y < j→RK rk b y≤rk a[i - 1]):Mrh rk a b (out.push a[i - 1]) (i - 1) j:=by
 cases i with
 | zero => omega
 | succ i => exact m.pushA sa h hb
structure Hh (rk:Keyed→Int) (a b out:Array Keyed) (i j n:Nat):Prop where
 m:Mrh rk a b out i j
 hi:0 < i
 hj:1 < j
 hn:i + j + n≤a.size + b.size
theorem Js {a b:Array Keyed} {st:SortSt} {Q:Array Keyed→SortSt→Prop} (C:PQ prog w A E s kd U rk) (hk:kindOf st = kd) (uA:AllU U a) (uB:AllU U b) (sa:Ek rk a) (sb:Ek rk b) (ha0:0 < a.size) (hb0:0 < b.size)
  (hfst:RK rk b 0≤RK rk a 0) (hlst:RK rk b (b.size - 1)≤RK rk a (a.size - 1))
  (h:∀ r st',Like st st'→Fin2 rk a b r→Q r st'):wpS (model prog w) A E s (Jr a b) Q st:=by
 have Udn:∀ {out i j},Mrh rk a b out i j→i = 0∨j = 0→Fin2 rk a b (aF a b out i j):=fun m hh => m.restAB sa sb fun x y _ _ => by omega
 have Ula:∀ {out i j},Mrh rk a b out i j→j = 1→Fin2 rk a b (aG a b out i j):=fun {out i j} m hh => m.restBA sa sb fun x y h1 h2 => by
  have hi:=m.hi
  have e1:=sa 0 x (by omega) (by omega)
  have e:y = 0:=by omega
  subst e
  omega
 have uAt:∀ {i} (hi:i < a.size),U a[i]:=fun hi => uA _ _ (getElem?_pos a _ hi)
 have uBt:∀ {i} (hi:i < b.size),U b[i]:=fun hi => uB _ _ (getElem?_pos b _ hi)
 have hal:a.size - 1 < a.size:=by omega
 delta Jr
 refine wpS_bind (wpS_lift (wpAny_rule ⟨rfl,?_⟩))
 refine wpS_bind (AO hal ?_)
 have m0:Mrh rk a b #[] (a.size - 1 + 1) b.size:=by
  have e:a.size - 1 + 1 = a.size:=by omega
  rw [e]
  refine ⟨by omega,by omega,?_,List.Pairwise.nil,(fun x hx => by cases hx),(fun x hx => by cases hx)⟩
  rw [← Array.length_toList,← Array.length_toList,List.drop_length,List.drop_length]
  exact List.Perm.nil
 have m1:Mrh rk a b #[a[a.size - 1]] (a.size - 1) b.size:=m0.pushA sa hal fun y hy => by
  have e1:=sb y (b.size - 1) (by omega) (by omega)
  rw [← Aw (rk:=rk) hal]
  omega
 dsimp only
 by_cases c1:a.size - 1 = 0
 ·rw [if_pos (beq_iff_eq.mpr c1)]
  exact wpS_pure (h _ _ (Like.refl _) (Udn m1 (.inl c1)))
 rw [if_neg (fun q => c1 (beq_iff_eq.mp q))]
 by_cases c2:b.size = 1
 ·rw [if_pos (beq_iff_eq.mpr c2)]
  exact wpS_pure (h _ _ (Like.refl _) (Ula m1 c2))
 rw [if_neg (fun q => c2 (beq_iff_eq.mp q))]
 refine wpS_bind (wpS_get ?_)
 refine wpS_bind (wpS_mono (wpS_forRange (I:=fun x c st' => Like st st'∧∃ out i j mg,c = (none,i,j,out,mg)∧Hh rk a b out i j (x + 1))
  (Q:=fun c st' => Like st st'∧∃ r,c.1 = some r∧Fin2 rk a b r) ?_ ?_ ⟨Like.refl _,_,_,_,_,rfl,m1,by omega,by omega,by omega⟩) ?_)
 ·rintro x c st1 _ hx ⟨lk,out,i,j,mg,rfl,hd⟩
  dsimp only
  refine wpS_bind (wpS_mono (wpS_forRange (I:=fun _ c st' => Like st st'∧∃ out i j ac bc,c = (none,i,j,out,ac,bc)∧Hh rk a b out i j (x + 1))
   (Q:=fun c st' => Like st st'∧((∃ r,c.1 = some r∧Fin2 rk a b r)∨∃ out i j ac bc,c = (none,i,j,out,ac,bc)∧Hh rk a b out i j (x + 1))) ?_ ?_ ⟨lk,_,_,_,_,_,rfl,hd⟩) ?_)
  ·rintro x1 c st2 _ hx1 ⟨lk,out,i,j,ac,bc,rfl,hd⟩
   have hi0:=hd.hi
   have hj0:=hd.hj
   have hin:=hd.hn
   have hia:i - 1 < a.size:=by have:=hd.m.hi; omega
   have hjb:j - 1 < b.size:=by have:=hd.m.hj; omega
   have ei:i - 1 + 1 = i:=by omega
   have ej:j - 1 + 1 = j:=by omega
   have m:=hd.m
   dsimp only
   refine wpS_bind (AO hjb ?_)
   refine wpS_bind (AO hia ?_)
   refine wpS_bind (C _ _ _ _ (lk.kd.trans hk) (uBt hjb) (uAt hia) ?_)
   dsimp only
   by_cases hlt:rk b[j - 1] < rk a[i - 1]
   ·rw [if_pos (by exact decide_eq_true hlt)]
    rw [← ei] at m
    have m:=m.pushA sa hia fun y h1 => by
     have:=sb y (j - 1) (by omega) hjb
     rw [Aw hjb] at this
     omega
    refine wpS_bind (AO hia ?_)
    by_cases c3:i - 1 = 0
    ·rw [if_pos (beq_iff_eq.mpr c3)]
     exact wpS_pure ⟨lk,.inl ⟨_,rfl,Udn m (.inl c3)⟩⟩
    rw [if_neg (fun q => c3 (beq_iff_eq.mp q))]
    have hd':Hh rk a b (out.push a[i - 1]) (i - 1) j (x + 1):=⟨m,by omega,by omega,by omega⟩
    split
    ·exact wpS_pure ⟨lk,.inr ⟨_,_,_,_,_,rfl,hd'⟩⟩
    ·exact wpS_pure ⟨lk,_,_,_,_,_,rfl,hd'⟩
   ·rw [if_neg (fun q => hlt (of_decide_eq_true q))]
    rw [← ej] at m
    have m:=m.pushB sb hjb fun y h1 => by
     have:=sa y (i - 1) (by omega) hia
     rw [Aw hia] at this
     omega
    refine wpS_bind (AO hjb ?_)
    by_cases c3:j - 1 = 1
    ·rw [if_pos (beq_iff_eq.mpr c3)]
     exact wpS_pure ⟨lk,.inl ⟨_,rfl,Ula m c3⟩⟩
    rw [if_neg (fun q => c3 (beq_iff_eq.mp q))]
    have hd':Hh rk a b (out.push b[j - 1]) i (j - 1) (x + 1):=⟨m,by omega,by omega,by omega⟩
    split
    ·exact wpS_pure ⟨lk,.inr ⟨_,_,_,_,_,rfl,hd'⟩⟩
    ·exact wpS_pure ⟨lk,_,_,_,_,_,rfl,hd'⟩
  ·rintro c st2 ⟨lk,hh⟩
   exact ⟨lk,.inr hh⟩
  rintro c st2 ⟨lk,⟨r,e,f⟩ | ⟨out,i,j,ac,bc,rfl,hd⟩⟩
  ·obtain ⟨c1,c2⟩:=c
   cases e
   exact wpS_pure ⟨lk,_,rfl,f⟩
  dsimp only
  refine wpS_bind (wpS_lift (wpAny_rule ⟨rfl,?_⟩))
  refine wpS_bind (wpS_mono (wpS_forRange (I:=fun y c st' => Like st st'∧∃ out i j mg ac bc,c = (none,i,j,out,mg,ac,bc)∧Hh rk a b out i j (x + 1 + y))
   (Q:=fun c st' => Like st st'∧((∃ r,c.1 = some r∧Fin2 rk a b r)∨∃ out i j mg ac bc,c = (none,i,j,out,mg,ac,bc)∧Hh rk a b out i j (x + 1 + 1))) ?_ ?_ ⟨lk,_,_,_,_,_,_,rfl,hd⟩) ?_)
  ·rintro x1 c st2 _ hx1 ⟨lk,out,i,j,mg,ac,bc,rfl,hd⟩
   have hi0:=hd.hi
   have hj0:=hd.hj
   have hin:=hd.hn
   have hia:=hd.m.hi
   have hjl:=hd.m.hj
   have hjb:j - 1 < b.size:=by omega
   dsimp only
   refine dite (mg > 1) (fun hmg => ?_) (fun hmg => ?_)
   all_goals first | rw [if_pos hmg] | rw [if_neg hmg]
   all_goals
    refine wpS_bind (Cc lk fun st3 lk => ?_)
    refine wpS_bind (AO hjb ?_)
    refine wpS_bind (BH C (lk.kd.trans hk) (uBt hjb) uA (by omega) (by omega) ?_ ?_)
    ·intro p q hpq hq e
     unfold bt at e ⊢
     rw [if_neg Bool.false_ne_true] at e ⊢
     have e':=of_decide_eq_false (Bool.not_eq_true' _ |>.mp e)
     have:=sa (0 + p) (0 + q) (by omega) (by omega)
     exact (Bool.not_eq_true' _).mpr (decide_eq_false (by omega))
    rintro p ⟨kn,kt,kf⟩
    have kf':∀ y,y < p→RK rk a y≤rk b[j - 1]:=fun y hy => by
     have e:=kt y hy
     unfold bt at e
     rw [if_neg Bool.false_ne_true] at e
     have e':=of_decide_eq_false (Bool.not_eq_true' _ |>.mp e)
     rw [Nat.zero_add] at e'
     omega
    have kt':∀ x,p≤x→x < i→∀ y,y < j→RK rk b y≤RK rk a x:=fun x h1 h2 y h3 => by
     have e:=kf x h1 h2
     unfold bt at e
     rw [if_neg Bool.false_ne_true] at e
     have e':=of_decide_eq_true (Bool.not_eq_false' _ |>.mp e)
     rw [Nat.zero_add] at e'
     have:=sb y (j - 1) (by omega) hjb
     rw [Aw hjb] at this
     omega
    have m:=hd.m.appA' sa kn kt'
    dsimp only
    by_cases k0:i - p > 0
    ·rw [if_pos k0]
     by_cases c3:p = 0
     ·rw [if_pos (beq_iff_eq.mpr c3)]
      exact wpS_pure ⟨lk,.inl ⟨_,rfl,Udn m (.inl c3)⟩⟩
     rw [if_neg (fun q => c3 (beq_iff_eq.mp q))]
     have hI:0 < p:=by omega
     have ej:j - 1 + 1 = j:=by omega
     rw [← ej] at m
     have m2:=m.pushB sb hjb kf'
     refine wpS_bind (AO hjb ?_)
     by_cases c5:j - 1 = 1
     ·rw [if_pos (beq_iff_eq.mpr c5)]
      exact wpS_pure ⟨lk,.inl ⟨_,rfl,Ula m2 (by omega)⟩⟩
     rw [if_neg (fun q => c5 (beq_iff_eq.mp q))]
     have hI1:p - 1 < a.size:=by omega
     refine wpS_bind (AO hI1 ?_)
     refine wpS_bind (BH C (lk.kd.trans hk) (uAt hI1) uB (by omega) (by omega) ?_ ?_)
     ·intro p q hpq hq e
      unfold bt at e ⊢
      rw [if_pos rfl] at e ⊢
      have e':=of_decide_eq_true e
      have:=sb (0 + p) (0 + q) (by omega) (by omega)
      exact decide_eq_true (by omega)
     rintro q ⟨k2n,k2t,k2f⟩
     have k2t':∀ y,y < q→RK rk b y≤rk (a[p - 1]'hI1):=fun y hx => by
      have e:=k2t y hx
      unfold bt at e
      rw [if_pos rfl] at e
      have e':=of_decide_eq_true e
      rw [Nat.zero_add] at e'
      omega
     have k2f':∀ x,q≤x→x < j - 1→∀ y,y < p→RK rk a y≤RK rk b x:=fun x h1 h2 y h3 => by
      have e:=k2f x h1 h2
      unfold bt at e
      rw [if_pos rfl] at e
      have e':=of_decide_eq_false e
      rw [Nat.zero_add] at e'
      have:=sa y (p - 1) (by omega) hI1
      rw [Aw hI1] at this
      omega
     have eI:p - 1 + 1 = p:=by omega
     dsimp only
     by_cases k20:j - 1 - q > 0
     ·rw [if_pos k20]
      have m3:=m2.appB' sb k2n k2f'
      by_cases c6:q = 1
      ·rw [if_pos (beq_iff_eq.mpr c6)]
       exact wpS_pure ⟨lk,.inl ⟨_,rfl,Ula m3 (by omega)⟩⟩
      rw [if_neg (fun q => c6 (beq_iff_eq.mp q))]
      by_cases c8:q = 0
      ·rw [if_pos (beq_iff_eq.mpr c8)]
       exact wpS_pure ⟨lk,.inl ⟨_,rfl,Udn m3 (.inr c8)⟩⟩
      rw [if_neg (fun q => c8 (beq_iff_eq.mp q))]
      have m4:=m3.pushA1 sa hI hI1 k2t'
      refine wpS_bind (AO hI1 ?_)
      by_cases c7:p - 1 = 0
      ·rw [if_pos (beq_iff_eq.mpr c7)]
       exact wpS_pure ⟨lk,.inl ⟨_,rfl,Udn m4 (.inl c7)⟩⟩
      rw [if_neg (fun q => c7 (beq_iff_eq.mp q))]
      split
      ·exact wpS_pure ⟨lk,.inr ⟨_,_,_,_,_,_,rfl,m4,by omega,by omega,by omega⟩⟩
      ·exact wpS_pure ⟨lk,_,_,_,_,_,_,rfl,m4,by omega,by omega,by omega⟩
     ·rw [if_neg k20]
      have e2:q = j - 1:=by omega
      rw [e2] at k2t'
      have m4:=m2.pushA1 sa hI hI1 k2t'
      refine wpS_bind (AO hI1 ?_)
      by_cases c7:p - 1 = 0
      ·rw [if_pos (beq_iff_eq.mpr c7)]
       exact wpS_pure ⟨lk,.inl ⟨_,rfl,Udn m4 (.inl c7)⟩⟩
      rw [if_neg (fun q => c7 (beq_iff_eq.mp q))]
      split
      ·exact wpS_pure ⟨lk,.inr ⟨_,_,_,_,_,_,rfl,m4,by omega,by omega,by omega⟩⟩
      ·exact wpS_pure ⟨lk,_,_,_,_,_,_,rfl,m4,by omega,by omega,by omega⟩
    ·rw [if_neg k0]
     have e0:p = i:=by omega
     rw [e0] at kf'
     clear m
     have m:=hd.m
     have hI:=hi0
     have ej:j - 1 + 1 = j:=by omega
     rw [← ej] at m
     have m2:=m.pushB sb hjb kf'
     refine wpS_bind (AO hjb ?_)
     by_cases c5:j - 1 = 1
     ·rw [if_pos (beq_iff_eq.mpr c5)]
      exact wpS_pure ⟨lk,.inl ⟨_,rfl,Ula m2 (by omega)⟩⟩
     rw [if_neg (fun q => c5 (beq_iff_eq.mp q))]
     have hI1:i - 1 < a.size:=by omega
     refine wpS_bind (AO hI1 ?_)
     refine wpS_bind (BH C (lk.kd.trans hk) (uAt hI1) uB (by omega) (by omega) ?_ ?_)
     ·intro p q hpq hq e
      unfold bt at e ⊢
      rw [if_pos rfl] at e ⊢
      have e':=of_decide_eq_true e
      have:=sb (0 + p) (0 + q) (by omega) (by omega)
      exact decide_eq_true (by omega)
     rintro q ⟨k2n,k2t,k2f⟩
     have k2t':∀ y,y < q→RK rk b y≤rk (a[i - 1]'hI1):=fun y hx => by
      have e:=k2t y hx
      unfold bt at e
      rw [if_pos rfl] at e
      have e':=of_decide_eq_true e
      rw [Nat.zero_add] at e'
      omega
     have k2f':∀ x,q≤x→x < j - 1→∀ y,y < i→RK rk a y≤RK rk b x:=fun x h1 h2 y h3 => by
      have e:=k2f x h1 h2
      unfold bt at e
      rw [if_pos rfl] at e
      have e':=of_decide_eq_false e
      rw [Nat.zero_add] at e'
      have:=sa y (i - 1) (by omega) hI1
      rw [Aw hI1] at this
      omega
     have eI:i - 1 + 1 = i:=by omega
     dsimp only
     by_cases k20:j - 1 - q > 0
     ·rw [if_pos k20]
      have m3:=m2.appB' sb k2n k2f'
      by_cases c6:q = 1
      ·rw [if_pos (beq_iff_eq.mpr c6)]
       exact wpS_pure ⟨lk,.inl ⟨_,rfl,Ula m3 (by omega)⟩⟩
      rw [if_neg (fun q => c6 (beq_iff_eq.mp q))]
      by_cases c8:q = 0
      ·rw [if_pos (beq_iff_eq.mpr c8)]
       exact wpS_pure ⟨lk,.inl ⟨_,rfl,Udn m3 (.inr c8)⟩⟩
      rw [if_neg (fun q => c8 (beq_iff_eq.mp q))]
      have m4:=m3.pushA1 sa hI hI1 k2t'
      refine wpS_bind (AO hI1 ?_)
      by_cases c7:i - 1 = 0
      ·rw [if_pos (beq_iff_eq.mpr c7)]
       exact wpS_pure ⟨lk,.inl ⟨_,rfl,Udn m4 (.inl c7)⟩⟩
      rw [if_neg (fun q => c7 (beq_iff_eq.mp q))]
      split
      ·exact wpS_pure ⟨lk,.inr ⟨_,_,_,_,_,_,rfl,m4,by omega,by omega,by omega⟩⟩
      ·exact wpS_pure ⟨lk,_,_,_,_,_,_,rfl,m4,by omega,by omega,by omega⟩
     ·rw [if_neg k20]
      have e2:q = j - 1:=by omega
      rw [e2] at k2t'
      have m4:=m2.pushA1 sa hI hI1 k2t'
      refine wpS_bind (AO hI1 ?_)
      by_cases c7:i - 1 = 0
      ·rw [if_pos (beq_iff_eq.mpr c7)]
       exact wpS_pure ⟨lk,.inl ⟨_,rfl,Udn m4 (.inl c7)⟩⟩
      rw [if_neg (fun q => c7 (beq_iff_eq.mp q))]
      split
      ·exact wpS_pure ⟨lk,.inr ⟨_,_,_,_,_,_,rfl,m4,by omega,by omega,by omega⟩⟩
      ·exact wpS_pure ⟨lk,_,_,_,_,_,_,rfl,m4,by omega,by omega,by omega⟩
  ·rintro c st2 ⟨lk,out,i,j,mg,ac,bc,rfl,hd⟩
   have e:max 0 (a.size + b.size) = a.size + b.size:=by omega
   rw [e] at hd
   exact ⟨lk,.inr ⟨_,_,_,_,_,_,rfl,hd.m,hd.hi,hd.hj,by have:=hd.hn; omega⟩⟩
  rintro c st2 ⟨lk,⟨r,e,f⟩ | ⟨out,i,j,mg,ac,bc,rfl,hd⟩⟩
  ·obtain ⟨c1,c2⟩:=c
   cases e
   exact wpS_pure ⟨lk,_,rfl,f⟩
  dsimp only
  refine wpS_bind (Cc lk fun st3 lk => ?_)
  exact wpS_pure ⟨lk,_,_,_,_,rfl,hd⟩
 ·rintro c st1 ⟨lk,out,i,j,mg,rfl,hd⟩
  have e:max 0 (a.size + b.size) = a.size + b.size:=by omega
  rw [e] at hd
  have:=hd.hn
  have:=hd.hi
  have:=hd.hj
  omega
 ·rintro c st1 ⟨lk,r,e,f⟩
  obtain ⟨c1,c2⟩:=c
  cases e
  exact wpS_pure (h _ _ lk f)
end SrtG
namespace SrtG
local macro_rules | `(tactic| omega) => `(tactic| first | lia | omega)
open PySem PyProof.Rows
variable {rk:Keyed→Int}
def Seg (rk:Keyed→Int) (arr:Array Keyed) (lo hi:Nat):Prop:=∀ x y,lo≤x→x≤y→y < hi→RK rk arr x≤RK rk arr y
structure Upd (rk:Keyed→Int) (arr arr':Array Keyed) (lo hi:Nat):Prop where
 perm:arr'.toList.Perm arr.toList
 out:∀ x,x < lo∨hi≤x→arr'[x]? = arr[x]?
 seg:Seg rk arr' lo hi
theorem CC {arr arr':Array Keyed} {x:Nat} (h:arr'[x]? = arr[x]?):RK rk arr' x = RK rk arr x:=by unfold RK; rw [h]
abbrev back (l:List (Keyed × Nat)) (lo:Nat) (arr:Array Keyed):Array Keyed:=l.foldl (fun a (p,j) => a.setIfInBounds (lo + j) p) arr
theorem Fw (lo:Nat):∀ (l:List Keyed) (n:Nat) (arr:Array Keyed),lo + n + l.length≤arr.size→∀ x,(back (l.zipIdx n) lo arr)[x]? = if lo + n≤x∧x < lo + n + l.length then l[x - (lo + n)]? else arr[x]?
 | [],n,arr,_,x => by
  rw [if_neg (by rintro ⟨h1,h2⟩; simp only [List.length_nil] at h2; omega)]
  rfl
 | p :: l,n,arr,h,x => by
  rw [List.length_cons] at h
  have e:back ((p :: l).zipIdx n) lo arr = back (l.zipIdx (n + 1)) lo (arr.setIfInBounds (lo + n) p):=by rw [List.zipIdx_cons]; rfl
  rw [e,Fw lo l (n + 1) _ (by rw [Array.size_setIfInBounds]; omega) x,List.length_cons]
  by_cases c:lo + (n + 1)≤x∧x < lo + (n + 1) + l.length
  ·rw [if_pos c,if_pos (by omega)]
   have e2:x - (lo + n) = (x - (lo + (n + 1))) + 1:=by omega
   rw [e2,List.getElem?_cons_succ]
  ·rw [if_neg c,Array.getElem?_setIfInBounds]
   by_cases c2:lo + n = x
   ·rw [if_pos c2,if_pos (by omega),if_pos (by omega)]
    have e2:x - (lo + n) = 0:=by omega
    rw [e2]; rfl
   ·rw [if_neg c2,if_neg (by omega)]
theorem Nv {arr:Array Keyed} {l:List Keyed} {lo:Nat} (h:lo + l.length≤arr.size):(back l.zipIdx lo arr).toList = arr.toList.take lo ++ l ++ arr.toList.drop (lo + l.length):=by
 apply List.ext_getElem?
 intro x
 rw [Array.getElem?_toList,Fw lo l 0 arr (by omega) x]
 have hlen:arr.toList.length = arr.size:=Array.length_toList
 by_cases c1:x < lo
 ·rw [if_neg (by omega),List.append_assoc,List.getElem?_append_left (by rw [List.length_take]; omega),List.getElem?_take,if_pos c1,Array.getElem?_toList]
 ·by_cases c2:x < lo + l.length
  ·rw [if_pos (by omega),List.getElem?_append_left (by rw [List.length_append,List.length_take]; omega),List.getElem?_append_right (by rw [List.length_take]; omega),List.length_take]
   have e:min lo arr.toList.length = lo:=by omega
   rw [e]
   rfl
  ·rw [if_neg (by omega),List.getElem?_append_right (by rw [List.length_append,List.length_take]; omega),List.getElem?_drop,List.length_append,List.length_take]
   have e:lo + l.length + (x - (min lo arr.toList.length + l.length)) = x:=by omega
   rw [e,Array.getElem?_toList]
theorem PU {arr merged:Array Keyed} {lo hi s0 e0:Nat} (hhi:lo≤hi) (hs:s0≤lo) (he:hi≤e0) (hz:e0≤arr.size) (perm:merged.toList.Perm (arr.extract lo hi).toList) (srt:merged.toList.Pairwise fun x y => rk x≤rk y)
  (hL:∀ x z,s0≤x→x < lo→x≤z→z < e0→RK rk arr x≤RK rk arr z) (hR:∀ z y,s0≤z→z≤y→hi≤y→y < e0→RK rk arr z≤RK rk arr y):Upd rk arr (back merged.toList.zipIdx lo arr) s0 e0:=by
 have hx:(arr.extract lo hi).toList = (arr.toList.drop lo).take (hi - lo):=by rw [Array.toList_extract,List.extract_eq_drop_take]
 have hlenA:arr.toList.length = arr.size:=Array.length_toList
 have hlen:merged.toList.length = hi - lo:=by
  rw [perm.length_eq,hx,List.length_take,List.length_drop]
  omega
 have hfit:lo + merged.toList.length≤arr.size:=by omega
 have hget:=Fw lo merged.toList 0 arr (by omega)
 have hmid:∀ m,m∈merged.toList→∃ z,lo≤z∧z < hi∧rk m = RK rk arr z:=fun m hm => by
  have hm':=perm.mem_iff.mp hm
  rw [hx] at hm'
  obtain ⟨i,hi'⟩:=List.mem_iff_getElem?.mp hm'
  rw [List.getElem?_take] at hi'
  split at hi'
  ·rename_i hlt
   rw [List.getElem?_drop,Array.getElem?_toList] at hi'
   exact ⟨lo + i,by omega,by omega,by unfold RK; rw [hi']⟩
  ·cases hi'
 have hRK:∀ x,lo≤x→x < hi→∃ m,m∈merged.toList∧merged.toList[x - lo]? = some m∧RK rk (back merged.toList.zipIdx lo arr) x = rk m:=fun x h1 h2 => by
  have hl:x - lo < merged.toList.length:=by omega
  refine ⟨_,List.getElem_mem hl,List.getElem?_eq_getElem hl,?_⟩
  unfold RK
  rw [hget x,if_pos (by omega)]
  have e:x - (lo + 0) = x - lo:=by omega
  rw [e,List.getElem?_eq_getElem hl]
 have hout:∀ x,x < lo∨hi≤x→(back merged.toList.zipIdx lo arr)[x]? = arr[x]?:=fun x h => by
  rw [hget x,if_neg (by omega)]
 refine ⟨?_,fun x h => hout x (by omega),?_⟩
 ·rw [Nv hfit]
  have e:arr.toList = arr.toList.take lo ++ ((arr.toList.drop lo).take (hi - lo)) ++ arr.toList.drop (lo + merged.toList.length):=by
   rw [List.append_assoc]
   have e2:lo + merged.toList.length = lo + (hi - lo):=by omega
   rw [e2,← List.drop_drop,List.take_append_drop,List.take_append_drop]
  rw [hx] at perm
  have:=(perm.append_left (arr.toList.take lo)).append_right (arr.toList.drop (lo + merged.toList.length))
  rw [← e] at this
  exact this
 ·intro x y h1 h2 h3
  by_cases cx:x < lo
  ·rw [CC (hout x (.inl cx))]
   by_cases cy:lo≤y∧y < hi
   ·obtain ⟨m,hm,_,e⟩:=hRK y cy.1 cy.2
    obtain ⟨z,z1,z2,ez⟩:=hmid m hm
    rw [e,ez]
    exact hL x z h1 cx (by omega) (by omega)
   ·rw [CC (hout y (by omega))]
    exact hL x y h1 cx h2 h3
  ·by_cases cx2:x < hi
   ·obtain ⟨m,hm,hm2,e⟩:=hRK x (by omega) cx2
    rw [e]
    by_cases cy:y < hi
    ·obtain ⟨m',hm',hm2',e'⟩:=hRK y (by omega) cy
     rw [e']
     by_cases exy:x = y
     ·subst exy
      rw [hm2] at hm2'
      cases hm2'
      exact Int.le_refl _
     ·have hl:y - lo < merged.toList.length:=by omega
      have hl':x - lo < merged.toList.length:=by omega
      have:=List.pairwise_iff_getElem.mp srt (x - lo) (y - lo) hl' hl (by omega)
      rw [List.getElem?_eq_getElem hl'] at hm2
      rw [List.getElem?_eq_getElem hl] at hm2'
      cases hm2
      cases hm2'
      exact this
    ·rw [CC (hout y (by omega))]
     obtain ⟨z,z1,z2,ez⟩:=hmid m hm
     rw [ez]
     exact hR z y (by omega) (by omega) (by omega) h3
   ·rw [CC (hout x (by omega)),CC (hout y (by omega))]
    exact hR x y h1 h2 (by omega) h3
end SrtG
namespace SrtG
local macro_rules | `(tactic| omega) => `(tactic| first | lia | omega)
open PySem PyProof.Rows
variable {rk:Keyed→Int}
theorem FO {arr:Array Keyed} {l h:Nat} (hh:h≤arr.size):(arr.extract l h).size = h - l:=by rw [Array.size_extract]; omega
theorem PV {arr:Array Keyed} {l h x:Nat} (hx:x < h - l) (hh:h≤arr.size):(arr.extract l h)[x]? = arr[l + x]?:=by
 rw [← Array.getElem?_toList,Array.toList_extract,List.extract_eq_drop_take,List.getElem?_take,if_pos hx,List.getElem?_drop,Array.getElem?_toList]
theorem HR {arr:Array Keyed} {l h x:Nat} (hx:x < h - l) (hh:h≤arr.size):RK rk (arr.extract l h) x = RK rk arr (l + x):=by unfold RK; rw [PV hx hh]
theorem AllU.ex {U:Keyed→Prop} {arr:Array Keyed} {l h:Nat} (u:AllU U arr) (hh:h≤arr.size):AllU U (arr.extract l h):=fun i p e => by
 have hi:i < (arr.extract l h).size:=by
  apply Classical.byContradiction
  intro hn
  rw [Array.getElem?_eq_none (Nat.le_of_not_lt hn)] at e
  cases e
 rw [FO hh] at hi
 rw [PV hi hh] at e
 exact u _ _ e
theorem Seg.ex {arr:Array Keyed} {l h:Nat} (sg:Seg rk arr l h) (hh:h≤arr.size):Ek rk (arr.extract l h):=fun i j hij hj => by
 rw [FO hh] at hj
 rw [HR (by omega) hh,HR hj hh]
 exact sg _ _ (by omega) (by omega) (by omega)
section
variable {prog:Program} {w:World} {A:Around} {E:Value→Shared→Prop} {s:Shared} {kd:SortKind} {U:Keyed→Prop}
theorem SG {st st':SortSt} {Q:PUnit→SortSt→Prop} (h:Q ⟨⟩ st'):wpS (model prog w) A E s (set st':StateT SortSt Sem PUnit) Q st:=by
 unfold wpS; rw [StateT.run_set]; exact wpAny_pure ⟨rfl,h⟩
theorem Jt {i sa na pa sb nb pb:Nat} {st:SortSt} {Q:Bool→SortSt→Prop} (C:PQ prog w A E s kd U rk) (hk:kindOf st = kd) (hU:AllU U (arrOf st)) (hf:failedOf st = none)
  (h1:(pendingOf st)[i]? = some (sa,na,pa)) (h2:(pendingOf st)[i + 1]? = some (sb,nb,pb)) (hsb:sb = sa + na) (hna:0 < na) (hnb:0 < nb) (hsz:sb + nb≤(arrOf st).size) (S1:Seg rk (arrOf st) sa sb) (S2:Seg rk (arrOf st) sb (sb + nb))
  (h:∀ st',kindOf st' = kd→failedOf st' = none→pendingOf st' = ((pendingOf st).setIfInBounds i (sa,na + nb,pa)).eraseIdxIfInBounds (i + 1)→Upd rk (arrOf st) (arrOf st') sa (sb + nb)→Q true st') :
  wpS (model prog w) A E s (mergeAt' i) Q st:=by
 delta mergeAt'
 refine wpS_bind (wpS_get ?_)
 rw [h1,h2]
 dsimp only
 refine wpS_bind (SG ?_)
 have hsbz:sb < (arrOf st).size:=by omega
 have uAt:∀ {i} (hi:i < (arrOf st).size),U (arrOf st)[i]:=fun hi => hU _ _ (getElem?_pos (arrOf st) _ hi)
 refine wpS_bind (AO (arr:=arrOf st) hsbz ?_)
 refine wpS_bind (BH (arr:=arrOf st) C hk (uAt hsbz) hU (by omega) hna ?_ ?_)
 ·intro p q hpq hq e
  unfold bt at e ⊢
  rw [if_neg Bool.false_ne_true] at e ⊢
  have e':=of_decide_eq_false (Bool.not_eq_true' _ |>.mp e)
  have:=S1 (sa + p) (sa + q) (by omega) (by omega) (by omega)
  exact (Bool.not_eq_true' _).mpr (decide_eq_false (by omega))
 rintro k ⟨kn,kt,kf⟩
 have kt':∀ x,sa≤x→x < sa + k→RK rk (arrOf st) x≤RK rk (arrOf st) sb:=fun x hx1 hx => by
  have e:=kt (x - sa) (by omega)
  unfold bt at e
  rw [if_neg Bool.false_ne_true] at e
  have e':=of_decide_eq_false (Bool.not_eq_true' _ |>.mp e)
  have ex:sa + (x - sa) = x:=by omega
  rw [ex] at e'
  rw [Aw hsbz]
  omega
 have kf':∀ x,sa + k≤x→x < sb→RK rk (arrOf st) sb < RK rk (arrOf st) x:=fun x hx1 hx => by
  have e:=kf (x - sa) (by omega) (by omega)
  unfold bt at e
  rw [if_neg Bool.false_ne_true] at e
  have e':=of_decide_eq_true (Bool.not_eq_false' _ |>.mp e)
  have ex:sa + (x - sa) = x:=by omega
  rw [ex] at e'
  rw [Aw hsbz]
  omega
 dsimp only
 by_cases c1:na - k = 0
 ·rw [if_pos (beq_iff_eq.mpr c1)]
  refine wpS_pure (h _ hk hf rfl ⟨List.Perm.refl _,fun _ _ => rfl,fun x y hx1 hx2 hx3 => ?_⟩)
  by_cases cy:y < sb
  ·exact S1 x y hx1 hx2 cy
  ·by_cases cx:x < sb
   ·have e1:=kt' x hx1 (by omega)
    have e2:=S2 sb y (by omega) (by omega) hx3
    exact Int.le_trans e1 e2
   ·exact S2 x y (by omega) hx2 hx3
 rw [if_neg (fun q => c1 (beq_iff_eq.mp q))]
 have el:sa + k + (na - k) - 1 = sb - 1:=by omega
 rw [el]
 have hlz:sb - 1 < (arrOf st).size:=by omega
 refine wpS_bind (AO (arr:=arrOf st) hlz ?_)
 refine wpS_bind (BH (arr:=arrOf st) C hk (uAt hlz) hU (by omega) (by omega) ?_ ?_)
 ·intro p q hpq hq e
  unfold bt at e ⊢
  rw [if_pos rfl] at e ⊢
  have e':=of_decide_eq_true e
  have:=S2 (sb + p) (sb + q) (by omega) (by omega) (by omega)
  exact decide_eq_true (by omega)
 rintro n2 ⟨nn,nt,nf⟩
 have nt':∀ x,sb≤x→x < sb + n2→RK rk (arrOf st) x < RK rk (arrOf st) (sb - 1):=fun x hx1 hx => by
  have e:=nt (x - sb) (by omega)
  unfold bt at e
  rw [if_pos rfl] at e
  have e':=of_decide_eq_true e
  have ex:sb + (x - sb) = x:=by omega
  rw [ex] at e'
  rw [Aw hlz]
  omega
 have nf':∀ x,sb + n2≤x→x < sb + nb→RK rk (arrOf st) (sb - 1)≤RK rk (arrOf st) x:=fun x hx1 hx => by
  have e:=nf (x - sb) (by omega) (by omega)
  unfold bt at e
  rw [if_pos rfl] at e
  have e':=of_decide_eq_false e
  have ex:sb + (x - sb) = x:=by omega
  rw [ex] at e'
  rw [Aw hlz]
  omega
 dsimp only
 have hlast:=kf' (sb - 1) (by omega) (by omega)
 by_cases c2:n2 = 0
 ·have:=nf' sb (by omega) (by omega)
  omega
 rw [if_neg (fun q => c2 (beq_iff_eq.mp q))]
 have hy:sb + n2≤(arrOf st).size:=by omega
 have hx':sb≤(arrOf st).size:=by omega
 have sA:Ek rk ((arrOf st).extract (sa + k) sb):=Seg.ex (fun x y q1 q2 q3 => S1 x y (by omega) q2 q3) hx'
 have sB:Ek rk ((arrOf st).extract sb (sb + n2)):=Seg.ex (fun x y q1 q2 q3 => S2 x y q1 q2 (by omega)) hy
 have zA:((arrOf st).extract (sa + k) sb).size = sb - (sa + k):=FO hx'
 have zB:((arrOf st).extract sb (sb + n2)).size = sb + n2 - sb:=FO hy
 have q0:RK rk ((arrOf st).extract sb (sb + n2)) 0≤RK rk ((arrOf st).extract (sa + k) sb) 0:=by
  rw [HR (by omega) hy,HR (by omega) hx']
  have:=kf' (sa + k + 0) (by omega) (by omega)
  exact Int.le_of_lt this
 have q1:RK rk ((arrOf st).extract sb (sb + n2)) (((arrOf st).extract sb (sb + n2)).size - 1)≤RK rk ((arrOf st).extract (sa + k) sb) (((arrOf st).extract (sa + k) sb).size - 1):=by
  rw [zA,zB,HR (by omega) hy,HR (by omega) hx']
  have:=nt' (sb + (sb + n2 - sb - 1)) (by omega) (by omega)
  have e:sa + k + (sb - (sa + k) - 1) = sb - 1:=by omega
  rw [e]
  exact Int.le_of_lt this
 have fin:∀ r (st':SortSt),Like (setPending st (((pendingOf st).setIfInBounds i (sa,na + nb,pa)).eraseIdxIfInBounds (i + 1))) st'→Fin2 rk ((arrOf st).extract (sa + k) sb) ((arrOf st).extract sb (sb + n2)) r →
   wpS (model prog w) A E s (do
    modify fun z => setArr z (back r.toList.zipIdx (sa + k) (arrOf z))
    return (failedOf (← get)).isNone) Q st':=fun r st' lk f => by
  refine wpS_bind (wpS_modify ?_)
  refine wpS_bind (wpS_get ?_)
  have e:(failedOf st').isNone = true:=by rw [lk.fl]; show (failedOf st).isNone = true; rw [hf]; rfl
  show wpS _ _ _ _ (pure ((failedOf st').isNone)) _ _
  rw [e]
  refine wpS_pure (h _ (lk.kd.trans hk) (lk.fl.trans hf) lk.pd ?_)
  have ea:arrOf st' = arrOf st:=lk.arr
  show Upd rk (arrOf st) (back r.toList.zipIdx (sa + k) (arrOf st')) sa (sb + nb)
  rw [ea]
  refine PU (hi:=sb + n2) (by omega) (by omega) (by omega) hsz ?_ f.srt ?_ ?_
  ·have e2:((arrOf st).extract (sa + k) (sb + n2)).toList = ((arrOf st).extract (sa + k) sb).toList ++ ((arrOf st).extract sb (sb + n2)).toList:=by
    rw [Array.toList_extract,Array.toList_extract,Array.toList_extract,List.extract_eq_drop_take,List.extract_eq_drop_take,List.extract_eq_drop_take]
    have e3:sb + n2 - (sa + k) = (sb - (sa + k)) + (sb + n2 - sb):=by omega
    rw [e3,List.take_add,List.drop_drop]
    have e4:sa + k + (sb - (sa + k)) = sb:=by omega
    rw [e4]
   rw [e2]
   exact f.perm
  ·intro x z hx1 hx2 hx3 hx4
   by_cases cz:z < sb
   ·exact S1 x z hx1 hx3 cz
   ·have e1:=kt' x hx1 hx2
    have e2:=S2 sb z (by omega) (by omega) hx4
    exact Int.le_trans e1 e2
  ·intro z y hx1 hx2 hx3 hx4
   by_cases cz:z < sb
   ·have e1:=S1 z (sb - 1) hx1 (by omega) (by omega)
    exact Int.le_trans e1 (nf' y hx3 hx4)
   ·exact S2 z y (by omega) hx2 hx4
 by_cases c3:na - k≤n2
 ·rw [if_pos c3]
  exact wpS_bind (Jq (a:=(arrOf st).extract (sa + k) sb) (b:=(arrOf st).extract sb (sb + n2)) C hk (hU.ex hx') (hU.ex hy) sA sB (by omega) (by omega) q0 q1 fin)
 ·rw [if_neg c3]
  exact wpS_bind (Js (a:=(arrOf st).extract (sa + k) sb) (b:=(arrOf st).extract sb (sb + n2)) C hk (hU.ex hx') (hU.ex hy) sA sB (by omega) (by omega) q0 q1 fin)
end
end SrtG
namespace SrtG
open PySem PyProof.Rows
variable {rk:Keyed→Int}
structure Kp (st0 st:SortSt) (lo hi:Nat):Prop where
 kd:kindOf st = kindOf st0
 pd:pendingOf st = pendingOf st0
 fl:failedOf st = failedOf st0
 perm:(arrOf st).toList.Perm (arrOf st0).toList
 out:∀ x,x < lo∨hi≤x→(arrOf st)[x]? = (arrOf st0)[x]?
theorem Kp.refl (st:SortSt) (lo hi:Nat):Kp st st lo hi:=⟨rfl,rfl,rfl,List.Perm.refl _,fun _ _ => rfl⟩
theorem Kp.size {st0 st:SortSt} {lo hi:Nat} (k:Kp st0 st lo hi):(arrOf st).size = (arrOf st0).size:=by
 rw [← Array.length_toList,← Array.length_toList]; exact k.perm.length_eq
theorem AllU.of_perm {U:Keyed→Prop} {a b:Array Keyed} (u:AllU U a) (p:b.toList.Perm a.toList):AllU U b:=fun i q e => by
 have hm:q∈b.toList:=by rw [← Array.getElem?_toList] at e; exact List.mem_of_getElem? e
 have hm':=p.mem_iff.mp hm
 obtain ⟨j,hj⟩:=List.mem_iff_getElem?.mp hm'
 rw [Array.getElem?_toList] at hj
 exact u j q hj
theorem Kp.setA {st0 st:SortSt} {lo hi:Nat} (k:Kp st0 st lo hi) {xs:Array Keyed} (hp:xs.toList.Perm (arrOf st).toList) (ho:∀ x,x < lo∨hi≤x→xs[x]? = (arrOf st)[x]?):Kp st0 (setArr st xs) lo hi :=
 ⟨k.kd,k.pd,k.fl,hp.trans k.perm,fun x hx => (ho x hx).trans (k.out x hx)⟩
theorem DC {xs ys:Array Keyed} {i j:Nat} (h:xs[i]? = ys[j]?):RK rk xs i = RK rk ys j:=by unfold RK; rw [h]
theorem HU {xs:Array Keyed} {src d:Nat} (hs:src < xs.size) (hd:d≤src) (k:Nat):RK rk (bubble xs src d) k = if k = src - d then RK rk xs src else if src - d < k∧k≤src then RK rk xs (k - 1) else RK rk xs k:=by
 have e:=getElem?_bubble hs d hd k
 by_cases c1:k = src - d
 ·rw [if_pos c1] at e ⊢; exact DC e
 ·rw [if_neg c1] at e ⊢
  by_cases c2:src - d < k∧k≤src
  ·rw [if_pos c2] at e ⊢; exact DC e
  ·rw [if_neg c2] at e ⊢; exact DC e
section
variable {prog:Program} {w:World} {A:Around} {E:Value→Shared→Prop} {s:Shared} {kd:SortKind} {U:Keyed→Prop}
theorem BS {st:SortSt} {i j:Nat} {Q:Option Bool→SortSt→Prop} (C:PQ prog w A E s kd U rk) (hk:kindOf st = kd) (hU:AllU U (arrOf st)) (hi:i < (arrOf st).size) (hj:j < (arrOf st).size)
  (h:Q (some (decide (RK rk (arrOf st) i < RK rk (arrOf st) j))) st):wpS (model prog w) A E s (ltAt' i j) Q st:=by
 rw [ltAt'_eq]
 refine wpS_bind (wpS_get ?_)
 refine wpS_bind (AO hi ?_)
 refine wpS_bind (AO hj ?_)
 rw [Aw hi,Aw hj] at h
 exact C _ _ _ _ hk (hU _ _ (getElem?_pos (arrOf st) _ hi)) (hU _ _ (getElem?_pos (arrOf st) _ hj)) h
theorem LR {st:SortSt} {lo n ok:Nat} {Q:Bool→SortSt→Prop} (C:PQ prog w A E s kd U rk) (hk:kindOf st = kd) (hU:AllU U (arrOf st)) (hn:lo + n≤(arrOf st).size) (hok:ok≤n) (hs:Seg rk (arrOf st) lo (lo + ok))
  (h:∀ st',Kp st st' lo (lo + n)→Seg rk (arrOf st') lo (lo + n)→Q true st'):wpS (model prog w) A E s (binarySort' lo n ok) Q st:=by
 rw [binarySort'_eq]
 refine wpS_bind (wpS_mono (wpS_forRange (I:=fun k c st' => c = (none,())∧Kp st st' lo (lo + n)∧Seg rk (arrOf st') lo (lo + min k n))
  (Q:=fun c st' => c = (none,())∧Kp st st' lo (lo + n)∧Seg rk (arrOf st') lo (lo + n)) ?step ?fin ?init) ?post)
 case post =>
  rintro c st' ⟨rfl,hB',hs'⟩
  exact wpS_pure (h st' hB' hs')
 case init =>
  refine ⟨rfl,Kp.refl _ _ _,fun i j hi hij hj => ?_⟩
  by_cases c1:ok = 0
  ·have:i = j:=by omega
   subst this; exact Int.le_refl _
  ·exact hs i j hi hij (by omega)
 case fin =>
  rintro c st' ⟨hc,hB',hs'⟩
  refine ⟨hc,hB',?_⟩
  have e:min (max (max ok 1) n) n = n:=by omega
  rwa [e] at hs'
 case step =>
  rintro k c st' hak hkn ⟨rfl,hB',hs'⟩
  have e:min k n = k:=by omega
  rw [e] at hs'
  have hz:=hB'.size
  have hks:lo + k < (arrOf st').size:=by omega
  have hU':=hU.of_perm hB'.perm
  refine wpS_bind (wpS_mono (wpS_forRange (I:=fun x c st'' => st'' = st'∧∃ l r,c = (none,l,r)∧l≤r∧r≤k∧r - l≤k - x ∧
    (∀ i,i < l→RK rk (arrOf st') (lo + i)≤RK rk (arrOf st') (lo + k))∧(∀ i,r≤i→i < k→RK rk (arrOf st') (lo + k) < RK rk (arrOf st') (lo + i)))
   (Q:=fun c st'' => st'' = st'∧∃ l r,c = (none,l,r)∧l≤k ∧
    (∀ i,i < l→RK rk (arrOf st') (lo + i)≤RK rk (arrOf st') (lo + k))∧(∀ i,l≤i→i < k→RK rk (arrOf st') (lo + k) < RK rk (arrOf st') (lo + i))) ?istep ?ifin ?iinit) ?ipost)
  case iinit => exact ⟨rfl,0,k,rfl,by omega,by omega,by omega,fun i hi => by omega,fun i h1 h2 => by omega⟩
  case ifin =>
   rintro c st'' ⟨rfl,l,r,rfl,hlr,hrk,hm,hlo,hhi⟩
   have:l = r:=by omega
   subst this
   exact ⟨rfl,l,l,rfl,hrk,hlo,hhi⟩
  case istep =>
   rintro x c st'' _ hxk ⟨rfl,l,r,rfl,hlr,hrk,hm,hlo,hhi⟩
   dsimp only
   by_cases hge:l ≥ r
   ·rw [if_pos hge]
    have:l = r:=by omega
    subst this
    exact wpS_pure ⟨rfl,l,l,rfl,hrk,hlo,hhi⟩
   ·rw [if_neg hge]
    refine wpS_bind (BS C (hB'.kd.trans hk) hU' hks (by omega) ?_)
    dsimp only
    by_cases hless:RK rk (arrOf st'') (lo + k) < RK rk (arrOf st'') (lo + (l + r) / 2)
    ·rw [if_pos (decide_eq_true hless)]
     refine wpS_pure ⟨rfl,l,(l + r) / 2,rfl,by omega,by omega,by omega,hlo,fun i q1 q2 => ?_⟩
     exact Int.lt_of_lt_of_le hless (hs' _ _ (by omega) (by omega) (by omega))
    ·rw [if_neg (fun q => hless (of_decide_eq_true q))]
     refine wpS_pure ⟨rfl,(l + r) / 2 + 1,r,rfl,by omega,by omega,by omega,fun i q1 => ?_,hhi⟩
     exact Int.le_trans (hs' (lo + i) (lo + (l + r) / 2) (by omega) (by omega) (by omega)) (Int.not_lt.mp hless)
  case ipost =>
   rintro c st'' ⟨rfl,l,r,rfl,hlk,hlo,hhi⟩
   show wpS _ _ _ _ (do moveDown' (lo + k) (lo + l); pure (ForInStep.yield (none,()))) _ _
   rw [moveDown'_eq]
   have ed:lo + k - (lo + l) = k - l:=by omega
   refine wpS_bind (wpS_modify (wpS_pure ⟨rfl,hB'.setA (Array.perm_iff_toList_perm.mp (bubble_perm _ _ _)) ?_,?_⟩))
   ·intro x hx
    rw [ed,getElem?_bubble hks _ (by omega),if_neg (by omega),if_neg (by omega)]
   have e2:lo + min (k + 1) n = lo + k + 1:=by omega
   rw [e2]
   intro i j hi hij hj
   show RK rk (bubble (arrOf st'') (lo + k) (lo + k - (lo + l))) i≤RK rk (bubble (arrOf st'') (lo + k) (lo + k - (lo + l))) j
   rw [ed,HU hks (by omega),HU hks (by omega)]
   have e3:lo + k - (k - l) = lo + l:=by omega
   rw [e3]
   have hlo':∀ i,lo≤i→i < lo + l→RK rk (arrOf st'') i≤RK rk (arrOf st'') (lo + k):=fun i q1 q2 => by
    have:=hlo (i - lo) (by omega)
    have e4:lo + (i - lo) = i:=by omega
    rwa [e4] at this
   have hhi':∀ i,lo + l≤i→i < lo + k→RK rk (arrOf st'') (lo + k)≤RK rk (arrOf st'') i:=fun i q1 q2 => by
    have:=hhi (i - lo) (by omega) (by omega)
    have e4:lo + (i - lo) = i:=by omega
    rw [e4] at this
    exact Int.le_of_lt this
   repeat' split
   all_goals first
    | (exfalso; omega)
    | exact Int.le_refl _
    | exact hlo' _ (by omega) (by omega)
    | exact hhi' _ (by omega) (by omega)
    | exact hs' _ _ (by omega) (by omega) (by omega)
end
local macro_rules | `(tactic| omega) => `(tactic| first | lia | omega)
open PySem PyProof.Rows
variable {rk:Keyed→Int}
def Dsc (rk:Keyed→Int) (arr:Array Keyed) (lo hi:Nat):Prop:=∀ x y,lo≤x→x≤y→y < hi→RK rk arr y≤RK rk arr x
theorem Nw {xs:Array Keyed} {i j:Nat} (hj:j≤xs.size) (k:Nat):RK rk (mirror xs i j ((j - i) / 2)) k = if i≤k∧k < j then RK rk xs (i + j - 1 - k) else RK rk xs k:=by
 have e:=getElem?_mirror_all (i:=i) hj k
 by_cases c1:i≤k∧k < j
 ·rw [if_pos c1] at e ⊢; exact DC e
 ·rw [if_neg c1] at e ⊢; exact DC e
section
variable {prog:Program} {w:World} {A:Around} {E:Value→Shared→Prop} {s:Shared} {kd:SortKind} {U:Keyed→Prop}
theorem EH {st0 st:SortSt} {lo hi i j:Nat} {Q:Unit→SortSt→Prop} (k:Kp st0 st lo hi) (h1:lo≤i) (h2:j≤hi) (hj:j≤(arrOf st).size)
  (h:∀ st',Kp st0 st' lo hi→(∀ k,RK rk (arrOf st') k = if i≤k∧k < j then RK rk (arrOf st) (i + j - 1 - k) else RK rk (arrOf st) k)→Q () st'):wpS (model prog w) A E s (reverseSlice' i j) Q st:=by
 rw [reverseSlice'_eq]
 refine wpS_modify (h _ (k.setA (Array.perm_iff_toList_perm.mp (mirror_perm _ _ _ _)) fun x hx => ?_) fun k => Nw hj k)
 rw [getElem?_mirror_all hj,if_neg (by omega)]
theorem DD {st0 st:SortSt} {lo hi i j:Nat} {Q:Unit→SortSt→Prop} (k:Kp st0 st lo hi) (h1:lo≤i) (h2:j≤hi) (hj:j≤(arrOf st).size) (heq:∀ k,i≤k→k < j→RK rk (arrOf st) k = RK rk (arrOf st) (j - 1))
  (h:∀ st',Kp st0 st' lo hi→(∀ k,RK rk (arrOf st') k = RK rk (arrOf st) k)→Q () st'):wpS (model prog w) A E s (reverseSlice' i j) Q st:=by
 refine EH (rk:=rk) k h1 h2 hj fun st' k' e => h st' k' fun x => ?_
 rw [e x]
 split
 ·rw [heq _ (by omega) (by omega),heq x (by omega) (by omega)]
 ·rfl
theorem Seg.up {arr:Array Keyed} {lo n:Nat} (sg:Seg rk arr lo (lo + n)) (h1:1≤n) (hx:¬ RK rk arr (lo + n) < RK rk arr (lo + n - 1)):Seg rk arr lo (lo + (n + 1)):=fun i j hi hij hj => by
 by_cases c:j < lo + n
 ·exact sg i j hi hij c
 ·have e:j = lo + n:=by omega
  subst e
  by_cases c2:i = lo + n
  ·subst c2; exact Int.le_refl _
  ·exact Int.le_trans (sg i (lo + n - 1) hi (by omega) (by omega)) (Int.not_lt.mp hx)
theorem Dsc.up {arr arr':Array Keyed} {lo n:Nat} (sg:Dsc rk arr lo (lo + n)) (h1:1≤n) (hx:RK rk arr (lo + n)≤RK rk arr (lo + n - 1)) (he:∀ k,RK rk arr' k = RK rk arr k):Dsc rk arr' lo (lo + (n + 1)):=fun i j hi hij hj => by
 rw [he,he]
 by_cases c:j < lo + n
 ·exact sg i j hi hij c
 ·have e:j = lo + n:=by omega
  subst e
  by_cases c2:i = lo + n
  ·subst c2; exact Int.le_refl _
  ·exact Int.le_trans hx (sg i (lo + n - 1) hi (by omega) (by omega))
theorem LS {st:SortSt} {lo nrem:Nat} {Q:Option Nat→SortSt→Prop} (C:PQ prog w A E s kd U rk) (hk:kindOf st = kd) (hU:AllU U (arrOf st)) (hn:lo + nrem≤(arrOf st).size) (h1:1≤nrem)
  (h:∀ m st',Kp st st' lo (lo + nrem)→1≤m→m≤nrem→Seg rk (arrOf st') lo (lo + m)→Q (some m) st') :
  wpS (model prog w) A E s (countRun' lo nrem) Q st:=by
 rw [countRun'_eq]
 refine wpS_bind (wpS_mono (wpS_forRange (I:=fun x c st' => st' = st∧c = (none,x)∧Seg rk (arrOf st) lo (lo + x))
  (Q:=fun c st' => st' = st∧∃ n,c = (none,n)∧1≤n∧n≤nrem∧Seg rk (arrOf st) lo (lo + n)∧(n = nrem∨RK rk (arrOf st) (lo + n) < RK rk (arrOf st) (lo + n - 1))) ?step ?fin ⟨rfl,rfl,fun i j hi hij hj => by have:i = j:=(by omega); subst this; exact Int.le_refl _⟩) ?post)
 case fin =>
  rintro c st' ⟨rfl,rfl,hs'⟩
  have e:max 1 nrem = nrem:=by omega
  rw [e] at hs' ⊢
  exact ⟨rfl,nrem,rfl,h1,Nat.le_refl _,hs',.inl rfl⟩
 case step =>
  rintro x c st' hax hxn ⟨rfl,rfl,hs'⟩
  dsimp only
  refine wpS_bind (BS C hk hU (by omega) (by omega) ?_)
  dsimp only
  by_cases hless:RK rk (arrOf st') (lo + x) < RK rk (arrOf st') (lo + x - 1)
  ·rw [if_pos (decide_eq_true hless)]
   exact wpS_pure ⟨rfl,x,rfl,hax,by omega,hs',.inr hless⟩
  ·rw [if_neg (fun q => hless (of_decide_eq_true q))]
   exact wpS_pure ⟨rfl,rfl,hs'.up hax hless⟩
 case post =>
  rintro c st' ⟨rfl,n,rfl,hn1,hn2,hsn,hor⟩
  dsimp only
  by_cases hnn:n = nrem
  ·rw [if_pos (beq_iff_eq.mpr hnn)]
   exact wpS_pure (h n _ (Kp.refl _ _ _) hn1 hn2 hsn)
  rw [if_neg (fun q => hnn (beq_iff_eq.mp q))]
  have hlt:=hor.resolve_left hnn
  by_cases hgt:n > 1
  ·rw [if_pos hgt]
   refine wpS_bind (BS C hk hU (by omega) (by omega) ?_)
   dsimp only
   by_cases hrose:RK rk (arrOf st') lo < RK rk (arrOf st') (lo + n - 1)
   ·rw [if_pos (decide_eq_true hrose)]
    exact wpS_pure (h n _ (Kp.refl _ _ _) hn1 hn2 hsn)
   rw [if_neg (fun q => hrose (of_decide_eq_true q))]
   have hall:∀ k,lo≤k→k < lo + n→RK rk (arrOf st') k = RK rk (arrOf st') (lo + n - 1):=fun k q1 q2 => by
    have a1:=hsn lo k (by omega) q1 q2
    have a2:=hsn k (lo + n - 1) q1 (by omega) (by omega)
    omega
   refine wpS_bind (DD (rk:=rk) (Kp.refl st' lo (lo + nrem)) (Nat.le_refl _) (by omega) (by omega) hall fun st2 kp hRK => ?_)
   have hd:Dsc rk (arrOf st2) lo (lo + (n + 1)):=Dsc.up (arr:=arrOf st') (fun i j q1 q2 q3 => by rw [hall i q1 (by omega),hall j (by omega) q3]; exact Int.le_refl _) hn1 (Int.le_of_lt hlt) hRK
   refine wpS_bind (wpS_lift (wpAny_rule ⟨rfl,?_⟩))
   refine wpS_bind (wpS_mono (wpS_forRange (I:=fun x c st3 => ∃ neq,c = (none,x,neq)∧Kp st' st3 lo (lo + nrem)∧Dsc rk (arrOf st3) lo (lo + x)∧neq + 1≤x∧(∀ i,lo + x - (neq + 1)≤i→i < lo + x→RK rk (arrOf st3) i = RK rk (arrOf st3) (lo + x - 1)))
    (Q:=fun c st3 => ∃ m neq,c = (none,m,neq)∧Kp st' st3 lo (lo + nrem)∧n + 1≤m∧m≤nrem∧Dsc rk (arrOf st3) lo (lo + m)∧neq + 1≤m∧(∀ i,lo + m - (neq + 1)≤i→i < lo + m→RK rk (arrOf st3) i = RK rk (arrOf st3) (lo + m - 1))) ?_ ?_ ⟨0,rfl,kp,hd,by omega,fun i q1 q2 => by congr 1; omega⟩) ?_)
   ·rintro x c st3 hax hxn ⟨neq,rfl,kp,hd,hq,he⟩
    have hz:=kp.size
    have hU3:=hU.of_perm kp.perm
    dsimp only
    refine wpS_bind (BS C (kp.kd.trans hk) hU3 (by omega) (by omega) ?_)
    dsimp only
    by_cases hless:RK rk (arrOf st3) (lo + x) < RK rk (arrOf st3) (lo + x - 1)
    ·rw [if_pos (decide_eq_true hless)]
     by_cases hneq:neq > 0
     ·rw [if_pos hneq]
      refine wpS_bind (DD (rk:=rk) kp (by omega) (by omega) (by omega) he fun st4 kp4 hRK => ?_)
      exact wpS_pure ⟨0,rfl,kp4,hd.up (by omega) (Int.le_of_lt hless) hRK,by omega,fun i q1 q2 => by congr 1; omega⟩
     ·rw [if_neg hneq]
      exact wpS_pure ⟨0,rfl,kp,hd.up (by omega) (Int.le_of_lt hless) fun _ => rfl,by omega,fun i q1 q2 => by congr 1; omega⟩
    ·rw [if_neg (fun q => hless (of_decide_eq_true q))]
     refine wpS_bind (BS C (kp.kd.trans hk) hU3 (by omega) (by omega) ?_)
     dsimp only
     by_cases hlarger:RK rk (arrOf st3) (lo + x - 1) < RK rk (arrOf st3) (lo + x)
     ·rw [if_pos (decide_eq_true hlarger)]
      exact wpS_pure ⟨x,neq,rfl,kp,hax,by omega,hd,hq,he⟩
     ·rw [if_neg (fun q => hlarger (of_decide_eq_true q))]
      have heqx:RK rk (arrOf st3) (lo + x) = RK rk (arrOf st3) (lo + x - 1):=by omega
      refine wpS_pure ⟨neq + 1,rfl,kp,hd.up (by omega) (by omega) fun _ => rfl,by omega,fun i q1 q2 => ?_⟩
      have e1:lo + (x + 1) - 1 = lo + x:=by omega
      rw [e1]
      by_cases hix:i = lo + x
      ·rw [hix]
      ·rw [heqx]; exact he i (by omega) (by omega)
   ·rintro c st3 ⟨neq,rfl,kp,hd,hq,he⟩
    have e:max (n + 1) nrem = nrem:=by omega
    rw [e] at hd hq he ⊢
    exact ⟨nrem,neq,rfl,kp,by omega,Nat.le_refl _,hd,hq,he⟩
   rintro c st3 ⟨m,neq,rfl,kp,hm1,hm2,hd,hq,he⟩
   have hz:=kp.size
   dsimp only
   have rest:∀ (st4:SortSt),Kp st' st4 lo (lo + nrem)→Dsc rk (arrOf st4) lo (lo + m)→∀ st5,Kp st' st5 lo (lo + nrem)→(∀ k,RK rk (arrOf st5) k = if lo≤k∧k < lo + m then RK rk (arrOf st4) (lo + (lo + m) - 1 - k) else RK rk (arrOf st4) k)→Seg rk (arrOf st5) lo (lo + m):=fun st4 _ d4 st5 _ e5 i j q1 q2 q3 => by
    rw [e5,e5,if_pos (by omega),if_pos (by omega)]
    exact d4 _ _ (by omega) (by omega) (by omega)
   by_cases hneq:neq > 0
   ·rw [if_pos hneq]
    refine wpS_bind (DD (rk:=rk) kp (by omega) (by omega) (by omega) he fun st4 kp4 hRK => ?_)
    have d4:Dsc rk (arrOf st4) lo (lo + m):=fun i j q1 q2 q3 => by rw [hRK,hRK]; exact hd i j q1 q2 q3
    have hz4:=kp4.size
    refine wpS_bind (EH (rk:=rk) kp4 (Nat.le_refl _) (by omega) (by omega) fun st5 kp5 e5 => ?_)
    have s5:=rest _ kp4 d4 st5 kp5 e5
    have hz5:=kp5.size
    have hU5:=hU.of_perm kp5.perm
    refine wpS_bind (wpS_mono (wpS_forRange (I:=fun x c st6 => st6 = st5∧c = (none,x)∧Seg rk (arrOf st5) lo (lo + x))
     (Q:=fun c st6 => st6 = st5∧∃ n,c = (none,n)∧1≤n∧n≤nrem∧Seg rk (arrOf st5) lo (lo + n)) ?_ ?_ ⟨rfl,rfl,s5⟩) ?_)
    ·rintro x c st6 hax hxn ⟨rfl,rfl,hs'⟩
     dsimp only
     refine wpS_bind (BS C (kp5.kd.trans hk) hU5 (by omega) (by omega) ?_)
     dsimp only
     by_cases hless:RK rk (arrOf st6) (lo + x) < RK rk (arrOf st6) (lo + x - 1)
     ·rw [if_pos (decide_eq_true hless)]
      exact wpS_pure ⟨rfl,x,rfl,by omega,by omega,hs'⟩
     ·rw [if_neg (fun q => hless (of_decide_eq_true q))]
      exact wpS_pure ⟨rfl,rfl,hs'.up (by omega) hless⟩
    ·rintro c st6 ⟨rfl,rfl,hs'⟩
     have e:max m nrem = nrem:=by omega
     rw [e] at hs' ⊢
     exact ⟨rfl,nrem,rfl,h1,Nat.le_refl _,hs'⟩
    rintro c st6 ⟨rfl,n5,rfl,q1,q2,q3⟩
    exact wpS_pure (h n5 _ kp5 q1 q2 q3)
   ·rw [if_neg hneq]
    have kp4:=kp
    have d4:=hd
    have hz4:=hz
    refine wpS_bind (EH (rk:=rk) kp4 (Nat.le_refl _) (by omega) (by omega) fun st5 kp5 e5 => ?_)
    have s5:=rest _ kp4 d4 st5 kp5 e5
    have hz5:=kp5.size
    have hU5:=hU.of_perm kp5.perm
    refine wpS_bind (wpS_mono (wpS_forRange (I:=fun x c st6 => st6 = st5∧c = (none,x)∧Seg rk (arrOf st5) lo (lo + x))
     (Q:=fun c st6 => st6 = st5∧∃ n,c = (none,n)∧1≤n∧n≤nrem∧Seg rk (arrOf st5) lo (lo + n)) ?_ ?_ ⟨rfl,rfl,s5⟩) ?_)
    ·rintro x c st6 hax hxn ⟨rfl,rfl,hs'⟩
     dsimp only
     refine wpS_bind (BS C (kp5.kd.trans hk) hU5 (by omega) (by omega) ?_)
     dsimp only
     by_cases hless:RK rk (arrOf st6) (lo + x) < RK rk (arrOf st6) (lo + x - 1)
     ·rw [if_pos (decide_eq_true hless)]
      exact wpS_pure ⟨rfl,x,rfl,by omega,by omega,hs'⟩
     ·rw [if_neg (fun q => hless (of_decide_eq_true q))]
      exact wpS_pure ⟨rfl,rfl,hs'.up (by omega) hless⟩
    ·rintro c st6 ⟨rfl,rfl,hs'⟩
     have e:max m nrem = nrem:=by omega
     rw [e] at hs' ⊢
     exact ⟨rfl,nrem,rfl,h1,Nat.le_refl _,hs'⟩
    rintro c st6 ⟨rfl,n5,rfl,q1,q2,q3⟩
    exact wpS_pure (h n5 _ kp5 q1 q2 q3)
  ·rw [if_neg hgt]
   have hd:Dsc rk (arrOf st') lo (lo + (n + 1)):=Dsc.up (arr:=arrOf st') (fun i j q1 q2 q3 => by have:i = j:=(by omega); subst this; exact Int.le_refl _) hn1 (Int.le_of_lt hlt) fun _ => rfl
   have kp:=Kp.refl st' lo (lo + nrem)
   refine wpS_bind (wpS_lift (wpAny_rule ⟨rfl,?_⟩))
   refine wpS_bind (wpS_mono (wpS_forRange (I:=fun x c st3 => ∃ neq,c = (none,x,neq)∧Kp st' st3 lo (lo + nrem)∧Dsc rk (arrOf st3) lo (lo + x)∧neq + 1≤x∧(∀ i,lo + x - (neq + 1)≤i→i < lo + x→RK rk (arrOf st3) i = RK rk (arrOf st3) (lo + x - 1)))
    (Q:=fun c st3 => ∃ m neq,c = (none,m,neq)∧Kp st' st3 lo (lo + nrem)∧n + 1≤m∧m≤nrem∧Dsc rk (arrOf st3) lo (lo + m)∧neq + 1≤m∧(∀ i,lo + m - (neq + 1)≤i→i < lo + m→RK rk (arrOf st3) i = RK rk (arrOf st3) (lo + m - 1))) ?_ ?_ ⟨0,rfl,kp,hd,by omega,fun i q1 q2 => by congr 1; omega⟩) ?_)
   ·rintro x c st3 hax hxn ⟨neq,rfl,kp,hd,hq,he⟩
    have hz:=kp.size
    have hU3:=hU.of_perm kp.perm
    dsimp only
    refine wpS_bind (BS C (kp.kd.trans hk) hU3 (by omega) (by omega) ?_)
    dsimp only
    by_cases hless:RK rk (arrOf st3) (lo + x) < RK rk (arrOf st3) (lo + x - 1)
    ·rw [if_pos (decide_eq_true hless)]
     by_cases hneq:neq > 0
     ·rw [if_pos hneq]
      refine wpS_bind (DD (rk:=rk) kp (by omega) (by omega) (by omega) he fun st4 kp4 hRK => ?_)
      exact wpS_pure ⟨0,rfl,kp4,hd.up (by omega) (Int.le_of_lt hless) hRK,by omega,fun i q1 q2 => by congr 1; omega⟩
     ·rw [if_neg hneq]
      exact wpS_pure ⟨0,rfl,kp,hd.up (by omega) (Int.le_of_lt hless) fun _ => rfl,by omega,fun i q1 q2 => by congr 1; omega⟩
    ·rw [if_neg (fun q => hless (of_decide_eq_true q))]
     refine wpS_bind (BS C (kp.kd.trans hk) hU3 (by omega) (by omega) ?_)
     dsimp only
     by_cases hlarger:RK rk (arrOf st3) (lo + x - 1) < RK rk (arrOf st3) (lo + x)
     ·rw [if_pos (decide_eq_true hlarger)]
      exact wpS_pure ⟨x,neq,rfl,kp,hax,by omega,hd,hq,he⟩
     ·rw [if_neg (fun q => hlarger (of_decide_eq_true q))]
      have heqx:RK rk (arrOf st3) (lo + x) = RK rk (arrOf st3) (lo + x - 1):=by omega
      refine wpS_pure ⟨neq + 1,rfl,kp,hd.up (by omega) (by omega) fun _ => rfl,by omega,fun i q1 q2 => ?_⟩
      have e1:lo + (x + 1) - 1 = lo + x:=by omega
      rw [e1]
      by_cases hix:i = lo + x
      ·rw [hix]
      ·rw [heqx]; exact he i (by omega) (by omega)
   ·rintro c st3 ⟨neq,rfl,kp,hd,hq,he⟩
    have e:max (n + 1) nrem = nrem:=by omega
    rw [e] at hd hq he ⊢
    exact ⟨nrem,neq,rfl,kp,by omega,Nat.le_refl _,hd,hq,he⟩
   rintro c st3 ⟨m,neq,rfl,kp,hm1,hm2,hd,hq,he⟩
   have hz:=kp.size
   dsimp only
   have rest:∀ (st4:SortSt),Kp st' st4 lo (lo + nrem)→Dsc rk (arrOf st4) lo (lo + m)→∀ st5,Kp st' st5 lo (lo + nrem)→(∀ k,RK rk (arrOf st5) k = if lo≤k∧k < lo + m then RK rk (arrOf st4) (lo + (lo + m) - 1 - k) else RK rk (arrOf st4) k)→Seg rk (arrOf st5) lo (lo + m):=fun st4 _ d4 st5 _ e5 i j q1 q2 q3 => by
    rw [e5,e5,if_pos (by omega),if_pos (by omega)]
    exact d4 _ _ (by omega) (by omega) (by omega)
   by_cases hneq:neq > 0
   ·rw [if_pos hneq]
    refine wpS_bind (DD (rk:=rk) kp (by omega) (by omega) (by omega) he fun st4 kp4 hRK => ?_)
    have d4:Dsc rk (arrOf st4) lo (lo + m):=fun i j q1 q2 q3 => by rw [hRK,hRK]; exact hd i j q1 q2 q3
    have hz4:=kp4.size
    refine wpS_bind (EH (rk:=rk) kp4 (Nat.le_refl _) (by omega) (by omega) fun st5 kp5 e5 => ?_)
    have s5:=rest _ kp4 d4 st5 kp5 e5
    have hz5:=kp5.size
    have hU5:=hU.of_perm kp5.perm
    refine wpS_bind (wpS_mono (wpS_forRange (I:=fun x c st6 => st6 = st5∧c = (none,x)∧Seg rk (arrOf st5) lo (lo + x))
     (Q:=fun c st6 => st6 = st5∧∃ n,c = (none,n)∧1≤n∧n≤nrem∧Seg rk (arrOf st5) lo (lo + n)) ?_ ?_ ⟨rfl,rfl,s5⟩) ?_)
    ·rintro x c st6 hax hxn ⟨rfl,rfl,hs'⟩
     dsimp only
     refine wpS_bind (BS C (kp5.kd.trans hk) hU5 (by omega) (by omega) ?_)
     dsimp only
     by_cases hless:RK rk (arrOf st6) (lo + x) < RK rk (arrOf st6) (lo + x - 1)
     ·rw [if_pos (decide_eq_true hless)]
      exact wpS_pure ⟨rfl,x,rfl,by omega,by omega,hs'⟩
     ·rw [if_neg (fun q => hless (of_decide_eq_true q))]
      exact wpS_pure ⟨rfl,rfl,hs'.up (by omega) hless⟩
    ·rintro c st6 ⟨rfl,rfl,hs'⟩
     have e:max m nrem = nrem:=by omega
     rw [e] at hs' ⊢
     exact ⟨rfl,nrem,rfl,h1,Nat.le_refl _,hs'⟩
    rintro c st6 ⟨rfl,n5,rfl,q1,q2,q3⟩
    exact wpS_pure (h n5 _ kp5 q1 q2 q3)
   ·rw [if_neg hneq]
    have kp4:=kp
    have d4:=hd
    have hz4:=hz
    refine wpS_bind (EH (rk:=rk) kp4 (Nat.le_refl _) (by omega) (by omega) fun st5 kp5 e5 => ?_)
    have s5:=rest _ kp4 d4 st5 kp5 e5
    have hz5:=kp5.size
    have hU5:=hU.of_perm kp5.perm
    refine wpS_bind (wpS_mono (wpS_forRange (I:=fun x c st6 => st6 = st5∧c = (none,x)∧Seg rk (arrOf st5) lo (lo + x))
     (Q:=fun c st6 => st6 = st5∧∃ n,c = (none,n)∧1≤n∧n≤nrem∧Seg rk (arrOf st5) lo (lo + n)) ?_ ?_ ⟨rfl,rfl,s5⟩) ?_)
    ·rintro x c st6 hax hxn ⟨rfl,rfl,hs'⟩
     dsimp only
     refine wpS_bind (BS C (kp5.kd.trans hk) hU5 (by omega) (by omega) ?_)
     dsimp only
     by_cases hless:RK rk (arrOf st6) (lo + x) < RK rk (arrOf st6) (lo + x - 1)
     ·rw [if_pos (decide_eq_true hless)]
      exact wpS_pure ⟨rfl,x,rfl,by omega,by omega,hs'⟩
     ·rw [if_neg (fun q => hless (of_decide_eq_true q))]
      exact wpS_pure ⟨rfl,rfl,hs'.up (by omega) hless⟩
    ·rintro c st6 ⟨rfl,rfl,hs'⟩
     have e:max m nrem = nrem:=by omega
     rw [e] at hs' ⊢
     exact ⟨rfl,nrem,rfl,h1,Nat.le_refl _,hs'⟩
    rintro c st6 ⟨rfl,n5,rfl,q1,q2,q3⟩
    exact wpS_pure (h n5 _ kp5 q1 q2 q3)
end
end SrtG
namespace SrtG
local macro_rules | `(tactic| omega) => `(tactic| first | lia | omega)
open PySem PyProof.Rows
variable {rk:Keyed→Int}
abbrev PX:=Nat × Nat × Nat
def Cov (rk:Keyed→Int) (arr:Array Keyed):Nat→List PX→Nat→Prop
 | a,[],hi => a = hi
 | a,e :: l,hi => e.1 = a∧0 < e.2.1∧Seg rk arr a (a + e.2.1)∧Cov rk arr (a + e.2.1) l hi
theorem Cov.le {arr:Array Keyed}:∀ {l:List PX} {a hi:Nat},Cov rk arr a l hi→a + l.length≤hi
 | [],a,hi,h => by have:a = hi:=h; simp only [List.length_nil]; omega
 | e :: l,a,hi,h => by have:=Cov.le h.2.2.2; have:=h.2.1; rw [List.length_cons]; omega
theorem Cov.app {arr:Array Keyed}:∀ {l1:List PX} {l2:List PX} {a hi:Nat},Cov rk arr a (l1 ++ l2) hi↔∃ m,Cov rk arr a l1 m∧Cov rk arr m l2 hi
 | [],l2,a,hi => ⟨fun h => ⟨a,rfl,h⟩,fun ⟨m,h1,h2⟩ => by have:a = m:=h1; subst this; exact h2⟩
 | e :: l1,l2,a,hi => ⟨fun ⟨h1,h2,h3,h4⟩ => by
   obtain ⟨m,q1,q2⟩:=Cov.app.mp h4
   exact ⟨m,⟨h1,h2,h3,q1⟩,q2⟩,fun ⟨m,⟨h1,h2,h3,h4⟩,q2⟩ => ⟨h1,h2,h3,Cov.app.mpr ⟨m,h4,q2⟩⟩⟩
theorem Cov.cong {arr arr':Array Keyed}:∀ {l:List PX} {a hi:Nat},(∀ x,a≤x→x < hi→RK rk arr' x = RK rk arr x)→Cov rk arr a l hi→Cov rk arr' a l hi
 | [],_,_,_,h => h
 | e :: l,a,hi,hx,⟨h1,h2,h3,h4⟩ => by
  have hl:=h4.le
  exact ⟨h1,h2,fun x y q1 q2 q3 => by rw [hx x q1 (by omega),hx y (by omega) (by omega)]; exact h3 x y q1 q2 q3,h4.cong fun x q1 q2 => hx x (by omega) q2⟩
theorem VH {p:Array PX} {i:Nat} (h:i + 1 < p.size):∃ l1 e1 e2 l2,p.toList = l1 ++ e1 :: e2 :: l2∧l1.length = i∧p[i]? = some e1∧p[i + 1]? = some e2:=by
 have hl:p.toList.length = p.size:=Array.length_toList
 have h1:i < p.toList.length:=by omega
 have h2:i + 1 < p.toList.length:=by omega
 refine ⟨p.toList.take i,p.toList[i],p.toList[i + 1],p.toList.drop (i + 2),?_,?_,?_,?_⟩
 ·rw [← List.drop_eq_getElem_cons h2,← List.drop_eq_getElem_cons h1,List.take_append_drop]
 ·rw [List.length_take]; omega
 ·rw [← Array.getElem?_toList]; exact List.getElem?_eq_getElem h1
 ·rw [← Array.getElem?_toList]; exact List.getElem?_eq_getElem h2
theorem VI {p:Array PX} {i:Nat} {e e1 e2:PX} {l1 l2:List PX} (hp:p.toList = l1 ++ e1 :: e2 :: l2) (hl:l1.length = i):((p.setIfInBounds i e).eraseIdxIfInBounds (i + 1)).toList = l1 ++ e :: l2:=by
 have hz:i + 1 < p.size:=by
  rw [← Array.length_toList,hp,List.length_append,List.length_cons,List.length_cons]; omega
 have hz':i + 1 < (p.setIfInBounds i e).size:=by rw [Array.size_setIfInBounds]; exact hz
 unfold Array.eraseIdxIfInBounds
 rw [dif_pos hz',Array.toList_eraseIdx,Array.toList_setIfInBounds,hp]
 subst hl
 rw [List.set_append_right _ _ (Nat.le_refl _),Nat.sub_self,List.set_cons_zero,List.eraseIdx_append_of_length_le (by omega)]
 have e:l1.length + 1 - l1.length = 1:=by omega
 rw [e]
 rfl
structure Bs (kd:SortKind) (a₀:Array Keyed) (st:SortSt):Prop where
 kd:kindOf st = kd
 fl:failedOf st = none
 perm:(arrOf st).toList.Perm a₀.toList
theorem Bs.size {kd:SortKind} {a₀:Array Keyed} {st:SortSt} (b:Bs kd a₀ st):(arrOf st).size = a₀.size:=by
 rw [← Array.length_toList,← Array.length_toList]; exact b.perm.length_eq
theorem Bs.kp {kd:SortKind} {a₀:Array Keyed} {st st':SortSt} {lo hi:Nat} (b:Bs kd a₀ st) (k:Kp st st' lo hi):Bs kd a₀ st':=⟨k.kd.trans b.kd,k.fl.trans b.fl,k.perm.trans b.perm⟩
section
variable {prog:Program} {w:World} {A:Around} {E:Value→Shared→Prop} {s:Shared} {kd:SortKind} {U:Keyed→Prop} {a₀:Array Keyed}
theorem Do {i hi:Nat} {st:SortSt} {Q:Bool→SortSt→Prop} (C:PQ prog w A E s kd U rk) (hU:AllU U a₀) (b:Bs kd a₀ st) (hc:Cov rk (arrOf st) 0 (pendingOf st).toList hi) (hhi:hi≤a₀.size) (hi1:i + 1 < (pendingOf st).size)
  (h:∀ st',Bs kd a₀ st'→Cov rk (arrOf st') 0 (pendingOf st').toList hi→(pendingOf st').size + 1 = (pendingOf st).size→(∀ x,hi≤x→RK rk (arrOf st') x = RK rk (arrOf st) x)→Q true st'):wpS (model prog w) A E s (mergeAt' i) Q st:=by
 obtain ⟨l1,⟨s1,n1,p1⟩,⟨s2,n2,p2⟩,l2,hp,hl,e1,e2⟩:=VH hi1
 have hc0:=hc
 rw [hp] at hc0
 obtain ⟨m,c1,q1,q2,q3,q4,q5,q6,q7⟩:=Cov.app.mp hc0
 dsimp only at q1 q2 q3 q4 q5 q6 q7
 subst q1
 have hle:=q7.le
 have hz:=b.size
 refine Jt C b.kd (hU.of_perm b.perm) b.fl e1 e2 q4 q2 q5 (by omega) (by rw [q4]; exact q3) (by rw [q4]; exact q6) fun st' k1 k2 k3 u => ?_
 have hj:=VI (e:=(s1,n1 + n2,p1)) hp hl
 have c1le:=c1.le
 refine h st' ⟨k1,k2,u.perm.trans b.perm⟩ ?_ ?_ ?_
 ·rw [k3,hj]
  refine Cov.app.mpr ⟨s1,c1.cong fun x _ hx => CC (u.out x (.inl hx)),rfl,by show 0 < n1 + n2; omega,?_,?_⟩
  ·show Seg rk (arrOf st') s1 (s1 + (n1 + n2))
   have:=u.seg
   rw [q4,Nat.add_assoc] at this
   exact this
  ·show Cov rk (arrOf st') (s1 + (n1 + n2)) l2 hi
   rw [← Nat.add_assoc]
   exact q7.cong fun x hx _ => CC (u.out x (.inr (by omega)))
 ·rw [← Array.length_toList,← Array.length_toList,k3,hj,hp,List.length_append,List.length_append,List.length_cons,List.length_cons,List.length_cons]
  omega
 ·intro x hx
  exact CC (u.out x (.inr (by omega)))
end
end SrtG
namespace SrtG
local macro_rules | `(tactic| omega) => `(tactic| first | lia | omega)
open PySem PyProof.Rows
variable {rk:Keyed→Int}
theorem Cov.shape {arr:Array Keyed}:∀ {l l':List PX} {a hi:Nat},l'.map (fun e => (e.1,e.2.1)) = l.map (fun e => (e.1,e.2.1))→Cov rk arr a l hi→Cov rk arr a l' hi
 | [],[],_,_,_,h => h
 | e :: l,e' :: l',a,hi,hm,⟨h1,h2,h3,h4⟩ => by
  rw [List.map_cons,List.map_cons] at hm
  injection hm with hm1 hm2
  injection hm1 with q1 q2
  exact ⟨q1.trans h1,by rw [q2]; exact h2,by rw [q2]; exact h3,by rw [q2]; exact h4.shape hm2⟩
 | [],_ :: _,_,_,hm,_ => by cases hm
 | _ :: _,[],_,_,hm,_ => by cases hm
theorem Cov.power {arr:Array Keyed} {p:Array PX} {i pw hi:Nat} (h:Cov rk arr 0 p.toList hi):Cov rk arr 0 (p.modify i fun e => (e.1,e.2.1,pw)).toList hi:=by
 refine h.shape ?_
 apply List.ext_getElem?
 intro j
 rw [List.getElem?_map,List.getElem?_map,Array.getElem?_toList,Array.getElem?_toList,Array.getElem?_modify]
 split
 ·cases p[j]? <;> rfl
 ·rfl
section
variable {prog:Program} {w:World} {A:Around} {E:Value→Shared→Prop} {s:Shared} {kd:SortKind} {U:Keyed→Prop} {a₀:Array Keyed}
theorem PY {st:SortSt} {Q:Unit→SortSt→Prop} (C:PQ prog w A E s kd U rk) (hU:AllU U a₀) (b:Bs kd a₀ st) (hp:pendingOf st = #[])
  (h:∀ st',Bs kd a₀ st'→Ek rk (arrOf st')→Q () st'):wpS (model prog w) A E s sortRuns' Q st:=by
 rw [sortRuns'_eq]
 refine wpS_bind (wpS_get ?_)
 dsimp only
 have hz:=b.size
 refine wpS_bind (wpS_mono (wpS_forRange
  (I:=fun x c st' => ∃ lo,c = (none,lo)∧x≤lo∧lo≤(arrOf st).size∧Bs kd a₀ st'∧Cov rk (arrOf st') 0 (pendingOf st').toList lo)
  (Q:=fun c st' => c.1 = none∧Bs kd a₀ st'∧Cov rk (arrOf st') 0 (pendingOf st').toList (arrOf st).size) ?step ?fin ⟨0,rfl,Nat.le_refl _,Nat.zero_le _,b,by rw [hp]; rfl⟩) ?post)
 case fin =>
  rintro c st' ⟨lo,rfl,h1,h2,bs,cv⟩
  have e:lo = (arrOf st).size:=by omega
  subst e
  exact ⟨rfl,bs,cv⟩
 case step =>
  rintro x c st1 _ hx ⟨lo,rfl,h1,h2,bs,cv⟩
  dsimp only
  have hz1:=bs.size
  by_cases cl:lo ≥ (arrOf st).size
  ·rw [if_pos cl]
   have e:lo = (arrOf st).size:=by omega
   subst e
   exact wpS_pure ⟨rfl,bs,cv⟩
  rw [if_neg cl]
  have nextOf:∀ (st3:SortSt) (n:Nat),Bs kd a₀ st3→Cov rk (arrOf st3) 0 (pendingOf st3).toList lo→0 < n→lo + n≤(arrOf st).size→Seg rk (arrOf st3) lo (lo + n)→∀ {c:Option PUnit × Nat},c = (none,lo + n)→∃ lo',c = (none,lo')∧x + 1≤lo'∧lo'≤(arrOf st).size∧Bs kd a₀ (setPending st3 ((pendingOf st3).push (lo,n,0)))∧Cov rk (arrOf (setPending st3 ((pendingOf st3).push (lo,n,0)))) 0 (pendingOf (setPending st3 ((pendingOf st3).push (lo,n,0)))).toList lo':=fun st3 n bs3 cv3 hpos hfit sg c hc => by
   refine ⟨lo + n,hc,by omega,hfit,⟨bs3.kd,bs3.fl,bs3.perm⟩,?_⟩
   show Cov rk (arrOf st3) 0 ((pendingOf st3).push (lo,n,0)).toList (lo + n)
   rw [Array.toList_push]
   exact Cov.app.mpr ⟨lo,cv3,rfl,hpos,sg,rfl⟩
  refine wpS_bind (LS C bs.kd (hU.of_perm bs.perm) (by omega) (by omega) fun n st2 kp2 hn1 hn2 sg2 => ?_)
  have bs2:=bs.kp kp2
  have cv2:Cov rk (arrOf st2) 0 (pendingOf st2).toList lo:=by
   rw [kp2.pd]
   exact cv.cong fun x _ hx => CC (kp2.out x (.inl hx))
  dsimp only
  by_cases cm:n < minRun' (arrOf st).size (arrOf st).size 0
  ·rw [if_pos cm]
   refine wpS_bind (wpS_lift (wpAny_rule ⟨rfl,?_⟩))
   have hz2:=bs2.size
   refine wpS_bind (LR (n:=min ((arrOf st).size - lo) (minRun' (arrOf st).size (arrOf st).size 0)) C bs2.kd (hU.of_perm bs2.perm) (by omega) (by omega) sg2 fun st3 kp3 sg3 => ?_)
   rw [if_neg (by decide)]
   have bs3:=bs2.kp kp3
   have cv3:Cov rk (arrOf st3) 0 (pendingOf st3).toList lo:=by
    rw [kp3.pd]
    exact cv2.cong fun x _ hx => CC (kp3.out x (.inl hx))
   have hpos:0 < min ((arrOf st).size - lo) (minRun' (arrOf st).size (arrOf st).size 0):=by omega
   have hfit:lo + min ((arrOf st).size - lo) (minRun' (arrOf st).size (arrOf st).size 0)≤(arrOf st).size:=by omega
   refine wpS_bind (wpS_get ?_)
   cases hb:(pendingOf st3).back? with
   | none =>
    dsimp only
    exact wpS_bind (wpS_modify (wpS_pure (nextOf st3 _ bs3 cv3 hpos hfit sg3 rfl)))
   | some e =>
    obtain ⟨s1,n1,p1⟩:=e
    dsimp only
    refine wpS_bind (wpS_mono (wpS_forRange (I:=fun _ c st4 => c = (none,())∧Bs kd a₀ st4∧Cov rk (arrOf st4) 0 (pendingOf st4).toList lo∧∀ x,lo≤x→RK rk (arrOf st4) x = RK rk (arrOf st3) x)
     (Q:=fun c st4 => c = (none,())∧Bs kd a₀ st4∧Cov rk (arrOf st4) 0 (pendingOf st4).toList lo∧∀ x,lo≤x→RK rk (arrOf st4) x = RK rk (arrOf st3) x) ?_ (fun _ _ q => q) ⟨rfl,bs3,cv3,fun _ _ => rfl⟩) ?_)
    ·rintro y c st4 _ _ ⟨rfl,bs4,cv4,ou4⟩
     refine wpS_bind (wpS_get ?_)
     by_cases cp:(pendingOf st4).size > 1
     ·rw [if_pos cp]
      obtain ⟨o1,o2,o3⟩:=(pendingOf st4)[(pendingOf st4).size - 2]
      have hge:(pendingOf st4)[(pendingOf st4).size - 2]? = some (pendingOf st4)[(pendingOf st4).size - 2]:=getElem?_pos _ _ (by omega)
      rw [hge]
      dsimp only
      by_cases co:(pendingOf st4)[(pendingOf st4).size - 2].2.2≤power' (arrOf st).size (2 * s1 + n1) (2 * s1 + n1 + n1 + min ((arrOf st).size - lo) (minRun' (arrOf st).size (arrOf st).size 0)) (arrOf st).size
      ·rw [if_pos co]
       exact wpS_pure ⟨rfl,bs4,cv4,ou4⟩
      ·rw [if_neg co]
       refine wpS_bind (Do C hU bs4 cv4 (by omega) (by omega) fun st5 bs5 cv5 _ ou5 => ?_)
       rw [if_neg (by decide)]
       exact wpS_pure ⟨rfl,bs5,cv5,fun x hx => (ou5 x hx).trans (ou4 x hx)⟩
     ·rw [if_neg cp]
      exact wpS_pure ⟨rfl,bs4,cv4,ou4⟩
    ·rintro c st4 ⟨rfl,bs4,cv4,ou4⟩
     dsimp only
     refine wpS_bind (wpS_modify ?_)
     refine wpS_bind (wpS_modify (wpS_pure ?_))
     have sg4:Seg rk (arrOf st4) lo (lo + min ((arrOf st).size - lo) (minRun' (arrOf st).size (arrOf st).size 0)):=fun i j q1 q2 q3 => by rw [ou4 i q1,ou4 j (by omega)]; exact sg3 i j q1 q2 q3
     exact nextOf (setPending st4 ((pendingOf st4).modify ((pendingOf st4).size - 1) fun e => (e.1,e.2.1,power' (arrOf st).size (2 * s1 + n1) (2 * s1 + n1 + n1 + min ((arrOf st).size - lo) (minRun' (arrOf st).size (arrOf st).size 0)) (arrOf st).size))) _ ⟨bs4.kd,bs4.fl,bs4.perm⟩ (Cov.power cv4) hpos hfit sg4 rfl
  ·rw [if_neg cm]
   have bs3:=bs2
   have cv3:=cv2
   have sg3:=sg2
   have hpos:0 < n:=by omega
   have hfit:lo + n≤(arrOf st).size:=by omega
   refine wpS_bind (wpS_get ?_)
   cases hb:(pendingOf st2).back? with
   | none =>
    dsimp only
    exact wpS_bind (wpS_modify (wpS_pure (nextOf st2 _ bs3 cv3 hpos hfit sg3 rfl)))
   | some e =>
    obtain ⟨s1,n1,p1⟩:=e
    dsimp only
    refine wpS_bind (wpS_mono (wpS_forRange (I:=fun _ c st4 => c = (none,())∧Bs kd a₀ st4∧Cov rk (arrOf st4) 0 (pendingOf st4).toList lo∧∀ x,lo≤x→RK rk (arrOf st4) x = RK rk (arrOf st2) x)
     (Q:=fun c st4 => c = (none,())∧Bs kd a₀ st4∧Cov rk (arrOf st4) 0 (pendingOf st4).toList lo∧∀ x,lo≤x→RK rk (arrOf st4) x = RK rk (arrOf st2) x) ?_ (fun _ _ q => q) ⟨rfl,bs3,cv3,fun _ _ => rfl⟩) ?_)
    ·rintro y c st4 _ _ ⟨rfl,bs4,cv4,ou4⟩
     refine wpS_bind (wpS_get ?_)
     by_cases cp:(pendingOf st4).size > 1
     ·rw [if_pos cp]
      obtain ⟨o1,o2,o3⟩:=(pendingOf st4)[(pendingOf st4).size - 2]
      have hge:(pendingOf st4)[(pendingOf st4).size - 2]? = some (pendingOf st4)[(pendingOf st4).size - 2]:=getElem?_pos _ _ (by omega)
      rw [hge]
      dsimp only
      by_cases co:(pendingOf st4)[(pendingOf st4).size - 2].2.2≤power' (arrOf st).size (2 * s1 + n1) (2 * s1 + n1 + n1 + n) (arrOf st).size
      ·rw [if_pos co]
       exact wpS_pure ⟨rfl,bs4,cv4,ou4⟩
      ·rw [if_neg co]
       refine wpS_bind (Do C hU bs4 cv4 (by omega) (by omega) fun st5 bs5 cv5 _ ou5 => ?_)
       rw [if_neg (by decide)]
       exact wpS_pure ⟨rfl,bs5,cv5,fun x hx => (ou5 x hx).trans (ou4 x hx)⟩
     ·rw [if_neg cp]
      exact wpS_pure ⟨rfl,bs4,cv4,ou4⟩
    ·rintro c st4 ⟨rfl,bs4,cv4,ou4⟩
     dsimp only
     refine wpS_bind (wpS_modify ?_)
     refine wpS_bind (wpS_modify (wpS_pure ?_))
     have sg4:Seg rk (arrOf st4) lo (lo + n):=fun i j q1 q2 q3 => by rw [ou4 i q1,ou4 j (by omega)]; exact sg3 i j q1 q2 q3
     exact nextOf (setPending st4 ((pendingOf st4).modify ((pendingOf st4).size - 1) fun e => (e.1,e.2.1,power' (arrOf st).size (2 * s1 + n1) (2 * s1 + n1 + n1 + n) (arrOf st).size))) _ ⟨bs4.kd,bs4.fl,bs4.perm⟩ (Cov.power cv4) hpos hfit sg4 rfl
 case post =>
  rintro ⟨c1,c2⟩ st1 ⟨e,bs,cv⟩
  cases e
  dsimp only
  have done:∀ st',Bs kd a₀ st'→Cov rk (arrOf st') 0 (pendingOf st').toList (arrOf st).size→(pendingOf st').size≤1→Ek rk (arrOf st'):=fun st' bs' cv' hl => by
   have hz':=bs'.size
   intro i j hij hj
   rw [← Array.length_toList] at hl
   revert cv' hl
   generalize (pendingOf st').toList = l
   intro cv' hl
   match l,cv',hl with
   | [],cv',_ =>
    have:0 = (arrOf st).size:=cv'
    omega
   | [e],cv',_ =>
    obtain ⟨q1,q2,q3,q4⟩:=cv'
    have:0 + e.2.1 = (arrOf st).size:=q4
    exact q3 i j (by omega) hij (by omega)
   | _ :: _ :: _,_,hl => simp only [List.length_cons] at hl; omega
  have hlen:=cv.le
  rw [Array.length_toList] at hlen
  refine wpS_bind (wpS_mono (wpS_forRange (I:=fun x c st' => c = (none,())∧Bs kd a₀ st'∧Cov rk (arrOf st') 0 (pendingOf st').toList (arrOf st).size∧(pendingOf st').size + x≤(arrOf st).size)
   (Q:=fun c st' => c = (none,())∧Bs kd a₀ st'∧Cov rk (arrOf st') 0 (pendingOf st').toList (arrOf st).size∧(pendingOf st').size≤1) ?_ ?_ ⟨rfl,bs,cv,by omega⟩) ?_)
  ·rintro x c st2 _ hx ⟨rfl,bs2,cv2,hm⟩
   refine wpS_bind (wpS_get ?_)
   by_cases cp:(pendingOf st2).size≤1
   ·rw [if_pos cp]
    exact wpS_pure ⟨rfl,bs2,cv2,cp⟩
   ·rw [if_neg cp]
    refine wpS_bind (Do C hU bs2 cv2 (by omega) ?_ fun st5 bs5 cv5 hs5 _ => ?_)
    ·split <;> split <;> omega
    ·rw [if_neg (by decide)]
     exact wpS_pure ⟨rfl,bs5,cv5,by omega⟩
  ·rintro c st2 ⟨rfl,bs2,cv2,hm⟩
   exact ⟨rfl,bs2,cv2,by omega⟩
  ·rintro c st2 ⟨rfl,bs2,cv2,hm⟩
   exact wpS_pure (h _ bs2 (done _ bs2 cv2 hm))
end
end SrtG
namespace SrtG
open PySem PyProof.Rows
def LT (h:Heap) (v:Value) (a b:Int):Prop:=∃ x o t u n,v = .ref x∧h.get? x = some o∧o.data = .seq #[.int a t,.int b u] n
def Mn (h:Heap) (k:Keyed):Int:=match k.1 with
  | .ref x => match h.get? x with
    | some o => match o.data with
     | .seq xs _ => match (xs[0]?:Option Value),(xs[1]?:Option Value) with
      | some (.int a _),some (.int b _) => 65536 * a + b
      | _,_ => 0
     | _ => 0
    | _ => 0
  | _ => 0
theorem El {h:Heap} {k:Keyed} {a b:Int} (p:LT h k.1 a b):Mn h k = 65536 * a + b:=by
 obtain ⟨x,o,t,u,n,e1,e2,e3⟩:=p
 unfold Mn
 rw [e1]
 dsimp only
 rw [e2]
 dsimp only
 rw [e3]
 rfl
def Tr (h:Heap) (k:Keyed):Prop:=∃ a b,LT h k.1 a b∧0≤b∧b < 65536
variable {prog:Program} {w:World} {A:Around} {E:Value→Shared→Prop} {s:Shared}
theorem Ny:PQ prog w A E s (tuples' true) (Tr s.heap) (Mn s.heap):=by
 intro st x y Q hk hx hy h
 obtain ⟨a,b,px,b0,b1⟩:=hx
 obtain ⟨c,d,py,d0,d1⟩:=hy
 rw [El px,El py] at h
 obtain ⟨p,o,t,u,n,e1,e2,e3⟩:=px
 obtain ⟨p',o',t',u',n',e1',e2',e3'⟩:=py
 rw [lt'_eq]
 refine wpS_bind (wpS_get ?_)
 rw [hk,e1,e1']
 refine wpS_bind (wpS_lift (wpAny_attempt ?_))
 refine PySem.W.kat_lt e2 e3 e2' e3' ?_
 have fin:∀ r:Bool,r = decide (65536 * a + b < 65536 * c + d)→(s = s∧wpS (model prog w) A E s (match (Except.ok r:Except Value Bool) with
   | .ok b => pure (some b)
   | .error e => do
    modify (fun s => SortSt.mk' (kindOf s) (arrOf s) (pendingOf s) (gallopOf s) (some e))
    pure none) Q st):=fun r hr => ⟨rfl,by rw [hr]; exact wpS_pure h⟩
 refine PySem.W.kat_cons (wpAny_eqBool_int ?_)
 refine PySem.W.kat_go (fun e => ?_) (fun e => ?_)
 ·have e':=eq_of_beq e
  refine PySem.W.kat_yes (PySem.W.kat_cons (wpAny_eqBool_int ?_))
  refine PySem.W.kat_go (fun q => ?_) (fun q => ?_)
  ·have q':=eq_of_beq q
   exact PySem.W.kat_yes (PySem.W.kat_nil (fin _ (by rw [e',q']; simp)))
  ·exact PySem.W.kat_no (PySem.W.kat_one _ _ (lt_int (fin _ (by congr 1; rw [e']; apply propext; constructor <;> intro <;> omega))))
 ·have e':a≠c:=fun q => by rw [q] at e; simp at e
  refine PySem.W.kat_no (oneLt_int (fin _ ?_))
  congr 1
  apply propext
  constructor <;> intro <;> omega
open PySem.Calls PySem.W
def TupAt (h:Heap) (v:Value) (a b:Int):Prop:=∃ x o t u n,v = .ref x∧h.get? x = some o∧o.cls = .type "tuple"∧o.data = .seq #[.int a t,.int b u] n
def TupsOk (h:Heap) (vs:List Value):Prop:=∀ v,v∈vs→∃ a b,TupAt h v a b∧0≤b∧b < 65536
theorem TupAt.pair {h:Heap} {v:Value} {a b:Int} (t:TupAt h v a b):LT h v a b:=by
 obtain ⟨x,o,t,u,n,e1,e2,_,e4⟩:=t
 exact ⟨x,o,t,u,n,e1,e2,e4⟩
theorem TupsOk.kat {h:Heap}:∀ {vs:List Value},TupsOk h vs→∃ fs:List Value,KatTups h vs fs∧fs.length = vs.length∧∀ v∈fs,∃ a t,v = .int a t
 | [],_ => ⟨[],KatTups.nil,rfl,fun v hv => by cases hv⟩
 | v :: vs,ok => by
  obtain ⟨fs,k,hl,hf⟩:=TupsOk.kat (vs:=vs) fun v hv => ok v (.tail _ hv)
  obtain ⟨a,b,⟨x,o,t,u,n,rfl,e,hc,hd⟩,_,_⟩:=ok v (.head _)
  exact ⟨.int a t :: fs,KatTups.cons e hc hd rfl k,by rw [List.length_cons,List.length_cons,hl],fun v hv => by
   rcases List.mem_cons.mp hv with rfl | hv
   ·exact ⟨a,t,rfl⟩
   ·exact hf v hv⟩
theorem Fy:∀ (vs:List Value),vs.zip vs = vs.map fun v => (v,v)
 | [] => rfl
 | v :: vs => by rw [List.zip_cons_cons,List.map_cons,Fy vs]
variable {prog:Program} {w:World} {A:Around} {E:Value→Shared→Prop} {s:Shared}
theorem Nz {vs:List Value} {Q:SortSt→Shared→Prop} (ok:TupsOk s.heap vs)
  (h:∀ st',failedOf st' = none→((arrOf st').map (·.2)).toList.Perm vs→((arrOf st').map (·.2)).toList.Pairwise (fun x y => Mn s.heap (x,x)≤Mn s.heap (y,y))→Q st' s) :
  wpAny (model prog w) A ((sortRuns').run (SortSt.mk' (tuples' true) (vs.toArray.zip vs.toArray) #[] 7 none)) (fun r s' => Q r.2 s') E s:=by
 have hz:(vs.toArray.zip vs.toArray) = (vs.map fun v => (v,v)).toArray:=by
  apply Array.ext'
  rw [Array.toList_zip]
  show vs.zip vs = vs.map fun v => (v,v)
  exact Fy vs
 have hU:AllU (Tr s.heap) (vs.toArray.zip vs.toArray):=fun i p e => by
  rw [hz] at e
  have e':(vs.map fun v => ((v,v):Keyed))[i]? = some p:=by rw [← Array.getElem?_toList] at e; exact e
  obtain ⟨v,hv,rfl⟩:=List.mem_map.mp (List.mem_of_getElem? e')
  obtain ⟨a,b,q1,q2,q3⟩:=ok v hv
  exact ⟨a,b,q1.pair,q2,q3⟩
 have hwp:wpS (model prog w) A E s sortRuns' (fun _ st' => Q st' s) (SortSt.mk' (tuples' true) (vs.toArray.zip vs.toArray) #[] 7 none):=by
  refine PY (a₀:=vs.toArray.zip vs.toArray) (rk:=Mn s.heap) Ny hU ⟨rfl,rfl,List.Perm.refl _⟩ rfl fun st' b srt => ?_
  have hpm:=b.perm
  rw [hz] at hpm
  have hsame:∀ k,k∈(arrOf st').toList→k = (k.2,k.2):=fun k hk => by
   obtain ⟨v,_,rfl⟩:=List.mem_map.mp (hpm.mem_iff.mp hk)
   rfl
  refine h st' b.fl ?_ ?_
  ·rw [Array.toList_map]
   have:=hpm.map (fun k:Keyed => k.2)
   rw [show ((vs.map fun v => ((v,v):Keyed)).toArray.toList.map fun k:Keyed => k.2) = vs from by
    show (vs.map fun v => ((v,v):Keyed)).map (fun k:Keyed => k.2) = vs
    rw [List.map_map]
    exact List.map_id vs] at this
   exact this
  ·rw [Array.toList_map,List.pairwise_map]
   refine List.pairwise_iff_getElem.mpr fun i j hi hj hij => ?_
   have hi':i < (arrOf st').size:=by rw [← Array.length_toList]; exact hi
   have hj':j < (arrOf st').size:=by rw [← Array.length_toList]; exact hj
   have q:=srt i j (Nat.le_of_lt hij) hj'
   rw [Aw hi',Aw hj'] at q
   have e1:=hsame (arrOf st').toList[i] (List.getElem_mem hi)
   have e2:=hsame (arrOf st').toList[j] (List.getElem_mem hj)
   rw [← e1,← e2]
   exact q
 exact wpAny_mono hwp (fun r s' q => by rw [q.1]; exact q.2) fun _ _ e => e
variable {prog:Program} {w:World} {A:Around} {E:Value→Shared→Prop} {s:Shared}
theorem TupsOk.kept {h h':Heap} {vs:List Value} (ok:TupsOk h vs) (k:∀ b o,o.cls = .type "tuple"→h.get? b = some o→h'.get? b = some o):TupsOk h' vs:=fun v hv => by
 obtain ⟨a,b,⟨x,o,t,u,n,e1,e2,e3,e4⟩,q⟩:=ok v hv
 exact ⟨a,b,⟨x,o,t,u,n,e1,k _ _ e3 e2,e3,e4⟩,q⟩
theorem TupsOk.rk {h h':Heap} {vs:List Value} (ok:TupsOk h vs) (k:∀ b o,o.cls = .type "tuple"→h.get? b = some o→h'.get? b = some o) {v:Value} (hv:v∈vs):Mn h' (v,v) = Mn h (v,v):=by
 obtain ⟨a,b,t,q⟩:=ok v hv
 obtain ⟨x,o,t',u,n,e1,e2,e3,e4⟩:=t
 rw [El (k:=(v,v)) (TupAt.pair ⟨x,o,t',u,n,e1,e2,e3,e4⟩),El (k:=(v,v)) (TupAt.pair ⟨x,o,t',u,n,e1,k _ _ e3 e2,e3,e4⟩)]
theorem LU {a:Addr} {vs:List Value} {n:Nat} {P:PySem.Fin→Shared→Prop} (ho:s.heap.get? a = some (seqObj "list" vs.toArray n)) (ok:TupsOk s.heap vs) (h2:2≤vs.length) (hn:vs.length≤4096)
  (h:∀ out c h',out.Perm vs→out.Pairwise (fun x y => Mn s.heap (x,x)≤Mn s.heap (y,y))→h'.get? a = some (seqObj "list" (List.toArray out) c)→(∀ b o,b≠a→s.heap.get? b = some o→h'.get? b = some o)→P (.done (.ret .none)) { s with heap:=h' }) :
  wpAny (model prog w) A (Builtin.«list.sort» ⟨[.ref a],[]⟩) P E s:=by
 obtain ⟨e1,ho1⟩:∃ e1,(s.heap.update a (Obj.mapSeq fun _ => (#[]:Array Value))).get? a = some (seqObj "list" #[] e1):=⟨_,get?_update_seq ho fun _ => #[]⟩
 have keep:∀ b o,b≠a→s.heap.get? b = some o→(((s.heap.update a (Obj.mapSeq fun _ => (#[]:Array Value))).push (seqObj "tuple" vs.toArray 0)).push (seqObj "list" #[] 0)).get? b = some o:=fun b o hb e =>
  Heap.get?_push_of_some _ (Heap.get?_push_of_some _ (by rw [Heap.get?_update_ne _ _ _ _ hb]; exact e))
 have keepT:∀ b o,o.cls = .type "tuple"→s.heap.get? b = some o→(((s.heap.update a (Obj.mapSeq fun _ => (#[]:Array Value))).push (seqObj "tuple" vs.toArray 0)).push (seqObj "list" #[] 0)).get? b = some o:=fun b o ht e => by
  refine keep b o (fun q => ?_) e
  rw [q,ho] at e
  cases e
  exact absurd (show Value.type "list" = Value.type "tuple" from ht) (by decide)
 have ho3:(((s.heap.update a (Obj.mapSeq fun _ => (#[]:Array Value))).push (seqObj "tuple" vs.toArray 0)).push (seqObj "list" #[] 0)).get? a = some (seqObj "list" #[] e1):=Heap.get?_push_of_some _ (Heap.get?_push_of_some _ ho1)
 have ok3:=ok.kept keepT
 have rk3:=fun {v} (hv:v∈vs) => ok.rk keepT hv
 rw [list_sort_plain]
 refine wpAny_bind (listItems_at ho rfl ?_)
 refine wpAny_bind (listUpdate_at ho rfl ?_ (by rw [List.size_toArray,sizeLine_eq]; omega) (Nat.zero_le _))
 refine wpAny_bind (seqEpoch_at ho1 rfl ?_)
 refine wpAny_bind (wpAny_newTuple ?_ (by show vs.length≤_; rw [sizeLine_eq]; omega))
 refine wpAny_bind (wpAny_newList ?_ (Nat.zero_le _))
 refine wpAny_holding ?_
 show wpAny (model prog w) A _ P E { s with heap:=((s.heap.update a (Obj.mapSeq fun _ => (#[]:Array Value))).push (seqObj "tuple" vs.toArray 0)).push (seqObj "list" #[] 0) }
 generalize hG:((s.heap.update a (Obj.mapSeq fun _ => (#[]:Array Value))).push (seqObj "tuple" vs.toArray 0)).push (seqObj "list" #[] 0) = G at keep ho3 ok3 rk3 ⊢
 dsimp only
 have hn2:¬ vs.toArray.size < 2:=by rw [List.size_toArray]; omega
 rw [if_neg hn2,if_neg hn2]
 obtain ⟨fs,kt,hl,hf⟩:=ok3.kat
 refine wpAny_bind (kat_kind (s:={ s with heap:=G }) (T:=Value.type "int") kt (by omega) (fun v hv => by
  obtain ⟨x,t,rfl⟩:=hf v hv
  exact fun _ _ _ _ _ q => wpAny_pure q) rfl ?_)
 refine wpAny_bind (wpAny_mono (Nz (s:={ s with heap:=G }) (Q:=fun st' s' => s' = { s with heap:=G }∧failedOf st' = none∧((arrOf st').map (·.2)).toList.Perm vs∧((arrOf st').map (·.2)).toList.Pairwise (fun x y => Mn G (x,x)≤Mn G (y,y))) ok3 (fun st' a1 a2 a3 => ⟨rfl,a1,a2,a3⟩)) ?_ fun _ _ e => e)
 rintro ⟨⟨⟩,st'⟩ s' ⟨rfl,hfl,hpm,hpw⟩
 dsimp only
 have hsz:((arrOf st').map (·.2)).size = vs.length:=by rw [← Array.length_toList]; exact hpm.length_eq
 obtain ⟨c2,hc2⟩:∃ c2,(G.update a (Obj.mapSeq fun _ => (arrOf st').map (·.2))).get? a = some (seqObj "list" ((arrOf st').map (·.2)) c2):=⟨_,get?_update_seq ho3 fun _ => (arrOf st').map (·.2)⟩
 refine wpAny_bind (seqEpoch_at ho3 rfl ?_)
 refine wpAny_bind (listUpdate_at ho3 rfl ?_ (Nat.zero_le _) (Nat.le_trans (Nat.le_of_eq hsz) (by rw [sizeLine_eq]; omega)))
 rw [hfl]
 simp only [bne_self_eq_false,Bool.false_eq_true,if_false]
 refine wpAny_pure (h ((arrOf st').map (·.2)).toList c2 _ hpm ?_ hc2 fun b o hb e => by rw [Heap.get?_update_ne _ _ _ _ hb]; exact keep b o hb e)
 refine List.Pairwise.imp_of_mem (fun {x y} hx hy q => ?_) hpw
 rw [rk3 (hpm.mem_iff.mp hx),rk3 (hpm.mem_iff.mp hy)] at q
 exact q
end SrtG
namespace StT
open PySem PySem.SetTable PyProof.Rows
section
variable {prog:Program} {w:World} {A:Around} {E:Value→Shared→Prop} {s:Shared}
abbrev Ax (w:World):Obj:={ cls:=.type "set",dict:=none,data:=.set #[] 0 (.fresh 0 0 (!w.params.followText "set-order")) }
theorem Ju (a:Value) {Q₁:Value→Shared→Prop} (h:Q₁ (.ref s.heap.objs.size) { s with heap:=s.heap.push (Ax w) }) :
  codeAny (model prog w) A (.call (.builtin "set.__new__") ⟨[.type "set",a],[]⟩) (wants Q₁ E) s:=by
 refine codeAny_of_tree ?_
 show wpAny _ A.in1 (do checkBuiltinCall "set.__new__" ⟨[.type "set",a],[]⟩; again (.builtin "set.__new__" ⟨[.type "set",a],[]⟩)) _ _ s
 refine wpAny_bind (wpAny_of_eq (PySem.F.newCall_set_1 a) (wpAny_pure ⟨plainId_quiet PySem.F.plain_set_new _,codeAny_builtin PySem.F.entry_set_new ?_⟩))
 rw [Around.under_plainId PySem.F.plain_set_new _]
 unfold Builtin.«set.__new__» Builtin.Frozenset.newClass
 have hsub:=sub_set_self
 obtain ⟨hp,g,d,tk,os⟩:=s
 dsimp only
 wp_walk
 refine wpAny_askSetting (wpAny_pure ?_)
 dsimp only
 simp only [newObj]
 refine wpAny_bind (wpAny_alloc (wpAny_pure ?_))
 exact wpAny_pure h
theorem Fz {T newId initId:String} {args:List Value} {Q Q₁:Value→Shared→Prop} (ft:TypeCalled T newId initId)
  (hct:checkTypeCall T ⟨args,[]⟩ = pure ())
  (hnew:codeAny (model prog w) A.in1 (.call (.builtin newId) ⟨.type T :: args,[]⟩) (wants Q₁ E) s)
  (hnext:∀ obj s₁,Q₁ obj s₁→s₁.TypeIs obj T∧codeAny (model prog w) A.in1 (.call (.builtin initId) ⟨obj :: args,[]⟩) (wants (fun r s₂ => r = .none∧Q obj s₂) E) s₁) :
  wpAny (model prog w) A (call (.type T) args) Q E s:=by
 obtain ⟨c,tl,hmro⟩:=ft.mro
 have hmade:=ft.made
 have hsub:=ft.sub
 refine wpAny_call (codeAny_of_tree ?_)
 show wpAny _ _ (callAny (.type T) _) _ _ _
 refine wpAny_pure ⟨Code.quiet_builtin _ (by decide +kernel),codeAny_builtin PySem.F.entry_type_call ?_⟩
 rw [Around.under_plain (weight_type_call_type T args []) rfl]
 have h1:=ft.notType
 have h2:=ft.canCreate
 repeat (any_goals (first | assumption | wp_step))
 refine codeAny_mono hnew fun r s₁ hr => ?_
 cases r with
 | error e => exact hr
 | ok fl =>
  cases fl with
  | ret obj =>
   obtain ⟨hT,hsi⟩:=hnext _ _ hr
   have hli:=ft.init.lookup
   have hbi:=ft.init.bind obj
   repeat (any_goals (first | assumption | wp_step))
   refine codeAny_mono hsi fun r₂ s₂ hr₂ => ?_
   cases r₂ with
   | error e => exact hr₂
   | ok fl₂ =>
    cases fl₂ with
    | ret r =>
     obtain ⟨rfl,hq⟩:=hr₂
     repeat (any_goals (first | assumption | wp_step))
    | _ => exact hr₂.elim
  | _ => exact hr.elim
theorem GA {l:Addr} {items:Array Value} {ps:List (List Int × Addr)} {Q:Value→Shared→Prop}
  (hh:A.handled = none) (hl:s.heap.IsList l items) (hps:items.toList = ps.map fun p => Value.ref p.2) (hp:∀ k x,(k,x)∈ps→IK prog w s.heap k x) (hz:ps.length≤300) (hu:A.units + 8 < cLine)
  (h:∀ (h':Heap) (tk:Nat) (xs:List (List Int × Addr)),SetX prog w h' s.heap.objs.size xs→IO ps xs →
   (∀ b o,b < s.heap.objs.size→s.heap.get? b = some o→h'.get? b = some o)→Q (.ref s.heap.objs.size) { s with heap:=h',toks:=tk }) :
  wpAny (model prog w) A (call (.type "set") [.ref l]) Q E s:=by
 refine Fz (Q₁:=fun obj s₁ => obj = .ref s.heap.objs.size∧s₁ = { s with heap:=s.heap.push (Ax w) }) PySem.F.called_set (PySem.F.typeCall_set_1 _) (Ju _ ⟨rfl,rfl⟩) ?_
 rintro obj s₁ ⟨rfl,rfl⟩
 have hS:(s.heap.push (Ax w)).get? s.heap.objs.size = some (Ax w):=Heap.get?_push_size _ rfl
 have hT:Shared.TypeIs { s with heap:=s.heap.push (Ax w) } (.ref s.heap.objs.size) "set":=⟨_,hS,rfl⟩
 refine ⟨hT,codeAny_call_builtin PySem.F.called_set.init.plain PySem.F.entry_set_init (check_set_init_1 hT ?_)⟩
 obtain ⟨ol,hol,hcl,nl,hdl⟩:=hl
 obtain ⟨ocls,odict,odata,oslots⟩:=ol
 simp only at hcl hdl
 subst hcl; subst hdl
 have hol':(s.heap.push (Ax w)).get? l = some { cls:=.type "list",dict:=odict,data:=.seq items nl,slots:=oslots }:=Heap.get?_push_of_some _ hol
 have hsls:=PySem.F.sub_list_set
 have hslf:=PySem.F.sub_list_frozenset
 have hne:(Value.type "list" == Value.type "dict") = false:=by decide
 have hl1:(s.heap.push (Ax w)).IsList l items:=⟨_,hol',rfl,nl,rfl⟩
 unfold Builtin.«set.__init__» noKeywords Builtin.Frozenset.updateFrom
 generalize hPI:pyIter = PI
 wp_walk
 subst hPI
 refine wpAny_pyIter_list hl1 ?_
 refine wpAny_bind (wpAny_runValue ?_)
 have hlS:l < s.heap.objs.size:=Heap.lt_size hol
 have hneI:l≠(s.heap.push (Ax w)).objs.size:=by
  rw [Heap.size_push]; exact Nat.ne_of_lt (Nat.lt_succ_of_lt hlS)
 have kp:∀ b o,s.heap.get? b = some o→((s.heap.push (Ax w)).push { cls:=.type "list_iterator",data:=.fields #[.ref l,.int 0 0] }).get? b = some o:=fun b o e => Heap.get?_push_of_some _ (Heap.get?_push_of_some _ e)
 refine SE (a:=s.heap.objs.size) (l:=l) (ps:=ps) (by simpa using hh) hneI (by rw [Heap.size_push]; exact Nat.ne_of_lt (Nat.lt_succ_self _)) (Nat.ne_of_gt hlS) hps hz (by
   show A.in1.in1.units + 1 < cLine
   exact Nat.lt_of_le_of_lt (show A.units + 1 + 1 + 1≤A.units + 8 by omega) hu) (ps.length - 0) 0 _ [] rfl (Nat.zero_le _)
  ⟨_,Heap.get?_push_size _ rfl,rfl,rfl⟩ (hl1.push _) (fun k x hx => ⟨Cb (hp k x hx) fun u e => kp x u e,?_⟩) ⟨Ax w,#[],0,_,Heap.get?_push_of_some _ hS,⟨rfl,rfl,rfl⟩,rfl,rfl,fun i k x e => by simp at e,List.nodup_nil,Tb.fresh _ _ _,rfl,(by show 0 * 5 < 7 * 3; decide),rfl⟩ ⟨fun p hp => by simp at hp,fun k y hy => by simp at hy,by simp⟩ ?_
 ·obtain ⟨o',_,_,ho',_⟩:=hp k x hx
  have:=Heap.lt_size ho'
  rw [Heap.size_push]
  exact Nat.ne_of_lt (Nat.lt_succ_of_lt this)
 ·intro h' tk' xs' kk sx so
  refine wpAny_pure ?_
  show wpAny _ _ (ret Value.none) _ _ _
  refine wpAny_pure ⟨rfl,h h' tk' xs' sx so fun b o hb e => kk b o (Nat.ne_of_lt hb) ?_ (kp b o e)⟩
  rw [Heap.size_push]; exact Nat.ne_of_lt (Nat.lt_succ_of_lt hb)
end
open PySem.Calls PySem.W
section
variable {prog:Program} {w:World} {A:Around} {E:Value→Shared→Prop} {s:Shared}
theorem PZ {a:Addr} {vs:List Value} {n:Nat} {P:PySem.Fin→Shared→Prop} (ho:s.heap.get? a = some (seqObj "list" vs.toArray n)) (h2:vs.length < 2)
  (h:∀ c h',h'.get? a = some (seqObj "list" vs.toArray c)→(∀ b o,b≠a→s.heap.get? b = some o→h'.get? b = some o)→P (.done (.ret .none)) { s with heap:=h' }) :
  wpAny (model prog w) A (Builtin.«list.sort» ⟨[.ref a],[]⟩) P E s:=by
 obtain ⟨e1,ho1⟩:∃ e1,(s.heap.update a (Obj.mapSeq fun _ => (#[]:Array Value))).get? a = some (seqObj "list" #[] e1):=⟨_,get?_update_seq ho fun _ => #[]⟩
 have keep:∀ b o,b≠a→s.heap.get? b = some o→(((s.heap.update a (Obj.mapSeq fun _ => (#[]:Array Value))).push (seqObj "tuple" vs.toArray 0)).push (seqObj "list" #[] 0)).get? b = some o:=fun b o hb e =>
  Heap.get?_push_of_some _ (Heap.get?_push_of_some _ (by rw [Heap.get?_update_ne _ _ _ _ hb]; exact e))
 have ho3:(((s.heap.update a (Obj.mapSeq fun _ => (#[]:Array Value))).push (seqObj "tuple" vs.toArray 0)).push (seqObj "list" #[] 0)).get? a = some (seqObj "list" #[] e1):=Heap.get?_push_of_some _ (Heap.get?_push_of_some _ ho1)
 rw [list_sort_plain]
 refine wpAny_bind (listItems_at ho rfl ?_)
 refine wpAny_bind (listUpdate_at ho rfl ?_ (by rw [List.size_toArray,sizeLine_eq]; omega) (Nat.zero_le _))
 refine wpAny_bind (seqEpoch_at ho1 rfl ?_)
 refine wpAny_bind (wpAny_newTuple ?_ (by show vs.length≤_; rw [sizeLine_eq]; omega))
 refine wpAny_bind (wpAny_newList ?_ (Nat.zero_le _))
 refine wpAny_holding ?_
 show wpAny (model prog w) A _ P E { s with heap:=((s.heap.update a (Obj.mapSeq fun _ => (#[]:Array Value))).push (seqObj "tuple" vs.toArray 0)).push (seqObj "list" #[] 0) }
 generalize hG:((s.heap.update a (Obj.mapSeq fun _ => (#[]:Array Value))).push (seqObj "tuple" vs.toArray 0)).push (seqObj "list" #[] 0) = G at keep ho3 ⊢
 dsimp only
 have hn2:vs.toArray.size < 2:=by rw [List.size_toArray]; omega
 rw [if_pos hn2,if_pos hn2]
 refine wpAny_bind (wpAny_pure ?_)
 refine wpAny_bind (wpAny_pure ?_)
 dsimp only
 have har:((vs.toArray.zip vs.toArray).map (·.2)) = vs.toArray:=by
  apply Array.ext'
  rw [Array.toList_map,Array.toList_zip]
  show (vs.zip vs).map (·.2) = vs
  rw [SrtG.Fy,List.map_map]
  exact List.map_id vs
 have har':(arrOf (SortSt.mk' general' (vs.toArray.zip vs.toArray) #[] 7 none)).map (·.2) = vs.toArray:=har
 rw [har']
 obtain ⟨c2,hc2⟩:∃ c2,(G.update a (Obj.mapSeq fun _ => vs.toArray)).get? a = some (seqObj "list" vs.toArray c2):=⟨_,get?_update_seq ho3 fun _ => vs.toArray⟩
 refine wpAny_bind (seqEpoch_at ho3 rfl ?_)
 refine wpAny_bind (listUpdate_at ho3 rfl ?_ (Nat.zero_le _) (by rw [List.size_toArray,sizeLine_eq]; omega))
 show wpAny _ _ (if (e1 != e1) = true then _ else _) _ _ _
 rw [if_neg (by simp)]
 exact wpAny_pure (h c2 _ hc2 fun b o hb e => by rw [Heap.get?_update_ne _ _ _ _ hb]; exact keep b o hb e)
theorem Cd {α β : Type} {f : α → β} {l1 l2 : List β} (h : l1.Perm l2) : ∀ {xs : List α}, l2 = xs.map f → ∃ ys : List α, ys.Perm xs ∧ ys.map f = l1 := by
  induction h with
  | nil => intro xs e; cases xs with
    | nil => exact ⟨[], .refl _, rfl⟩
    | cons x xs => cases e
  | cons x _ ih => intro xs e; cases xs with
    | nil => cases e
    | cons y xs =>
      rw [List.map_cons] at e
      injection e with e1 e2
      obtain ⟨ys, h1, h2⟩ := ih e2
      exact ⟨y :: ys, h1.cons y, by rw [List.map_cons, h2, e1]⟩
  | swap x y l => intro xs e; match xs, e with
    | a :: b :: xs, e =>
      simp only [List.map_cons] at e
      injection e with e1 e2
      injection e2 with e2 e3
      exact ⟨b :: a :: xs, .swap _ _ _, by simp only [List.map_cons]; rw [← e1, ← e2, ← e3]⟩
  | trans _ _ ih1 ih2 => intro xs e
                         obtain ⟨ys, h1, h2⟩ := ih2 e
                         obtain ⟨zs, h3, h4⟩ := ih1 h2.symm
                         exact ⟨zs, h3.trans h1, h4⟩
theorem LV {a:Addr} {xs:List (List Int × Addr)} {Q:Value→Shared→Prop} (hh:A.handled = none) (S:SetX prog w s.heap a xs) (hz:xs.length≤300)
  (hp:∀ k x,(k,x)∈xs→∃ p q,k = [p,q]∧0≤q∧q < 65536)
  (h:∀ (h':Heap) (tk:Nat) (ys:List (List Int × Addr)) (D:Addr) (c:Nat),s.heap.get? D = none→h'.get? D = some (seqObj "list" (ys.map fun p => Value.ref p.2).toArray c)→(∀ b o,s.heap.get? b = some o→h'.get? b = some o) →
   ys.Perm xs→ys.Pairwise (fun x y => 65536 * x.1.getD 0 0 + x.1.getD 1 0≤65536 * y.1.getD 0 0 + y.1.getD 1 0)→Q (.ref D) { s with heap:=h',toks:=tk }) :
  wpAny (model prog w) A (call (.builtin "sorted") [.ref a]) Q E s:=by
 obtain ⟨o,es,ep,t,S⟩:=S
 refine call_function_entry kind_sorted plain_sorted entry_sorted (args_sorted1 _) ?_
 unfold Builtin.«sorted»
 refine wpAny_bind (m:=checkCount "sorted" 1 1 _) (wpAny_pure ?_)
 refine wpAny_bind (kdu_collect (A:=A.in1) (Mj S.wk) hh S.get (by rw [S.size,sizeLine_eq]; omega) fun h1 tk1 acc hk1 hacc => ?_)
 have hsz:acc.toList.length = xs.length:=by rw [Array.length_toList,hacc.1,S.size]
 have hacc2:acc.toList = (Cy w a ep es).toList.map (·.2):=by
  apply List.ext_getElem?
  intro i
  rw [List.getElem?_map]
  by_cases hi:i < acc.size
  ·have e1:acc[i]? = some acc[i]:=by simp [hi]
   obtain ⟨hh',e2⟩:=hacc.2 i _ e1
   have e2':(Cy w a ep es).toList[i]? = some (hh',acc[i]):=by simpa using e2
   rw [e2']
   simpa using e1
  ·have h1':acc.toList[i]? = none:=by simp; omega
   have h2':(Cy w a ep es).toList[i]? = none:=by
    apply List.getElem?_eq_none
    rw [Array.length_toList,DS,← hacc.1]; omega
   rw [h1',h2']; rfl
 have hperm:acc.toList.Perm (xs.map fun p => Value.ref p.2):=by
  rw [hacc2]
  refine ((Ej w a ep es).map (·.2)).trans ?_
  rw [S.es,Np,List.map_map]
  exact List.Perm.refl _
 have hIK:∀ k x,(k,x)∈xs→IK prog w h1 k x:=fun k x hx => by
  obtain ⟨i,hi⟩:=List.getElem?_of_mem hx
  exact Cb (S.key i k x hi) fun u e => hk1 x u e
 have tupAt:∀ k x,(k,x)∈xs→∃ p q,k = [p,q]∧SrtG.TupAt h1 (.ref x) p q∧0≤q∧q < 65536:=fun k x hx => by
  obtain ⟨p,q,rfl,h0,h1'⟩:=hp k x hx
  obtain ⟨o',items,n,ho',hc',hd',hi'⟩:=hIK _ x hx
  refine ⟨p,q,rfl,?_,h0,h1'⟩
  generalize hL:items.toList = L at hi'
  cases hi' with
  | cons i1 i2 =>
   cases i2 with
   | cons i3 i4 =>
    cases i4
    obtain ⟨t1,rfl⟩:=DQ i1
    obtain ⟨t2,rfl⟩:=DQ i3
    have:items = #[.int p t1,.int q t2]:=by
     apply Array.ext'
     rw [hL]
    exact ⟨x,o',t1,t2,n,rfl,ho',hc',by rw [hd',this]⟩
 refine wpAny_bind (wpAny_newList ?_ (by rw [hsz,sizeLine_eq]; omega))
 have hoL:(h1.push (seqObj "list" acc.toList.toArray 0)).get? h1.objs.size = some (seqObj "list" acc.toList.toArray 0):=Heap.get?_push_size _ rfl
 have hDn:s.heap.get? h1.objs.size = none:=by
  cases e:s.heap.get? h1.objs.size with
  | none => rfl
  | some o' => exact absurd (Heap.lt_size (hk1 _ _ e)) (Nat.lt_irrefl _)
 have hkp:∀ b o,h1.get? b = some o→(h1.push (seqObj "list" acc.toList.toArray 0)).get? b = some o:=fun b o e => Heap.get?_push_of_some _ e
 obtain ⟨ws,hw1,hw2⟩:=Cd hperm rfl
 have fin:∀ (out:List Value) (c:Nat) (h2:Heap),out.Perm acc.toList→out.Pairwise (fun x y => SrtG.Mn (h1.push (seqObj "list" acc.toList.toArray 0)) (x,x)≤SrtG.Mn (h1.push (seqObj "list" acc.toList.toArray 0)) (y,y)) →
   h2.get? h1.objs.size = some (seqObj "list" (List.toArray out) c)→(∀ b o,b≠h1.objs.size→(h1.push (seqObj "list" acc.toList.toArray 0)).get? b = some o→h2.get? b = some o)→Q (.ref h1.objs.size) { s with heap:=h2,toks:=tk1 }:=fun out c h2 pm pw hg hk => by
  obtain ⟨ys,y1,y2⟩:=Cd (pm.trans hperm) rfl
  subst y2
  refine h h2 tk1 ys _ c hDn hg (fun b o e => ?_) y1 ?_
  ·have hlt:=Heap.lt_size (hk1 b o e)
   exact hk b o (Nat.ne_of_lt hlt) (hkp b o (hk1 b o e))
  ·rw [List.pairwise_map] at pw
   refine List.Pairwise.imp_of_mem (fun {x y} hx hy q => ?_) pw
   obtain ⟨k1,x1⟩:=x
   obtain ⟨k2,x2⟩:=y
   obtain ⟨p,q',rfl,t1,_⟩:=tupAt k1 x1 (y1.mem_iff.mp hx)
   obtain ⟨p2,q2,rfl,t2,_⟩:=tupAt k2 x2 (y1.mem_iff.mp hy)
   have keepT:∀ {v:Value} {i j:Int},SrtG.TupAt h1 v i j→SrtG.TupAt (h1.push (seqObj "list" acc.toList.toArray 0)) v i j:=fun t => by
    obtain ⟨x,o,t,u,n,e1,e2,e3,e4⟩:=t
    exact ⟨x,o,t,u,n,e1,hkp _ _ e2,e3,e4⟩
   rw [SrtG.El (k:=(Value.ref x1,Value.ref x1)) (keepT t1).pair,SrtG.El (k:=(Value.ref x2,Value.ref x2)) (keepT t2).pair] at q
   exact q
 refine wpAny_bind (wpAny_holding (wpAny_call_entry slot_list_sort ⟨_,hoL,rfl⟩ entry_list_sort ?body (args_list_sort _)))
 case body =>
  by_cases hlen:acc.toList.length < 2
  ·refine PZ (s:={ s with heap:=h1.push (seqObj "list" acc.toList.toArray 0),toks:=tk1 }) hoL hlen fun c h2 hg hk => ⟨_,rfl,wpAny_pure ⟨_,rfl,fin acc.toList c h2 (.refl _) ?_ hg hk⟩⟩
   generalize acc.toList = l at hlen
   match l,hlen with
   | [],_ => exact .nil
   | [x],_ => exact List.pairwise_singleton _ _
  ·refine SrtG.LU (s:={ s with heap:=h1.push (seqObj "list" acc.toList.toArray 0),toks:=tk1 }) hoL (fun v hv => ?_) (by omega) (by omega) fun out c h2 pm pw hg hk => ⟨_,rfl,wpAny_pure ⟨_,rfl,fin out c h2 pm pw hg hk⟩⟩
   obtain ⟨⟨k,x⟩,hx,rfl⟩:=List.mem_map.mp (hperm.mem_iff.mp hv)
   obtain ⟨p,q,rfl,⟨x',o',t1,t2,n,e1,e2,e3,e4⟩,h0,h1'⟩:=tupAt k x hx
   exact ⟨p,q,⟨x',o',t1,t2,n,e1,hkp _ _ e2,e3,e4⟩,h0,h1'⟩
end
end StT
namespace L2
open PySem PySem.Spec PyProof.Rows
section
variable {X:Cx} {pins:List (Addr × Obj)} {σ:St} {H:Hp} {s:Shared} {h':Heap}
theorem Inv.laidF {a:Addr} {o:HO} {t':Nat} (I:Inv X pins σ H s) (k:∀ b u,s.heap.get? b = some u→h'.get? b = some u) (hp:s.heap.get? a = none) (new:ObjOk X.prog X.w (BG H a o) h' a o) :
  Inv X pins σ (BG H a o) { s with heap:=h',toks:=t' }:=by
 have hn:H a = none:=by
  cases q:H a with
  | none => rfl
  | some u =>
   obtain ⟨ob,e⟩:=(I.hok a u q).obj
   rw [hp] at e; cases e
 have ne:∀ b u,s.heap.get? b = some u→b≠a:=fun b u e z => by rw [z,hp] at e; cases e
 refine I.un ⟨fun b u q _ _ _ => k b u q,fun b u q _ _ _ => ⟨u.slots,k b u q⟩,fun b u q n _ => by rw [AK (ne b u q)]; exact n,fun b u q _ => ⟨u,k b u q⟩,fun b xs q => by rw [AK (AQ q hn)]; exact q,fun b u xs q => by rw [AK (AQ q hn)]; exact q,fun b ps q => ⟨#[],by rw [AK (AQ q hn),q]; simp⟩⟩ ?_
 intro b u e
 by_cases hb:b = a
 ·subst hb; rw [AJ] at e; cases e; exact new
 ·rw [AK hb] at e
  exact (I.hok b u e).stay (fun c v _ q => k c v q) (fun c q => by rw [AK (AQ q hn)]; exact q) fun c xs q => by rw [AK (AQ q hn)]; exact q
def XV (P:Program) (w:World) (a:Addr) (xs:List (List Int × Addr)) (h:Heap):Prop:=∃ o es ep t,h.get? a = some o∧o.ExactSet∧o.data = .set es ep t∧es.toList = StT.Np xs P w∧(xs.map (·.1)).Nodup∧StT.Tb t (xs.map fun p => (StT.tk P w).hash p.1)∧t.plain = true∧xs.length * 5 < t.mask * 3∧t.led = !w.params.followText "set-order"
def SetO (P:Program) (w:World) (a:Addr) (xs:List (List Int × Addr)):HO:=.ext (XV P w a xs)
theorem SH {P:Program} {w:World} {H:Hp} {h:Heap} {a:Addr} {xs:List (List Int × Addr)} (S:StT.SetX P w h a xs):ObjOk P w H h a (SetO P w a xs):=by
 obtain ⟨o,es,ep,t,S⟩:=S
 refine ⟨⟨o,es,ep,t,S.get,S.ex,S.dat,S.es,S.nd,S.tb,S.pl,S.room,S.led⟩,⟨o,S.get⟩,fun h1 h2 ⟨o,es,ep,t,g,r⟩ hk => ⟨o,es,ep,t,hk _ g,r⟩⟩
def Pa (K:PySem.W.Frag) (H:Hp) (xs:List (List Int × Addr)):Prop:=∀ k x,(k,x)∈xs→JT K H x (k.map V.int)
theorem HV {prog:Program} {w:World}:∀ {k:List Int} {us:List Value},Vals (k.map V.int) us→ItemsAre (intKind prog w) k us
 | [],us,r => by rw [List.map_nil] at r; cases r; exact .nil
 | n :: k,us,r => by
  rw [List.map_cons] at r
  cases r with
  | cons r1 r2 =>
   obtain ⟨t,rfl⟩:=r1
   exact .cons (intKind_is _ _ _ _) (HV r2)
theorem Inv.ik {x:Addr} {k:List Int} (I:Inv X pins σ H s) (h:JT X.K H x (k.map V.int)):StT.IK X.prog X.w s.heap k x:=by
 obtain ⟨its,r,⟨o,ho,hc,n,hd⟩,hz⟩:=I.tuple h
 exact ⟨o,its.toArray,n,ho,hc,hd,by simpa using HV r⟩
def ZN (X:Cx):List V→Hp→VK→Prop:=fun vs H Q => ∃ a ps,vs = [.ref a]∧SqL X.K H a (ps.map fun p => V.ref p.2)∧Pa X.K H ps∧ps.length≤300 ∧
 ∀ p xs,H p = none→StT.IO ps xs→(xs.map (·.1)).Nodup→Q (.ref p) (BG H p (SetO X.prog X.w p xs))
theorem HW:∀ {ps:List (List Int × Addr)} {us:List Value},Vals (ps.map fun p => V.ref p.2) us→us = ps.map fun p => Value.ref p.2
 | [],us,r => by rw [List.map_nil] at r; cases r; rfl
 | p :: ps,us,r => by
  rw [List.map_cons] at r
  cases r with
  | cons r1 r2 =>
   rw [HW r2]
   have r1:_ = Value.ref p.2:=r1
   rw [r1]
   rfl
theorem OA (hc:X.calm = true) (hu:X.A.units + 8 < cLine):BQ X (.type "set") (ZN X):=by
 intro pins s σ H vs us Q I r h
 obtain ⟨a,ps,rfl,hl,hk,hz,q⟩:=h
 obtain ⟨u,rfl,ru⟩:=Vals.one r
 cases ru
 obtain ⟨its,rv,p,_⟩:=I.list hl
 refine StT.GA (ps:=ps) (I.ok.hd hc) p.isList (by simpa using HW rv) (fun k x hx => I.ik (hk k x hx)) hz hu fun h' tk xs sx so kp => ?_
 have hf:H s.heap.objs.size = none:=I.hok.fresh (Nat.le_refl _)
 have nd:(xs.map (·.1)).Nodup:=by obtain ⟨_,_,_,_,S⟩:=sx; exact S.nd
 exact ⟨.ref s.heap.objs.size,BG H s.heap.objs.size (SetO X.prog X.w s.heap.objs.size xs),I.laid (t':=tk) (fun b u e => kp b u (Heap.lt_size e) e) (Nat.le_refl _) (SH sx),rfl,q _ _ hf so nd⟩
def VJ (X:Cx):List V→Hp→VK→Prop:=fun vs H Q => ∃ p xs,vs = [.ref p]∧H p = some (SetO X.prog X.w p xs)∧Pa X.K H xs∧xs.length≤300∧(∀ k x,(k,x)∈xs→∃ i j,k = [i,j]∧0≤j∧j < 65536) ∧
 ∀ (q:Addr) (ys:List (List Int × Addr)),H q = none→ys.Perm xs→ys.Pairwise (fun x y => 65536 * x.1.getD 0 0 + x.1.getD 1 0≤65536 * y.1.getD 0 0 + y.1.getD 1 0)→Q (.ref q) (BG H q (.lst (ys.map fun p => V.ref p.2)))
theorem HX:∀ (ps:List (List Int × Addr)),Vals (ps.map fun p => V.ref p.2) (ps.map fun p => Value.ref p.2)
 | [] => .nil
 | p :: ps => .cons rfl (HX ps)
theorem IR (hc:X.calm = true):BQ X (.builtin "sorted") (VJ X):=by
 intro pins s σ H vs us Q I r h
 obtain ⟨p,xs,rfl,hp,hk,hz,h2,q⟩:=h
 obtain ⟨u,rfl,ru⟩:=Vals.one r
 cases ru
 obtain ⟨⟨o,es,ep,t,g1,g2,g3,g4,g5,g6,g7,g8,g9⟩,_,_⟩:=I.hok p _ hp
 refine StT.LV (xs:=xs) (I.ok.hd hc) ⟨o,es,ep,t,g1,g2,g3,g4,fun i k x e => I.ik (hk k x (List.mem_of_getElem? e)),g5,g6,g7,g8,g9⟩ hz h2 fun h' tk ys D c hD hg kp pm pw => ?_
 have hf:H D = none:=I.hok.none_of hD
 refine ⟨.ref D,BG H D (.lst (ys.map fun p => V.ref p.2)),I.laidF (t':=tk) kp hD ⟨?_,_,c,HX ys,hg⟩,rfl,q D ys hf pm pw⟩
 rw [List.length_map,pm.length_eq,sizeLine_eq]
 omega
end
end L2
namespace ZpT
open PySem PySem.Spec PyProof.Rows
structure Nx (prog:Program) (w:World) (I ax:Addr) (items:Array Value) (St:Nat→Heap→Prop):Prop where
 item:∀ (A:Around) (i:Nat) (s:Shared) (x:Value) (Q:Value→Shared→Prop) (E:Value→Shared→Prop),St i s.heap→items[i]? = some x→(∀ h',St (i + 1) h'→Heap.SameBut I s.heap h'→Q x { s with heap:=h' })→wpAny (model prog w) A (Builtin.SmallTypes.nextOf (.ref I)) Q E s
 fin:∀ (A:Around) (i:Nat) (s:Shared) (Q:Value→Shared→Prop) (E:Value→Shared→Prop),A.handled = none→St i s.heap→items[i]? = none→(∀ h' e,Heap.ExtBut I s.heap h'→(∃ o,h'.get? e = some o∧o.cls = .type "StopIteration")→E (.ref e) { s with heap:=h' })→wpAny (model prog w) A (Builtin.SmallTypes.nextOf (.ref I)) Q E s
 keep:∀ (i:Nat) (h h':Heap),St i h→(∀ o,h.get? I = some o→h'.get? I = some o)→(∀ o,h.get? ax = some o→h'.get? ax = some o)→St i h'
 there:∀ (i:Nat) (h:Heap),St i h→I < h.objs.size
section
variable {prog:Program} {w:World}
end
section
variable {prog:Program} {w:World} {A:Around} {E:Value→Shared→Prop} {s:Shared}
variable {z TI TO i1 i2 l1 l2:Addr} {xs ys:Array Value} {S1 S2:Nat→Heap→Prop}
end
end ZpT
namespace L2
open PySem PySem.Spec PyProof.Rows
section
variable {X:Cx}
theorem Inv.turns {pins:List (Addr × Obj)} {σ:St} {H:Hp} {s:Shared} {h':Heap} {t':Nat} {ch:List Addr} (I:Inv X pins σ H s) (hf:∀ b∈ch,Fb X pins H b) (k:∀ b o,b ∉ ch→s.heap.get? b = some o→h'.get? b = some o):Inv X pins σ H { s with heap:=h',toks:=t' }:=by
 refine I.call' (s':={ s with heap:=h',toks:=t' }) (ch:=ch) rfl ⟨fun b o e _ _ hb => k b o hb e,fun b o e _ _ hb => ⟨o.slots,k b o hb e⟩,fun _ _ _ n _ => n,fun b o e hb => ⟨o,k b o hb e⟩,fun _ _ e => e,fun _ _ _ e => e,fun b ps e => ⟨#[],by rw [e]; simp⟩⟩ (I.hok.by_keep fun b o hb e => k b o (fun z => hb (hf b z).1) e) I.bare fun b hb => ?_
 obtain ⟨_,q2,q3,q4,q5,q6⟩:=hf b hb
 exact ⟨q4,q2,q5,q6⟩
end
open PySem.Calls
section
variable {X:Cx}
def XW (K:PySem.W.Frag) (H:Hp) (a:Addr) (xs:List V):Prop:=SqL K H a xs∨JT K H a xs
theorem Inv.walk {pins:List (Addr × Obj)} {σ:St} {H:Hp} {s:Shared} {a:Addr} {xs:List V} (I:Inv X pins σ H s) (hq:XW X.K H a xs):∃ its:List Value,Vals xs its∧a < s.heap.objs.size∧∀ (A:Around) (E:Value→Shared→Prop) (Q:Value→Shared→Prop),A.handled = none →
  (∀ (o:Obj) (St:Nat→Heap→Prop),Walks X.prog X.w A s.heap.objs.size [s.heap.objs.size,a] [s.heap.objs.size] its.length (fun i v => its[i]? = some v) St→St 0 (s.heap.push o)→Q (.ref s.heap.objs.size) { s with heap:=s.heap.push o })→wpAny (model X.prog X.w) A (pyIter (.ref a)) Q E s:=by
 rcases hq with hq | hq
 ·obtain ⟨its,rv,p,_⟩:=I.list hq
  have lt:a < s.heap.objs.size:=by obtain ⟨_,_,e,_⟩:=p; exact Heap.lt_size e
  refine ⟨its,rv,lt,fun A E Q hh h => wpAny_pyIter_list p.isList ?_⟩
  have W:=Walks.list (prog:=X.prog) (w:=X.w) (A:=A) hh s.heap.objs.size a (Nat.ne_of_lt lt) its.toArray
  have W':Walks X.prog X.w A s.heap.objs.size [s.heap.objs.size,a] [s.heap.objs.size] its.length (fun i v => its[i]? = some v) (fun i h => h.IsListIter s.heap.objs.size a i∧h.IsList a its.toArray):=by simpa using W
  exact h _ _ W' ⟨⟨_,Heap.get?_push_size _ rfl,rfl,rfl⟩,p.isList.push _⟩
 ·obtain ⟨its,rv,p,_⟩:=I.tuple hq
  have lt:a < s.heap.objs.size:=by obtain ⟨_,e,_⟩:=p; exact Heap.lt_size e
  refine ⟨its,rv,lt,fun A E Q hh h => wpAny_pyIter_tuple (items:=its.toArray) p ?_⟩
  have W:=Walks.tuple (prog:=X.prog) (w:=X.w) (A:=A) hh s.heap.objs.size a (Nat.ne_of_lt lt) its.toArray
  have W':Walks X.prog X.w A s.heap.objs.size [s.heap.objs.size,a] [s.heap.objs.size] its.length (fun i v => its[i]? = some v) (fun i h => h.IsTupleIter s.heap.objs.size a i∧h.IsTuple a its.toArray):=by simpa using W
  have p':s.heap.IsTuple a its.toArray:=p
  exact h _ _ W' ⟨⟨_,Heap.get?_push_size _ rfl,rfl,rfl⟩,p'.at fun o e => Heap.get?_push_of_some _ e⟩
theorem IS {s:Shared} {o:Obj} {h':Heap} (hk:∀ b x,b ∉ [s.heap.objs.size]→(s.heap.push o).get? b = some x→h'.get? b = some x):∀ b x,s.heap.get? b = some x→h'.get? b = some x:=fun b x e =>
 hk b x (by simpa using Nat.ne_of_lt (Heap.lt_size e)) (Heap.get?_push_of_some _ e)
theorem CK {ns:List Int} {us:List Value} (r:Vals (ns.map V.int) us) (i:Nat) (v:Value) (h:us[i]? = some v):∃ t,v = .int (ns.getD i 0) t:=by
 have hl:=r.length
 have hi:i < ns.length:=by
  have:=(List.getElem?_eq_some_iff.mp h).1
  rw [List.length_map] at hl; omega
 obtain ⟨u,e,t,rfl⟩:=r.get (i:=i) (x:=.int ns[i]) (by simp [hi])
 rw [h] at e; cases e
 exact ⟨t,by simp [List.getD,hi]⟩
def IT (ns:List Int) (m:Int):Prop:=m∈ns∧∀ n∈ns,m≤n
def EJ (ns:List Int) (m:Int):Prop:=m∈ns∧∀ n∈ns,n≤m
theorem GB {ns:List Int} {i:Nat} (h:i < ns.length):ns.getD i 0∈ns:=by simp [List.getD,h]
theorem OB (hc:X.calm = true):BQ X (.builtin "min") (fun vs H Q => ∃ (a:Addr) (ns:List Int),vs = [.ref a]∧XW X.K H a (ns.map V.int)∧0 < ns.length∧∀ m,IT ns m→Q (.int m) H):=by
 intro pins s σ H vs us Q I r h
 obtain ⟨a,ns,rfl,hq,h0,q⟩:=h
 obtain ⟨u,rfl,ru⟩:=Eu r
 cases ru
 obtain ⟨its,rv,lt,wk⟩:=I.walk hq
 have hl:its.length = ns.length:=by have:=rv.length; rw [List.length_map] at this; exact this.symm
 refine call_min_walk (wk X.A.in1 _ _ (I.ok.hd hc) fun o St W st => ⟨_,_,_,_,_,_,_,rfl,W,st,fun b hb => ?_,by omega,CmpOf.ints_lt (fun i => ns.getD i 0) (fun i v hv => CK rv i v hv),fun v h' tk hP hk => ?_⟩)
 ·show b < (s.heap.push o).objs.size
  rw [Heap.size_push]
  simp only [List.mem_cons,List.not_mem_nil,or_false] at hb
  rcases hb with rfl | rfl
  ·exact Nat.lt_succ_self _
  ·exact Nat.lt_succ_of_lt lt
 ·obtain ⟨t,rfl⟩:=CK rv _ v hP
  obtain ⟨b1,b2⟩:=argBest_lt (fun i => ns.getD i 0) (its.length - 1)
  exact ⟨.int _,H,I.kept (t':=tk) (IS hk),⟨t,rfl⟩,q _ ⟨GB (by omega),fun n hn => by
   obtain ⟨j,hj,rfl⟩:=List.getElem_of_mem hn
   have:=b2 j (by omega)
   simpa [List.getD,hj] using this⟩⟩
theorem OC (hc:X.calm = true):BQ X (.builtin "max") (fun vs H Q => ∃ (a:Addr) (ns:List Int),vs = [.ref a]∧XW X.K H a (ns.map V.int)∧0 < ns.length∧∀ m,EJ ns m→Q (.int m) H):=by
 intro pins s σ H vs us Q I r h
 obtain ⟨a,ns,rfl,hq,h0,q⟩:=h
 obtain ⟨u,rfl,ru⟩:=Eu r
 cases ru
 obtain ⟨its,rv,lt,wk⟩:=I.walk hq
 have hl:its.length = ns.length:=by have:=rv.length; rw [List.length_map] at this; exact this.symm
 refine call_max_walk (wk X.A.in1 _ _ (I.ok.hd hc) fun o St W st => ⟨_,_,_,_,_,_,_,rfl,W,st,fun b hb => ?_,by omega,CmpOf.ints_gt (fun i => ns.getD i 0) (fun i v hv => CK rv i v hv),fun v h' tk hP hk => ?_⟩)
 ·show b < (s.heap.push o).objs.size
  rw [Heap.size_push]
  simp only [List.mem_cons,List.not_mem_nil,or_false] at hb
  rcases hb with rfl | rfl
  ·exact Nat.lt_succ_self _
  ·exact Nat.lt_succ_of_lt lt
 ·obtain ⟨t,rfl⟩:=CK rv _ v hP
  obtain ⟨b1,b2⟩:=argBest_gt (fun i => ns.getD i 0) (its.length - 1)
  exact ⟨.int _,H,I.kept (t':=tk) (IS hk),⟨t,rfl⟩,q _ ⟨GB (by omega),fun n hn => by
   obtain ⟨j,hj,rfl⟩:=List.getElem_of_mem hn
   have:=b2 j (by omega)
   simpa [List.getD,hj] using this⟩⟩
theorem Jv:BQ X (.type "tuple") (fun vs H Q => ∃ a xs,vs = [.ref a]∧SqL X.K H a xs∧∀ p,H p = none→Q (.ref p) (BG H p (.tup xs))):=by
 intro pins s σ H vs us Q I r h
 obtain ⟨a,xs,rfl,hq,q⟩:=h
 obtain ⟨u,rfl,ru⟩:=Eu r
 cases ru
 obtain ⟨its,rv,p,hz⟩:=I.list hq
 have hl:=rv.length
 refine call_tuple_list p.isList (fun h' hk => ?_) (by simpa [← hl] using hz)
 have hn:s.heap.get? h'.objs.size = none:=by
  cases e:s.heap.get? h'.objs.size with
  | none => rfl
  | some o => exact absurd (Heap.lt_size (hk _ _ e)) (Nat.lt_irrefl _)
 exact ⟨.ref h'.objs.size,BG H h'.objs.size (.tup xs),I.laidF (t':=s.toks) (fun b u e => Heap.get?_push_of_some _ (hk b u e)) hn ⟨hz,its,rv,⟨_,Heap.get?_push_size _ rfl,rfl,_,rfl⟩⟩,rfl,q _ (I.hok.none_of hn)⟩
theorem GC:BQ X (.type "list") (fun vs H Q => ∃ a xs,vs = [.ref a]∧XW X.K H a xs∧∀ p,H p = none→Q (.ref p) (BG H p (.lst xs))):=by
 intro pins s σ H vs us Q I r h
 obtain ⟨a,xs,rfl,hq,q⟩:=h
 obtain ⟨u,rfl,ru⟩:=Eu r
 cases ru
 have hf:H s.heap.objs.size = none:=I.hok.fresh (Nat.le_refl _)
 have fin:∀ (its:List Value) (h':Heap) (c:Nat),Vals xs its→xs.length≤sizeLine→(∀ b o',s.heap.get? b = some o'→h'.get? b = some o')→h'.get? s.heap.objs.size = some { cls:=.type "list",dict:=none,data:=.seq its.toArray c,slots:=#[] }→EP X pins σ Q (.ref s.heap.objs.size) { s with heap:=h' }:=fun its h' c rv hz hk hD =>
  ⟨.ref s.heap.objs.size,BG H s.heap.objs.size (.lst xs),I.laid (t':=s.toks) hk (Nat.le_refl _) ⟨hz,its,c,rv,hD⟩,rfl,q _ hf⟩
 rcases hq with hq | hq
 ·obtain ⟨its,rv,⟨o,n,ho,hc,hd,hdt⟩,hz⟩:=I.list hq
  have hl:=rv.length
  exact call_list_seq (hsz:=by simpa [← hl] using hz) a (.inl rfl) ho hc hdt fun h' c' hk hD => fin its h' c' rv hz hk hD
 ·obtain ⟨its,rv,⟨o,ho,hc,n,hdt⟩,hz⟩:=I.tuple hq
  have hl:=rv.length
  exact call_list_seq (hsz:=by simpa [← hl] using hz) a (.inr rfl) ho hc hdt fun h' c' hk hD => fin its h' c' rv hz hk hD
end
end L2
namespace HT
open PySem PySem.Spec PyProof.Rows
section
open PySem.SeqAt
open PySem.AutoSeq1 (wpAny_loadPart')
open PySem.MeetsSeq PySem.MeetsSeq2 PySem.MeetsSeq3
end
section
variable {prog:Program} {w:World} {A:Around} {E:Value→Shared→Prop} {s:Shared}
end
end HT
namespace L2
open PySem PySem.Spec PyProof.Rows
section
variable {X:Cx} {e:Expr} {te:TE} {pos p2 p3 p4:Pos}
end
end L2
namespace L2.TL
open PySem PySem.Spec PyProof.Rows
inductive T where
 | non | bl (b:Bool) | int (i:Int) | str (x:Str) | tup (ts:List T) | lst (ts:List T) | frz (ts:List T) | dct | raw (v:V)
abbrev AL:=Addr→Option (List T)
def Ae (O:AL) (a:Addr) (ts:List T):AL:=fun b => if b = a then some ts else O b
def DE (O:AL) (a:Addr):AL:=fun b => if b = a then none else O b
theorem AH {O:AL} {a:Addr} {ts:List T}:Ae O a ts a = some ts:=by unfold Ae; rw [if_pos rfl]
theorem AX {O:AL} {a b:Addr} {ts:List T} (h:b≠a):Ae O a ts b = O b:=by unfold Ae; rw [if_neg h]
theorem Ba {O:AL} {a:Addr} {ts us:List T}:Ae (Ae O a ts) a us = Ae O a us:=by
 funext b; unfold Ae; split <;> rfl
theorem Ce {O:AL} {a:Addr}:DE O a a = none:=by unfold DE; rw [if_pos rfl]
theorem EK {O:AL} {a b:Addr} (h:b≠a):DE O a b = O b:=by unfold DE; rw [if_neg h]
mutual
inductive Rep (K:PySem.W.Frag) (O:AL) (H:Hp):V→T→Prop
 | non:Rep K O H .non .non
 | bl (b:Bool):Rep K O H (.bl b) (.bl b)
 | int (i:Int):Rep K O H (.int i) (.int i)
 | str (x:Str):Rep K O H (.str x) (.str x)
 | tup {a:Addr} {xs:List V} {ts:List T}:H a = some (.tup xs)→Reps K O H xs ts→Rep K O H (.ref a) (.tup ts)
 | lst {a:Addr} {xs:List V} {ts:List T}:H a = some (.lst xs)→O a = none→Reps K O H xs ts→Rep K O H (.ref a) (.lst ts)
 | frz {a:Addr} {o:Obj} {xs:List V} {ts:List T}:H a = some (.frz o (.lst xs))→Reps K O H xs ts→Rep K O H (.ref a) (.frz ts)
 | dct {a:Addr}:H a = some (.dK [])→Rep K O H (.ref a) .dct
 | raw (v:V):Rep K O H v (.raw v)
inductive Reps (K:PySem.W.Frag) (O:AL) (H:Hp):List V→List T→Prop
 | nil:Reps K O H [] []
 | cons {v:V} {t:T} {vs:List V} {ts:List T}:Rep K O H v t→Reps K O H vs ts→Reps K O H (v :: vs) (t :: ts)
end
section
variable {K:PySem.W.Frag} {O O' O1:AL} {H H' H1:Hp}
mutual
theorem Rep.mono (hT:∀ a o,H a = some o→(∀ xs,o≠.lst xs)→H' a = some o) (hL:∀ a xs,H a = some (.lst xs)→O a = none→H' a = some (.lst xs)∧O' a = none):∀ {v:V} {t:T},Rep K O H v t→Rep K O' H' v t
 | _,_,.non => .non
 | _,_,.bl b => .bl b
 | _,_,.int i => .int i
 | _,_,.str x => .str x
 | _,_,.tup h r => .tup (hT _ _ h fun _ z => by cases z) (Reps.mono hT hL r)
 | _,_,.lst h o r => .lst (hL _ _ h o).1 (hL _ _ h o).2 (Reps.mono hT hL r)
 | _,_,.frz h r => .frz (hT _ _ h fun _ z => by cases z) (Reps.mono hT hL r)
 | _,_,.dct h => .dct (hT _ _ h fun _ z => by cases z)
 | _,_,.raw v => .raw v
theorem Reps.mono (hT:∀ a o,H a = some o→(∀ xs,o≠.lst xs)→H' a = some o) (hL:∀ a xs,H a = some (.lst xs)→O a = none→H' a = some (.lst xs)∧O' a = none):∀ {v:List V} {t:List T},Reps K O H v t→Reps K O' H' v t
 | _,_,.nil => .nil
 | _,_,.cons h r => .cons (Rep.mono hT hL h) (Reps.mono hT hL r)
end
theorem Reps.length:∀ {vs:List V} {ts:List T},Reps K O H vs ts→vs.length = ts.length
 | _,_,.nil => rfl
 | _,_,.cons _ r => congrArg (· + 1) r.length
theorem Reps.get:∀ {vs:List V} {ts:List T} {i:Nat} {t:T},Reps K O H vs ts→ts[i]? = some t→∃ v,vs[i]? = some v∧Rep K O H v t
 | _,_,_,_,.nil,e => by simp at e
 | _,_,0,_,.cons h _,e => by simp at e; subst e; exact ⟨_,rfl,h⟩
 | _,_,i + 1,t,.cons _ r,e => by
  obtain ⟨u,h1,h2⟩:=Reps.get (i:=i) (t:=t) r (by simpa using e)
  exact ⟨u,by simpa using h1,h2⟩
theorem Reps.append:∀ {vs ws:List V} {ts us:List T},Reps K O H vs ts→Reps K O H ws us→Reps K O H (vs ++ ws) (ts ++ us)
 | _,_,_,_,.nil,s => s
 | _,_,_,_,.cons h r,s => .cons h (r.append s)
theorem Reps.take:∀ {vs:List V} {ts:List T} (n:Nat),Reps K O H vs ts→Reps K O H (vs.take n) (ts.take n)
 | _,_,0,_ => .nil
 | _,_,_ + 1,.nil => .nil
 | _,_,n + 1,.cons h r => .cons h (r.take n)
theorem Reps.drop:∀ {vs:List V} {ts:List T} (n:Nat),Reps K O H vs ts→Reps K O H (vs.drop n) (ts.drop n)
 | _,_,0,r => r
 | _,_,_ + 1,.nil => .nil
 | _,_,n + 1,.cons h r => r.drop n
theorem Reps.set {x:V} {t:T} (h:Rep K O H x t):∀ {vs:List V} {ts:List T} (i:Nat),Reps K O H vs ts→Reps K O H (vs.set i x) (ts.set i t)
 | _,_,_,.nil => .nil
 | _,_,0,.cons _ r => .cons h r
 | _,_,i + 1,.cons q r => .cons q (Reps.set h i r)
theorem Reps.one {v:V} {t:T} (h:Rep K O H v t):Reps K O H [v] [t]:=.cons h .nil
def Kp (O:AL) (H:Hp) (O':AL) (H':Hp):Prop:=∀ b o,H b = some o→O b = none→H' b = some o∧O' b = none
def OwnOk (K:PySem.W.Frag) (O:AL) (H:Hp):Prop:=∀ a ts,O a = some ts→∃ xs,H a = some (.lst xs)∧Reps K O H xs ts
theorem OwnOk.free (w:OwnOk K O H) {a:Addr} {o:HO} (h:H a = some o) (hn:∀ xs,o≠.lst xs):O a = none:=by
 cases e:O a with
 | none => rfl
 | some ts =>
  obtain ⟨xs,e',_⟩:=w a ts e
  rw [h] at e'
  exact absurd (Option.some.inj e') (hn xs)
theorem OwnOk.none_of (w:OwnOk K O H) {a:Addr} (h:H a = none):O a = none:=by
 cases e:O a with
 | none => rfl
 | some ts =>
  obtain ⟨xs,e',_⟩:=w a ts e
  rw [h] at e'; cases e'
theorem Kp.refl:Kp O H O H:=fun _ _ h n => ⟨h,n⟩
theorem Kp.trans (a:Kp O H O1 H1) (b:Kp O1 H1 O' H'):Kp O H O' H':=fun c o h n => b c o (a c o h n).1 (a c o h n).2
theorem Kp.oth (k:Kp O H O' H') (w:OwnOk K O H) {a:Addr} {o:HO} (h:H a = some o) (hn:∀ xs,o≠.lst xs):H' a = some o:=(k a _ h (w.free h hn)).1
theorem Kp.lst (k:Kp O H O' H') {a:Addr} {xs:List V} (h:H a = some (.lst xs)) (n:O a = none):H' a = some (.lst xs)∧O' a = none:=k a _ h n
theorem Rep.kp (k:Kp O H O' H') (w:OwnOk K O H) {v:V} {t:T} (r:Rep K O H v t):Rep K O' H' v t:=r.mono (fun _ _ h hn => k.oth w h hn) fun _ _ => k.lst
theorem Reps.kp (k:Kp O H O' H') (w:OwnOk K O H) {v:List V} {t:List T} (r:Reps K O H v t):Reps K O' H' v t:=r.mono (fun _ _ h hn => k.oth w h hn) fun _ _ => k.lst
structure Frm (K:PySem.W.Frag) (O:AL) (H:Hp) (O':AL) (H':Hp):Prop where
 kp:Kp O H O' H'
 own:∀ b ts,O b = some ts→∃ ts',O' b = some ts'
 ok:OwnOk K O' H'
theorem Frm.refl (w:OwnOk K O H):Frm K O H O H:=⟨.refl,fun _ ts e => ⟨ts,e⟩,w⟩
theorem Frm.trans (a:Frm K O H O1 H1) (b:Frm K O1 H1 O' H'):Frm K O H O' H':=⟨a.kp.trans b.kp,fun c ts e => by
 obtain ⟨t1,e1⟩:=a.own c ts e
 exact b.own c t1 e1,b.ok⟩
theorem BT {p:Addr} {o:HO} (w:OwnOk K O H) (hp:H p = none):Kp O H O (BG H p o):=fun b u h n => ⟨by rw [AK (AQ h hp)]; exact h,n⟩
theorem Frm.new {p:Addr} {o:HO} (w:OwnOk K O H) (hp:H p = none):Frm K O H O (BG H p o) where
 kp:=BT w hp
 own:=fun _ ts e => ⟨ts,e⟩
 ok:=fun a ts e => by
  obtain ⟨xs,h,r⟩:=w a ts e
  exact ⟨xs,by rw [AK (AQ h hp)]; exact h,r.kp (BT w hp) w⟩
theorem IU {p:Addr} {o:HO} {ts:List T} (w:OwnOk K O H) (hp:H p = none):Kp O H (Ae O p ts) (BG H p o):=fun b u h n => by
 have:=AQ h hp
 rw [AK this,AX this]
 exact ⟨h,n⟩
theorem Frm.newO {p:Addr} {xs:List V} {ts:List T} (w:OwnOk K O H) (hp:H p = none) (r:Reps K O H xs ts):Frm K O H (Ae O p ts) (BG H p (.lst xs)) where
 kp:=IU w hp
 own:=fun b us e => by
  by_cases hb:b = p
  ·exact ⟨ts,by rw [hb,AH]⟩
  ·exact ⟨us,by rw [AX hb]; exact e⟩
 ok:=fun a us e => by
  by_cases hb:a = p
  ·subst hb
   rw [AH] at e; cases e
   exact ⟨xs,AJ,r.kp (IU w hp) w⟩
  ·rw [AX hb] at e
   obtain ⟨ys,h,q⟩:=w a us e
   exact ⟨ys,by rw [AK hb]; exact h,q.kp (IU w hp) w⟩
theorem LW {a:Addr} {o:HO} {ts us:List T} (ha:O a = some ts):Kp O H (Ae O a us) (BG H a o):=fun b u h n => by
 have:b≠a:=fun z => by rw [z,ha] at n; cases n
 rw [AK this,AX this]
 exact ⟨h,n⟩
theorem Frm.put {a:Addr} {xs:List V} {ts us:List T} (w:OwnOk K O H) (ha:O a = some ts) (r:Reps K O H xs us):Frm K O H (Ae O a us) (BG H a (.lst xs)) where
 kp:=LW ha
 own:=fun b vs e => by
  by_cases hb:b = a
  ·exact ⟨us,by rw [hb,AH]⟩
  ·exact ⟨vs,by rw [AX hb]; exact e⟩
 ok:=fun b vs e => by
  by_cases hb:b = a
  ·subst hb
   rw [AH] at e; cases e
   exact ⟨xs,AJ,r.kp (LW ha) w⟩
  ·rw [AX hb] at e
   obtain ⟨ys,h,q⟩:=w b vs e
   exact ⟨ys,by rw [AK hb]; exact h,q.kp (LW ha) w⟩
theorem Cf {a:Addr}:Kp O H (DE O a) H:=fun b u h n => ⟨h,by
 by_cases hb:b = a
 ·rw [hb,Ce]
 ·rw [EK hb]; exact n⟩
theorem OwnOk.drop {a:Addr} (w:OwnOk K O H):OwnOk K (DE O a) H:=fun b ts e => by
 by_cases hb:b = a
 ·rw [hb,Ce] at e; cases e
 ·rw [EK hb] at e
  obtain ⟨xs,h,r⟩:=w b ts e
  exact ⟨xs,h,r.kp Cf w⟩
theorem OwnOk.rep {a:Addr} {ts:List T} (w:OwnOk K O H) (e:O a = some ts):Rep K (DE O a) H (.ref a) (.lst ts):=by
 obtain ⟨xs,h,r⟩:=w a ts e
 exact .lst h Ce (r.kp Cf w)
end
def Rl (K:PySem.W.Frag) (O:AL) (H:Hp) (σ:St) (ρ:List (Option T)):Prop:=σ.length = ρ.length∧∀ (i:Nat) (t:T),ρ[i]? = some (some t)→∃ v,σ[i]? = some (some v)∧Rep K O H v t
section
variable {K:PySem.W.Frag} {O O':AL} {H H':Hp} {σ:St} {ρ:List (Option T)}
theorem Rl.kp (k:Kp O H O' H') (w:OwnOk K O H) (r:Rl K O H σ ρ):Rl K O' H' σ ρ:=⟨r.1,fun i t e => by
 obtain ⟨v,h1,h2⟩:=r.2 i t e
 exact ⟨v,h1,h2.kp k w⟩⟩
theorem Rl.set {i:Nat} {v:V} {t:T} (r:Rl K O H σ ρ) (h:Rep K O H v t):Rl K O H (σ.set i (some v)) (ρ.set i (some t)):=⟨by simpa using r.1,fun j u e => by
 by_cases hj:j = i
 ·subst hj
  have hl:j < ρ.length:=by
   have:=(List.getElem?_eq_some_iff.mp e).1
   simpa using this
  rw [List.getElem?_set_self hl] at e
  cases e
  exact ⟨v,by rw [List.getElem?_set_self (by rw [r.1]; exact hl)],h⟩
 ·rw [List.getElem?_set_ne (Ne.symm hj)] at e ⊢
  exact r.2 j u e⟩
end
structure Zx where
 X:Cx
 Oe:AL
 He:Hp
 Xi:Value→AL→Prop
abbrev Zx.K (Z:Zx):PySem.W.Frag:=Z.X.K
def Zx.W (Z:Zx):St→XK:=fun _ cls d H' => d = none∧∃ O',Z.Xi cls O'∧Frm Z.K Z.Oe Z.He O' H'
structure Asr (Z:Zx) (ρ:List (Option T)) (O:AL) (σ:St) (H:Hp):Prop where
 rl:Rl Z.K O H σ ρ
 fr:Frm Z.K Z.Oe Z.He O H
section
variable {Z:Zx} {ρ:List (Option T)} {O O':AL} {σ:St} {H H':Hp}
theorem Asr.ok (a:Asr Z ρ O σ H):OwnOk Z.K O H:=a.fr.ok
theorem Asr.step (a:Asr Z ρ O σ H) (f:Frm Z.K O H O' H'):Asr Z ρ O' σ H':=⟨a.rl.kp f.kp a.ok,a.fr.trans f⟩
theorem Asr.refl (a:Asr Z ρ O σ H):Frm Z.K O H O H:=.refl a.ok
end
abbrev BX:=T→AL→Prop
abbrev LX:=List T→AL→Prop
abbrev IV:=Bool→AL→Prop
def Acc (K:PySem.W.Frag) (O:AL) (H:Hp) (Φ:BX) (Q:VK):Prop:=∀ v H' t O',Φ t O'→Frm K O H O' H'→Rep K O' H' v t→Q v H'
def ZO (K:PySem.W.Frag) (O:AL) (H:Hp) (Φ:LX) (Q:List V→Hp→Prop):Prop:=∀ vs H' ts O',Φ ts O'→Frm K O H O' H'→Reps K O' H' vs ts→Q vs H'
def AccT (K:PySem.W.Frag) (O:AL) (H:Hp) (Φ:IV) (Q:Bool→Hp→Prop):Prop:=∀ b H' O',Φ b O'→Frm K O H O' H'→Q b H'
def tW (Z:Zx) (ρ:List (Option T)) (O:AL) (Φ:BX):TE:=fun σ H Q => Asr Z ρ O σ H∧Acc Z.K O H Φ Q
def Zp (Z:Zx) (ρ:List (Option T)) (O:AL) (Φ:LX):TA:=fun σ H Q => Asr Z ρ O σ H∧ZO Z.K O H Φ Q
def Wd (Z:Zx) (ρ:List (Option T)) (O:AL) (Φ:IV):TT:=fun σ H Q => Asr Z ρ O σ H∧AccT Z.K O H Φ Q
def WE (Z:Zx) (ρ:List (Option T)) (O:AL) (e:Expr) (Φ:BX):Prop:=PE Z.X e (tW Z ρ O Φ)
def WA (Z:Zx) (ρ:List (Option T)) (O:AL) (es:List Expr) (Φ:LX):Prop:=PA Z.X es (Zp Z ρ O Φ)
def WT (Z:Zx) (ρ:List (Option T)) (O:AL) (e:Expr) (Φ:IV):Prop:=PT Z.X e (Wd Z ρ O Φ)
def WW (Z:Zx) (ρ:List (Option T)) (O:AL) (e:Expr) (Φ:IV):Prop:=PW Z.X e (Wd Z ρ O Φ)
def ET (Z:Zx) (ρ:List (Option T)) (O:AL) (e:Expr) (t:T):Prop:=∀ Φ:BX,Φ t O→WE Z ρ O e Φ
def EA (Z:Zx) (ρ:List (Option T)) (O:AL) (es:List Expr) (ts:List T):Prop:=∀ Φ:LX,Φ ts O→WA Z ρ O es Φ
def EB (Z:Zx) (ρ:List (Option T)) (O:AL) (e:Expr) (b:Bool):Prop:=∀ Φ:IV,Φ b O→WT Z ρ O e Φ
theorem PE.weak {X:Cx} {e:Expr} {t t':TE} (h:PE X e t) (w:∀ σ H Q,t' σ H Q→t σ H Q):PE X e t':=fun pins s σ H Q I q => h pins s σ H Q I (w σ H Q q)
theorem PA.weak {X:Cx} {e:List Expr} {t t':TA} (h:PA X e t) (w:∀ σ H Q,t' σ H Q→t σ H Q):PA X e t':=fun pos pins s σ H Q I q => h pos pins s σ H Q I (w σ H Q q)
theorem PT.weak {X:Cx} {e:Expr} {t t':TT} (h:PT X e t) (w:∀ σ H Q,t' σ H Q→t σ H Q):PT X e t':=fun pins s σ H Q I q => h pins s σ H Q I (w σ H Q q)
theorem PW.weak {X:Cx} {e:Expr} {t t':TT} (h:PW X e t) (w:∀ σ H Q,t' σ H Q→t σ H Q):PW X e t':=fun whole pins s σ H Q I q => h whole pins s σ H Q I (w σ H Q q)
theorem PS.weak {X:Cx} {e:Stmt} {t t':TS} (h:PS X e t) (w:∀ D σ H,t' D σ H→t D σ H):PS X e t':=fun pins s σ H D I q => h pins s σ H D I (w D σ H q)
theorem PSs.weak {X:Cx} {e:List Stmt} {t t':TS} (h:PSs X e t) (w:∀ D σ H,t' D σ H→t D σ H):PSs X e t':=fun pins s σ H D I q => h pins s σ H D I (w D σ H q)
def tX (Z:Zx) (ρ:List (Option T)) (e:Expr):TE:=fun σ H Q => ∃ O Φ,WE Z ρ O e Φ∧tW Z ρ O Φ σ H Q
theorem BN {Z:Zx} {ρ:List (Option T)} {e:Expr}:PE Z.X e (tX Z ρ e):=fun pins s σ H Q I ⟨_,_,w,q⟩ => w pins s σ H Q I q
def aH (Z:Zx) (ρ:List (Option T)) (e:List Expr):TA:=fun σ H Q => ∃ O Φ,WA Z ρ O e Φ∧Zp Z ρ O Φ σ H Q
theorem Jw {Z:Zx} {ρ:List (Option T)} {e:List Expr}:PA Z.X e (aH Z ρ e):=fun pos pins s σ H Q I ⟨_,_,w,q⟩ => w pos pins s σ H Q I q
def aI (Z:Zx) (ρ:List (Option T)) (e:Expr):TT:=fun σ H Q => ∃ O Φ,WW Z ρ O e Φ∧Wd Z ρ O Φ σ H Q
theorem XX {Z:Zx} {ρ:List (Option T)} {e:Expr}:PW Z.X e (aI Z ρ e):=fun whole pins s σ H Q I ⟨_,_,w,q⟩ => w whole pins s σ H Q I q
section
variable {Z:Zx} {ρ:List (Option T)} {O:AL} {e a b:Expr} {es:List Expr} {Φ Φ':BX} {pos:Pos} {t ta tb:T} {ts:List T}
theorem Acc.mono {K:PySem.W.Frag} {H:Hp} {Q:VK} (h:Acc K O H Φ' Q) (w:∀ t O',Φ t O'→Φ' t O'):Acc K O H Φ Q:=fun v H' t O' p => h v H' t O' (w t O' p)
theorem Acc.step {K:PySem.W.Frag} {H H1:Hp} {O1:AL} {Q:VK} (h:Acc K O H Φ Q) (f:Frm K O H O1 H1):Acc K O1 H1 Φ Q:=fun v H' t O' p f' r => h v H' t O' p (f.trans f') r
theorem AccT.step {K:PySem.W.Frag} {H H1:Hp} {O1:AL} {Φ:IV} {Q:Bool→Hp→Prop} (h:AccT K O H Φ Q) (f:Frm K O H O1 H1):AccT K O1 H1 Φ Q:=fun v H' O' p f' => h v H' O' p (f.trans f')
theorem DT (h:WE Z ρ O e Φ) (w:∀ t O',Φ t O'→Φ' t O'):WE Z ρ O e Φ':=PE.weak h fun _ _ _ q => ⟨q.1,q.2.mono w⟩
theorem ET.we (h:ET Z ρ O e t) (p:Φ t O):WE Z ρ O e Φ:=h Φ p
theorem VL {i:Nat} {x:Str} (hN:Z.X.N[i]? = some x) (hv:UR Z.X.env.scope x) (e:ρ[i]? = some (some t)) (p:Φ t O) (hd:(x == ("__debug__" : Str)) = false:=by decide) (hcd:(x == ("__classdict__" : Str)) = false:=by decide):WE Z ρ O (.Name x pos) Φ :=
 PE.weak (Ks hN hv hd hcd) fun σ H Q q => by
  obtain ⟨v,h1,h2⟩:=q.1.rl.2 i t e
  exact ⟨v,h1,q.2 v H t O p q.1.refl h2⟩
theorem ev (i:Nat) {x:Str} (e:ρ[i]? = some (some t):=by rfl) (hN:Z.X.N[i]? = some x:=by rfl) (hv:UR Z.X.env.scope x:=by first | exact Or.inl rfl | exact Or.inr (Or.inl rfl) | exact Or.inr (Or.inr rfl)) (hd:(x == ("__debug__" : Str)) = false:=by decide)
  (hcd:(x == ("__classdict__" : Str)) = false:=by decide):ET Z ρ O (.Name x pos) t:=fun _ p => VL hN hv e p hd hcd
theorem OD {v:V} (h:PE Z.X e (tC v)) (r:∀ O H,Rep Z.K O H v t):ET Z ρ O e t:=fun _ p => PE.weak h fun _ H _ q => q.2 v H _ O p q.1.refl (r O H)
theorem AA {i:Int} {j:Nat}:ET Z ρ O (.Constant (.int i) j pos) (.int i):=OD Kt fun _ _ => .int i
theorem HY {i:Bool} {j:Nat}:ET Z ρ O (.Constant (.bool i) j pos) (.bl i):=OD Oa fun _ _ => .bl i
theorem BU {j:Nat}:ET Z ρ O (.Constant .none j pos) .non:=OD UT fun _ _ => .non
theorem Dp {x:Str} {j:Nat}:ET Z ρ O (.Constant (.str x) j pos) (.str x):=OD Bg fun _ _ => .str x
theorem Cg {x:Str} {i:Int} (hm:∃ t:Tok,Z.X.mg x = some (.int i t)) (hg:Gl Z.X x:=by rfl) (hd:(x == ("__debug__" : Str)) = false:=by decide):ET Z ρ O (.Name x pos) (.int i):=by
 cases hm with
 | intro t hm => exact OD (Bl (v:=.int i) hg hm ⟨t,rfl⟩ hd) fun _ _ => .int i
theorem XY {x:Str} {n:String} (hm:Z.X.mg x = none) (hv:bootBuiltins x = some (.type n)) (hg:Gl Z.X x:=by rfl) (hn:x≠"__name__":=by decide) (hd:(x == ("__debug__" : Str)) = false:=by decide):ET Z ρ O (.Name x pos) (.raw (.ty n)) :=
 OD (MO (v:=.ty n) hg hm hv rfl hn hd) fun _ _ => .raw _
def RT (K:PySem.W.Frag) (r:R2) (ta tb:T) (O:AL) (Φ:BX):Prop:=∀ H v w Q,OwnOk K O H→Rep K O H v ta→Rep K O H w tb→Acc K O H Φ Q→r v w H Q
def RP (K:PySem.W.Frag) (r:R2) (ta tb:T) (O:AL) (t:T):Prop:=∀ Φ:BX,Φ t O→RT K r ta tb O Φ
theorem IW {r:R2} {σ:St} {H:Hp} {Q:VK} (q:tW Z ρ O Φ σ H Q) (h:WE Z ρ O a fun ta O1 => WE Z ρ O1 b fun tb O2 => RT Z.K r ta tb O2 Φ):Ws r (tX Z ρ a) (tX Z ρ b) σ H Q :=
 ⟨O,_,h,q.1,fun v H1 ta O1 p f1 r1 => ⟨O1,_,p,q.1.step f1,fun w H2 tb O2 p2 f2 r2 => p2 H2 v w Q f2.ok (r1.kp f2.kp f1.ok) r2 (q.2.step (f1.trans f2))⟩⟩
theorem Bx {op:Operator} {r:R2} (ho:Co Z.X (binaryOp op) r) (h:WE Z ρ O a fun ta O1 => WE Z ρ O1 b fun tb O2 => RT Z.K r ta tb O2 Φ):WE Z ρ O (.BinOp a op b pos) Φ :=
 PE.weak (Tf ho BN BN) fun _ _ _ q => IW q h
theorem VM {op:CmpOp} {r:R2} (ho:Co Z.X (compareOp op) r) (hm:behindInMarks op b = false) (h:WE Z ρ O a fun ta O1 => WE Z ρ O1 b fun tb O2 => RT Z.K r ta tb O2 Φ):WE Z ρ O (.Compare a [op] [b] pos) Φ :=
 PE.weak (Rm ho BN BN hm) fun _ _ _ q => IW q h
theorem GD {op:Operator} {r:R2} (ho:Co Z.X (binaryOp op) r) (hp:RP Z.K r ta tb O t) (ha:ET Z ρ O a ta) (hb:ET Z ρ O b tb):ET Z ρ O (.BinOp a op b pos) t:=fun Φ p => Bx ho (ha _ (hb _ (hp Φ p)))
theorem IX {op:CmpOp} {r:R2} (ho:Co Z.X (compareOp op) r) (hm:behindInMarks op b = false) (hp:RP Z.K r ta tb O t) (ha:ET Z ρ O a ta) (hb:ET Z ρ O b tb):ET Z ρ O (.Compare a [op] [b] pos) t:=fun Φ p => VM ho hm (ha _ (hb _ (hp Φ p)))
theorem Mo {r:R2} (ho:XC Z.X r) (hs:DO b) (h:WE Z ρ O a fun ta O1 => WE Z ρ O1 b fun tb O2 => RT Z.K r ta tb O2 Φ):WE Z ρ O (.Subscript a b pos) Φ :=
 PE.weak (Os ho BN BN hs) fun _ _ _ q => IW q h
theorem Pb {r:R2} (ho:XC Z.X r) (hs:DO b) (hp:RP Z.K r ta tb O t) (ha:ET Z ρ O a ta) (hb:ET Z ρ O b tb):ET Z ρ O (.Subscript a b pos) t:=fun Φ p => Mo ho hs (ha _ (hb _ (hp Φ p)))
theorem BE {Φ:LX} (p:Φ [] O):WA Z ρ O [] Φ:=PA.weak Ag fun _ H _ q => q.2 [] H [] O p q.1.refl .nil
theorem DU {Φ:LX} (h:WE Z ρ O e fun t O1 => WA Z ρ O1 es fun ts O2 => Φ (t :: ts) O2) (hs:starEach (e :: es) Z.X.env = (false,eval e Z.X.env) :: starEach es Z.X.env:=by rfl):WA Z ρ O (e :: es) Φ :=
 PA.weak (AI BN Jw hs) fun σ H Q q => ⟨O,_,h,q.1,fun v H1 t O1 p f1 r1 => ⟨O1,_,p,q.1.step f1,fun vs H2 ts O2 p2 f2 r2 => q.2 _ H2 _ O2 p2 (f1.trans f2) (.cons (r1.kp f2.kp f1.ok) r2)⟩⟩
theorem AD:EA Z ρ O [] []:=fun _ p => BE p
theorem AU (h:ET Z ρ O e t) (hr:EA Z ρ O es ts) (hs:starEach (e :: es) Z.X.env = (false,eval e Z.X.env) :: starEach es Z.X.env:=by rfl):EA Z ρ O (e :: es) (t :: ts):=fun Φ p => DU (h _ (hr _ p)) hs
theorem LY {x1} (h:WA Z ρ O es fun ts O1 => ts.length≤sizeLine∧Φ (.tup ts) O1):WE Z ρ O (.Tuple es x1 pos) Φ :=
 PE.weak (IB h) fun σ H Q q => ⟨q.1,fun vs H1 ts O1 p f r => ⟨by rw [r.length]; exact p.1,fun a ha => q.2 _ _ _ O1 p.2 (f.trans (.new f.ok ha)) (.tup AJ (r.kp (BT f.ok ha) f.ok))⟩⟩
theorem Ay {x1} (h:EA Z ρ O es ts) (hl:ts.length≤sizeLine:=by first | (show 1≤sizeLine; decide) | (show 2≤sizeLine; decide) | (show 3≤sizeLine; decide) | (show 0≤sizeLine; decide)):ET Z ρ O (.Tuple es x1 pos) (.tup ts):=fun _ p => LY (h _ ⟨hl,p⟩)
theorem LZ (h:WA Z ρ O es fun ts O1 => ts.length≤sizeLine∧Φ (.lst ts) O1):WE Z ρ O (.List es pos) Φ :=
 PE.weak (Fe h) fun σ H Q q => ⟨q.1,fun vs H1 ts O1 p f r => ⟨by rw [r.length]; exact p.1,fun a ha => q.2 _ _ _ O1 p.2 (f.trans (.new f.ok ha)) (.lst AJ (f.ok.none_of ha) (r.kp (BT f.ok ha) f.ok))⟩⟩
theorem Az (h:EA Z ρ O es ts) (hl:ts.length≤sizeLine):ET Z ρ O (.List es pos) (.lst ts):=fun _ p => LZ (h _ ⟨hl,p⟩)
theorem EL (h:WA Z ρ O es fun ts O1 => ts.length≤sizeLine∧∀ a,O1 a = none→Φ (.raw (.ref a)) (Ae O1 a ts)):WE Z ρ O (.List es pos) Φ :=
 PE.weak (Fe h) fun σ H Q q => ⟨q.1,fun vs H1 ts O1 p f r => ⟨by rw [r.length]; exact p.1,fun a ha => q.2 _ _ _ _ (p.2 a (f.ok.none_of ha)) (f.trans (.newO f.ok ha r)) (.raw _)⟩⟩
end
section
variable {K:PySem.W.Frag} {O:AL} {H:Hp} {v:V}
theorem Rep.int_inv {i:Int} (r:Rep K O H v (.int i)):v = .int i:=by cases r; rfl
theorem Rep.bl_inv {i:Bool} (r:Rep K O H v (.bl i)):v = .bl i:=by cases r; rfl
theorem Rep.non_inv (r:Rep K O H v .non):v = .non:=by cases r; rfl
theorem Rep.raw_inv {i:V} (r:Rep K O H v (.raw i)):v = i:=by cases r; rfl
theorem Rep.tup_inv {ts:List T} (r:Rep K O H v (.tup ts)):∃ a xs,v = .ref a∧H a = some (.tup xs)∧Reps K O H xs ts:=by
 cases r with
 | tup h r => exact ⟨_,_,rfl,h,r⟩
theorem Rep.lst_inv {ts:List T} (r:Rep K O H v (.lst ts)):∃ a xs,v = .ref a∧H a = some (.lst xs)∧O a = none∧Reps K O H xs ts:=by
 cases r with
 | lst h o r => exact ⟨_,_,rfl,h,o,r⟩
theorem Reps.cons_inv {vs:List V} {t:T} {ts:List T} (r:Reps K O H vs (t :: ts)):∃ v vs',vs = v :: vs'∧Rep K O H v t∧Reps K O H vs' ts:=by
 cases r with
 | cons h r => exact ⟨_,_,rfl,h,r⟩
theorem Reps.nil_inv {vs:List V} (r:Reps K O H vs []):vs = []:=by cases r; rfl
theorem Reps.one_inv {vs:List V} {t:T} (r:Reps K O H vs [t]):∃ v,vs = [v]∧Rep K O H v t:=by
 obtain ⟨v,vs',rfl,h,r⟩:=r.cons_inv
 cases r.nil_inv
 exact ⟨v,rfl,h⟩
theorem Reps.two_inv {vs:List V} {t u:T} (r:Reps K O H vs [t,u]):∃ v w,vs = [v,w]∧Rep K O H v t∧Rep K O H w u:=by
 obtain ⟨v,vs',rfl,h,r⟩:=r.cons_inv
 obtain ⟨w,rfl,h2⟩:=r.one_inv
 exact ⟨v,w,rfl,h,h2⟩
theorem Reps.ints:∀ {vs:List V} {ns:List Int},Reps K O H vs (ns.map T.int)→vs = ns.map V.int
 | _,[],r => r.nil_inv
 | _,n :: ns,r => by
  obtain ⟨v,vs',rfl,h,r⟩:=Reps.cons_inv r
  rw [h.int_inv,Reps.ints r]
  rfl
end
section
variable {Z:Zx} {ρ:List (Option T)} {O:AL} {e a b c:Expr} {es:List Expr} {Φ Φ':BX} {pos:Pos} {t ta tb:T} {ts:List T} {K:PySem.W.Frag} {i j:Int}
theorem Di {g:Int→Int→Int}:RP K (Ri fun i j => .int (g i j)) (.int i) (.int j) O (.int (g i j)):=fun Φ p H v w Q ok r1 r2 q => ⟨i,j,r1.int_inv,r2.int_inv,q _ H _ O p (.refl ok) (.int _)⟩
theorem HZ {g:Int→Int→Bool}:RP K (Ri fun i j => .bl (g i j)) (.int i) (.int j) O (.bl (g i j)):=fun Φ p H v w Q ok r1 r2 q => ⟨i,j,r1.int_inv,r2.int_inv,q _ H _ O p (.refl ok) (.bl _)⟩
theorem SI {C:Int→Int→Prop} {g:Int→Int→Int} (hc:C i j):RP K (rI C fun i j => .int (g i j)) (.int i) (.int j) O (.int (g i j)):=fun Φ p H v w Q ok r1 r2 q => ⟨i,j,r1.int_inv,r2.int_inv,hc,q _ H _ O p (.refl ok) (.int _)⟩
theorem Al (ha:ET Z ρ O a (.int i)) (hb:ET Z ρ O b (.int j)):ET Z ρ O (.BinOp a .Add b pos) (.int (i + j)):=GD CW Di ha hb
theorem BF (ha:ET Z ρ O a (.int i)) (hb:ET Z ρ O b (.int j)):ET Z ρ O (.BinOp a .Sub b pos) (.int (i - j)):=GD Uj Di ha hb
theorem BV (ha:ET Z ρ O a (.int i)) (hb:ET Z ρ O b (.int j)) (h:CMul i j):ET Z ρ O (.BinOp a .Mult b pos) (.int (i * j)):=GD Uk (SI h) ha hb
theorem DV (ha:ET Z ρ O a (.int i)) (hb:ET Z ρ O b (.int j)) (h:Wv i j):ET Z ρ O (.BinOp a .FloorDiv b pos) (.int (i / j)):=GD Rj (SI h) ha hb
theorem DF (ha:ET Z ρ O a (.int i)) (hb:ET Z ρ O b (.int j)) (h:0 < j):ET Z ρ O (.BinOp a .Mod b pos) (.int (i % j)):=GD Ul (SI h) ha hb
theorem La (ha:ET Z ρ O a (.int i)) (hb:ET Z ρ O b (.int j)) (h:Ww i j):ET Z ρ O (.BinOp a .Pow b pos) (.int (i ^ j.toNat)):=GD Um (SI h) ha hb
theorem XZ (ha:ET Z ρ O a (.int i)) (hb:ET Z ρ O b (.int j)):ET Z ρ O (.Compare a [.GtE] [b] pos) (.bl (decide (j≤i))):=IX Ti (Af _) HZ ha hb
theorem IY:RP K Zj (.int i) (.int j) O (.bl (decide (i = j))):=fun Φ p H v w Q ok r1 r2 q => by
 cases r1.int_inv; cases r2.int_inv
 refine ⟨rfl,?_⟩
 have:decide (V.int i = V.int j) = decide (i = j):=by simp
 rw [this]
 exact q _ H _ O p (.refl ok) (.bl _)
theorem VN:RP K Zk (.int i) (.int j) O (.bl (!decide (i = j))):=fun Φ p H v w Q ok r1 r2 q => by
 cases r1.int_inv; cases r2.int_inv
 refine ⟨rfl,?_⟩
 have:decide (V.int i = V.int j) = decide (i = j):=by simp
 rw [this]
 exact q _ H _ O p (.refl ok) (.bl _)
theorem VO (ha:ET Z ρ O a (.int i)) (hb:ET Z ρ O b (.int j)):ET Z ρ O (.Compare a [.Eq] [b] pos) (.bl (decide (i = j))):=IX HE (Af _) IY ha hb
theorem Xa {op:UnaryOp} {g:Int→Int} (ho:Ye Z.X (unaryOp op) (rU fun i => .int (g i))) (h:ET Z ρ O a (.int i)):ET Z ρ O (.UnaryOp op a pos) (.int (g i)):=fun Φ p =>
 PE.weak (Wt ho BN) fun σ H Q q => ⟨O,_,h (fun t O' => t = .int i∧O' = O) ⟨rfl,rfl⟩,q.1,fun v H1 t O1 ⟨e1,e2⟩ f r => by
  subst e1; subst e2
  exact ⟨i,r.int_inv,q.2 _ H1 _ _ p f (.int _)⟩⟩
theorem VP (h:ET Z ρ O a (.int i)):ET Z ρ O (.UnaryOp .USub a pos) (.int (-i)):=Xa Uo h
theorem Jx {op op':CmpOp} {r r':R2} {tc:T} {x y:Bool} (ho:Co Z.X (compareOp op) r) (ho':Co Z.X (compareOp op') r') (hp:RP Z.K r ta tb O (.bl x)) (hp':x = true→RP Z.K r' tb tc O (.bl y))
  (ha:ET Z ρ O a ta) (hb:ET Z ρ O b tb) (hc:x = true→ET Z ρ O c tc) (hm:lastMarks [op,op'] [b,c] = false:=by with_unfolding_all rfl):ET Z ρ O (.Compare a [op,op'] [b,c] pos) (.bl (x && y)):=fun Φ p =>
 by
 refine PE.weak (Ol ho ho' (BN (ρ:=ρ)) (BN (ρ:=ρ)) (BN (ρ:=ρ)) hm) fun σ H Q q => ?_
 refine ⟨O,_,ha (fun t O' => t = ta∧O' = O) ⟨rfl,rfl⟩,q.1,?_⟩
 rintro v H1 _ _ ⟨rfl,rfl⟩ f1 r1
 refine ⟨_,_,hb (fun t O' => t = tb∧O' = _) ⟨rfl,rfl⟩,q.1.step f1,?_⟩
 rintro w H2 _ _ ⟨rfl,rfl⟩ f2 r2
 refine hp (fun t O' => t = .bl x∧O' = _) ⟨rfl,rfl⟩ H2 v w _ f2.ok (r1.kp f2.kp f1.ok) r2 ?_
 rintro z H3 _ _ ⟨rfl,rfl⟩ f3 r3
 refine ⟨x,r3.bl_inv,?_⟩
 cases x with
 | false => exact Dl (q.2 _ H3 _ _ p (f1.trans (f2.trans f3)) (.bl _))
 | true =>
  refine Fj ⟨_,_,hc rfl (fun t O' => t = tc∧O' = _) ⟨rfl,rfl⟩,q.1.step (f1.trans (f2.trans f3)),?_⟩
  rintro w' H4 _ _ ⟨rfl,rfl⟩ f4 r4
  exact hp' rfl _ p H4 w w' _ f4.ok (r2.kp (f3.trans f4).kp f2.ok) r4 (q.2.step (f1.trans (f2.trans (f3.trans f4))))
def TruT (O:AL):T→Bool→Prop
 | .non,k => k = false
 | .bl b,k => k = b
 | .int i,k => k = (i != 0)
 | .str y,k => y.length≤sizeLine∧k = ((y.length:Int) != 0)
 | .tup ts,k => k = !ts.isEmpty
 | .lst ts,k => k = !ts.isEmpty
 | .frz ts,k => k = !ts.isEmpty
 | .dct,_ => False
 | .raw (.ref a),k => ∃ ts,O a = some ts∧k = !ts.isEmpty
 | .raw _,_ => False
theorem Reps.isEmpty {vs:List V} {ts:List T} {H:Hp} (r:Reps K O H vs ts):vs.isEmpty = ts.isEmpty:=by cases r <;> rfl
theorem TruT.v {H:Hp} {v:V} {k:Bool} (h:TruT O t k) (r:Rep K O H v t) (ok:OwnOk K O H):Rn K v H k:=by
 cases r with
 | non => exact h
 | bl => exact h
 | int => exact h
 | str => exact h
 | tup h1 r =>
  have h:k = !_:=h
  exact .inr (.inl ⟨_,.inl (.inl h1),by rw [h,r.isEmpty]⟩)
 | lst h1 o r =>
  have h:k = !_:=h
  exact .inl ⟨_,.inl (.inl h1),by rw [h,r.isEmpty]⟩
 | frz h1 r =>
  have h:k = !_:=h
  exact .inl ⟨_,.inl (.inr ⟨_,h1⟩),by rw [h,r.isEmpty]⟩
 | dct => exact h.elim
 | raw v =>
  cases v with
  | ref a =>
   obtain ⟨ts,e,h⟩:=h
   obtain ⟨xs,h1,r⟩:=ok a ts e
   exact .inl ⟨xs,.inl (.inl h1),by rw [h,r.isEmpty]⟩
  | _ => exact h.elim
theorem Jy {Φ:IV} (h:WE Z ρ O e fun t O' => ∃ k,TruT O' t k∧Φ k O') (he:∀ whole,isTrue e Z.X.env whole = (do let v ← whole; standAt e.pos; holding [v] (truthy v)):=by intro _; rfl):WT Z ρ O e Φ :=
 PT.weak (JW BN he) fun σ H Q q => ⟨O,_,h,q.1,fun v H1 t O1 ⟨k,tr,p⟩ f r => ⟨k,tr.v r f.ok,q.2 k H1 O1 p f⟩⟩
theorem Jz {k:Bool} (h:ET Z ρ O e t) (tr:TruT O t k) (he:∀ whole,isTrue e Z.X.env whole = (do let v ← whole; standAt e.pos; holding [v] (truthy v)):=by intro _; rfl):EB Z ρ O e k:=fun Φ p => Jy (h _ ⟨k,tr,p⟩) he
theorem EM {k:Bool} (h:ET Z ρ O e (.bl k)) (he:∀ whole,isTrue e Z.X.env whole = (do let v ← whole; standAt e.pos; holding [v] (truthy v)):=by intro _; rfl):EB Z ρ O e k:=Jz h rfl he
theorem Lb {Φ:IV} {op:CmpOp} {r:R2} (ho:Co Z.X (compareOp op) r) (hm:behindInMarks op b = false) (h:WE Z ρ O a fun ta O1 => WE Z ρ O1 b fun tb O2 => RT Z.K r ta tb O2 fun t O3 => ∃ k,t = .bl k∧Φ k O3):WT Z ρ O (.Compare a [op] [b] pos) Φ :=
 PT.weak (ED ho BN BN hm) fun σ H Q q => IW (Φ:=fun t O3 => ∃ k,t = .bl k∧Φ k O3) ⟨q.1,fun v H' t O' ⟨k,e,p⟩ f r => by
  subst e
  exact ⟨k,r.bl_inv,q.2 k H' O' p f⟩⟩ h
theorem BI {op:CmpOp} {r:R2} {k:Bool} (ho:Co Z.X (compareOp op) r) (hm:behindInMarks op b = false) (hp:RP Z.K r ta tb O (.bl k)) (ha:ET Z ρ O a ta) (hb:ET Z ρ O b tb):EB Z ρ O (.Compare a [op] [b] pos) k:=fun Φ p =>
 Lb ho hm (ha _ (hb _ (hp _ ⟨k,rfl,p⟩)))
theorem Xb (ha:ET Z ρ O a (.int i)) (hb:ET Z ρ O b (.int j)):EB Z ρ O (.Compare a [.Lt] [b] pos) (decide (i < j)):=BI Th (Af _) HZ ha hb
theorem Mp (ha:ET Z ρ O a (.int i)) (hb:ET Z ρ O b (.int j)):EB Z ρ O (.Compare a [.LtE] [b] pos) (decide (i≤j)):=BI Oj (Af _) HZ ha hb
theorem Xc (ha:ET Z ρ O a (.int i)) (hb:ET Z ρ O b (.int j)):EB Z ρ O (.Compare a [.GtE] [b] pos) (decide (j≤i)):=BI Ti (Af _) HZ ha hb
theorem BO (ha:ET Z ρ O a (.int i)) (hb:ET Z ρ O b (.int j)):EB Z ρ O (.Compare a [.Eq] [b] pos) (decide (i = j)):=BI HE (Af _) IY ha hb
theorem Lc (ha:ET Z ρ O a (.int i)) (hb:ET Z ρ O b (.int j)):EB Z ρ O (.Compare a [.NotEq] [b] pos) (!decide (i = j)):=BI Tg (Af _) VN ha hb
theorem SJ {k:Int} (ha:ET Z ρ O a (.int i)) (hb:ET Z ρ O b (.int j)) (hc:ET Z ρ O c (.int k)) (hm:lastMarks [CmpOp.LtE,.LtE] [b,c] = false:=by with_unfolding_all rfl):ET Z ρ O (.Compare a [.LtE,.LtE] [b,c] pos) (.bl (decide (i≤j) && decide (j≤k))):=Jx Oj Oj HZ (fun _ => HZ) ha hb (fun _ => hc) hm
theorem Pc {Φ:IV} (h:WT Z ρ O a fun k O' => Φ (!k) O'):WT Z ρ O (.UnaryOp .Not a pos) Φ:=PT.weak (Oc h) fun σ H Q q => ⟨q.1,fun k H1 O1 p f => q.2 _ H1 O1 p f⟩
theorem Ch {k:Bool} (h:EB Z ρ O a k):EB Z ρ O (.UnaryOp .Not a pos) (!k):=fun Φ p => Pc (h _ p)
def EW (Z:Zx) (ρ:List (Option T)) (O:AL) (e:Expr) (b:Bool):Prop:=∀ Φ:IV,Φ b O→WW Z ρ O e Φ
theorem EW.eb {k:Bool} (h:EW Z ρ O e k):EB Z ρ O e k:=fun Φ p => (h Φ p).pt
theorem SK {Φ:IV} (h:WT Z ρ O a Φ):WW Z ρ O (.BoolOp .And [a] pos) Φ:=Rf h
theorem Pd {Φ:IV} (h:WT Z ρ O a Φ):WW Z ρ O (.BoolOp .Or [a] pos) Φ:=Ob h
theorem VQ {Φ:IV} (h:WT Z ρ O a fun k O1 => if k = true then WW Z ρ O1 (.BoolOp .And (b :: es) pos) Φ else Φ false O1):WW Z ρ O (.BoolOp .And (a :: b :: es) pos) Φ :=
 PW.weak (UU h XX) fun σ H Q q => ⟨q.1,fun k H1 O1 p f => by
  cases k with
  | true => rw [if_pos rfl] at p ⊢; exact ⟨O1,_,p,q.1.step f,q.2.step f⟩
  | false => rw [if_neg Bool.false_ne_true] at p ⊢; exact q.2 _ H1 O1 p f⟩
theorem Ts {Φ:IV} (h:WT Z ρ O a fun k O1 => if k = true then Φ true O1 else WW Z ρ O1 (.BoolOp .Or (b :: es) pos) Φ):WW Z ρ O (.BoolOp .Or (a :: b :: es) pos) Φ :=
 PW.weak (Td h XX) fun σ H Q q => ⟨q.1,fun k H1 O1 p f => by
  cases k with
  | true => rw [if_pos rfl] at p ⊢; exact q.2 _ H1 O1 p f
  | false => rw [if_neg Bool.false_ne_true] at p ⊢; exact ⟨O1,_,p,q.1.step f,q.2.step f⟩⟩
theorem EN {k:Bool} (h:EB Z ρ O a k):EW Z ρ O (.BoolOp .And [a] pos) k:=fun Φ p => SK (h _ p)
theorem IZ {k:Bool} (h:EB Z ρ O a k):EW Z ρ O (.BoolOp .Or [a] pos) k:=fun Φ p => Pd (h _ p)
theorem GE {x y:Bool} (ha:EB Z ρ O a x) (hb:x = true→EW Z ρ O (.BoolOp .And (b :: es) pos) y):EW Z ρ O (.BoolOp .And (a :: b :: es) pos) (x && y):=fun Φ p => VQ (ha _ (by
 cases x with
 | true => rw [if_pos rfl]; exact hb rfl _ p
 | false => rw [if_neg Bool.false_ne_true]; exact p))
theorem Mq {x y:Bool} (ha:EB Z ρ O a x) (hb:x = false→EW Z ρ O (.BoolOp .Or (b :: es) pos) y):EW Z ρ O (.BoolOp .Or (a :: b :: es) pos) (x || y):=fun Φ p => Ts (ha _ (by
 cases x with
 | true => rw [if_pos rfl]; exact p
 | false => rw [if_neg Bool.false_ne_true]; exact hb rfl _ p))
theorem Ld {op} (h:ET Z ρ O a t):ET Z ρ O (.BoolOp op [a] pos) t:=fun Φ p => UV (h Φ p)
theorem Pe {x y:Bool} (ha:ET Z ρ O a (.bl x)) (hb:x = true→ET Z ρ O (.BoolOp .And (b :: es) pos) (.bl y)):ET Z ρ O (.BoolOp .And (a :: b :: es) pos) (.bl (x && y)):=fun Φ p =>
 by
 refine PE.weak (UW (BN (ρ:=ρ)) (BN (ρ:=ρ))) fun σ H Q q => ?_
 refine ⟨O,_,ha (fun t O' => t = .bl x∧O' = O) ⟨rfl,rfl⟩,q.1,?_⟩
 rintro v H1 _ _ ⟨rfl,rfl⟩ f r
 refine ⟨x,r.bl_inv,?_⟩
 cases x with
 | true => exact Fj ⟨_,_,hb rfl _ p,q.1.step f,q.2.step f⟩
 | false => exact Dl (q.2 _ H1 _ _ p f (.bl _))
theorem VR {x:Bool} (ha:ET Z ρ O a (.bl x)):ET Z ρ O (.UnaryOp .Not a pos) (.bl (!x)):=fun Φ p =>
 PE.weak (UX BN) fun σ H Q q => ⟨O,_,ha (fun t O' => t = .bl x∧O' = O) ⟨rfl,rfl⟩,q.1,fun v H1 t O1 ⟨e1,e2⟩ f r => by
  subst e1; subst e2
  exact ⟨x,r.bl_inv,q.2 _ H1 _ _ p f (.bl _)⟩⟩
theorem Xd (h:WT Z ρ O c fun k O1 => if k = true then WE Z ρ O1 a Φ else WE Z ρ O1 b Φ):WE Z ρ O (.IfExp c a b pos) Φ :=
 PE.weak (Od h BN BN) fun σ H Q q => ⟨q.1,fun k H1 O1 p f => by
  cases k with
  | true => rw [if_pos rfl] at p ⊢; exact ⟨O1,_,p,q.1.step f,q.2.step f⟩
  | false => rw [if_neg Bool.false_ne_true] at p ⊢; exact ⟨O1,_,p,q.1.step f,q.2.step f⟩⟩
theorem Ha {x:Bool} (hc:EB Z ρ O c x) (ha:x = true→ET Z ρ O a ta) (hb:x = false→ET Z ρ O b tb):ET Z ρ O (.IfExp c a b pos) (if x = true then ta else tb):=fun Φ p => Xd (hc _ (by
 cases x with
 | true => rw [if_pos rfl] at p ⊢; exact ha rfl _ p
 | false => rw [if_neg Bool.false_ne_true] at p ⊢; exact hb rfl _ p))
theorem Reps.atI {vs:List V} {H:Hp} (r:Reps K O H vs ts) (e:L2.atI ts i = some t):∃ v,L2.atI vs i = some v∧Rep K O H v t:=by
 unfold L2.atI at e ⊢
 rw [r.length]
 cases hx:Oq ts.length i with
 | none => rw [hx] at e; cases e
 | some j => rw [hx] at e; exact r.get e
theorem VS (e:atI ts i = some t):RP K (XD K) (.tup ts) (.int i) O t:=fun Φ p H v w Q ok r1 r2 q => by
 obtain ⟨a,xs,rfl,h1,r1⟩:=r1.tup_inv
 obtain ⟨x,ex,rx⟩:=r1.atI e
 exact ⟨a,xs,i,x,rfl,r2.int_inv,.inl (.inl h1),ex,q _ H _ O p (.refl ok) rx⟩
theorem Ia (e:atI ts i = some t):RP K (Ur K) (.lst ts) (.int i) O t:=fun Φ p H v w Q ok r1 r2 q => by
 obtain ⟨a,xs,rfl,h1,o1,r1⟩:=r1.lst_inv
 obtain ⟨x,ex,rx⟩:=r1.atI e
 exact ⟨a,xs,i,x,rfl,r2.int_inv,.inl (.inl h1),ex,q _ H _ O p (.refl ok) rx⟩
theorem VT {a:Addr} (ha:O a = some ts) (e:atI ts i = some t):RP K (Ur K) (.raw (.ref a)) (.int i) O t:=fun Φ p H v w Q ok r1 r2 q => by
 cases r1.raw_inv
 obtain ⟨xs,h1,r1⟩:=ok a ts ha
 obtain ⟨x,ex,rx⟩:=r1.atI e
 exact ⟨a,xs,i,x,rfl,r2.int_inv,.inl (.inl h1),ex,q _ H _ O p (.refl ok) rx⟩
theorem BJ (ha:ET Z ρ O a (.tup ts)) (hb:ET Z ρ O b (.int i)) (e:atI ts i = some t:=by rfl) (hs:DO b:=by exact fun _ _ => rfl):ET Z ρ O (.Subscript a b pos) t:=Pb Us hs (VS e) ha hb
theorem Ib (ha:ET Z ρ O a (.lst ts)) (hb:ET Z ρ O b (.int i)) (e:atI ts i = some t:=by rfl) (hs:DO b:=by exact fun _ _ => rfl):ET Z ρ O (.Subscript a b pos) t:=Pb CY hs (Ia e) ha hb
theorem Ci {p:Addr} (hp:O p = some ts) (ha:ET Z ρ O a (.raw (.ref p))) (hb:ET Z ρ O b (.int i)) (e:atI ts i = some t:=by rfl) (hs:DO b:=by exact fun _ _ => rfl):ET Z ρ O (.Subscript a b pos) t:=Pb CY hs (VT hp e) ha hb
end
abbrev Br:=List T→AL→BX→(Value→AL→Prop)→Prop
def By (K:PySem.W.Frag) (s:Br):Sp:=fun vs H Q E => ∃ ts O Φ Ξ,Reps K O H vs ts∧OwnOk K O H∧s ts O Φ Ξ∧Acc K O H Φ Q∧∀ cls O' H',Ξ cls O'→Frm K O H O' H'→E cls none H'
structure FnT (P:Program) (w:World) (K:PySem.W.Frag) (mg:Str→Option Value) (base:Heap) (x:Str) (k:Nat) (ps:List Str) (s:Br):Prop where
 ex:∃ f fd,FnOk P w K mg base (CXe P w) k f fd ps (By K s)∧mg x = some (.ref f)∧PySem.W.keepIn K (.ref f) = true∧Binds K fd ps []
def KA (φ:List T→T→Prop):Br:=fun ts O Φ _ => ∃ t,φ ts t∧Φ t O
section
variable {Z:Zx} {ρ:List (Option T)} {O:AL} {e a b c:Expr} {es:List Expr} {Φ Φ':BX} {pos p:Pos} {t ta tb:T} {ts:List T} {K:PySem.W.Frag} {i j:Int} {x:Str}
theorem AN {k:Nat} {ps:List Str} {s:Br} (G:FnT Z.X.prog Z.X.w Z.X.K Z.X.mg Z.X.base x k ps s) (hr:Room k Z.X.A) (xf:XFly Z.X Z.W) (h:WA Z ρ O (e :: es) fun ts O1 => s ts O1 Φ Z.Xi) (hg:Gl Z.X x:=by rfl)
  (hdb:(x == ("__debug__" : Str)) = false:=by decide) (he:starEach (e :: es) Z.X.env = (false,eval e Z.X.env) :: starEach es Z.X.env:=by rfl) (hpl:(backTo pos (starEach es Z.X.env)).any (·.1) = false:=by rfl):WE Z ρ O (.Call (.Name x p) (e :: es) [] pos) Φ:=by
 obtain ⟨f,fd,F,hm,hk,hb⟩:=G.ex
 refine PE.weak (Jf xf F hr hg hm hk hb (Jw (ρ:=ρ)) hdb he hpl) fun σ H Q q => ?_
 exact ⟨O,_,h,q.1,fun vs H1 ts O1 p f r => ⟨ts,O1,Φ,Z.Xi,r,f.ok,p,q.2.step f,fun cls O' H' x f' => ⟨rfl,O',x,(q.1.fr.trans f).trans f'⟩⟩⟩
theorem Cj {k:Nat} {ps:List Str} {s:Br} (G:FnT Z.X.prog Z.X.w Z.X.K Z.X.mg Z.X.base x k ps s) (hr:Room k Z.X.A) (xf:XFly Z.X Z.W) (h:EA Z ρ O (e :: es) ts) (hs:∀ Φ:BX,Φ t O→s ts O Φ Z.Xi) (hg:Gl Z.X x:=by rfl)
  (hdb:(x == ("__debug__" : Str)) = false:=by decide) (he:starEach (e :: es) Z.X.env = (false,eval e Z.X.env) :: starEach es Z.X.env:=by rfl) (hpl:(backTo pos (starEach es Z.X.env)).any (·.1) = false:=by rfl):ET Z ρ O (.Call (.Name x p) (e :: es) [] pos) t :=
 fun Φ p => AN G hr xf (h _ (hs Φ p)) hg hdb he hpl
theorem Ai {k:Nat} {ps:List Str} {φ:List T→T→Prop} (G:FnT Z.X.prog Z.X.w Z.X.K Z.X.mg Z.X.base x k ps (KA φ)) (hr:Room k Z.X.A) (xf:XFly Z.X Z.W) (h:EA Z ρ O (e :: es) ts) (hs:φ ts t) (hg:Gl Z.X x:=by rfl)
  (hdb:(x == ("__debug__" : Str)) = false:=by decide) (he:starEach (e :: es) Z.X.env = (false,eval e Z.X.env) :: starEach es Z.X.env:=by rfl) (hpl:(backTo pos (starEach es Z.X.env)).any (·.1) = false:=by rfl):ET Z ρ O (.Call (.Name x p) (e :: es) [] pos) t :=
 Cj G hr xf h (fun Φ p => ⟨t,hs,p⟩) hg hdb he hpl
def CT (K:PySem.W.Frag) (r:List V→Hp→VK→Prop) (ts:List T) (O:AL) (Φ:BX):Prop:=∀ H vs Q,OwnOk K O H→Reps K O H vs ts→Acc K O H Φ Q→r vs H Q
def CP (K:PySem.W.Frag) (r:List V→Hp→VK→Prop) (ts:List T) (O:AL) (t:T):Prop:=∀ Φ:BX,Φ t O→CT K r ts O Φ
theorem KB {id:String} {r:List V→Hp→VK→Prop} (hc:BQ Z.X (.builtin id) r) (hm:Z.X.mg x = none) (hv:bootBuiltins x = some (.builtin id)) (h:WA Z ρ O (e :: es) fun ts O1 => CT Z.K r ts O1 Φ) (hg:Gl Z.X x:=by rfl) (hn:x≠"__name__":=by decide) (hdb:(x == ("__debug__" : Str)) = false:=by decide)
  (he:starEach (e :: es) Z.X.env = (false,eval e Z.X.env) :: starEach es Z.X.env:=by rfl) (hpl:(backTo pos (starEach es Z.X.env)).any (·.1) = false:=by rfl):WE Z ρ O (.Call (.Name x p) (e :: es) [] pos) Φ :=
 PE.weak (Aq hc hg hm hv (Jw (ρ:=ρ)) hn hdb he hpl) fun σ H Q q => ⟨O,_,h,q.1,fun vs H1 ts O1 p f r => p H1 vs Q f.ok r (q.2.step f)⟩
theorem Hb {id:String} {r:List V→Hp→VK→Prop} (hc:BQ Z.X (.type id) r) (hm:Z.X.mg x = none) (hv:bootBuiltins x = some (.type id)) (h:WA Z ρ O (e :: es) fun ts O1 => CT Z.K r ts O1 Φ) (hg:Gl Z.X x:=by rfl) (hn:x≠"__name__":=by decide) (hdb:(x == ("__debug__" : Str)) = false:=by decide)
  (he:starEach (e :: es) Z.X.env = (false,eval e Z.X.env) :: starEach es Z.X.env:=by rfl) (hpl:(backTo pos (starEach es Z.X.env)).any (·.1) = false:=by rfl):WE Z ρ O (.Call (.Name x p) (e :: es) [] pos) Φ :=
 PE.weak (Ef hc hg hm hv (Jw (ρ:=ρ)) hn hdb he hpl) fun σ H Q q => ⟨O,_,h,q.1,fun vs H1 ts O1 p f r => p H1 vs Q f.ok r (q.2.step f)⟩
theorem Bt {id:String} {r:List V→Hp→VK→Prop} (hc:BQ Z.X (.builtin id) r) (hm:Z.X.mg x = none) (hv:bootBuiltins x = some (.builtin id)) (h:EA Z ρ O (e :: es) ts) (hp:CP Z.K r ts O t) (hg:Gl Z.X x:=by rfl) (hn:x≠"__name__":=by decide) (hdb:(x == ("__debug__" : Str)) = false:=by decide)
  (he:starEach (e :: es) Z.X.env = (false,eval e Z.X.env) :: starEach es Z.X.env:=by rfl) (hpl:(backTo pos (starEach es Z.X.env)).any (·.1) = false:=by rfl):ET Z ρ O (.Call (.Name x p) (e :: es) [] pos) t:=fun Φ q => KB hc hm hv (h _ (hp Φ q)) hg hn hdb he hpl
theorem Em {id:String} {r:List V→Hp→VK→Prop} (hc:BQ Z.X (.type id) r) (hm:Z.X.mg x = none) (hv:bootBuiltins x = some (.type id)) (h:EA Z ρ O (e :: es) ts) (hp:CP Z.K r ts O t) (hg:Gl Z.X x:=by rfl) (hn:x≠"__name__":=by decide) (hdb:(x == ("__debug__" : Str)) = false:=by decide)
  (he:starEach (e :: es) Z.X.env = (false,eval e Z.X.env) :: starEach es Z.X.env:=by rfl) (hpl:(backTo pos (starEach es Z.X.env)).any (·.1) = false:=by rfl):ET Z ρ O (.Call (.Name x p) (e :: es) [] pos) t:=fun Φ q => Hb hc hm hv (h _ (hp Φ q)) hg hn hdb he hpl
def MT (K:PySem.W.Frag) (ty:String) (r:V→List V→Hp→VK→Prop) (t:T) (ts:List T) (O:AL) (Φ:BX):Prop:=∀ H v vs Q,OwnOk K O H→Rep K O H v t→Reps K O H vs ts→Acc K O H Φ Q→r v vs H Q
def ZP (K:PySem.W.Frag) (ty:String) (O:AL) (t:T):Prop:=∀ H v,OwnOk K O H→Rep K O H v t→ZH K ty v H
theorem Pf {o:Expr} {name:Str} {apos cpos:Pos} {ty id:String} {r:V→List V→Hp→VK→Prop} (pa:PlainAttrs ty) (slot:Slot ty name id) (hty:typeOf (.builtin id) = pure (.type "method_descriptor")) (hm:Zo Z.X id r)
  (h:WE Z ρ O o fun t O1 => ZP Z.K ty O1 t∧WA Z ρ O1 (e :: es) fun ts O2 => MT Z.K ty r t ts O2 Φ)
  (hbase:attributeBase o name Z.X.env (eval o Z.X.env) = eval o Z.X.env:=by rfl)
  (hfew:((backTo cpos (starEach (e :: es) Z.X.env)).all (fun x => !x.1) && (backToKw cpos (keywordEach [] Z.X.env)).all (fun x => x.1.isSome)
   && decide ((e :: es).length + ([]:List Keyword).length + (if ([]:List Keyword).isEmpty then 0 else 1) < 30)) = true:=by rfl)
  (hline:(apos.endLine == cpos.line) = true:=by rfl) (hs:starEach (e :: es) Z.X.env = (false,eval e Z.X.env) :: starEach es Z.X.env:=by rfl) (hplain:(backTo cpos (starEach es Z.X.env)).any (·.1) = false:=by rfl):WE Z ρ O (.Call (.Attribute o name apos) (e :: es) [] cpos) Φ :=
 PE.weak (Ov pa slot hty hm (BN (ρ:=ρ)) (Jw (ρ:=ρ)) hbase hfew hline hs hplain) fun σ H Q q => ⟨O,_,h,q.1,fun v H1 t O1 ⟨ty,p⟩ f1 r1 => ⟨ty H1 v f1.ok r1,O1,_,p,q.1.step f1,fun vs H2 ts O2 p2 f2 r2 =>
  p2 H2 v vs Q f2.ok (r1.kp f2.kp f1.ok) r2 (q.2.step (f1.trans f2))⟩⟩
theorem Mr {a:Addr} (ha:O a = some ts):ZP K "list" O (.raw (.ref a)):=fun H v ok r => by
 cases r.raw_inv
 obtain ⟨xs,h,_⟩:=ok a ts ha
 exact .inl ⟨rfl,xs,.inl (.inl h)⟩
theorem SL:ZP K "list" O (.lst ts):=fun H v ok r => by
 obtain ⟨a,xs,rfl,h,_⟩:=r.lst_inv
 exact .inl ⟨rfl,xs,.inl (.inl h)⟩
theorem Le {a:Addr} {u:T} (ha:O a = some ts) (hl:ts.length < sizeLine) (p:Φ .non (Ae O a (ts ++ [u]))):MT K "list" MY (.raw (.ref a)) [u] O Φ:=fun H v vs Q ok r1 r2 q => by
 cases r1.raw_inv
 obtain ⟨w,rfl,r3⟩:=r2.one_inv
 obtain ⟨xs,h,r⟩:=ok a ts ha
 exact ⟨a,xs,w,rfl,rfl,h,by rw [r.length]; exact hl,q _ _ _ _ p (.put ok ha (r.append (.one r3))) .non⟩
theorem En {o:Expr} {apos cpos:Pos} (h:WE Z ρ O o fun t O1 => ∃ a,t = .raw (.ref a)∧(∃ ts,O1 a = some ts)∧WE Z ρ O1 e fun u O2 => ∃ ts,O2 a = some ts∧ts.length < sizeLine∧Φ .non (Ae O2 a (ts ++ [u])))
  (hbase:attributeBase o "append" Z.X.env (eval o Z.X.env) = eval o Z.X.env:=by rfl)
  (hfew:((backTo cpos (starEach [e] Z.X.env)).all (fun x => !x.1) && (backToKw cpos (keywordEach [] Z.X.env)).all (fun x => x.1.isSome)
   && decide ([e].length + ([]:List Keyword).length + (if ([]:List Keyword).isEmpty then 0 else 1) < 30)) = true:=by rfl)
  (hline:(apos.endLine == cpos.line) = true:=by rfl) (hs:starEach [e] Z.X.env = (false,eval e Z.X.env) :: starEach [] Z.X.env:=by rfl) (hplain:(backTo cpos (starEach [] Z.X.env)).any (·.1) = false:=by rfl):WE Z ρ O (.Call (.Attribute o "append" apos) [e] [] cpos) Φ:=by
 refine Pf PySem.F.plainAttrs_list PySem.F.slot_list_append PySem.F.type_list_append HK (DT h ?_) hbase hfew hline hs hplain
 rintro t O1 ⟨a,rfl,⟨ts,hts⟩,w⟩
 refine ⟨Mr hts,DU (DT w ?_) hs⟩
 rintro u O2 ⟨us,h1,h2,p⟩
 exact BE (Le h1 h2 p)
end
abbrev Ic:=List (Option T)→AL→Prop
structure Es where
 nx:Ic
 rt:BX
 bk:Ic:=fun _ _ => False
 ct:Ic:=fun _ _ => False
def AccN (Z:Zx) (O:AL) (H:Hp) (N:Ic) (D:St→Hp→Prop):Prop:=∀ ρ' O' σ' H',N ρ' O'→Asr Z ρ' O' σ' H'→Kp O H O' H'→D σ' H'
structure AccS (Z:Zx) (O:AL) (H:Hp) (Ψ:Es) (D:Ends):Prop where
 nx:AccN Z O H Ψ.nx D.nx
 rt:∀ v H' t O',Ψ.rt t O'→Frm Z.K Z.Oe Z.He O' H'→Rep Z.K O' H' v t→D.rt v H'
 bk:AccN Z O H Ψ.bk D.bk
 ct:AccN Z O H Ψ.ct D.ct
def tS (Z:Zx) (ρ:List (Option T)) (O:AL) (Ψ:Es):TS:=fun D σ H => Asr Z ρ O σ H∧AccS Z O H Ψ D
def WS (Z:Zx) (ρ:List (Option T)) (O:AL) (s:Stmt) (Ψ:Es):Prop:=PS Z.X s (tS Z ρ O Ψ)
def DW (Z:Zx) (ρ:List (Option T)) (O:AL) (s:List Stmt) (Ψ:Es):Prop:=PSs Z.X s (tS Z ρ O Ψ)
def aJ (Z:Zx) (ss:List Stmt):TS:=fun D σ H => ∃ ρ O Ψ,DW Z ρ O ss Ψ∧tS Z ρ O Ψ D σ H
theorem KC {Z:Zx} {ss:List Stmt}:PSs Z.X ss (aJ Z ss):=fun pins s σ H D I ⟨_,_,_,w,q⟩ => w pins s σ H D I q
section
variable {Z:Zx} {ρ:List (Option T)} {O O1:AL} {e a b c:Expr} {es:List Expr} {Ψ:Es} {pos p:Pos} {t ta tb:T} {ts:List T} {i j:Nat} {x:Str} {s:Stmt} {ss:List Stmt} {H H1:Hp} {D:Ends}
theorem AccN.step {N:Ic} {D:St→Hp→Prop} (h:AccN Z O H N D) (k:Kp O H O1 H1):AccN Z O1 H1 N D:=fun ρ' O' σ' H' n a k' => h ρ' O' σ' H' n a (k.trans k')
theorem AccS.step (h:AccS Z O H Ψ D) (k:Kp O H O1 H1):AccS Z O1 H1 Ψ D:=⟨h.nx.step k,h.rt,h.bk.step k,h.ct.step k⟩
theorem Ab (h:Ψ.nx ρ O):DW Z ρ O [] Ψ:=PSs.weak EC fun D σ H q => q.2.nx ρ O σ H h q.1 .refl
theorem AC (h:WS Z ρ O s { Ψ with nx:=fun ρ' O' => DW Z ρ' O' ss Ψ }):DW Z ρ O (s :: ss) Ψ :=
 PSs.weak (Bd h KC) fun D σ H q => ⟨q.1,fun ρ' O' σ' H' w a k => ⟨ρ',O',Ψ,w,a,q.2.step k⟩,q.2.rt,q.2.bk,q.2.ct⟩
theorem AF (h:WS Z ρ O s Ψ):DW Z ρ O [s] Ψ:=PSs.weak (Bm h) fun _ _ _ q => q
theorem FQ {Ψ':Es} (h:WS Z ρ O s Ψ) (n:∀ ρ' O',Ψ.nx ρ' O'→Ψ'.nx ρ' O') (r:∀ t O',Ψ.rt t O'→Ψ'.rt t O') (bk:∀ ρ' O',Ψ.bk ρ' O'→Ψ'.bk ρ' O') (ct:∀ ρ' O',Ψ.ct ρ' O'→Ψ'.ct ρ' O'):WS Z ρ O s Ψ' :=
 PS.weak h fun D σ H q => ⟨q.1,fun ρ' O' σ' H' w => q.2.nx ρ' O' σ' H' (n ρ' O' w),fun v H' t O' w => q.2.rt v H' t O' (r t O' w),fun ρ' O' σ' H' w => q.2.bk ρ' O' σ' H' (bk ρ' O' w),fun ρ' O' σ' H' w => q.2.ct ρ' O' σ' H' (ct ρ' O' w)⟩
theorem CM {p:Addr} {n:Nat} (hp:O p = some ts) (he:Z.Oe p = none) (hn:ρ[n]? = some (some (.raw (.ref p)))) (h:DW Z (ρ.set n (some (.lst ts))) (DE O p) ss Ψ):DW Z ρ O ss Ψ:=PSs.weak h fun D σ H q => by
 refine ⟨⟨?_,⟨q.1.fr.kp.trans Cf,fun b us e => ?_,q.1.ok.drop⟩⟩,q.2.step Cf⟩
 ·have r1:=q.1.rl.kp (Cf (a:=p)) q.1.ok
  obtain ⟨v,e1,e2⟩:=q.1.rl.2 n _ hn
  cases e2.raw_inv
  have r2:=r1.set (i:=n) (q.1.ok.rep hp)
  have:σ.set n (some (.ref p)) = σ:=by
   apply List.ext_getElem?
   intro m
   by_cases hm:m = n
   ·subst hm
    have hl:m < σ.length:=(List.getElem?_eq_some_iff.mp e1).1
    rw [List.getElem?_set_self hl,e1]
   ·rw [List.getElem?_set_ne (Ne.symm hm)]
  rw [this] at r2
  exact r2
 ·obtain ⟨us',e'⟩:=q.1.fr.own b us e
  have:b≠p:=fun z => by rw [z,he] at e; cases e
  exact ⟨us',by rw [EK this]; exact e'⟩
theorem AR (h:WE Z ρ O e Ψ.rt):WS Z ρ O (.Return (some e) pos) Ψ:=PS.weak (CU h) fun D σ H q => ⟨q.1,fun v H' t O' p f r => q.2.rt v H' t O' p (q.1.fr.trans f) r⟩
theorem Ao (h:WE Z ρ O e fun _ O' => Ψ.nx ρ O') (hs:swapsWith e none pos.line Z.X.env = pure false:=by rfl):WS Z ρ O (.Expr e pos) Ψ :=
 PS.weak (Rg h hs) fun D σ H q => ⟨q.1,fun v H' t O' p f r => q.2.nx ρ O' σ H' p (q.1.step f) f.kp⟩
theorem AG (i:Nat) (h:WE Z ρ O e fun t O' => Ψ.nx (ρ.set i (some t)) O') (hN:Z.X.N.Nodup) {pos':Pos} (hi:Z.X.N[i]? = some x:=by rfl) (hx:NX Z.X.env.scope x:=by first | exact Or.inl rfl | exact Or.inr rfl) (hs:swapsWith e (some (.Name x pos')) pos.line Z.X.env = pure false:=by rfl)
  (hf:Z.X.fn x = true∨Z.X.env.scope.names.lookup x = some .local:=by first | exact .inl rfl | exact .inr rfl):WS Z ρ O (.Assign [.Name x pos'] e pos) Ψ :=
 PS.weak (IA hN hi hx h hs hf) fun D σ H q => ⟨q.1,fun v H' t O' p f r => q.2.nx _ O' _ H' p ⟨(q.1.step f).rl.set r,(q.1.step f).fr⟩ f.kp⟩
theorem GF {op:Operator} {ti:Wl} (i:Nat) {pos':Pos} (ho:Yd Z.X op ti) (hρ:ρ[i]? = some (some ta)) (h:WE Z ρ O e fun tb O1 => RT Z.K ti ta tb O1 fun t O2 => Ψ.nx (ρ.set i (some t)) O2) (hN:Z.X.N.Nodup) (hi:Z.X.N[i]? = some x:=by rfl) (hx:NX Z.X.env.scope x:=by first | exact Or.inl rfl | exact Or.inr rfl)
  (hf:Z.X.fn x = true∨Z.X.env.scope.names.lookup x = some .local:=by first | exact .inl rfl | exact .inr rfl):WS Z ρ O (.AugAssign (.Name x pos') op e pos) Ψ :=
 PS.weak (Ud hN hi hx h ho hf) fun D σ H q => by
  obtain ⟨v,e1,r1⟩:=q.1.rl.2 i _ hρ
  exact ⟨v,e1,q.1,fun w H1 tb O1 p f r => p H1 v w _ f.ok (r1.kp f.kp q.1.ok) r fun z H2 t O2 p2 f2 r2 => q.2.nx _ O2 _ H2 p2 ⟨(q.1.step (f.trans f2)).rl.set r2,(q.1.step (f.trans f2)).fr⟩ (f.trans f2).kp⟩
theorem Pg {ea eb:List Stmt} (h:WT Z ρ O c fun k O1 => if k = true then DW Z ρ O1 ea Ψ else DW Z ρ O1 eb Ψ):WS Z ρ O (.If c ea eb pos) Ψ :=
 PS.weak (JU h KC KC) fun D σ H q => ⟨q.1,fun k H1 O1 p f => by
  cases k with
  | true => rw [if_pos rfl] at p ⊢; exact ⟨ρ,O1,Ψ,p,q.1.step f,q.2.step f.kp⟩
  | false => rw [if_neg Bool.false_ne_true] at p ⊢; exact ⟨ρ,O1,Ψ,p,q.1.step f,q.2.step f.kp⟩⟩
theorem AZ {ea eb:List Stmt} {k:Bool} (hc:EB Z ρ O c k) (h1:k = true→DW Z ρ O ea Ψ) (h2:k = false→DW Z ρ O eb Ψ):WS Z ρ O (.If c ea eb pos) Ψ:=Pg (hc _ (by
 cases k with
 | true => rw [if_pos rfl]; exact h1 rfl
 | false => rw [if_neg Bool.false_ne_true]; exact h2 rfl))
def tG (Z:Zx) (n:Nat) (ρ:List (Option T)) (O:AL) (t:T) (ρ':List (Option T)):TG:=fun v σ H Q => Asr Z ρ O σ H∧Rep Z.K O H v t∧∀ σ',Asr Z ρ' O σ' H→(σ'.length = σ.length∧∀ j,n≤j→σ'[j]? = σ[j]?)→Q σ' H
def WG (Z:Zx) (n:Nat) (ρ:List (Option T)) (O:AL) (tg:Expr) (t:T) (ρ':List (Option T)):Prop:=PG Z.X tg (tG Z n ρ O t ρ')
theorem PG.weak {X:Cx} {e:Expr} {t t':TG} (h:PG X e t) (w:∀ v σ H Q,t' v σ H Q→t v σ H Q):PG X e t':=fun pins s σ H v u Q I r q => h pins s σ H v u Q I r (w v σ H Q q)
def aK (Z:Zx) (n:Nat) (tg:Expr):TG:=fun v σ H Q => ∃ ρ O t ρ',WG Z n ρ O tg t ρ'∧tG Z n ρ O t ρ' v σ H Q
theorem ZQ {n:Nat} {tg:Expr}:PG Z.X tg (aK Z n tg):=fun pins s σ H v u Q I r ⟨_,_,_,_,w,q⟩ => w pins s σ H v u Q I r q
theorem AS (i:Nat) {n:Nat} (hN:Z.X.N.Nodup) (hn:i < n) (hi:Z.X.N[i]? = some x:=by rfl) (hx:NX Z.X.env.scope x:=by first | exact Or.inl rfl | exact Or.inr rfl)
  (hf:Z.X.fn x = true∨Z.X.env.scope.names.lookup x = some .local:=by first | exact .inl rfl | exact .inr rfl):WG Z n ρ O (.Name x pos) t (ρ.set i (some t)) :=
 PG.weak (DM hN hi hx hf) fun v σ H Q q => q.2.2 _ ⟨q.1.rl.set q.2.1,q.1.fr⟩ ⟨by simp,fun j hj => by rw [List.getElem?_set_ne (by omega)]⟩
theorem EO (i j:Nat) {n:Nat} {y:Str} {p1 p2:Pos} {k:Nat} (hc:Z.X.calm = true) (hN:Z.X.N.Nodup) (hni:i < n) (hnj:j < n) (hi:Z.X.N[i]? = some x:=by rfl) (hj:Z.X.N[j]? = some y:=by rfl) (hx:NX Z.X.env.scope x:=by first | exact Or.inl rfl | exact Or.inr rfl) (hy:NX Z.X.env.scope y:=by first | exact Or.inl rfl | exact Or.inr rfl)
  (hf:Z.X.fn x = true∨Z.X.env.scope.names.lookup x = some .local:=by first | exact .inl rfl | exact .inr rfl) (hf2:Z.X.fn y = true∨Z.X.env.scope.names.lookup y = some .local:=by first | exact .inl rfl | exact .inr rfl)
  (hs:(assignEach [.Name x p1,.Name y p2] Z.X.env).map (·.2) = assign (.Name x p1) Z.X.env :: (assignEach [.Name y p2] Z.X.env).map (·.2):=by rfl) (hs2:(assignEach [.Name y p2] Z.X.env).map (·.2) = assign (.Name y p2) Z.X.env :: (assignEach [] Z.X.env).map (·.2):=by rfl)
  (hl:(assignEach [.Name x p1,.Name y p2] Z.X.env).length = 2:=by rfl) (hst:(assignEach [.Name x p1,.Name y p2] Z.X.env).findIdx? (·.1) = none:=by rfl) :
  WG Z n ρ O (.Tuple [.Name x p1,.Name y p2] k pos) (.tup [ta,tb]) ((ρ.set i (some ta)).set j (some tb)) :=
 PG.weak (Of hc (Cz (DM hN hi hx hf) (Cz (DM hN hj hy hf2) MP hs2) hs) hl hst) fun v σ H Q q => by
  obtain ⟨q1,q2,q3⟩:=q
  obtain ⟨a,xs,rfl,h1,r⟩:=q2.tup_inv
  obtain ⟨v,w,rfl,r1,r2⟩:=r.two_inv
  exact ⟨a,_,rfl,.inl (.inl h1),rfl,v,_,rfl,w,_,rfl,rfl,q3 _ ⟨(q1.rl.set r1).set r2,q1.fr⟩ ⟨by simp,fun m hm => by rw [List.getElem?_set_ne (by omega),List.getElem?_set_ne (by omega)]⟩⟩
theorem GG {o ix:Expr} {px:Pos} (h:WE Z ρ O e fun t O1 => WE Z ρ O1 o fun u O2 => ∃ a,u = .raw (.ref a)∧WE Z ρ O2 ix fun w O3 => ∃ ts k m,w = .int k∧O3 a = some ts∧Oq ts.length k = some m∧Ψ.nx ρ (Ae O3 a (ts.set m t)))
  (ha:∀ v,assign (.Subscript o ix px) Z.X.env v = (do
   let ov ← holding [v] (eval o Z.X.env)
   let iv ← holding [v,ov] (eval ix Z.X.env)
   standAt px
   holding [v,ov,iv] (setItem ov iv v)
   release [v,ov,iv] []):=by intro _; rfl)
  (hs:swapsWithSole [.Subscript o ix px] e pos.line Z.X.env = pure false:=by rfl) (hw:swappedStores [.Subscript o ix px] e Z.X.env = pure none:=by rfl)
  (h1:(assignEach [.Subscript o ix px] Z.X.env).map (·.2) = [assign (.Subscript o ix px) Z.X.env]:=by rfl):WS Z ρ O (.Assign [.Subscript o ix px] e pos) Ψ:=by
 refine PS.weak (Ub h (Ua (BN (ρ:=ρ)) (BN (ρ:=ρ)) Ot ha) hs hw h1) fun D σ H q => ⟨q.1,fun v H1 t O1 p1 f1 r1 => ?_⟩
 refine ⟨O1,_,p1,q.1.step f1,?_⟩
 rintro vo H2 _ O2 ⟨a,rfl,p2⟩ f2 r2
 refine ⟨O2,_,p2,q.1.step (f1.trans f2),?_⟩
 rintro vi H3 _ O3 ⟨ts,k,m,rfl,ho,hm,p3⟩ f3 r3
 cases r2.raw_inv
 obtain ⟨xs,hx,rx⟩:=f3.ok a ts ho
 have r1':=(r1.kp f2.kp f1.ok).kp f3.kp f2.ok
 have f:=f1.trans (f2.trans (f3.trans (Frm.put f3.ok ho (rx.set r1' m))))
 exact ⟨a,xs,k,m,rfl,r3.int_inv,hx,by rw [rx.length]; exact hm,q.2.nx ρ _ σ _ p3 (q.1.step f) f.kp⟩
def Lf (K:PySem.W.Frag) (J:It) (O:AL) (H:Hp) (ts:List T):Prop:=∀ O' H',Kp O H O' H'→OwnOk K O' H' →
 (∀ i,i < ts.length→J.go i H')∧(∀ i x H'',J.yld i H' x H''→∀ t,ts[i]? = some t→Frm K O' H' O' H''∧Rep K O' H'' x t)∧∀ i,ts.length≤i→J.stop i H'
def WI (Z:Zx) (ρ:List (Option T)) (O:AL) (tg iter:Expr) (Φ:LX):Prop:=PI Z.X tg iter fun σ H R => Asr Z ρ O σ H∧∀ J H' ts O',Φ ts O'→Frm Z.K O H O' H'→Lf Z.K J O' H' ts→R J H'
theorem PI.weak {X:Cx} {tg e:Expr} {t t':TI} (h:PI X tg e t) (w:∀ σ H R,t' σ H R→t σ H R):PI X tg e t':=fun pins s σ H R I q => h pins s σ H R I (w σ H R q)
theorem OE {K:PySem.W.Frag} {a:Addr} {xs:List V} (ok:OwnOk K O H) (h:H a = some (.lst xs)) (n:O a = none) (r:Reps K O H xs ts):Lf K (Yy K a) O H ts:=fun O' H' k ok' => by
 have h':=(k.lst h n).1
 have r':=r.kp k ok
 refine ⟨fun i hi => ?_,fun i x H'' y t e => ?_,fun i hi => ⟨xs,.inl (.inl h'),by rw [r.length]; exact hi⟩⟩
 ·obtain ⟨v,e,_⟩:=r'.get (i:=i) (t:=ts[i]) (by simp [hi])
  exact ⟨xs,v,.inl (.inl h'),e⟩
 ·obtain ⟨rfl,y⟩:=y
  obtain ⟨v,e',q⟩:=r'.get e
  have:=y xs (.inl (.inl h'))
  rw [e'] at this; cases this
  exact ⟨.refl ok',q⟩
theorem Ph {K:PySem.W.Frag} {a:Addr} {xs:List V} (ok:OwnOk K O H) (h:H a = some (.tup xs)) (r:Reps K O H xs ts):Lf K (Yz K a) O H ts:=fun O' H' k ok' => by
 have h':JT K H' a xs:=.inl (.inl (k.oth ok h fun _ z => by cases z))
 have r':=r.kp k ok
 refine ⟨fun i hi => ?_,fun i x H'' y t e => ?_,fun i hi => ⟨xs,h',by rw [r.length]; exact hi⟩⟩
 ·obtain ⟨v,e,_⟩:=r'.get (i:=i) (t:=ts[i]) (by simp [hi])
  exact ⟨xs,v,h',e⟩
 ·obtain ⟨rfl,y⟩:=y
  obtain ⟨v,e',q⟩:=r'.get e
  have:=y xs h'
  rw [e'] at this; cases this
  exact ⟨.refl ok',q⟩
def GH (lo:Int) (n:Nat):List T:=(List.range n).map fun (i:Nat) => T.int (lo + i)
theorem BR {lo:Int} {n:Nat}:(GH lo n).length = n:=by simp [GH]
theorem EQ {lo:Int} {n i:Nat} (h:(GH lo n)[i]? = some t):i < n∧t = .int (lo + i):=by
 unfold GH at h
 rw [List.getElem?_map] at h
 by_cases hi:i < n
 ·rw [List.getElem?_range hi] at h
  cases h
  exact ⟨hi,rfl⟩
 ·rw [List.getElem?_eq_none (by simpa using hi)] at h
  cases h
theorem KD {K:PySem.W.Frag} {lo:Int} {n:Nat}:Lf K (Wo lo n) O H (GH lo n):=fun O' H' k ok' => by
 refine ⟨fun i hi => by rwa [BR] at hi,fun i x H'' y t e => ?_,fun i hi => by rwa [BR] at hi⟩
 obtain ⟨rfl,rfl⟩:=y
 obtain ⟨_,rfl⟩:=EQ e
 exact ⟨.refl ok',.int _⟩
theorem Ms {tg:Expr} {Φ:LX} (h:WE Z ρ O e fun t O' => ∃ ts,t = .lst ts∧Φ ts O'):WI Z ρ O tg e Φ:=PI.weak (Rh h) fun σ H R q => ⟨q.1,by
 rintro v H' _ O' ⟨ts,rfl,p⟩ f r
 obtain ⟨a,xs,rfl,h1,n,r⟩:=r.lst_inv
 exact ⟨a,rfl,⟨xs,.inl (.inl h1)⟩,q.2 _ H' ts O' p f (OE f.ok h1 n r)⟩⟩
theorem Pi {tg:Expr} {Φ:LX} (h:WE Z ρ O e fun t O' => ∃ ts,t = .tup ts∧Φ ts O'):WI Z ρ O tg e Φ:=PI.weak (Uf h) fun σ H R q => ⟨q.1,by
 rintro v H' _ O' ⟨ts,rfl,p⟩ f r
 obtain ⟨a,xs,rfl,h1,r⟩:=r.tup_inv
 exact ⟨a,rfl,⟨xs,.inl (.inl h1)⟩,q.2 _ H' ts O' p f (Ph f.ok h1 r)⟩⟩
theorem OF {tg:Expr} {Φ:LX} (hm:Z.X.mg "range" = none) (h:WA Z ρ O [a] fun ts O' => ∃ j:Int,ts = [.int j]∧-(2 ^ 62)≤j∧j < 2 ^ 62∧Φ (GH 0 j.toNat) O') (hg:Gl Z.X "range":=by rfl) (hs:starEach [a] Z.X.env = [(false,eval a Z.X.env)]:=by rfl):WI Z ρ O tg (.Call (.Name "range" p) [a] [] pos) Φ :=
 PI.weak (NZ hg hm h hs) fun σ H R q => ⟨q.1,by
  rintro vs H' _ O' ⟨j,rfl,h1,h2,p⟩ f r
  obtain ⟨v,rfl,r'⟩:=r.one_inv
  exact ⟨j,by rw [r'.int_inv],h1,h2,q.2 _ H' _ O' p f KD⟩⟩
theorem OG {tg:Expr} {Φ:LX} (hm:Z.X.mg "range" = none) (h:WA Z ρ O [a,b] fun ts O' => ∃ i j:Int,ts = [.int i,.int j]∧(-(2 ^ 62)≤i∧i < 2 ^ 62∧-(2 ^ 62)≤j∧j < 2 ^ 62)∧Φ (GH i (j - i).toNat) O') (hg:Gl Z.X "range":=by rfl) (hs:starEach [a,b] Z.X.env = [(false,eval a Z.X.env),(false,eval b Z.X.env)]:=by rfl) (hs2:starEach [b] Z.X.env = [(false,eval b Z.X.env)]:=by rfl):WI Z ρ O tg (.Call (.Name "range" p) [a,b] [] pos) Φ :=
 PI.weak (Na hg hm h hs hs2) fun σ H R q => ⟨q.1,by
  rintro vs H' _ O' ⟨i,j,rfl,h1,p⟩ f r
  obtain ⟨v,w,rfl,r1,r2⟩:=r.two_inv
  exact ⟨i,j,by rw [r1.int_inv,r2.int_inv],h1,q.2 _ H' _ O' p f KD⟩⟩
def EI (Z:Zx) (ρ:List (Option T)) (O:AL) (tg iter:Expr) (ts:List T):Prop:=∀ Φ:LX,Φ ts O→WI Z ρ O tg iter Φ
theorem Ak {tg:Expr} (h:ET Z ρ O e (.lst ts)):EI Z ρ O tg e ts:=fun Φ p => Ms (h _ ⟨ts,rfl,p⟩)
theorem Pj {tg:Expr} (h:ET Z ρ O e (.tup ts)):EI Z ρ O tg e ts:=fun Φ p => Pi (h _ ⟨ts,rfl,p⟩)
theorem As {tg:Expr} {k:Int} (hm:Z.X.mg "range" = none) (h:ET Z ρ O a (.int k)) (h1 : -(2 ^ 62)≤k∧k < 2 ^ 62) (hg:Gl Z.X "range":=by rfl) (hs:starEach [a] Z.X.env = [(false,eval a Z.X.env)]:=by rfl):EI Z ρ O tg (.Call (.Name "range" p) [a] [] pos) (GH 0 k.toNat):=fun Φ q => OF hm (AU h AD hs _ ⟨k,rfl,h1.1,h1.2,q⟩) hg hs
theorem Hc {tg:Expr} {k l:Int} (hm:Z.X.mg "range" = none) (h:ET Z ρ O a (.int k)) (h2:ET Z ρ O b (.int l)) (h1 : -(2 ^ 62)≤k∧k < 2 ^ 62∧-(2 ^ 62)≤l∧l < 2 ^ 62) (hg:Gl Z.X "range":=by rfl) (hs:starEach [a,b] Z.X.env = [(false,eval a Z.X.env),(false,eval b Z.X.env)]:=by rfl) (hs2:starEach [b] Z.X.env = [(false,eval b Z.X.env)]:=by rfl):EI Z ρ O tg (.Call (.Name "range" p) [a,b] [] pos) (GH k (l - k).toNat) :=
 fun Φ q => OG hm (AU h (AU h2 AD hs2) (by rw [hs,hs2]) _ ⟨k,l,rfl,h1,q⟩) hg hs hs2
theorem BP {tg iter:Expr} {body:List Stmt} (hp:PassesOwn (model Z.X.prog Z.X.w) Z.X.A Z.X.env Z.X.xe) (hc:Z.X.calm = true)
  (h:WI Z ρ O tg iter fun ts O1 => ∃ I:Nat→Ic,I 0 ρ O1∧(∀ i t ρ' O',ts[i]? = some t→I i ρ' O'→∃ ρ2,WG Z Z.X.N.length ρ' O' tg t ρ2∧DW Z ρ2 O' body { nx:=I (i + 1),rt:=Ψ.rt,bk:=Ψ.nx,ct:=I (i + 1) })∧∀ ρ' O',I ts.length ρ' O'→Ψ.nx ρ' O')
  (hs:∀ x,foldedSetIterable iter Z.X.env x = pure x:=by intro _; rfl):WS Z ρ O (.For tg iter body [] pos) Ψ:=by
 refine PS.weak (Ug hp hc h (ZQ (n:=Z.X.N.length)) KC hs) fun D σ H q => ⟨q.1,?_⟩
 rintro J H1 ts O1 ⟨I,i0,step,fin⟩ f1 it
 refine ⟨fun i m σ' H' => m = ts.length - i∧i≤ts.length∧∃ ρ' O',I i ρ' O'∧Asr Z ρ' O' σ' H'∧Kp O1 H1 O' H',⟨ts.length,by simp,Nat.zero_le _,ρ,O1,i0,q.1.step f1,.refl⟩,?_⟩
 rintro i m σ2 H2 ⟨rfl,hi,ρ2,O2,i2,a2,k2⟩
 obtain ⟨g1,g2,g3⟩:=it O2 H2 k2 a2.ok
 by_cases hlt:i < ts.length
 ·refine .inr ⟨g1 i hlt,fun σ' H' => ∃ ρ' O',I (i + 1) ρ' O'∧Asr Z ρ' O' σ' H'∧Kp O1 H1 O' H',fun σ' H' w => ⟨_,by omega,rfl,by omega,w⟩,fun x H3 y => ?_⟩
  obtain ⟨f3,r3⟩:=g2 i x H3 y ts[i] (by simp [hlt])
  obtain ⟨ρ3,wg,wb⟩:=step i ts[i] ρ2 O2 (by simp [hlt]) i2
  refine ⟨ρ2,O2,_,ρ3,wg,a2.step f3,r3,fun σ3 a3 _ => ⟨ρ3,O2,_,wb,a3,?_⟩⟩
  have kk:=(k2.trans f3.kp)
  exact ⟨fun ρ' O' σ' H' w a k => ⟨ρ',O',w,a,kk.trans k⟩,q.2.rt,fun ρ' O' σ' H' w a k => q.2.nx ρ' O' σ' H' w a (f1.kp.trans (kk.trans k)),fun ρ' O' σ' H' w a k => ⟨ρ',O',w,a,kk.trans k⟩⟩
 ·have:i = ts.length:=by omega
  subst this
  exact .inl ⟨g3 _ (Nat.le_refl _),q.2.nx ρ2 O2 σ2 H2 (fin ρ2 O2 i2) a2 (f1.kp.trans k2)⟩
end
def zc (X:Cx) (Oe:AL) (He:Hp):Zx:=⟨X,Oe,He,fun _ _ => False⟩
def FD (nc:List Str) (ρ:List (Option T)) (cap:List (Str × Nat)):List (Option T):=List.replicate nc.length none ++ cap.map fun q => (ρ[q.2]?).join
def Yj (Z:Zx) (ρ:List (Option T)) (O:AL) (ifs:List Expr) (Φ:IV):Prop:=Uy Z.X ifs (Wd Z ρ O Φ)
theorem At {O:AL} {p:Addr} {ts:List T} (h:O p = none):DE (Ae O p ts) p = O:=by
 funext b
 by_cases hb:b = p
 ·rw [hb,Ce,h]
 ·rw [EK hb,AX hb]
theorem DG {O:AL} {p a:Addr} {ts us:List T} (h:a≠p):Ae (Ae O p ts) a us = Ae (Ae O a us) p ts:=by
 funext b
 unfold Ae
 by_cases h1:b = a
 ·subst h1; rw [if_pos rfl,if_neg h,if_pos rfl]
 ·rw [if_neg h1,if_neg h1]
section
variable {Z:Zx} {ρ:List (Option T)} {O:AL} {elt tg iter:Expr} {ifs:List Expr} {csc:Scope} {nc:List Str} {cap:List (Str × Nat)} {Φ:BX} {pos:Pos}
theorem Id {Φ:IV} (h:Φ true O):Yj Z ρ O [] Φ:=fun pins s σ H Q I q => Rx pins s σ H Q I (q.2 true H O h q.1.refl)
theorem Ie {Φ:IV} {c:Expr} (h:WT Z ρ O c Φ):Yj Z ρ O [c] Φ:=Ry h
theorem Xe {K:PySem.W.Frag} {H:Hp} {σ:St} (r:Rl K O H σ ρ):Rl K O H (Gm nc σ cap) (FD nc ρ cap):=by
 refine ⟨by simp [Bw,FD],fun i t e => ?_⟩
 unfold FD at e
 have hi:nc.length≤i:=by
  by_cases hi:i < nc.length
  ·rw [List.getElem?_append_left (by simpa using hi),List.getElem?_replicate] at e
   split at e <;> cases e
  ·omega
 rw [List.getElem?_append_right (by simpa using hi),List.getElem?_map] at e
 simp only [List.length_replicate] at e
 cases hc:cap[i - nc.length]? with
 | none => rw [hc] at e; cases e
 | some q =>
  rw [hc] at e
  have e:(ρ[q.2]?).join = some t:=Option.some.inj e
  have e':ρ[q.2]? = some (some t):=by
   cases h:ρ[q.2]? with
   | none => rw [h] at e; cases e
   | some w => rw [h] at e; exact congrArg some e
  obtain ⟨v,h1,h2⟩:=r.2 q.2 t e'
  refine ⟨v,?_,h2⟩
  show (List.replicate nc.length (none:Option V) ++ Bw σ cap)[i]? = some (some v)
  rw [List.getElem?_append_right (by simpa using hi)]
  simp only [List.length_replicate]
  unfold Bw
  rw [List.getElem?_map,hc]
  show some (σ[q.2]?).join = _
  rw [h1]
  rfl
theorem Ig {X X':Cx} {Oe:AL} {He:Hp} {Xi Xi':Value→AL→Prop} {σ:St} {H:Hp} (hK:X'.K = X.K) (a:Asr ⟨X,Oe,He,Xi⟩ ρ O σ H):Asr ⟨X',Oe,He,Xi'⟩ ρ O σ H:=by
 obtain ⟨r,f⟩:=a
 refine ⟨?_,?_⟩
 ·show Rl X'.K O H σ ρ
  rw [hK]; exact r
 ·show Frm X'.K Oe He O H
  rw [hK]; exact f
def gA (Z:Zx) (csc:Scope) (nc:List Str) (cap:List (Str × Nat)) (tg:Expr):TG:=fun v σ H Q => ∃ Oe He ρ O t ρ',(∀ X',LcCx Z.X csc (Ah nc cap) X'→WG (zc X' Oe He) nc.length ρ O tg t ρ')∧tG (zc Z.X Oe He) nc.length ρ O t ρ' v σ H Q
def ZR (Z:Zx) (csc:Scope) (nc:List Str) (cap:List (Str × Nat)) (ifs:List Expr):TT:=fun σ H Q => ∃ Oe He ρ O Φ,(∀ X',LcCx Z.X csc (Ah nc cap) X'→Yj (zc X' Oe He) ρ O ifs Φ)∧Wd (zc Z.X Oe He) ρ O Φ σ H Q
def eA (Z:Zx) (csc:Scope) (nc:List Str) (cap:List (Str × Nat)) (e:Expr):TE:=fun σ H Q => ∃ Oe He ρ O Φ,(∀ X',LcCx Z.X csc (Ah nc cap) X'→WE (zc X' Oe He) ρ O e Φ)∧tW (zc Z.X Oe He) ρ O Φ σ H Q
theorem VU {X X':Cx} {N':List Str} (h:LcCx X csc N' X'):X'.K = X.K:=by
 obtain ⟨_,_,_,_,rfl⟩:=h
 rfl
theorem SM:∀ X',LcCx Z.X csc (Ah nc cap) X'→PG X' tg (gA Z csc nc cap tg):=by
 rintro X' is pins s σ H v u Q I r ⟨Oe,He,ρ,O,t,ρ',w,a,rp,k⟩
 refine w X' is pins s σ H v u Q I r ⟨Ig (VU is) a,?_,fun σ' a' h => k σ' (Ig (VU is).symm a') h⟩
 show Rep X'.K O H v t
 rw [VU is]; exact rp
theorem Mt:∀ X',LcCx Z.X csc (Ah nc cap) X'→Uy X' ifs (ZR Z csc nc cap ifs):=by
 rintro X' is pins s σ H Q I ⟨Oe,He,ρ,O,Φ,w,a,k⟩
 refine w X' is pins s σ H Q I ⟨Ig (VU is) a,?_⟩
 intro b H' O' p f
 refine k b H' O' p ?_
 have f:Frm X'.K O H O' H':=f
 rw [VU is] at f; exact f
theorem SN:∀ X',LcCx Z.X csc (Ah nc cap) X'→PE X' elt (eA Z csc nc cap elt):=by
 rintro X' is pins s σ H Q I ⟨Oe,He,ρ,O,Φ,w,a,k⟩
 refine w X' is pins s σ H Q I ⟨Ig (VU is) a,?_⟩
 intro v H' t O' p f r
 have f:Frm X'.K O H O' H':=f
 have r:Rep X'.K O' H' v t:=r
 rw [VU is] at f r
 exact k v H' t O' p f r
def Pk (Z:Zx) (ρ:List (Option T)) (elt tg:Expr) (ifs:List Expr) (csc:Scope) (nc:List Str) (cap:List (Str × Nat)) (F:List T→AL→Prop) (ts:List T) (O1:AL):Prop :=
 ∃ I:Nat→List T→AL→Prop,I 0 [] O1∧(∀ i t acc O' p,ts[i]? = some t→I i acc O'→O' p = none→∃ ρ4,∀ X' Oe He,LcCx Z.X csc (Ah nc cap) X'→WG (zc X' Oe He) nc.length (FD nc ρ cap) (Ae O' p acc) tg t ρ4 ∧
   Yj (zc X' Oe He) ρ4 (Ae O' p acc) ifs fun b O2 => if b = true then ∀ X' Oe He,LcCx Z.X csc (Ah nc cap) X'→WE (zc X' Oe He) ρ4 O2 elt fun y O3 => ∃ O4,O3 = Ae O4 p acc∧O4 p = none∧acc.length < sizeLine∧I (i + 1) (acc ++ [y]) O4
    else ∃ O4,O2 = Ae O4 p acc∧O4 p = none∧I (i + 1) acc O4)∧∀ acc O',I ts.length acc O'→F acc O'
theorem Lg {F:List T→AL→Prop} {σ:St} {H:Hp} {Q:VK} (a:Asr Z ρ O σ H) (h:WI Z ρ O tg iter (Pk Z ρ elt tg ifs csc nc cap F))
  (fin:∀ acc O' p H',F acc O'→O' p = none→Frm Z.K O H (Ae O' p acc) H'→(∀ b us,O b = some us→b≠p)→Q (.ref p) H') :
  Yi (fun σ H R => Asr Z ρ O σ H∧∀ J H' ts O',Pk Z ρ elt tg ifs csc nc cap F ts O'→Frm Z.K O H O' H'→Lf Z.K J O' H' ts→R J H') nc cap (gA Z csc nc cap tg) (ZR Z csc nc cap ifs) (eA Z csc nc cap elt) σ H Q:=by
 refine ⟨a,?_⟩
 rintro J H1 ts O1 ⟨I,i0,step,done⟩ f1 it p hp
 have np:O1 p = none:=f1.ok.none_of hp
 have nb:∀ b us,O1 b = some us→b≠p:=fun b us e z => by rw [z,np] at e; cases e
 have fn:=Frm.newO (ts:=[]) (xs:=[]) f1.ok hp .nil
 refine ⟨fun i m H2 => m = ts.length - i∧i≤ts.length∧∃ acc O',I i acc O'∧O' p = none∧Frm Z.K O1 H1 (Ae O' p acc) H2,⟨ts.length,by simp,Nat.zero_le _,[],O1,i0,np,fn⟩,?_⟩
 rintro i m H2 ⟨rfl,hi,acc,O2,i2,n2,f2⟩
 obtain ⟨g1,g2,g3⟩:=it _ H2 f2.kp f2.ok
 by_cases hlt:i < ts.length
 ·refine .inr ⟨g1 i hlt,fun H' => ∃ acc O',I (i + 1) acc O'∧O' p = none∧Frm Z.K O1 H1 (Ae O' p acc) H',fun H' w => ⟨_,by omega,rfl,by omega,w⟩,fun x H3 y => ?_⟩
  obtain ⟨f3,r3⟩:=g2 i x H3 y ts[i] (by simp [hlt])
  obtain ⟨ρ4,st⟩:=step i ts[i] acc O2 p (by simp [hlt]) i2 n2
  have a3:Asr (zc Z.X (Ae O2 p acc) H3) (FD nc ρ cap) (Ae O2 p acc) (Gm nc σ cap) H3:=⟨Xe ((a.rl.kp f1.kp a.ok).kp (f2.kp.trans f3.kp) f1.ok),.refl f3.ok⟩
  refine ⟨Ae O2 p acc,H3,FD nc ρ cap,Ae O2 p acc,ts[i],ρ4,fun X' is => (st X' _ _ is).1,a3,r3,fun σ4 a4 hag => ⟨?_,?_⟩⟩
  ·refine ⟨σ4.take nc.length,?_,?_⟩
   ·rw [List.length_take,hag.1]
    simp
   ·have e1:σ4.drop nc.length = Bw σ cap:=by
     apply List.ext_getElem?
     intro m
     rw [List.getElem?_drop,hag.2 _ (by omega)]
     show (List.replicate nc.length (none:Option V) ++ Bw σ cap)[nc.length + m]? = _
     rw [List.getElem?_append_right (by simp)]
     simp
    rw [← e1,List.take_append_drop]
  ·refine ⟨Ae O2 p acc,H3,ρ4,Ae O2 p acc,_,fun X' is => (st X' _ _ is).2,a4,?_⟩
   intro b H5 O5 q5 f5
   cases b with
   | false =>
    rw [if_neg Bool.false_ne_true] at q5 ⊢
    obtain ⟨O4,rfl,n4,i4⟩:=q5
    exact ⟨acc,O4,i4,n4,f2.trans (f3.trans f5)⟩
   | true =>
    rw [if_pos rfl] at q5 ⊢
    refine ⟨Ae O2 p acc,H3,ρ4,O5,_,fun X' is => q5 X' _ _ is,a4.step f5,?_⟩
    rintro y H6 t6 O6 ⟨O4,rfl,n4,hlen,i4⟩ f6 r6
    obtain ⟨ys,hys,rys⟩:=f6.ok p acc AH
    refine ⟨ys,hys,by rw [rys.length]; exact hlen,acc ++ [t6],O4,i4,n4,?_⟩
    have fp:=Frm.put (a:=p) f6.ok AH (rys.append (.one r6))
    rw [Ba] at fp
    exact f2.trans (f3.trans (f5.trans (f6.trans fp)))
 ·have:i = ts.length:=by omega
  subst this
  refine .inl ⟨g3 _ (Nat.le_refl _),fin acc O2 p H2 (done acc O2 i2) n2 (f1.trans f2) fun b us e => ?_⟩
  obtain ⟨us',e'⟩:=f1.own b us e
  exact nb b us' e'
theorem Tt {σ:St} {H:Hp} {Q:VK} (h:WI Z ρ O tg iter (Pk Z ρ elt tg ifs csc nc cap fun acc O' => Φ (.lst acc) O')) (q:tW Z ρ O Φ σ H Q) :
  Yi (fun σ H R => Asr Z ρ O σ H∧∀ J H' ts O',Pk Z ρ elt tg ifs csc nc cap (fun acc O' => Φ (.lst acc) O') ts O'→Frm Z.K O H O' H'→Lf Z.K J O' H' ts→R J H') nc cap (gA Z csc nc cap tg) (ZR Z csc nc cap ifs) (eA Z csc nc cap elt) σ H Q:=by
 refine Lg q.1 h fun acc O' p H' p1 n f nb => q.2 _ H' _ O' p1 ?_ ?_
 ·have e:=At (ts:=acc) n
  refine ⟨fun b o e1 e2 => ?_,fun b us e1 => ?_,?_⟩
  ·have:=f.kp.trans (Cf (a:=p)) b o e1 e2
   rw [e] at this; exact this
  ·obtain ⟨us',e2⟩:=f.own b us e1
   rw [AX (nb b us e1)] at e2
   exact ⟨us',e2⟩
  ·have:=f.ok.drop (a:=p)
   rw [e] at this; exact this
 ·have:=f.ok.rep (a:=p) AH
  rw [At n] at this
  exact this
theorem Pl (hc:Z.X.calm = true) (ok:LcOk Z.X csc nc cap) (h:WI Z ρ O tg iter (Pk Z ρ elt tg ifs csc nc cap fun acc O' => Φ (.lst acc) O'))
  (hs:∀ x,foldedSetIterable iter Z.X.env x = pure x:=by intro _; rfl):WE Z ρ O (.ListComp elt [⟨tg,iter,ifs,0⟩] csc pos) Φ :=
 PE.weak (Tl hc ok h SM Mt SN hs) fun σ H Q q => Tt h q
theorem ER {i:Nat} {x:Str} {px spos:Pos} {Ψ:Es} (hsw:swapsWith (.ListComp elt [⟨tg,iter,ifs,0⟩] csc pos) (some (.Name x px)) spos.line Z.X.env = pure true) (hN:Z.X.N.Nodup) (hc:Z.X.calm = true) (ok:LcOk Z.X csc nc cap)
  (h:WI Z ρ O tg iter (Pk Z ρ elt tg ifs csc nc cap fun acc O' => Ψ.nx (ρ.set i (some (.lst acc))) O')) (hx:Z.X.N[i]? = some x:=by rfl) (hk:Z.X.env.scope.names.lookup x = some .local:=by rfl)
  (hs:∀ x,foldedSetIterable iter Z.X.env x = pure x:=by intro _; rfl):WS Z ρ O (.Assign [.Name x px] (.ListComp elt [⟨tg,iter,ifs,0⟩] csc pos) spos) Ψ :=
 PS.weak (Je hN hx hk hsw hc ok h SM Mt SN hs) fun D σ H q => Tt (Φ:=fun t O' => Ψ.nx (ρ.set i (some t)) O') h ⟨q.1,fun v H' t O' p f r => q.2.nx _ O' _ H' p ⟨(q.1.step f).rl.set r,(q.1.step f).fr⟩ f.kp⟩
end
def ZS:T→String
 | .non => "NoneType" | .bl _ => "bool" | .int _ => "int" | .str _ => "str" | .tup _ => "tuple" | .lst _ => "list" | .frz _ => "list" | .dct => "dict" | .raw _ => "object"
def Aa:T→Bool
 | .raw _ => true
 | _ => false
def Tu:T→Bool
 | .int _ => true
 | .bl _ => true
 | _ => false
def Pm:T→Bool
 | .bl _ => true
 | _ => false
def Pn (K:PySem.W.Frag) (c:String) (g:T→Bool):Prop:=∀ t,Aa t = false→PySem.W.kitOne K (.type (ZS t)) (.type c) = some (g t)
section
variable {K:PySem.W.Frag} {O:AL} {H:Hp} {v:V} {t:T}
theorem Rep.ty (r:Rep K O H v t) (hp:Aa t = false):TyOf K H v (.type (ZS t)):=by
 cases r with
 | non => exact .non
 | bl b => exact .bl b
 | int i => exact .int i
 | str i => exact .str i
 | tup h => exact .tup h
 | lst h => exact .lst h
 | frz h => exact .frz h
 | dct h => exact .dK h
 | raw v => cases hp
theorem aL (K:PySem.W.Frag):PySem.W.kitOne K (.type "NoneType") (.type "int") = some false:=by kernel_rfl
theorem aM (K:PySem.W.Frag):PySem.W.kitOne K (.type "bool") (.type "int") = some true:=by kernel_rfl
theorem aN (K:PySem.W.Frag):PySem.W.kitOne K (.type "int") (.type "int") = some true:=by rfl
theorem aO (K:PySem.W.Frag):PySem.W.kitOne K (.type "str") (.type "int") = some false:=by kernel_rfl
theorem aP (K:PySem.W.Frag):PySem.W.kitOne K (.type "tuple") (.type "int") = some false:=by kernel_rfl
theorem Zq (K:PySem.W.Frag):PySem.W.kitOne K (.type "list") (.type "int") = some false:=by kernel_rfl
theorem aQ (K:PySem.W.Frag):PySem.W.kitOne K (.type "dict") (.type "int") = some false:=by kernel_rfl
theorem Mu:Pn K "int" Tu:=fun t h => by
 cases t with
 | non => exact aL K
 | bl b => exact aM K
 | int i => exact aN K
 | str i => exact aO K
 | tup i => exact aP K
 | lst i => exact Zq K
 | frz i => exact Zq K
 | dct => exact aQ K
 | raw v => cases h
theorem aR (K:PySem.W.Frag):PySem.W.kitOne K (.type "NoneType") (.type "bool") = some false:=by kernel_rfl
theorem aS (K:PySem.W.Frag):PySem.W.kitOne K (.type "bool") (.type "bool") = some true:=by rfl
theorem aT (K:PySem.W.Frag):PySem.W.kitOne K (.type "int") (.type "bool") = some false:=by kernel_rfl
theorem aU (K:PySem.W.Frag):PySem.W.kitOne K (.type "str") (.type "bool") = some false:=by kernel_rfl
theorem aV (K:PySem.W.Frag):PySem.W.kitOne K (.type "tuple") (.type "bool") = some false:=by kernel_rfl
theorem Zr (K:PySem.W.Frag):PySem.W.kitOne K (.type "list") (.type "bool") = some false:=by kernel_rfl
theorem aW (K:PySem.W.Frag):PySem.W.kitOne K (.type "dict") (.type "bool") = some false:=by kernel_rfl
theorem KE:Pn K "bool" Pm:=fun t h => by
 cases t with
 | non => exact aR K
 | bl b => exact aS K
 | int i => exact aT K
 | str i => exact aU K
 | tup i => exact aV K
 | lst i => exact Zr K
 | frz i => exact Zr K
 | dct => exact aW K
 | raw v => cases h
theorem VV {c:String} {g:T→Bool} (hk:Pn K c g) (hp:Aa t = false):CP K (XR K) [t,.raw (.ty c)] O (.bl (g t)):=fun Φ p H vs Q ok r q => by
 obtain ⟨v,w,rfl,r1,r2⟩:=r.two_inv
 cases r2.raw_inv
 exact ⟨v,.ty c,.type (ZS t),.type c,g t,rfl,rfl,.inl (r1.ty hp),hk t hp,q _ H _ O p (.refl ok) (.bl _)⟩
theorem VW:bootBuiltins "int" = some (.type "int"):=by decide +kernel
theorem Tv:bootBuiltins "bool" = some (.type "bool"):=by decide +kernel
theorem VX:bootBuiltins "tuple" = some (.type "tuple"):=by decide +kernel
theorem Tw:bootBuiltins "list" = some (.type "list"):=by decide +kernel
theorem Xf:bootBuiltins "set" = some (.type "set"):=by decide +kernel
theorem Gq:bootBuiltins "isinstance" = some (.builtin "isinstance"):=by decide +kernel
theorem VY:bootBuiltins "max" = some (.builtin "max"):=by decide +kernel
theorem Xh:bootBuiltins "min" = some (.builtin "min"):=by decide +kernel
theorem VZ:bootBuiltins "len" = some (.builtin "len"):=by decide +kernel
theorem Ih:bootBuiltins "sorted" = some (.builtin "sorted"):=by decide +kernel
end
section
variable {Z:Zx} {ρ:List (Option T)} {O:AL} {e a b c:Expr} {es:List Expr} {Φ:BX} {pos p:Pos} {t ta tb:T} {ts us:List T} {i j:Int} {x:Str} {lo hi:Expr}
theorem Lh {cn:String} {g:T→Bool} (mI:Z.X.mg "isinstance" = none) (mC:Z.X.mg x = none) (bC:bootBuiltins x = some (.type cn)) (hk:Pn Z.K cn g) (h:ET Z ρ O e t) (hp:Aa t = false) {p1:Pos} (hgi:Gl Z.X "isinstance":=by rfl) (hgc:Gl Z.X x:=by rfl)
  (hn:x≠"__name__":=by decide) (hd:(x == ("__debug__" : Str)) = false:=by decide)
  (he:starEach [e,.Name x p1] Z.X.env = (false,eval e Z.X.env) :: starEach [.Name x p1] Z.X.env:=by rfl):ET Z ρ O (.Call (.Name "isinstance" p) [e,.Name x p1] [] pos) (.bl (g t)) :=
 Bt BM mI Gq (AU h (AU (XY mC bC hgc hn hd) AD) he) (VV hk hp) hgi (by decide) (by decide) he
theorem Po {cn:String} {g:T→Bool} (mI:Z.X.mg "isinstance" = none) (mC:Z.X.mg x = none) (bC:bootBuiltins x = some (.type cn)) (hk:Pn Z.K cn g) (h:ET Z ρ O e t) (hp:Aa t = false) {p1:Pos} (hgi:Gl Z.X "isinstance":=by rfl) (hgc:Gl Z.X x:=by rfl)
  (hn:x≠"__name__":=by decide) (hd:(x == ("__debug__" : Str)) = false:=by decide)
  (he:starEach [e,.Name x p1] Z.X.env = (false,eval e Z.X.env) :: starEach [.Name x p1] Z.X.env:=by rfl):EB Z ρ O (.Call (.Name "isinstance" p) [e,.Name x p1] [] pos) (g t) :=
 EM (Lh mI mC bC hk h hp hgi hgc hn hd he)
theorem SO (m:Z.X.mg "len" = none) (h:ET Z ρ O e (.tup ts)) (hg:Gl Z.X "len":=by rfl) (he:starEach [e] Z.X.env = (false,eval e Z.X.env) :: starEach [] Z.X.env:=by rfl):ET Z ρ O (.Call (.Name "len" p) [e] [] pos) (.int ts.length) :=
 Bt CZ m VZ (AU h AD he) (fun Φ q H vs Q ok r k => by
  obtain ⟨v,rfl,r1⟩:=r.one_inv
  obtain ⟨a,xs,rfl,h1,r1⟩:=r1.tup_inv
  refine ⟨a,xs,rfl,.inr (.inl (.inl h1)),?_⟩
  rw [r1.length]
  exact k _ H _ O q (.refl ok) (.int _)) hg (by decide) (by decide) he
theorem FR (m:Z.X.mg "len" = none) (h:ET Z ρ O e (.lst ts)) (hg:Gl Z.X "len":=by rfl) (he:starEach [e] Z.X.env = (false,eval e Z.X.env) :: starEach [] Z.X.env:=by rfl):ET Z ρ O (.Call (.Name "len" p) [e] [] pos) (.int ts.length) :=
 Bt CZ m VZ (AU h AD he) (fun Φ q H vs Q ok r k => by
  obtain ⟨v,rfl,r1⟩:=r.one_inv
  obtain ⟨a,xs,rfl,h1,_,r1⟩:=r1.lst_inv
  refine ⟨a,xs,rfl,.inl (.inl (.inl h1)),?_⟩
  rw [r1.length]
  exact k _ H _ O q (.refl ok) (.int _)) hg (by decide) (by decide) he
theorem Ii (m:Z.X.mg "min" = none) (hc:Z.X.calm = true) (h:ET Z ρ O a (.int i)) (h2:ET Z ρ O b (.int j)) (hg:Gl Z.X "min":=by rfl) (he:starEach [a,b] Z.X.env = (false,eval a Z.X.env) :: starEach [b] Z.X.env:=by rfl) (he2:starEach [b] Z.X.env = (false,eval b Z.X.env) :: starEach [] Z.X.env:=by rfl) (hpl:(backTo pos (starEach [b] Z.X.env)).any (·.1) = false:=by rfl):ET Z ρ O (.Call (.Name "min" p) [a,b] [] pos) (.int (min i j)) :=
 Bt (Nd hc) m Xh (AU h (AU h2 AD he2) he) (fun Φ q H vs Q ok r k => by
  obtain ⟨v,w,rfl,r1,r2⟩:=r.two_inv
  cases r1.int_inv; cases r2.int_inv
  refine ⟨i,j,rfl,?_⟩
  have:(if j < i then j else i) = min i j:=by split <;> omega
  rw [this]
  exact k _ H _ O q (.refl ok) (.int _)) hg (by decide) (by decide) he hpl
theorem ES (m:Z.X.mg "max" = none) (hc:Z.X.calm = true) (h:ET Z ρ O a (.int i)) (h2:ET Z ρ O b (.int j)) (hg:Gl Z.X "max":=by rfl) (he:starEach [a,b] Z.X.env = (false,eval a Z.X.env) :: starEach [b] Z.X.env:=by rfl) (he2:starEach [b] Z.X.env = (false,eval b Z.X.env) :: starEach [] Z.X.env:=by rfl) (hpl:(backTo pos (starEach [b] Z.X.env)).any (·.1) = false:=by rfl):ET Z ρ O (.Call (.Name "max" p) [a,b] [] pos) (.int (max i j)) :=
 Bt (Nc hc) m VY (AU h (AU h2 AD he2) he) (fun Φ q H vs Q ok r k => by
  obtain ⟨v,w,rfl,r1,r2⟩:=r.two_inv
  cases r1.int_inv; cases r2.int_inv
  refine ⟨i,j,rfl,?_⟩
  have:(if j > i then j else i) = max i j:=by split <;> omega
  rw [this]
  exact k _ H _ O q (.refl ok) (.int _)) hg (by decide) (by decide) he hpl
theorem SQ {k:Bool} (m:Z.X.mg "int" = none) (h:ET Z ρ O e (.bl k)) (hg:Gl Z.X "int":=by rfl) (he:starEach [e] Z.X.env = (false,eval e Z.X.env) :: starEach [] Z.X.env:=by rfl):ET Z ρ O (.Call (.Name "int" p) [e] [] pos) (.int (if k then 1 else 0)) :=
 Em Nf m VW (AU h AD he) (fun Φ q H vs Q ok r k => by
  obtain ⟨v,rfl,r1⟩:=r.one_inv
  cases r1.bl_inv
  exact .inr ⟨_,rfl,k _ H _ O q (.refl ok) (.int _)⟩) hg (by decide) (by decide) he
theorem KG (m:Z.X.mg "tuple" = none) (h:WE Z ρ O e fun t O' => ∃ ts,t = .lst ts∧Φ (.tup ts) O') (hg:Gl Z.X "tuple":=by rfl) (he:starEach [e] Z.X.env = (false,eval e Z.X.env) :: starEach [] Z.X.env:=by rfl):WE Z ρ O (.Call (.Name "tuple" p) [e] [] pos) Φ :=
 Hb Jv m VX (DU (DT h (by
  rintro t O' ⟨ts,rfl,q⟩
  refine BE fun H vs Q ok r k => ?_
  obtain ⟨v,rfl,r1⟩:=r.one_inv
  obtain ⟨a,xs,rfl,h1,_,r1⟩:=r1.lst_inv
  exact ⟨a,xs,rfl,.inl (.inl h1),fun p hp => k _ _ _ O' q (.new ok hp) (.tup AJ (r1.kp (BT ok hp) ok))⟩)) he) hg (by decide) (by decide) he
theorem Pp (m:Z.X.mg "tuple" = none) (h:ET Z ρ O e (.lst ts)) (hg:Gl Z.X "tuple":=by rfl) (he:starEach [e] Z.X.env = (false,eval e Z.X.env) :: starEach [] Z.X.env:=by rfl):ET Z ρ O (.Call (.Name "tuple" p) [e] [] pos) (.tup ts):=fun Φ q => KG m (h _ ⟨ts,rfl,q⟩) hg he
theorem Pq (m:Z.X.mg "list" = none) (h:ET Z ρ O e (.tup ts)) (hg:Gl Z.X "list":=by rfl) (he:starEach [e] Z.X.env = (false,eval e Z.X.env) :: starEach [] Z.X.env:=by rfl):ET Z ρ O (.Call (.Name "list" p) [e] [] pos) (.lst ts) :=
 Em GC m Tw (AU h AD he) (fun Φ q H vs Q ok r k => by
  obtain ⟨v,rfl,r1⟩:=r.one_inv
  obtain ⟨a,xs,rfl,h1,r1⟩:=r1.tup_inv
  exact ⟨a,xs,rfl,.inr (.inl (.inl h1)),fun p hp => k _ _ _ O q (.new ok hp) (.lst AJ (ok.none_of hp) (r1.kp (BT ok hp) ok))⟩) hg (by decide) (by decide) he
end
def Gs (ts:List T) (lo hi:Option Int):List T:=(ts.drop (HT.Ff ts.length 0 lo)).take (HT.Ff ts.length ts.length hi - HT.Ff ts.length 0 lo)
section
variable {K:PySem.W.Frag} {O:AL} {H:Hp}
theorem Reps.cut {vs:List V} {ts:List T} {lo hi:Option Int} (r:Reps K O H vs ts):Reps K O H (JZ vs lo hi) (Gs ts lo hi):=by
 unfold JZ Gs
 rw [r.length]
 exact (r.drop _).take _
end
section
variable {Z:Zx} {ρ:List (Option T)} {O:AL} {e a b c:Expr} {es:List Expr} {Φ:BX} {pos p p2:Pos} {t ta tb:T} {ts us:List T} {i j:Int} {x:Str} {lo hi:Expr}
theorem Ij (hl:ts.length + us.length≤sizeLine) {K:PySem.W.Frag}:RP K XG (.lst ts) (.lst us) O (.lst (ts ++ us)):=fun Φ p H v w Q ok r1 r2 q => by
 obtain ⟨a,xs,rfl,h1,_,r1⟩:=r1.lst_inv
 obtain ⟨b,ys,rfl,h2,_,r2⟩:=r2.lst_inv
 exact ⟨a,b,xs,ys,rfl,rfl,h1,h2,by rw [r1.length,r2.length]; exact hl,fun l hq => q _ _ _ O p (.new ok hq) (.lst AJ (ok.none_of hq) ((r1.append r2).kp (BT ok hq) ok))⟩
theorem FS (ha:ET Z ρ O a (.lst ts)) (hb:ET Z ρ O b (.lst us)) (hl:ts.length + us.length≤sizeLine):ET Z ρ O (.BinOp a .Add b pos) (.lst (ts ++ us)):=GD IE (Ij hl) ha hb
theorem Ps:ET Z ρ O (.Dict [] [] pos) .dct:=fun Φ q pins s σ H Q I k =>
 have big:sysModules < s.heap.objs.size:=Nat.lt_trans (by decide) (show mainGlobals < s.heap.objs.size from (I.mod.glob.keeps I.bk).lt)
 have hf:H s.heap.objs.size = none:=I.hok.fresh (Nat.le_refl _)
 wpAny_Dict_empty ⟨.ref s.heap.objs.size,_,I.laid (a:=s.heap.objs.size) (o:=.dK []) (t':=s.toks) (fun _ _ e => Heap.get?_push_of_some _ e) (Nat.le_refl _) ⟨Nat.zero_le _,beq_eq_false_iff_ne.mpr (Ne.symm (Nat.ne_of_lt big)),[],.nil,Heap.DictOf.new s.heap⟩,rfl,k.2 _ _ _ O q (.new k.1.ok hf) (.dct AJ)⟩
end
def AM (p:Int × Int):T:=.tup [.int p.1,.int p.2]
def Yk (p q:Int × Int):Prop:=p.1 < q.1∨(p.1 = q.1∧p.2 < q.2)
section
variable {K:PySem.W.Frag} {O:AL} {H:Hp}
theorem GI:∀ {ps:List (Int × Int)} {xs:List V},Reps K O H xs (ps.map AM)→∃ qs:List (List Int × Addr),xs = qs.map (fun p => V.ref p.2)∧qs.map (·.1) = ps.map (fun p => [p.1,p.2])∧∀ k x,(k,x)∈qs→H x = some (.tup (k.map V.int))
 | [],xs,r => ⟨[],r.nil_inv,rfl,fun _ _ h => by cases h⟩
 | p :: ps,xs,r => by
  obtain ⟨v,vs',rfl,h,r'⟩:=Reps.cons_inv r
  obtain ⟨a,ys,rfl,ha,r2⟩:=h.tup_inv
  cases Reps.ints (ns:=[p.1,p.2]) r2
  obtain ⟨qs,rfl,e,hk⟩:=GI r'
  refine ⟨([p.1,p.2],a) :: qs,rfl,by rw [List.map_cons,List.map_cons,e],fun k x h => ?_⟩
  rcases List.mem_cons.mp h with h | h
  ·cases h; exact ha
  ·exact hk k x h
theorem GJ:∀ {qs:List (List Int × Addr)} {ps:List (Int × Int)},qs.map (·.1) = ps.map (fun p => [p.1,p.2])→(∀ k x,(k,x)∈qs→H x = some (.tup (k.map V.int)))→Reps K O H (qs.map fun p => V.ref p.2) (ps.map AM)
 | [],[],_,_ => .nil
 | [],p :: ps,e,_ => by cases e
 | q :: qs,[],e,_ => by cases e
 | (k,x) :: qs,p :: ps,e,h => by
  rw [List.map_cons,List.map_cons] at e
  injection e with e1 e2
  have e1:k = [p.1,p.2]:=e1
  have hx:=h k x (List.mem_cons_self ..)
  rw [e1] at hx
  exact .cons (.tup hx (.cons (.int _) (.cons (.int _) .nil))) (GJ e2 fun k x hk => h k x (List.mem_cons_of_mem _ hk))
end
theorem Mv:∀ {ys:List (List Int × Addr)},(∀ k x,(k,x)∈ys→∃ i j:Int,k = [i,j])→∃ ps:List (Int × Int),ys.map (·.1) = ps.map (fun p => [p.1,p.2])
 | [],_ => ⟨[],rfl⟩
 | (k,x) :: ys,h => by
  obtain ⟨i,j,e⟩:=h k x (List.mem_cons_self ..)
  obtain ⟨ps,e2⟩:=Mv fun k x hk => h k x (List.mem_cons_of_mem _ hk)
  exact ⟨(i,j) :: ps,by rw [List.map_cons,List.map_cons,e,e2]⟩
section
variable {Z:Zx} {ρ:List (Option T)} {O:AL} {e:Expr} {Φ:BX} {pos p p1 pos1:Pos}
theorem Ik {ps:List (Int × Int)} (m:Z.X.mg "sorted" = none) (m2:Z.X.mg "set" = none) (hc:Z.X.calm = true) (hu:Z.X.A.units + 8 < cLine) (h:ET Z ρ O e (.lst (ps.map AM))) (hl:ps.length≤300) (hb:∀ q∈ps,0≤q.2∧q.2 < 65536)
  (k:∀ qs:List (Int × Int),qs.Pairwise Yk→(∀ q,q∈qs↔q∈ps)→qs.length≤ps.length→Φ (.lst (qs.map AM)) O) (hg:Gl Z.X "sorted":=by rfl) (hg2:Gl Z.X "set":=by rfl) (he:starEach [e] Z.X.env = (false,eval e Z.X.env) :: starEach [] Z.X.env:=by rfl)
  (he2:starEach [Expr.Call (.Name "set" p1) [e] [] pos1] Z.X.env = (false,eval (.Call (.Name "set" p1) [e] [] pos1) Z.X.env) :: starEach [] Z.X.env:=by rfl):WE Z ρ O (.Call (.Name "sorted" p) [.Call (.Name "set" p1) [e] [] pos1] [] pos) Φ:=by
 refine PE.weak (Aq (IR hc) hg m Ih (AI (Ef (OA hc hu) hg2 m2 Xf (Jw (ρ:=ρ)) (by decide) (by decide) he) Ag he2) (by decide) (by decide) he2) fun σ H Q q => ?_
 refine ⟨O,_,AU h AD he (fun ts O' => ts = [.lst (ps.map AM)]∧O' = O) ⟨rfl,rfl⟩,q.1,?_⟩
 rintro vs H1 _ _ ⟨rfl,rfl⟩ f r
 obtain ⟨v,rfl,r1⟩:=r.one_inv
 obtain ⟨a,xs,rfl,h1,_,r1⟩:=r1.lst_inv
 obtain ⟨qs,rfl,eq,hk⟩:=GI r1
 have lq:qs.length = ps.length:=by
  have:=congrArg List.length eq
  simpa using this
 refine ⟨a,qs,rfl,.inl (.inl h1),fun k x hx => .inl (.inl (hk k x hx)),by omega,fun l xs hl1 so nd => ?_⟩
 obtain ⟨s1,s2,s3⟩:=so
 have f1:=Frm.new (o:=SetO Z.X.prog Z.X.w l xs) f.ok hl1
 have hk2:∀ k x,(k,x)∈xs→BG H1 l (SetO Z.X.prog Z.X.w l xs) x = some (.tup (k.map V.int)):=fun k x hx => by
  have:=hk k x (s1 _ hx)
  rw [AK (AQ this hl1)]; exact this
 have mem1:∀ k x,(k,x)∈qs→∃ q∈ps,k = [q.1,q.2]:=fun k x hx => by
  have:k∈qs.map (·.1):=List.mem_map.mpr ⟨(k,x),hx,rfl⟩
  rw [eq] at this
  obtain ⟨q,h1,h2⟩:=List.mem_map.mp this
  exact ⟨q,h1,h2.symm⟩
 have two:∀ k x,(k,x)∈xs→∃ i j,k = [i,j]∧0≤j∧j < 65536:=fun k x hx => by
  obtain ⟨q,h1,h2⟩:=mem1 k x (s1 _ hx)
  exact ⟨q.1,q.2,h2,hb q h1⟩
 refine ⟨l,xs,rfl,AJ,fun k x hx => .inl (.inl (hk2 k x hx)),by omega,two,fun d ys hd pm pw => ?_⟩
 obtain ⟨rs,er⟩:=Mv (ys:=ys) fun k x hx => by
  obtain ⟨i,j,e,_⟩:=two k x (pm.mem_iff.mp hx)
  exact ⟨i,j,e⟩
 have f2:=Frm.new (o:=.lst (ys.map fun p => V.ref p.2)) f1.ok hd
 have hk3:∀ k x,(k,x)∈ys→BG (BG H1 l (SetO Z.X.prog Z.X.w l xs)) d (.lst (ys.map fun p => V.ref p.2)) x = some (.tup (k.map V.int)):=fun k x hx => by
  have:=hk2 k x (pm.mem_iff.mp hx)
  rw [AK (AQ this hd)]; exact this
 have memr:∀ z,z∈rs↔∃ x,([z.1,z.2],x)∈ys:=fun z => by
  constructor
  ·intro hz
   have:[z.1,z.2]∈ys.map (·.1):=by rw [er]; exact List.mem_map.mpr ⟨z,hz,rfl⟩
   obtain ⟨⟨k,x⟩,h1,h2⟩:=List.mem_map.mp this
   have h2:k = _:=h2
   subst h2
   exact ⟨x,h1⟩
  ·rintro ⟨x,hx⟩
   have:[z.1,z.2]∈ys.map (·.1):=List.mem_map.mpr ⟨_,hx,rfl⟩
   rw [er] at this
   obtain ⟨w,h1,h2⟩:=List.mem_map.mp this
   injection h2 with e1 e2
   injection e2 with e2 _
   have:w = z:=Prod.ext e1 e2
   rw [← this]; exact h1
 have ndy:(ys.map (·.1)).Nodup:=(pm.map _).nodup_iff.mpr nd
 refine q.2 _ _ _ _ (k rs ?_ (fun z => ?_) ?_) (f.trans (f1.trans f2)) (.lst AJ (f1.ok.none_of hd) (GJ er hk3))
 ·-- strictly rising
  have pw':rs.Pairwise fun x y => 65536 * x.1 + x.2≤65536 * y.1 + y.2:=by
   have h3:(ys.map (·.1)).Pairwise fun x y => 65536 * x.getD 0 0 + x.getD 1 0≤65536 * y.getD 0 0 + y.getD 1 0:=List.pairwise_map.mpr pw
   rw [er] at h3
   exact (List.pairwise_map (f:=fun (p:Int × Int) => [p.1,p.2]) (R:=fun x y => 65536 * x.getD 0 0 + x.getD 1 0≤65536 * y.getD 0 0 + y.getD 1 0)).mp h3
  have nd':rs.Pairwise fun x y => x≠y:=by
   have h3:(ys.map (·.1)).Pairwise (·≠·):=ndy
   rw [er] at h3
   exact (List.pairwise_map.mp h3).imp fun hxy z => hxy (by rw [z])
  refine (pw'.and nd').imp_of_mem fun {x y} hx hy ⟨h1,h2⟩ => ?_
  have bnd:∀ z,z∈rs→0≤z.2∧z.2 < 65536:=fun z hz => by
   obtain ⟨v,hv⟩:=(memr z).mp hz
   obtain ⟨i,j,e,hj⟩:=two _ v (pm.mem_iff.mp hv)
   injection e with e1 e2
   injection e2 with e2 _
   omega
  have b1:=bnd x hx
  have b2:=bnd y hy
  unfold Yk
  have:¬ (x.1 = y.1∧x.2 = y.2):=fun z => h2 (Prod.ext z.1 z.2)
  omega
 ·rw [memr]
  constructor
  ·rintro ⟨x,hx⟩
   obtain ⟨w,h1,h2⟩:=mem1 _ x (s1 _ (pm.mem_iff.mp hx))
   injection h2 with e1 e2
   injection e2 with e2 _
   have:z = w:=Prod.ext e1 e2
   rw [this]; exact h1
  ·intro hz
   have:[z.1,z.2]∈qs.map (·.1):=by rw [eq]; exact List.mem_map.mpr ⟨z,hz,rfl⟩
   obtain ⟨⟨k,x⟩,h1,h2⟩:=List.mem_map.mp this
   have h2:k = _:=h2
   subst h2
   obtain ⟨x',hx'⟩:=s2 _ _ h1
   exact ⟨x',pm.mem_iff.mpr hx'⟩
 ·have e1:rs.length = ys.length:=by
   have:=congrArg List.length er
   simpa using this.symm
  have e2:=pm.length_eq
  omega
end
theorem XFly.mono {X:Cx} {W W':St→XK} (x:XFly X W) (h:∀ σ cls H',W' σ cls none H'→W σ cls none H'):XFly X W':=⟨fun pins σ H s e s' I c => x.fly pins σ H s e s' I (by
 obtain ⟨y,cls,H',e1,f,q⟩:=c
 exact ⟨y,cls,H',e1,f,h σ cls H' q⟩)⟩
theorem DX {X:Cx} {Oe:AL} {He:Hp}:XFly X (zc X Oe He).W:=⟨fun pins σ H s e s' I c => by
 obtain ⟨y,cls,H',e1,f,_,O',z,_⟩:=c
 exact z.elim⟩
abbrev zB (P:Program) (w:World) (K:PySem.W.Frag) (mg:Str→Option Value) (base:Heap) (N:List Str) (qual:Str) (sc:Scope) (f:Addr) (cdv:Value) (A:Around) (outer:List Env) (s:Shared) (H:Hp) (E:XK) (O:AL) (Ξ:Value→AL→Prop):Zx :=
 ⟨DA (CXe P w) P w K mg base N qual sc f cdv A outer s H E,O,H,Ξ⟩
def Ck (N:List Str) (ts:List T):List (Option T):=ts.map some ++ List.replicate (N.length - ts.length) none
theorem GK {K:PySem.W.Frag} {O:AL} {H:Hp} {N:List Str} {vs:List V} {ts:List T} (r:Reps K O H vs ts):Rl K O H (start N vs) (Ck N ts):=by
 refine ⟨by simp [start,Ck,r.length],fun i t e => ?_⟩
 unfold Ck at e
 by_cases hi:i < ts.length
 ·rw [List.getElem?_append_left (by simpa using hi),List.getElem?_map] at e
  cases ht:ts[i]? with
  | none => rw [ht] at e; cases e
  | some u =>
   rw [ht] at e
   cases e
   obtain ⟨v,h1,h2⟩:=r.get ht
   refine ⟨v,?_,h2⟩
   unfold start
   rw [List.getElem?_append_left (by simpa [r.length] using hi),List.getElem?_map,h1]
   rfl
 ·rw [List.getElem?_append_right (by simpa using hi),List.getElem?_replicate] at e
  split at e <;> cases e
theorem AV {P:Program} {w:World} {K:PySem.W.Frag} {mg:Str→Option Value} {base:Heap} {x qual:Str} {st:Stmt} {f:Addr} {fd:FuncData} {N ps:List Str} {k:Nat} {sp:Br} (F:Fun K x qual st f fd) (S:FnScope N ps (AB st)) (len:∀ ts O Φ Ξ,sp ts O Φ Ξ→ts.length = ps.length)
  (h:∀ (cdv:Value) (A:Around) (outer:List Env) (s:Shared) (H:Hp) (E:XK) (O:AL) (Ξ:Value→AL→Prop),Room k (A.deeper (envOfC qual (AB st) s.heap.objs.size f cdv))→XFly (zB P w K mg base N qual (AB st) f cdv A outer s H E O Ξ).X (zB P w K mg base N qual (AB st) f cdv A outer s H E O Ξ).W →
   ∀ ts Φ,sp ts O Φ Ξ→DW (zB P w K mg base N qual (AB st) f cdv A outer s H E O Ξ) (Ck N ts) O (Aj st) { nx:=fun _ O' => Φ .non O',rt:=Φ }):FnOk P w K mg base (CXe P w) (k + 1) f fd ps (By K sp):=by
 refine F.okX S (fun vs H Q E h => ?_) (fun cdv A outer s H vs Q E hr h1 => ?_)
 ·obtain ⟨ts,O,Φ,Ξ,r,_,q,_⟩:=h
  rw [r.length]; exact len ts O Φ Ξ q
 ·obtain ⟨ts,O,Φ,Ξ,r,ok,q,acc,ex⟩:=h1
  refine ⟨_,h cdv A outer s H E O Ξ hr (XFly.mono Ac.f ?_) ts Φ q,⟨GK r,.refl ok⟩,?_⟩
  ·rintro σ cls H' ⟨_,O',x,f⟩
   exact ex cls O' H' x f
  ·exact ⟨fun ρ' O' σ' H' p a _ => acc _ _ _ O' p a.fr .non,fun v H' t O' p f r => acc v H' t O' p f r,fun _ _ _ _ z => z.elim,fun _ _ _ _ z => z.elim⟩
def Ty (S:Scope) (N:List Str) (csc:Scope) (cap:List (Str × Nat)):Bool :=
 decide (csc.kind = .function) && csc.names.all (fun y => decide (y.2 = .cell→csc.names.lookup y.1 = some .cell)) && csc.names.all (fun y => decide (y.2 = .local→csc.names.lookup y.1 = some .local)) && csc.names.all (fun y => decide (y.2 = .free→S.names.lookup y.1 = some .cell∨S.names.lookup y.1 = some .free)) && cap.all (fun p => decide (N[p.2]? = some p.1∧csc.names.lookup p.1 = some .free))
theorem CD {X:Cx} {csc:Scope} {nc:List Str} {cap:List (Str × Nat)} (S:Scope) (N:List Str) (chk:Ty S N csc cap = true) (h1:X.env.scope = S:=by rfl) (h2:X.N = N:=by rfl):LcOk X csc nc cap:=by
 unfold Ty at chk
 simp only [Bool.and_eq_true,List.all_eq_true,decide_eq_true_eq] at chk
 obtain ⟨⟨⟨⟨c1,c2⟩,c3⟩,c4⟩,c5⟩:=chk
 exact ⟨c1,c2,c3,by rw [h1]; exact c4,by rw [h2]; exact c5⟩
section
variable {Z:Zx} {ρ:List (Option T)} {O:AL} {elt tg iter:Expr} {ifs:List Expr} {csc:Scope} {nc:List Str} {cap:List (Str × Nat)} {Φ:BX} {pos:Pos} {α:Type}
theorem EU {F:List T→AL→Prop} (xs:List α) (f g:α→T) (hl:xs.length≤sizeLine) (h:∀ x,x∈xs→∃ ρ4,∀ X' Oe He,LcCx Z.X csc (Ah nc cap) X'→∀ O',(WG (zc X' Oe He) nc.length (FD nc ρ cap) O' tg (f x) ρ4∧ET (zc X' Oe He) ρ4 O' elt (g x))) (fin:F (xs.map g) O):Pk Z ρ elt tg [] csc nc cap F (xs.map f) O:=by
 refine ⟨fun i acc O' => O' = O∧acc = (xs.take i).map g,⟨rfl,by simp⟩,?_,?_⟩
 ·rintro i t acc O' p e ⟨rfl,rfl⟩ np
  rw [List.getElem?_map] at e
  cases ex:xs[i]? with
  | none => rw [ex] at e; cases e
  | some x =>
   rw [ex] at e
   cases e
   obtain ⟨ρ4,w⟩:=h x (List.mem_of_getElem? ex)
   have hi:=(List.getElem?_eq_some_iff.mp ex).1
   refine ⟨ρ4,fun X' Oe He is => ⟨(w X' Oe He is _).1,Id (Fj fun X' Oe He is => (w X' Oe He is _).2 _ ⟨_,rfl,np,?_,rfl,?_⟩)⟩⟩
   ·simp; omega
   ·rw [List.take_add_one,ex]; simp
 ·rintro acc O' ⟨rfl,rfl⟩
  rw [List.length_map,List.take_length]
  exact fin
theorem Ex {F:List T→AL→Prop} {c:Expr} (xs:List α) (f g:α→T) (q:α→Bool) (hl:xs.length≤sizeLine) (h:∀ x,x∈xs→∃ ρ4,∀ X' Oe He,LcCx Z.X csc (Ah nc cap) X'→∀ O',(WG (zc X' Oe He) nc.length (FD nc ρ cap) O' tg (f x) ρ4∧EB (zc X' Oe He) ρ4 O' c (q x)∧(q x = true→ET (zc X' Oe He) ρ4 O' elt (g x)))) (fin:F ((xs.filter q).map g) O):Pk Z ρ elt tg [c] csc nc cap F (xs.map f) O:=by
 refine ⟨fun i acc O' => O' = O∧acc = ((xs.take i).filter q).map g,⟨rfl,by simp⟩,?_,?_⟩
 ·rintro i t acc O' p e ⟨rfl,rfl⟩ np
  rw [List.getElem?_map] at e
  cases ex:xs[i]? with
  | none => rw [ex] at e; cases e
  | some x =>
   rw [ex] at e
   cases e
   obtain ⟨ρ4,w⟩:=h x (List.mem_of_getElem? ex)
   have hi:=(List.getElem?_eq_some_iff.mp ex).1
   refine ⟨ρ4,fun X' Oe He is => ⟨(w X' Oe He is _).1,Ie ((w X' Oe He is _).2.1 _ ?_)⟩⟩
   cases hq:q x with
   | true =>
    refine Fj fun X' Oe He is => (w X' Oe He is _).2.2 hq _ ⟨_,rfl,np,?_,rfl,?_⟩
    ·have:=List.length_filter_le q (xs.take i)
     simp at this ⊢; omega
    ·rw [List.take_add_one,ex]; simp [hq]
   | false =>
    refine Dl ⟨_,rfl,np,rfl,?_⟩
    rw [List.take_add_one,ex]; simp [hq]
 ·rintro acc O' ⟨rfl,rfl⟩
  rw [List.length_map,List.take_length]
  exact fin
theorem Dq (nc:List Str) (cap:List (Str × Nat)) (xs:List α) (f g:α→T) (hc:Z.X.calm = true) (ok:LcOk Z.X csc nc cap) (hi:EI Z ρ O tg iter (xs.map f)) (hl:xs.length≤sizeLine) (h:∀ x,x∈xs→∃ ρ4,∀ X' Oe He,LcCx Z.X csc (Ah nc cap) X'→∀ O',(WG (zc X' Oe He) nc.length (FD nc ρ cap) O' tg (f x) ρ4∧ET (zc X' Oe He) ρ4 O' elt (g x)))
  (hs:∀ x,foldedSetIterable iter Z.X.env x = pure x:=by intro _; rfl):ET Z ρ O (.ListComp elt [⟨tg,iter,[],0⟩] csc pos) (.lst (xs.map g)):=fun Φ p => Pl hc ok (hi _ (EU xs f g hl h p)) hs
theorem Eo (nc:List Str) (cap:List (Str × Nat)) {c:Expr} (xs:List α) (f g:α→T) (q:α→Bool) (hc:Z.X.calm = true) (ok:LcOk Z.X csc nc cap) (hi:EI Z ρ O tg iter (xs.map f)) (hl:xs.length≤sizeLine) (h:∀ x,x∈xs→∃ ρ4,∀ X' Oe He,LcCx Z.X csc (Ah nc cap) X'→∀ O',(WG (zc X' Oe He) nc.length (FD nc ρ cap) O' tg (f x) ρ4∧EB (zc X' Oe He) ρ4 O' c (q x)∧(q x = true→ET (zc X' Oe He) ρ4 O' elt (g x))))
  (hs:∀ x,foldedSetIterable iter Z.X.env x = pure x:=by intro _; rfl):ET Z ρ O (.ListComp elt [⟨tg,iter,[c],0⟩] csc pos) (.lst ((xs.filter q).map g)):=fun Φ p => Pl hc ok (hi _ (Ex xs f g q hl h p)) hs
end
section
variable {Z:Zx} {ρ:List (Option T)} {O:AL} {e:Expr} {es:List Expr} {Φ:BX} {Ψ:Es} {pos p:Pos} {ts:List T} {x:Str}
theorem EA.wa {Φ:LX} (h:EA Z ρ O es ts) (p:Φ ts O):WA Z ρ O es Φ:=h Φ p
theorem EI.wi {tg iter:Expr} {Φ:LX} (h:EI Z ρ O tg iter ts) (p:Φ ts O):WI Z ρ O tg iter Φ:=h Φ p
theorem Pt {k:Nat} {f:Addr} {fd:FuncData} {ps:List Str} {sp:Sp} (F:FnOk Z.X.prog Z.X.w Z.X.K Z.X.mg Z.X.base (CXe Z.X.prog Z.X.w) k f fd ps sp) (hm:Z.X.mg x = some (.ref f)) (hk:PySem.W.keepIn Z.X.K (.ref f) = true) (hb:Binds Z.X.K fd ps []) (hr:Room k Z.X.A) (xf:XFly Z.X Z.W) (h:EA Z ρ O (e :: es) ts)
  (w:∀ σ H vs Q,Asr Z ρ O σ H→Reps Z.K O H vs ts→Acc Z.K O H Φ Q→sp vs H Q (Z.W σ)) (hg:Gl Z.X x:=by rfl)
  (hdb:(x == ("__debug__" : Str)) = false:=by decide) (he:starEach (e :: es) Z.X.env = (false,eval e Z.X.env) :: starEach es Z.X.env:=by rfl) (hpl:(backTo pos (starEach es Z.X.env)).any (·.1) = false:=by rfl):WE Z ρ O (.Call (.Name x p) (e :: es) [] pos) Φ:=by
 refine PE.weak (Jf xf F hr hg hm hk hb (Jw (ρ:=ρ)) hdb he hpl) fun σ H Q q => ?_
 refine ⟨O,_,h (fun us O' => us = ts∧O' = O) ⟨rfl,rfl⟩,q.1,?_⟩
 rintro vs H1 _ _ ⟨rfl,rfl⟩ f r
 exact w σ H1 vs Q (q.1.step f) r (q.2.step f)
end
def Bb:Expr→Bool
 | .Starred .. => false
 | _ => true
theorem Ep {e:Expr} {es:List Expr} {env:Env} (h:Bb e = true):starEach (e :: es) env = (false,eval e env) :: starEach es env:=by
 cases e <;> first | rfl | cases h
section
variable {Z:Zx} {ρ:List (Option T)} {O:AL} {e:Expr} {es:List Expr} {t:T} {ts:List T}
theorem AE (h:ET Z ρ O e t) (hr:EA Z ρ O es ts) (hn:Bb e = true:=by rfl):EA Z ρ O (e :: es) (t :: ts):=AU h hr (Ep hn)
theorem CO {Φ:LX} (h:WE Z ρ O e fun t O1 => WA Z ρ O1 es fun ts O2 => Φ (t :: ts) O2) (hn:Bb e = true:=by rfl):WA Z ρ O (e :: es) Φ:=DU h (Ep hn)
theorem DY {a b:Expr} {i j:Int} {k:Nat} {pos:Pos} (ha:ET Z ρ O a (.int i)) (hb:ET Z ρ O b (.int j)) (h1:Bb a = true:=by rfl) (h2:Bb b = true:=by rfl):ET Z ρ O (.Tuple [a,b] k pos) (AM (i,j)):=Ay (AE ha (AE hb AD h2) h1) (by show 2≤sizeLine; decide)
theorem ZT {p:Int × Int} {ps:List (Int × Int)} (h:ET Z ρ O e (AM p)) (hr:EA Z ρ O es (ps.map AM)) (hn:Bb e = true:=by rfl):EA Z ρ O (e :: es) ((p :: ps).map AM):=AE h hr hn
theorem Xj:EA Z ρ O [] (([]:List (Int × Int)).map AM):=AD
end
theorem Pu {O:AL} {p:Addr} {xs:List T} (h:O p = some xs):Ae O p xs = O:=by
 funext b
 by_cases hb:b = p
 ·rw [hb,AH,h]
 ·rw [AX hb]
theorem Va {O:AL} {p l:Addr} {xs:List T} (h:O p = some xs) (hl:O l = none):p≠l:=fun z => by rw [z,hl] at h; cases h
section
variable {Z:Zx} {ρ:List (Option T)} {O:AL} {e:Expr} {es:List Expr} {t:T} {ts:List T} {Φ:BX} {Ψ:Es} {pos p2:Pos} {x:Str}
inductive CPs:List Expr→List (Int × Int)→Prop
 | nil:CPs [] []
 | cons {a b:Int} {k1 k2 k3:Nat} {q1 q2 q3:Pos} {es:List Expr} {ps:List (Int × Int)}:CPs es ps→CPs (.Tuple [.Constant (.int a) k1 q1,.Constant (.int b) k2 q2] k3 q3 :: es) ((a,b) :: ps)
structure HEA (Z:Zx) (ρ:List (Option T)) (O:AL) (es:List Expr) (ts:List T):Prop where
 out:EA Z ρ O es ts
structure HET (Z:Zx) (ρ:List (Option T)) (O:AL) (e:Expr) (t:T):Prop where
 out:ET Z ρ O e t
theorem HEA.nil:HEA Z ρ O [] []:=⟨AD⟩
theorem HEA.cons (h:HET Z ρ O e t) (hr:HEA Z ρ O es ts) (hn:Bb e = true:=by rfl):HEA Z ρ O (e :: es) (t :: ts):=⟨AE h.out hr.out hn⟩
theorem HET.int {i:Int} {j:Nat}:HET Z ρ O (.Constant (.int i) j pos) (.int i):=⟨AA⟩
structure HS (Z:Zx) (ρ:List (Option T)) (O:AL) (ss:List Stmt) (Ψ:Es):Prop where
 out:DW Z ρ O ss Ψ
theorem EV {s:Stmt} {ss:List Stmt} (h:WS Z ρ O s { Ψ with nx:=fun ρ' O' => HS Z ρ' O' ss Ψ }):HS Z ρ O (s :: ss) Ψ :=
 ⟨AC (FQ h (fun _ _ z => z.out) (fun _ _ z => z) (fun _ _ z => z) (fun _ _ z => z))⟩
theorem Il {s:Stmt} (h:WS Z ρ O s Ψ):HS Z ρ O [s] Ψ:=⟨AF h⟩
end
section
variable {X:Cx} {a b c d:Expr} {ta tb tc td:TE} {pos:Pos}
end
section
variable {Z:Zx} {ρ:List (Option T)} {O:AL} {a b c d:Expr} {pos:Pos} {i j k l:Int}
end
end L2.TL
namespace L2
open PySem PySem.Spec PySem.Calls PyProof.Rows
section
variable {prog:Program} {w:World} {A:Around} {E:Value→Shared→Prop} {s:Shared}
theorem Li {l:Addr} {o:Obj} {vs:List Value} {n:Nat} {ns:List Int} {Q:Value→Shared→Prop} (ho:s.heap.get? l = some o) (hc:o.cls = .type "tuple") (hd:o.data = .seq vs.toArray n) (hI:IntsAre vs ns) (h64:vs.length < 64)
  (h:∀ (h':Heap) (a:Addr) (out:List Value) (ms:List Int) (c:Nat),s.heap.get? a = none→h'.get? a = some (seqObj "list" out.toArray c)→(∀ b o,s.heap.get? b = some o→h'.get? b = some o)→IntsAre out ms→ms.Perm ns→ms.Pairwise (·≤·)→Q (.ref a) { s with heap:=h' }) :
  wpAny (model prog w) A (call (.builtin "sorted") [.ref l]) Q E s:=by
 refine Calls.call_function_entry kind_sorted plain_sorted entry_sorted (args_sorted1 _) ?_
 unfold Builtin.«sorted»
 refine wpAny_bind (m:=checkCount "sorted" 1 1 _) (wpAny_pure ?_)
 refine wpAny_bind (wpAny_collect_seq l (.inr rfl) ho hc hd (fun h1 hk1 => ?_) (by rw [List.size_toArray,sizeLine_eq]; omega))
 show wpAny _ _ (newList vs >>= _) _ _ _
 refine wpAny_bind (wpAny_newList ?_ (by rw [sizeLine_eq]; omega))
 have hoL:(h1.push (seqObj "list" vs.toArray 0)).get? h1.objs.size = some (seqObj "list" vs.toArray 0):=Heap.get?_push_size _ rfl
 show wpAny _ _ _ _ _ { s with heap:=h1.push (seqObj "list" vs.toArray 0) }
 refine wpAny_bind (wpAny_holding (wpAny_call_entry slot_list_sort ⟨_,hoL,rfl⟩ entry_list_sort (list_sort_tree hoL hI h64 fun out ms a1 a2 a3 => ⟨_,rfl,?_⟩) (args_list_sort _)))
 refine wpAny_pure ⟨_,rfl,?_⟩
 obtain ⟨c,hcat⟩:=sortedHeap_at (out:=out) hoL
 refine h _ h1.objs.size out.toList ms c ?_ hcat (fun b o e => ?_) a1 a2 a3
 ·cases e:s.heap.get? h1.objs.size with
  | none => rfl
  | some o' => exact absurd (Heap.lt_size (hk1 _ _ e)) (Nat.lt_irrefl _)
 ·have hlt:=Heap.lt_size (hk1 b o e)
  rw [sortedHeap_old (Nat.ne_of_lt hlt) (by rw [size_push']; exact Nat.lt_succ_of_lt hlt)]
  exact Heap.get?_push_of_some _ (hk1 b o e)
end
section
variable {X:Cx}
def Vb (K:PySem.W.Frag):List V→Hp→VK→Prop:=fun xs H Q => ∃ (a:Addr) (ns:List Int),xs = [.ref a]∧JT K H a (ns.map V.int)∧ns.length < 64∧∀ (p:Addr) (ms:List Int),H p = none→ms.Perm ns→ms.Pairwise (·≤·)→Q (.ref p) (BG H p (.lst (ms.map V.int)))
theorem Im:BQ X (.builtin "sorted") (Vb X.K):=by
 intro pins s σ H xs us Q I r h
 obtain ⟨a,ns,rfl,hS,hl,q⟩:=h
 obtain ⟨u,rfl,ru⟩:=Vals.one r
 cases ru
 obtain ⟨its,rv,⟨o,e1,e2,n,e3⟩,_⟩:=I.tuple hS
 have hi:=LA rv
 have hlen:its.length < 64:=by have:=rv.length; simp at this; omega
 refine Li e1 e2 e3 hi hlen fun h' b out ms c hb hg hk hI pm pw => ?_
 have hf:H b = none:=I.hok.none_of hb
 refine ⟨.ref b,BG H b (.lst (ms.map V.int)),I.laidF (t':=s.toks) hk hb ⟨?_,out,c,DP hI,hg⟩,rfl,q b ms hf pm pw⟩
 rw [List.length_map,pm.length_eq,sizeLine_eq]
 omega
theorem Hf:∀ {ns ms:List Int},LJ (ns.map V.int) (ms.map V.int) = decide (ns = ms)
 | [],[] => rfl
 | [],_ :: _ => rfl
 | _ :: _,[] => rfl
 | n :: ns,m :: ms => by
  show (Eg (V.int n) (V.int m) && LJ (ns.map V.int) (ms.map V.int)) = _
  rw [Hf (ns:=ns) (ms:=ms)]
  have:Eg (V.int n) (V.int m) = (n == m):=rfl
  rw [this]
  by_cases h1:n = m
  ·subst h1
   by_cases h2:ns = ms
   ·subst h2; simp
   ·simp [h2]
  ·simp [h1]
theorem Hg {ns:List Int}:(ns.map V.int).all Bh = true:=by
 rw [List.all_eq_true]
 intro x hx
 obtain ⟨n,_,rfl⟩:=List.mem_map.mp hx
 rfl
def Zs (K:PySem.W.Frag) (g:Bool→Bool):R2:=fun x y H Q => ∃ (a b:Addr) (ns ms:List Int),x = .ref a∧y = .ref b∧SqL K H a (ns.map V.int)∧SqL K H b (ms.map V.int)∧Q (.bl (g (decide (ns = ms)))) H
theorem Vc (hu:X.A.units < cLine):Co X (compareOp .NotEq) (Zs X.K (!·)):=by
 intro pins s σ H x y v u Q I rx ry h
 obtain ⟨a,b,ns,ms,rfl,rfl,ha,hb,q⟩:=h
 by_cases hl:ns.length = ms.length
 ·refine VC hu pins s σ H _ _ v u Q I rx ry ⟨a,b,_,_,rfl,rfl,ha,hb,Hg,Hg,by simpa using hl,?_⟩
  rw [Hf]; exact q
 ·cases rx; cases ry
  obtain ⟨its,r1,p1,z1⟩:=I.list ha
  obtain ⟨its2,r2,p2,z2⟩:=I.list hb
  have l1:=r1.length
  have l2:=r2.length
  refine SeqAt.RcNeAt.lists_lengths p1.isList p2.isList ?_ hu _ _ _ _ ⟨.bl _,H,I,rfl,?_⟩
  ·simp only [List.size_toArray,bne_iff_ne,ne_eq]
   simp at l1 l2
   omega
  ·have:decide (ns = ms) = false:=decide_eq_false fun z => hl (by rw [z])
   rw [this] at q
   exact q
end
end L2
namespace L2.TL
open PySem PySem.Spec PySem.Calls PyProof.Rows
mutual
def dT:T→PyData
 | .non => .none
 | .bl b => .bool b
 | .int i => .int i
 | .str x => .str x
 | .tup ts => .tuple (dTs ts)
 | .lst ts => .list (dTs ts)
 | .frz _ => .none
 | .dct => .none
 | .raw _ => .none
def dTs:List T→List PyData
 | [] => []
 | t :: ts => dT t :: dTs ts
end
section
variable {K:PySem.W.Frag} {O:AL} {H:Hp} {P:Program} {w:World} {h:Heap}
end
section
variable {X:Cx}
end
theorem XOk.mono {X:Cx} {W W':St→XK} (x:XOk X W) (h:∀ σ cls H',W' σ cls none H'→W σ cls none H'):XOk X W' :=
 ⟨fun pins σ H s h' y cls I m q => x.made pins σ H s h' y cls I m (h σ cls H q),(XFly.mono x.f h).fly,x.own⟩
theorem FT {P:Program} {w:World} {K:PySem.W.Frag} {mg:Str→Option Value} {base:Heap} {x qual:Str} {st:Stmt} {f:Addr} {fd:FuncData} {N ps:List Str} {k:Nat} {sp:Br} (F:Fun K x qual st f fd) (S:FnScope N ps (AB st)) (len:∀ ts O Φ Ξ,sp ts O Φ Ξ→ts.length = ps.length)
  (h:∀ (cdv:Value) (A:Around) (outer:List Env) (s:Shared) (H:Hp) (E:XK) (O:AL) (Ξ:Value→AL→Prop),Room k (A.deeper (envOfC qual (AB st) s.heap.objs.size f cdv))→XOk (zB P w K mg base N qual (AB st) f cdv A outer s H E O Ξ).X (zB P w K mg base N qual (AB st) f cdv A outer s H E O Ξ).W →
   ∀ ts Φ,sp ts O Φ Ξ→DW (zB P w K mg base N qual (AB st) f cdv A outer s H E O Ξ) (Ck N ts) O (Aj st) { nx:=fun _ O' => Φ .non O',rt:=Φ }):FnOk P w K mg base (CXe P w) (k + 1) f fd ps (By K sp):=by
 refine F.okX S (fun vs H Q E h => ?_) (fun cdv A outer s H vs Q E hr h1 => ?_)
 ·obtain ⟨ts,O,Φ,Ξ,r,_,q,_⟩:=h
  rw [r.length]; exact len ts O Φ Ξ q
 ·obtain ⟨ts,O,Φ,Ξ,r,ok,q,acc,ex⟩:=h1
  refine ⟨_,h cdv A outer s H E O Ξ hr (XOk.mono Ac ?_) ts Φ q,⟨GK r,.refl ok⟩,?_⟩
  ·rintro σ cls H' ⟨_,O',x,f⟩
   exact ex cls O' H' x f
  ·exact ⟨fun ρ' O' σ' H' p a _ => acc _ _ _ O' p a.fr .non,fun v H' t O' p f r => acc v H' t O' p f r,fun _ _ _ _ z => z.elim,fun _ _ _ _ z => z.elim⟩
theorem Frm.same {K:PySem.W.Frag} {O O':AL} {H H' H'':Hp} (f:Frm K O H O' H') (s:Same H' H''):Frm K O H O' H'' where
 kp:=fun b o h n => ⟨s b o (f.kp b o h n).1,(f.kp b o h n).2⟩
 own:=f.own
 ok:=fun a ts e => by
  obtain ⟨xs,h,r⟩:=f.ok a ts e
  exact ⟨xs,s _ _ h,r.mono (fun b o h _ => s b o h) fun b xs h n => ⟨s b _ h,n⟩⟩
theorem DZ {K:PySem.W.Frag} {O:AL} {H:Hp}:∀ (ns:List Int),Reps K O H (ns.map V.int) (ns.map T.int)
 | [] => .nil
 | n :: ns => .cons (.int n) (DZ ns)
section
variable {Z:Zx} {ρ:List (Option T)} {O:AL} {e a b:Expr} {es:List Expr} {Ψ:Es} {Φ:BX} {pos p:Pos} {t:T} {ts:List T}
theorem Da {x:Str} {C:Addr} {np cpos:Pos} (xo:XOk Z.X Z.W) (hc:Z.X.calm = true) (hm:Z.X.mg x = some (.ref C)) (q:PySem.W.excIn Z.X.K C Go "ValueError.__new__" = true) (h:Z.Xi (.ref C) O) (hg:Gl Z.X x:=by rfl)
  (hd:(x == ("__debug__" : Str)) = false:=by decide):WS Z ρ O (.Raise (some (.Call (.Name x np) [] [] cpos)) none pos) Ψ :=
 PS.weak (Nn xo hc hg hm q hd) fun D σ H k => ⟨rfl,O,h,k.1.fr⟩
def Db (C:Addr) (y:Str):Sp:=fun vs H Q _ => ∃ x,vs = [.ref x]∧H x = some (IH C x)∧∀ H',Same H H'→Q (.str y) H'
theorem SR {H H':Hp} {p:Addr} {o:HO} (s:Same (BG H p o) H') (hp:H p = none):Same H H':=fun b u e => s b u (by
 have:b≠p:=fun z => by rw [z,hp] at e; cases e
 rw [AK this]; exact e)
theorem Lj {ns:List Int} (m:Z.X.mg "sorted" = none) (h:ET Z ρ O e (.tup (ns.map T.int))) (hl:ns.length < 64) (k:∀ ms:List Int,ms.Perm ns→ms.Pairwise (·≤·)→Φ (.lst (ms.map T.int)) O) (hg:Gl Z.X "sorted":=by rfl)
  (he:starEach [e] Z.X.env = (false,eval e Z.X.env) :: starEach [] Z.X.env:=by rfl):WE Z ρ O (.Call (.Name "sorted" p) [e] [] pos) Φ :=
 KB Im m Ih (AU h AD he _ (fun H vs Q ok r q => by
  obtain ⟨v,rfl,r1⟩:=r.one_inv
  obtain ⟨a,xs,rfl,h1,r1⟩:=r1.tup_inv
  cases r1.ints
  exact ⟨a,ns,rfl,.inl (.inl h1),hl,fun p ms hp pm pw => q _ _ _ O (k ms pm pw) (.new ok hp) (.lst AJ (ok.none_of hp) (DZ ms))⟩)) hg (by decide) (by decide) he
end
section
variable {Z:Zx} {ρ:List (Option T)} {O:AL} {e:Expr} {es:List Expr} {t:T} {ts us:List T} {Φ:BX} {Ψ:Es} {pos p2 p3 p4:Pos} {x:Str}
end
section
variable {Z:Zx} {ρ:List (Option T)} {O:AL} {es:List Expr} {ts:List T} {Ψ:Es} {pos p:Pos} {tg iter:Expr} {body:List Stmt}
theorem SS (hp:PassesOwn (model Z.X.prog Z.X.w) Z.X.A Z.X.env Z.X.xe) (hc:Z.X.calm = true) (h:HEA Z ρ O es ts) (hl:ts.length≤sizeLine) (I:Nat→Ic) (i0:I 0 ρ O)
  (st:∀ i t ρ' O',ts[i]? = some t→I i ρ' O'→∃ ρ2,WG Z Z.X.N.length ρ' O' tg t ρ2∧HS Z ρ2 O' body { nx:=I (i + 1),rt:=Ψ.rt,bk:=Ψ.nx,ct:=I (i + 1) }) (fin:∀ ρ' O',I ts.length ρ' O'→Ψ.nx ρ' O'):WS Z ρ O (.For tg (.List es p) body [] pos) Ψ :=
 BP hp hc (EI.wi (Ak (Az h.out hl)) ⟨I,i0,fun i t ρ' O' e x => by
  obtain ⟨ρ2,a,b⟩:=st i t ρ' O' e x
  exact ⟨ρ2,a,b.out⟩,fin⟩) (by intro _; rfl)
structure HWE (Z:Zx) (ρ:List (Option T)) (O:AL) (e:Expr) (Φ:BX):Prop where
 out:WE Z ρ O e Φ
theorem ST (hp:PassesOwn (model Z.X.prog Z.X.w) Z.X.A Z.X.env Z.X.xe) (hc:Z.X.calm = true) (h:HWE Z ρ O iter fun t O' => ∃ ts,t = .lst ts∧∃ I:Nat→Ic,I 0 ρ O' ∧
  (∀ i t ρ' O',ts[i]? = some t→I i ρ' O'→∃ ρ2,WG Z Z.X.N.length ρ' O' tg t ρ2∧HS Z ρ2 O' body { nx:=I (i + 1),rt:=Ψ.rt,bk:=Ψ.nx,ct:=I (i + 1) })∧∀ ρ' O',I ts.length ρ' O'→Ψ.nx ρ' O')
  (hs:∀ x,foldedSetIterable iter Z.X.env x = pure x):WS Z ρ O (.For tg iter body [] pos) Ψ :=
 BP hp hc (Ms (DT h.out (by
  rintro t O' ⟨ts,e,I,i0,st,fin⟩
  refine ⟨ts,e,I,i0,fun i t ρ' O' e x => ?_,fin⟩
  obtain ⟨ρ2,a,b⟩:=st i t ρ' O' e x
  exact ⟨ρ2,a,b.out⟩))) hs
theorem Xl {P:Program} {w:World} {K:PySem.W.Frag} {mg:Str→Option Value} {base:Heap} {x qual:Str} {st:Stmt} {f:Addr} {fd:FuncData} {N ps:List Str} {k:Nat} {sp:Sp} (F:Fun K x qual st f fd) (S:FnScope N ps (AB st)) (len:∀ vs H Q E,sp vs H Q E→vs.length = ps.length)
  (h:∀ (cdv:Value) (A:Around) (outer:List Env) (s:Shared) (H:Hp) (vs:List V) (Q:VK) (E:XK),Room k (A.deeper (envOfC qual (AB st) s.heap.objs.size f cdv))→sp vs H Q E →
   ∃ ts O Φ Ξ,Reps K O H vs ts∧OwnOk K O H∧(XFly (zB P w K mg base N qual (AB st) f cdv A outer s H E O Ξ).X (zB P w K mg base N qual (AB st) f cdv A outer s H E O Ξ).W→HS (zB P w K mg base N qual (AB st) f cdv A outer s H E O Ξ) (Ck N ts) O (Aj st) { nx:=fun _ O' => Φ .non O',rt:=Φ })∧Acc K O H Φ Q∧∀ cls O' H',Ξ cls O'→Frm K O H O' H'→E cls none H'):FnOk P w K mg base (CXe P w) (k + 1) f fd ps sp:=by
 refine F.okX S len (fun cdv A outer s H vs Q E hr h1 => ?_)
 obtain ⟨ts,O,Φ,Ξ,r,ok,q,acc,ex⟩:=h cdv A outer s H vs Q E hr h1
 refine ⟨_,(q (XFly.mono Ac.f ?_)).out,⟨GK r,.refl ok⟩,?_⟩
 ·rintro σ cls H' ⟨_,O',x,f⟩
  exact ex cls O' H' x f
 ·exact ⟨fun ρ' O' σ' H' p a _ => acc _ _ _ O' p a.fr .non,fun v H' t O' p f r => acc v H' t O' p f r,fun _ _ _ _ z => z.elim,fun _ _ _ _ z => z.elim⟩
end
theorem DN {L:List T} {r:Int} (h0:0≤r) (h1:r < L.length):∃ t,atI L r = some t∧t∈L:=by
 obtain ⟨j,rfl⟩:=Int.eq_ofNat_of_zero_le h0
 have hj:j < L.length:=by omega
 exact ⟨L[j],BY (by rw [List.getElem?_eq_getElem hj]),List.getElem_mem hj⟩
def Mw:AL:=fun _ => none
theorem Pv {K:PySem.W.Frag} {H:Hp}:OwnOk K Mw H:=fun a ts e => by cases e
theorem Tz {K:PySem.W.Frag} {H H':Hp} {O':AL} {a:Addr} {xs:List V} (k:Kp Mw H O' H') (h:SqL K H a xs):SqL K H' a xs:=by
 rcases h with h | h
 ·refine .inl ?_
  rcases h with h | ⟨o,h⟩
  ·exact .inl (k a _ h rfl).1
  ·exact .inr ⟨o,(k a _ h rfl).1⟩
 ·exact .inr h
section
variable {Z:Zx} {ρ:List (Option T)} {O:AL} {e lo hi:Expr} {p p2 pos:Pos} {Φ:BX}
theorem Vd {a:Addr} {ns:List Int} {i j:Int} (ho:Z.Oe = Mw) (hS:SqL Z.K Z.He a (ns.map V.int)) (h:ET Z ρ O e (.raw (.ref a))) (h1:ET Z ρ O lo (.int i)) (h2:ET Z ρ O hi (.int j))
  (k:∀ ms:List Int,ms.length≤ns.length→Φ (.lst (ms.map T.int)) O):WE Z ρ O (.Subscript e (.Slice (some lo) (some hi) none p2) pos) Φ:=by
 refine PE.weak (Fg ID (BN (ρ:=ρ)) (FJ (BN (ρ:=ρ))) (FJ (BN (ρ:=ρ)))) fun σ H0 Q q => ?_
 refine ⟨O,_,h (fun t O' => t = .raw (.ref a)∧O' = O) ⟨rfl,rfl⟩,q.1,?_⟩
 rintro v H1 _ _ ⟨rfl,rfl⟩ f1 r1
 refine ⟨_,_,h1 (fun t O' => t = .int i∧O' = _) ⟨rfl,rfl⟩,q.1.step f1,?_⟩
 rintro v2 H2 _ _ ⟨rfl,rfl⟩ f2 r2
 refine ⟨i,r2.int_inv,_,_,h2 (fun t O' => t = .int j∧O' = _) ⟨rfl,rfl⟩,q.1.step (f1.trans f2),?_⟩
 rintro v3 H3 _ _ ⟨rfl,rfl⟩ f3 r3
 refine ⟨j,r3.int_inv,a,ns.map V.int,r1.raw_inv,Tz (ho ▸ (q.1.step (f1.trans (f2.trans f3))).fr.kp) hS,fun l hl => ?_⟩
 have ff:=f1.trans (f2.trans f3)
 have e:JZ (ns.map V.int) (some i) (some j) = ((ns.drop (HT.Ff (ns.map V.int).length 0 (some i))).take (HT.Ff (ns.map V.int).length (ns.map V.int).length (some j) - HT.Ff (ns.map V.int).length 0 (some i))).map V.int:=by
  unfold JZ
  rw [← List.map_drop,← List.map_take]
 rw [e]
 refine q.2 _ _ _ _ (k _ ?_) (ff.trans (.new ff.ok hl)) (.lst AJ (ff.ok.none_of hl) ((DZ _).kp (BT ff.ok hl) ff.ok))
 rw [List.length_take,List.length_drop]
 omega
theorem Xm {K:PySem.W.Frag} {g:Bool→Bool} {ns ms:List Int}:RP K (Zs K g) (.lst (ns.map T.int)) (.lst (ms.map T.int)) O (.bl (g (decide (ns = ms)))):=fun Φ p H v w Q ok r1 r2 q => by
 obtain ⟨a,xs,rfl,h1,_,r1⟩:=r1.lst_inv
 obtain ⟨b,ys,rfl,h2,_,r2⟩:=r2.lst_inv
 cases r1.ints
 cases r2.ints
 exact ⟨a,b,ns,ms,rfl,rfl,.inl (.inl h1),.inl (.inl h2),q _ H _ O p (.refl ok) (.bl _)⟩
end
mutual
def Bn:T→Bool
 | .non => true
 | .bl _ => true
 | .int _ => true
 | .str x => PyData.strOk x
 | .tup ts => rdBs ts
 | .lst ts => rdBs ts
 | .frz _ => false
 | .dct => false
 | .raw _ => false
def rdBs:List T→Bool
 | [] => true
 | t :: ts => Bn t && rdBs ts
end
theorem KH:∀ {ts:List T},rdBs ts = true↔∀ t∈ts,Bn t = true
 | [] => by unfold rdBs; simp
 | t :: ts => by unfold rdBs; simp [KH (ts:=ts)]
mutual
theorem Cl:∀ (t:T),Bn t = true→(dT t).canLay0 = true
 | .non,_ => rfl
 | .bl _,_ => rfl
 | .int _,_ => rfl
 | .str x,h => by unfold Bn at h; exact h
 | .tup ts,h => rds_lay ts (by unfold Bn at h; exact h)
 | .lst ts,h => rds_lay ts (by unfold Bn at h; exact h)
 | .frz _,h => by unfold Bn at h; cases h
 | .dct,h => by unfold Bn at h; cases h
 | .raw _,h => by unfold Bn at h; cases h
theorem rds_lay:∀ (ts:List T),rdBs ts = true→PyData.canLayAll0 (dTs ts) = true
 | [],_ => rfl
 | t :: ts,h => by
  unfold rdBs at h
  rw [Bool.and_eq_true] at h
  show (PyData.canLay0 (dT t) && PyData.canLayAll0 (dTs ts)) = true
  rw [Cl t h.1,rds_lay ts h.2]; rfl
end
section
variable {K:PySem.W.Frag} {O:AL} {H:Hp} {P:Program} {w:World} {h:Heap}
mutual
theorem Rep.rd (hok:HOk P w H h):∀ {v:V} {t:T} {u:Value},Rep K O H v t→Bn t = true→RelV v u→∃ as,Reads h u (dT t) as
 | _,_,_,.non,_,r => by cases r; exact ⟨_,.none⟩
 | _,_,_,.bl b,_,r => by cases r; exact ⟨_,.bool b⟩
 | _,_,_,.int i,_,r => by obtain ⟨t,rfl⟩:=r; exact ⟨_,.int i t⟩
 | _,_,_,.str x,_,r => by obtain ⟨t,rfl⟩:=r; exact ⟨_,.str x t⟩
 | _,_,_,.tup (ts:=ts) e q,g,r => by
  cases r
  obtain ⟨_,its,rv,⟨o,e1,e2,n,e3⟩⟩:=(show ObjOk P w H h _ (.tup _) from hok _ _ e)
  obtain ⟨as,ra⟩:=Reps.rd hok q (by unfold Bn at g; exact g) rv
  exact ⟨_,.tuple (vs:=its.toArray) e1 e2 e3 (by simpa using ra)⟩
 | _,_,_,.lst (ts:=ts) e _ q,g,r => by
  cases r
  obtain ⟨_,its,n,rv,e1⟩:=(show ObjOk P w H h _ (.lst _) from hok _ _ e)
  obtain ⟨as,ra⟩:=Reps.rd hok q (by unfold Bn at g; exact g) rv
  exact ⟨_,.list (vs:=its.toArray) e1 rfl rfl (by simpa using ra)⟩
 | _,_,_,.frz _ _,g,_ => by unfold Bn at g; cases g
 | _,_,_,.dct _,g,_ => by unfold Bn at g; cases g
 | _,_,_,.raw v,g,_ => by unfold Bn at g; cases g
theorem Reps.rd (hok:HOk P w H h):∀ {vs:List V} {ts:List T} {us:List Value},Reps K O H vs ts→rdBs ts = true→Vals vs us→∃ as,ReadsAll h us (dTs ts) as
 | _,_,_,.nil,_,r => by cases r; exact ⟨_,.nil⟩
 | _,_,_,.cons a b,g,.cons r1 r2 => by
  unfold rdBs at g
  rw [Bool.and_eq_true] at g
  obtain ⟨as,x⟩:=Rep.rd hok a g.1 r1
  obtain ⟨bs,y⟩:=Reps.rd hok b g.2 r2
  exact ⟨_,.cons x y⟩
end
end
section
variable {X:Cx}
def rD (K:PySem.W.Frag) (g:PyData→PyData→Bool):R2:=fun x y H Q => ∃ O t u,Rep K O H x t∧Rep K O H y u∧Bn t = true∧Bn u = true∧(dT t).depth≤100∧Q (.bl (g (dT t) (dT u))) H
theorem GL (hu:X.A.units + 101 < cLine):Co X (compareOp .Eq) (rD X.K fun a b => PyData.eqv a b):=by
 intro pins s σ H x y v u Q I rx ry h
 obtain ⟨O,t,t',r1,r2,g1,g2,hd,q⟩:=h
 obtain ⟨as,ra⟩:=Rep.rd I.hok r1 g1 rx
 obtain ⟨bs,rb⟩:=Rep.rd I.hok r2 g2 ry
 exact SeqAt.compareEq_reads ra rb (Cl t g1) (Cl t' g2) (by omega) ⟨.bl _,H,I,rfl,q⟩
theorem Io (hu:X.A.units + 101 < cLine):Co X (compareOp .NotEq) (rD X.K fun a b => !PyData.eqv a b):=by
 intro pins s σ H x y v u Q I rx ry h
 obtain ⟨O,t,t',r1,r2,g1,g2,hd,q⟩:=h
 obtain ⟨as,ra⟩:=Rep.rd I.hok r1 g1 rx
 obtain ⟨bs,rb⟩:=Rep.rd I.hok r2 g2 ry
 exact SeqAt.compareNe_reads ra rb (Cl t g1) (Cl t' g2) (by omega) ⟨.bl _,H,I,rfl,q⟩
def Yl (K:PySem.W.Frag) (g:Bool→Bool):R2:=fun x y H Q => ∃ O t us,Rep K O H x t∧(Rep K O H y (.tup us)∨Rep K O H y (.lst us))∧Bn t = true∧rdBs us = true∧(dT t).depth≤100∧Q (.bl (g ((dTs us).any fun y => PyData.eqv y (dT t)))) H
theorem Pw (hu:X.A.units + 102 < cLine):Co X (compareOp .In) (Yl X.K id):=by
 intro pins s σ H x y v u Q I rx ry h
 obtain ⟨O,t,us,r1,r2,g1,g2,hd,q⟩:=h
 obtain ⟨as,ra⟩:=Rep.rd I.hok r1 g1 rx
 rcases r2 with r2 | r2
 ·obtain ⟨bs,rb⟩:=Rep.rd I.hok r2 (by unfold Bn; exact g2) ry
  exact SeqAt.in_tuple_reads rb ra (rds_lay us g2) (Cl t g1) (by omega) ⟨.bl _,H,I,rfl,q⟩
 ·obtain ⟨bs,rb⟩:=Rep.rd I.hok r2 (by unfold Bn; exact g2) ry
  exact SeqAt.in_list_reads rb ra (rds_lay us g2) (Cl t g1) (by omega) ⟨.bl _,H,I,rfl,q⟩
theorem Ve (hu:X.A.units + 102 < cLine):Co X (compareOp .NotIn) (Yl X.K (!·)):=by
 intro pins s σ H x y v u Q I rx ry h
 obtain ⟨O,t,us,r1,r2,g1,g2,hd,q⟩:=h
 obtain ⟨as,ra⟩:=Rep.rd I.hok r1 g1 rx
 rcases r2 with r2 | r2
 ·obtain ⟨bs,rb⟩:=Rep.rd I.hok r2 (by unfold Bn; exact g2) ry
  exact SeqAt.notIn_tuple_reads rb ra (rds_lay us g2) (Cl t g1) (by omega) ⟨.bl _,H,I,rfl,q⟩
 ·obtain ⟨bs,rb⟩:=Rep.rd I.hok r2 (by unfold Bn; exact g2) ry
  exact SeqAt.notIn_list_reads rb ra (rds_lay us g2) (Cl t g1) (by omega) ⟨.bl _,H,I,rfl,q⟩
end
section
variable {K:PySem.W.Frag} {O:AL} {t u:T} {us:List T}
theorem Ip {g:PyData→PyData→Bool} (h1:Bn t = true) (h2:Bn u = true) (hd:(dT t).depth≤100):RP K (rD K g) t u O (.bl (g (dT t) (dT u))):=fun Φ p H v w Q ok r1 r2 q =>
 ⟨O,t,u,r1,r2,h1,h2,hd,q _ H _ O p (.refl ok) (.bl _)⟩
theorem Px {g:Bool→Bool} (h1:Bn t = true) (h2:rdBs us = true) (hd:(dT t).depth≤100):RP K (Yl K g) t (.tup us) O (.bl (g ((dTs us).any fun y => PyData.eqv y (dT t)))):=fun Φ p H v w Q ok r1 r2 q =>
 ⟨O,t,us,r1,.inl r2,h1,h2,hd,q _ H _ O p (.refl ok) (.bl _)⟩
theorem Py {g:Bool→Bool} (h1:Bn t = true) (h2:rdBs us = true) (hd:(dT t).depth≤100):RP K (Yl K g) t (.lst us) O (.bl (g ((dTs us).any fun y => PyData.eqv y (dT t)))):=fun Φ p H v w Q ok r1 r2 q =>
 ⟨O,t,us,r1,.inr r2,h1,h2,hd,q _ H _ O p (.refl ok) (.bl _)⟩
end
theorem Mx (p:Int × Int):Bn (AM p) = true:=by simp [AM,Bn,rdBs]
theorem KI:∀ {ps:List (Int × Int)},rdBs (ps.map AM) = true
 | [] => rfl
 | p :: ps => by
  show (Bn (AM p) && rdBs (ps.map AM)) = true
  rw [Mx,KI]; rfl
theorem Lk (p:Int × Int):(dT (AM p)).depth≤100:=by simp [AM,dT,dTs,PyData.depth,PyData.depthAll]
theorem Pz (p q:Int × Int):PyData.eqv (dT (AM p)) (dT (AM q)) = decide (p = q):=by
 show ((p.1 == q.1) && ((p.2 == q.2) && true)) = decide (p = q)
 rw [Bool.eq_iff_iff]
 simp only [Bool.and_true,Bool.and_eq_true,beq_iff_eq,decide_eq_true_eq]
 exact ⟨fun h => Prod.ext h.1 h.2,fun h => by rw [h]; exact ⟨rfl,rfl⟩⟩
theorem Hi {q:Int × Int}:∀ {ps:List (Int × Int)},((dTs (ps.map AM)).any fun y => PyData.eqv y (dT (AM q))) = decide (q∈ps)
 | [] => by simp [dTs]
 | p :: ps => by
  show (PyData.eqv (dT (AM p)) (dT (AM q)) || (dTs (ps.map AM)).any fun y => PyData.eqv y (dT (AM q))) = _
  rw [Pz,Hi,Bool.eq_iff_iff,Bool.or_eq_true,decide_eq_true_eq,decide_eq_true_eq,decide_eq_true_eq,List.mem_cons]
  exact ⟨fun h => h.elim (fun e => .inl e.symm) .inr,fun h => h.elim (fun e => .inl e.symm) .inr⟩
abbrev BA (n:Int) (ps:List (Int × Int)):T:=.tup [.int n,.tup (ps.map AM)]
end L2.TL
namespace L2
open PySem PySem.Spec PySem.Calls PyProof.Rows
section
variable {X:Cx}
def UA (K:PySem.W.Frag):R2:=fun x y H Q => ∃ (a:Addr) (i:Int) (v:V),x = .ref a∧y = .int i∧SqL K H a [v]∧(i = 0∨i = 1)∧∀ p,H p = none→Q (.ref p) (BG H p (.lst (List.replicate i.toNat v)))
theorem SU:Co X (binaryOp .Mult) (UA X.K):=by
 intro pins s σ H x y v u Q I rx ry h
 obtain ⟨a,i,e,rfl,rfl,ha,hi,q⟩:=h
 cases rx
 obtain ⟨tk,rfl⟩:=ry
 obtain ⟨its,rv,p,_⟩:=I.list ha
 obtain ⟨⟨cls,d,data,sl⟩,k,ho,hc,hdd,hd⟩:=id p
 simp only at hc hd
 subst hc hd
 obtain ⟨u1,rfl,ru⟩:=Vals.one rv
 have hf:=I.hok.fresh (Nat.le_refl s.heap.objs.size)
 refine wpAny_binaryOp_repeat_ref (T:="list") (U:="int") (by decide) ⟨_,ho,rfl⟩ (fun s' => typeIs_int s' i tk) noFill_list_mul F.fills_int_mul F.slot_int_rmul repeat_list F.slot_int_index.lookup
  (call_meets F.slot_int_rmul (typeIs_int s i tk) F.entry_int_rmul (F.args_int_rmul_2 _ _) (lm_int_rmul_list_any i tk a [u1].toArray k d sl)
   ⟨ho,rfl,⟨_,ho,rfl⟩,call_meets F.slot_list_mul ⟨_,ho,rfl⟩ F.entry_list_mul (F.args_list_mul_2 _ _)
    (lm_list_mul_any a [u1].toArray k d sl i tk (by simp [Builtin.List.listFitsIndex]; omega) (by simp; omega) (by simp [Builtin.List.listTooLong,sizeLine]; omega)) ⟨ho,?_⟩⟩)
 rcases hi with rfl | rfl
 ·exact ⟨.ref _,_,I.laid (t':=s.toks) (o:=.lst []) (fun b ob q => Heap.get?_push_of_some _ q) (Nat.le_refl _) ⟨Nat.zero_le _,[],0,.nil,Heap.get?_push_size _ rfl⟩,rfl,q _ hf⟩
 ·exact ⟨.ref _,_,I.laid (t':=s.toks) (o:=.lst [e]) (fun b ob q => Heap.get?_push_of_some _ q) (Nat.le_refl _) ⟨by show 1≤sizeLine; rw [sizeLine_eq]; decide,[u1],0,.cons ru .nil,Heap.get?_push_size _ rfl⟩,rfl,q _ hf⟩
variable {e:Expr} {te:TE} {p2 p3 p4 pos:Pos}
end
end L2
namespace L2.TL
open PySem PySem.Spec PySem.Calls PyProof.Rows
section
variable {Z:Zx} {ρ:List (Option T)} {O:AL} {e a b:Expr} {es:List Expr} {Ψ:Es} {Φ:BX} {pos p p1 pos1 p2 p3 p4:Pos} {t ta tb:T} {ts us:List T} {x:Str}
theorem EB.wt {k:Bool} {Φ:IV} (h:EB Z ρ O e k) (p:Φ k O):WT Z ρ O e Φ:=h Φ p
theorem WW.wt {Φ:IV} (h:WW Z ρ O e Φ):WT Z ρ O e Φ:=h.pt
theorem SV {K:PySem.W.Frag} {i:Int} (hi:i = 0∨i = 1):RP K (UA K) (.lst [t]) (.int i) O (.lst (List.replicate i.toNat t)):=fun Φ p H v w Q ok r1 r2 q => by
 obtain ⟨a,xs,rfl,h1,_,r1⟩:=r1.lst_inv
 obtain ⟨v,rfl,g⟩:=r1.one_inv
 refine ⟨a,i,v,rfl,r2.int_inv,.inl (.inl h1),hi,fun l hl => q _ _ _ O p (.new ok hl) (.lst AJ (ok.none_of hl) ?_)⟩
 rcases hi with rfl | rfl
 ·exact .nil
 ·exact .one (g.kp (BT ok hl) ok)
theorem Hj {o:Expr} {apos cpos:Pos} (h:WE Z ρ O o fun t O1 => ∃ a,t = .raw (.ref a)∧(∃ ts,O1 a = some ts)∧WE Z ρ O1 e fun u O2 => ∃ ts us,u = .lst us∧O2 a = some ts∧ts.length + us.length≤sizeLine∧Φ .non (Ae O2 a (ts ++ us)))
  (hbase:attributeBase o "extend" Z.X.env (eval o Z.X.env) = eval o Z.X.env:=by rfl)
  (hfew:((backTo cpos (starEach [e] Z.X.env)).all (fun x => !x.1) && (backToKw cpos (keywordEach [] Z.X.env)).all (fun x => x.1.isSome)
   && decide ([e].length + ([]:List Keyword).length + (if ([]:List Keyword).isEmpty then 0 else 1) < 30)) = true:=by rfl)
  (hline:(apos.endLine == cpos.line) = true:=by rfl) (hs:starEach [e] Z.X.env = (false,eval e Z.X.env) :: starEach [] Z.X.env:=by rfl) (hplain:(backTo cpos (starEach [] Z.X.env)).any (·.1) = false:=by rfl):WE Z ρ O (.Call (.Attribute o "extend" apos) [e] [] cpos) Φ:=by
 refine Pf PySem.F.plainAttrs_list PySem.F.slot_list_extend PySem.F.type_list_extend Nj (DT h ?_) hbase hfew hline hs hplain
 rintro t O1 ⟨a,rfl,⟨ts,hts⟩,w⟩
 refine ⟨Mr hts,DU (DT w ?_) hs⟩
 rintro u O2 ⟨us,vs,rfl,h1,h2,p⟩
 refine BE fun H v ws Q ok r1 r2 q => ?_
 cases r1.raw_inv
 obtain ⟨w,rfl,r3⟩:=r2.one_inv
 obtain ⟨c,ys,rfl,hc,_,r3⟩:=r3.lst_inv
 obtain ⟨xs,hx,r⟩:=ok a us h1
 exact ⟨a,c,xs,ys,rfl,rfl,hx,hc,by rw [r.length,r3.length]; exact h2,q _ _ _ _ p (.put ok h1 (r.append r3)) .non⟩
def CQ:T→Bool
 | .non => true
 | _ => false
theorem DH {j:Nat} (hr:Aa t = false) (ha:ET Z ρ O a t):EB Z ρ O (.Compare a [.Is] [.Constant .none j p1] pos) (CQ t):=BI Up (Af _) (fun Φ p H v w Q ok r1 r2 q => by
 refine ⟨r2.non_inv,?_⟩
 have e:decide (v = V.non) = CQ t:=by
  cases r1 <;> first | rfl | cases hr
 rw [e]
 exact q _ H _ O p (.refl ok) (.bl _)) ha BU
def Vf (C:Addr) (t:T):Sp:=fun vs H Q _ => ∃ x,vs = [.ref x]∧H x = some (IH C x)∧∀ v H',Same H H'→(∀ (K:PySem.W.Frag) (O:AL),Rep K O H' v t)→Q v H'
end
section
variable {Z:Zx} {ρ:List (Option T)} {O O1 O2:AL} {c:Expr} {body ss:List Stmt} {Ψ:Es} {pos:Pos}
def ZU (Z:Zx) (e:Expr):TT:=fun σ H Q => ∃ ρ O Φ,WT Z ρ O e Φ∧Wd Z ρ O Φ σ H Q
theorem Xn {e:Expr}:PT Z.X e (ZU Z e):=fun pins s σ H Q I ⟨_,_,_,w,q⟩ => w pins s σ H Q I q
theorem GM (hp:PassesOwn (model Z.X.prog Z.X.w) Z.X.A Z.X.env Z.X.xe) (I:Nat→Ic) (i0:∃ m,I m ρ O)
  (step:∀ m ρ' O',I m ρ' O'→WT Z ρ' O' c fun b O1 => if b = true then DW Z ρ' O1 body { nx:=fun ρ2 O2 => ∃ m',m' < m∧I m' ρ2 O2,rt:=Ψ.rt,bk:=Ψ.nx,ct:=fun ρ2 O2 => ∃ m',m' < m∧I m' ρ2 O2 } else Ψ.nx ρ' O1):WS Z ρ O (.While c body [] pos) Ψ:=by
 refine PS.weak (Og hp Xn KC) fun D σ H q => ?_
 obtain ⟨m0,i0⟩:=i0
 refine ⟨fun m σ' H' => ∃ ρ' O',I m ρ' O'∧Asr Z ρ' O' σ' H'∧Kp O H O' H',⟨m0,ρ,O,i0,q.1,.refl⟩,?_⟩
 rintro m σ1 H1 ⟨ρ1,O1,i1,a1,k1⟩
 refine ⟨ρ1,O1,_,step m ρ1 O1 i1,a1,fun b H2 O2 p f => ?_⟩
 have kk:=k1.trans f.kp
 cases b with
 | true =>
  rw [if_pos rfl] at p
  show if true = true then _ else _
  rw [if_pos rfl]
  refine ⟨fun σ2 H3 => ∃ ρ2 O3,(∃ m',m' < m∧I m' ρ2 O3)∧Asr Z ρ2 O3 σ2 H3∧Kp O H O3 H3,?_,ρ1,O2,_,p,a1.step f,?_⟩
  ·rintro σ2 H3 ⟨ρ2,O3,⟨m',hm,i2⟩,a2,k2⟩
   exact ⟨m',hm,ρ2,O3,i2,a2,k2⟩
  ·exact ⟨fun ρ' O' σ' H' w a k => ⟨ρ',O',w,a,kk.trans k⟩,q.2.rt,fun ρ' O' σ' H' w a k => q.2.nx ρ' O' σ' H' w a (kk.trans k),fun ρ' O' σ' H' w a k => ⟨ρ',O',w,a,kk.trans k⟩⟩
 | false =>
  rw [if_neg Bool.false_ne_true] at p
  show if false = true then _ else _
  rw [if_neg Bool.false_ne_true]
  exact q.2.nx ρ1 O2 σ1 H2 p (a1.step f) kk
theorem SW (hk:∀ H,OwnOk Z.K O1 H→Kp O1 H O2 H∧OwnOk Z.K O2 H) (hf:∀ b us vs,Z.Oe b = some us→O1 b = some vs→∃ us',O2 b = some us') (h:DW Z ρ O2 ss Ψ):DW Z ρ O1 ss Ψ:=PSs.weak h fun D σ H q => by
 obtain ⟨k,ok⟩:=hk H q.1.ok
 exact ⟨⟨q.1.rl.kp k q.1.ok,⟨q.1.fr.kp.trans k,fun b us e => by
  obtain ⟨vs,e'⟩:=q.1.fr.own b us e
  exact hf b us vs e e',ok⟩⟩,q.2.step k⟩
end
section
variable {O:AL} {rs:List (Addr × List T)} {r:Addr × List T} {p q l:Addr} {us vs:List T}
def JS (O:AL) (rs:List (Addr × List T)):AL:=rs.foldl (fun O r => Ae O r.1 r.2) O
theorem Be:JS O (r :: rs) = JS (Ae O r.1 r.2) rs:=rfl
theorem QA:JS O (rs ++ [r]) = Ae (JS O rs) r.1 r.2:=by unfold JS; rw [List.foldl_append]; rfl
theorem Dc (h:∀ r∈rs,r.1≠p):JS O rs p = O p:=by
 induction rs generalizing O with
 | nil => rfl
 | cons r rs ih =>
  rw [Be,ih fun s hs => h s (List.mem_cons_of_mem _ hs),AX (fun z => h r (List.mem_cons_self ..) z.symm)]
theorem QB (h:∀ r∈rs,r.1≠p):Ae (JS O rs) p vs = JS (Ae O p vs) rs:=by
 induction rs generalizing O with
 | nil => rfl
 | cons r rs ih =>
  rw [Be,ih fun s hs => h s (List.mem_cons_of_mem _ hs),Be,DG (h r (List.mem_cons_self ..))]
theorem Dr (hn:(rs.map Prod.fst).Nodup) (h:r∈rs):JS O rs r.1 = some r.2:=by
 induction rs generalizing O with
 | nil => cases h
 | cons s rs ih =>
  rw [List.map_cons,List.nodup_cons] at hn
  rw [Be]
  rcases List.mem_cons.mp h with rfl | h
  ·rw [Dc fun s hs z => hn.1 (List.mem_map.mpr ⟨s,hs,z⟩),AH]
  ·exact ih hn.2 h
theorem SX {i:Nat} (hn:(rs.map Prod.fst).Nodup) (h:rs[i]? = some (p,us)):Ae (JS O rs) p vs = JS O (rs.set i (p,vs)):=by
 induction rs generalizing O i with
 | nil => simp at h
 | cons s rs ih =>
  rw [List.map_cons,List.nodup_cons] at hn
  cases i with
  | zero =>
   simp at h
   subst h
   rw [List.set_cons_zero,Be,Be,QB fun s hs z => hn.1 (List.mem_map.mpr ⟨s,hs,z⟩),Ba]
  | succ i =>
   rw [List.set_cons_succ,Be,Be]
   exact ih hn.2 (by simpa using h)
theorem SY {i:Nat} (h:rs[i]? = some (p,us)):(rs.set i (p,vs)).map Prod.fst = rs.map Prod.fst:=by
 rw [List.map_set]
 apply List.ext_getElem?
 intro m
 by_cases hm:i = m
 ·subst hm
  have hl:=(List.getElem?_eq_some_iff.mp h).1
  rw [List.getElem?_set_self (by simpa using hl),List.getElem?_map,h]; rfl
 ·rw [List.getElem?_set_ne hm]
def Gu (r:Addr × List T):T:=.raw (.ref r.1)
theorem KJ {K:PySem.W.Frag} {H:Hp} {O:AL}:∀ {rs:List (Addr × List T)} {xs:List V},Reps K O H xs (rs.map Gu)→xs = rs.map fun r => V.ref r.1
 | [],_,h => h.nil_inv
 | r :: rs,_,h => by
  obtain ⟨v,vs',rfl,h1,h2⟩:=h.cons_inv
  cases h1.raw_inv
  rw [KJ h2]; rfl
theorem KK {K:PySem.W.Frag} {H:Hp} {O:AL}:∀ {rs:List (Addr × List T)},(∀ r∈rs,Rep K O H (.ref r.1) (.lst r.2))→Reps K O H (rs.map fun r => V.ref r.1) (rs.map fun r => T.lst r.2)
 | [],_ => .nil
 | r :: rs,h => .cons (h r (List.mem_cons_self ..)) (KK fun s hs => h s (List.mem_cons_of_mem _ hs))
theorem QC {Z:Zx} {ρ:List (Option T)} {ss:List Stmt} {Ψ:Es} (hn:(rs.map Prod.fst).Nodup) (hl:∀ r∈rs,r.1≠l) (ho:∀ r∈rs,O r.1 = none) (he:∀ r∈rs,Z.Oe r.1 = none)
  (h:DW Z ρ (Ae O l (rs.map fun r => T.lst r.2)) ss Ψ):DW Z ρ (Ae (JS O rs) l (rs.map Gu)) ss Ψ:=by
 refine SW (fun H ok => ?_) (fun b us vs e1 e2 => ?_) h
 ·have k:Kp (Ae (JS O rs) l (rs.map Gu)) H (Ae O l (rs.map fun r => T.lst r.2)) H:=fun b o hb n => ⟨hb,by
   by_cases h1:b = l
   ·rw [h1,AH] at n; cases n
   ·rw [AX h1] at n ⊢
    by_cases h2:∃ r∈rs,r.1 = b
    ·obtain ⟨r,hr,rfl⟩:=h2
     exact ho r hr
    ·rw [Dc fun r hr z => h2 ⟨r,hr,z⟩] at n
     exact n⟩
  refine ⟨k,fun a ts e => ?_⟩
  by_cases h1:a = l
  ·subst h1
   rw [AH] at e
   cases e
   obtain ⟨xs,hx,rx⟩:=ok a _ AH
   have:=KJ rx
   subst this
   refine ⟨_,hx,KK fun r hr => ?_⟩
   obtain ⟨ys,hy,ry⟩:=ok r.1 r.2 (by rw [AX (hl r hr)]; exact Dr hn hr)
   exact .lst hy (by rw [AX (hl r hr)]; exact ho r hr) (ry.kp k ok)
  ·rw [AX h1] at e
   have hz:∀ r∈rs,r.1≠a:=fun r hr z => by rw [← z,ho r hr] at e; cases e
   obtain ⟨xs,hx,rx⟩:=ok a ts (by rw [AX h1,Dc hz]; exact e)
   exact ⟨xs,hx,rx.kp k ok⟩
 ·by_cases h1:b = l
  ·rw [h1]; exact ⟨_,AH⟩
  ·rw [AX h1] at e2 ⊢
   by_cases h2:∃ r∈rs,r.1 = b
   ·obtain ⟨r,hr,rfl⟩:=h2
    rw [he r hr] at e1; cases e1
   ·rw [Dc fun r hr z => h2 ⟨r,hr,z⟩] at e2
    exact ⟨_,e2⟩
end
theorem Hk {Z:Zx} {ρ:List (Option T)} {O:AL} {elt tg iter:Expr} {ifs:List Expr} {csc:Scope} {nc:List Str} {cap:List (Str × Nat)} {pos:Pos} {i:Nat} {x:Str} {px spos:Pos} {Ψ:Es} (hsw:swapsWith (.ListComp elt [⟨tg,iter,ifs,0⟩] csc pos) (some (.Name x px)) spos.line Z.X.env = pure true) (hN:Z.X.N.Nodup) (hc:Z.X.calm = true) (ok:LcOk Z.X csc nc cap)
  (h:WI Z ρ O tg iter (Pk Z ρ elt tg ifs csc nc cap fun acc O' => ∀ a,O' a = none→Ψ.nx (ρ.set i (some (.raw (.ref a)))) (Ae O' a acc))) (hx:Z.X.N[i]? = some x:=by rfl) (hk:Z.X.env.scope.names.lookup x = some .local:=by rfl)
  (hs:∀ x,foldedSetIterable iter Z.X.env x = pure x:=by intro _; rfl):WS Z ρ O (.Assign [.Name x px] (.ListComp elt [⟨tg,iter,ifs,0⟩] csc pos) spos) Ψ :=
 PS.weak (Je hN hx hk hsw hc ok h SM Mt SN hs) fun D σ H q => Lg q.1 h fun acc O' p H' p1 n f nb => q.2.nx _ _ _ H' (p1 p n) ⟨(q.1.step f).rl.set (.raw _),(q.1.step f).fr⟩ f.kp
end L2.TL
namespace Gr
open L2.TL
variable {ps:List (Int × Int)} {n:Int} {S:List Int} {v u:Int} {d e s k:Nat} {fs gs:List (Option Nat)} {BL ds:List Int}
def Adj (ps:List (Int × Int)) (u v:Int):Prop:=(u,v)∈ps∨(v,u)∈ps
inductive W (ps:List (Int × Int)) (S:List Int):Nat→Int→Prop
 | at {v:Int}:v∈S→W ps S 0 v
 | go {k:Nat} {u v:Int}:W ps S k u→Adj ps u v→W ps S (k + 1) v
def IsD (ps:List (Int × Int)) (S:List Int) (v:Int) (d:Nat):Prop:=W ps S d v∧∀ j,j < d→¬ W ps S j v
theorem IsD.uniq (a:IsD ps S v d) (b:IsD ps S v e):d = e:=by
 rcases Nat.lt_trichotomy d e with h | h | h
 ·exact absurd a.1 (b.2 d h)
 ·exact h
 ·exact absurd b.1 (a.2 e h)
theorem W.least (h:W ps S k v):∃ d,d≤k∧IsD ps S v d:=by
 induction k using Nat.strongRecOn with
 | _ k ih =>
  by_cases hx:∃ j,j < k∧W ps S j v
  ·obtain ⟨j,hj,w⟩:=hx
   obtain ⟨d,hd,i⟩:=ih j hj w
   exact ⟨d,by omega,i⟩
  ·exact ⟨k,Nat.le_refl _,h,fun j hj w => hx ⟨j,hj,w⟩⟩
theorem IsD.prev (h:IsD ps S v (s + 1)):∃ u,IsD ps S u s∧Adj ps u v:=by
 obtain ⟨w,m⟩:=h
 cases w with
 | go w a => exact ⟨_,⟨w,fun j hj w' => m (j + 1) (by omega) (.go w' a)⟩,a⟩
theorem IsD.down (h:IsD ps S v (s + k)):∃ u,IsD ps S u s:=by
 induction k generalizing v with
 | zero => exact ⟨v,h⟩
 | succ k ih =>
  obtain ⟨u,hu,_⟩:=IsD.prev (s:=s + k) h
  exact ih hu
def QD (n:Int) (ps:List (Int × Int)):Prop:=∀ p∈ps,0≤p.1∧p.1 < p.2∧p.2 < n
theorem Adj.inb (hw:QD n ps) (h:Adj ps u v):0≤v∧v < n∧u≠v:=by
 rcases h with h | h
 ·have:=hw _ h
  simp only at this
  omega
 ·have:=hw _ h
  simp only at this
  omega
theorem W.inb (hw:QD n ps) (hS:∀ z∈S,0≤z∧z < n) (h:W ps S k v):0≤v∧v < n:=by
 cases h with
 | «at» h => exact hS _ h
 | go _ a => exact ⟨(a.inb hw).1,(a.inb hw).2.1⟩
theorem IsD.lt (hw:QD n ps) (hS:∀ z∈S,0≤z∧z < n) (h:IsD ps S v s):(s:Int) < n:=by
 have key:∃ L:List Nat,L.length = s + 1∧L.Nodup∧∀ u∈L,∃ i,i≤s∧IsD ps S (u:Int) i:=by
  induction s generalizing v with
  | zero =>
   have:=h.1.inb hw hS
   refine ⟨[v.toNat],rfl,by simp,fun u hu => ⟨0,Nat.le_refl _,?_⟩⟩
   rw [List.mem_singleton.mp hu,Int.toNat_of_nonneg this.1]
   exact h
  | succ s ih =>
   obtain ⟨u,hu,_⟩:=h.prev
   obtain ⟨L,l1,l2,l3⟩:=ih hu
   have hb:=h.1.inb hw hS
   refine ⟨v.toNat :: L,by simp [l1],List.nodup_cons.mpr ⟨fun hm => ?_,l2⟩,fun z hz => ?_⟩
   ·obtain ⟨i,hi,q⟩:=l3 _ hm
    rw [Int.toNat_of_nonneg hb.1] at q
    have:=q.uniq h
    omega
   ·rcases List.mem_cons.mp hz with rfl | hz
    ·exact ⟨s + 1,Nat.le_refl _,by rw [Int.toNat_of_nonneg hb.1]; exact h⟩
    ·obtain ⟨i,hi,q⟩:=l3 z hz
     exact ⟨i,by omega,q⟩
 obtain ⟨L,l1,l2,l3⟩:=key
 have:=StT.BW n.toNat L l2 (fun x hx => by
  obtain ⟨i,_,q⟩:=l3 x hx
  have:=q.1.inb hw hS
  omega)
 omega
structure Fr (n:Int) (ps:List (Int × Int)) (S:List Int) (s:Nat) (fs:List (Option Nat)):Prop where
 len:(fs.length:Int) = n
 eq:∀ v:Int,0≤v→v < n→∀ d,fs[v.toNat]? = some (some d)↔(d≤s∧IsD ps S v d)
structure All (n:Int) (ps:List (Int × Int)) (S:List Int) (fs:List (Option Nat)):Prop where
 len:(fs.length:Int) = n
 eq:∀ v:Int,0≤v→v < n→∀ d,fs[v.toNat]? = some (some d)↔IsD ps S v d
theorem All.uniq (a:All n ps S fs) (b:All n ps S gs):fs = gs:=by
 have l1:=a.len
 have l2:=b.len
 apply List.ext_getElem?
 intro i
 by_cases hi:i < fs.length
 ·have hg:i < gs.length:=by omega
  have e:=a.eq i (by omega) (by omega)
  have f:=b.eq i (by omega) (by omega)
  rw [Int.toNat_natCast,List.getElem?_eq_getElem hi] at e
  rw [Int.toNat_natCast,List.getElem?_eq_getElem hg] at f
  rw [List.getElem?_eq_getElem hi,List.getElem?_eq_getElem hg]
  cases x:fs[i] with
  | some d =>
   rw [x] at e
   exact ((f d).mpr ((e d).mp rfl)).symm
  | none =>
   cases y:gs[i] with
   | none => rfl
   | some d =>
    rw [y] at f
    rw [x] at e
    have:=(e d).mpr ((f d).mp rfl)
    cases this
 ·rw [List.getElem?_eq_none (by omega),List.getElem?_eq_none (by omega)]
theorem Fr.all_end (h:Fr n ps S s fs) (e:∀ v,¬ IsD ps S v s):All n ps S fs:=⟨h.len,fun v v0 v1 d => by
 rw [h.eq v v0 v1 d]
 refine ⟨fun z => z.2,fun z => ⟨?_,z⟩⟩
 by_cases hd:d≤s
 ·exact hd
 ·obtain ⟨k,rfl⟩:∃ k,d = s + k:=⟨d - s,by omega⟩
  obtain ⟨u,hu⟩:=z.down
  exact absurd hu (e u)⟩
theorem SZ (hl:(fs.length:Int) = n) (h:∀ v:Int,0≤v→v < n→∀ d,fs[v.toNat]? = some (some d)↔(d = 0∧v∈S)):Fr n ps S 0 fs:=⟨hl,fun v v0 v1 d => by
 rw [h v v0 v1 d]
 constructor
 ·rintro ⟨rfl,hv⟩
  exact ⟨Nat.le_refl _,.at hv,fun j hj => by omega⟩
 ·rintro ⟨hd,w,_⟩
  have:d = 0:=by omega
  subst this
  cases w with
  | «at» h => exact ⟨rfl,h⟩⟩
structure Mid (n:Int) (ps:List (Int × Int)) (S:List Int) (s:Nat) (fs:List (Option Nat)) (BL ds:List Int):Prop where
 len:(fs.length:Int) = n
 eq:∀ v:Int,0≤v→v < n→∀ d,fs[v.toNat]? = some (some d)↔((d≤s∧IsD ps S v d)∨(d = s + 1∧v∈BL))
 sub:∀ v∈BL,IsD ps S v (s + 1)
 dn:∀ v∈ds,0≤v∧v < n∧∃ d,fs[v.toNat]? = some (some d)
theorem Fr.mid (h:Fr n ps S s fs):Mid n ps S s fs [] []:=⟨h.len,fun v v0 v1 d => by
 rw [h.eq v v0 v1 d]
 simp,(fun _ h => by cases h),(fun _ h => by cases h)⟩
theorem Mid.miss (m:Mid n ps S s fs BL ds) (v0:0≤v) (v1:v < n) (h:fs[v.toNat]? = some (some d)):Mid n ps S s fs BL (ds ++ [v]):=⟨m.len,m.eq,m.sub,fun z hz => by
 rcases List.mem_append.mp hz with hz | hz
 ·exact m.dn z hz
 ·rw [List.mem_singleton.mp hz]; exact ⟨v0,v1,d,h⟩⟩
theorem Mid.hit (m:Mid n ps S s fs BL ds) (v0:0≤v) (v1:v < n) (hn:fs[v.toNat]? = some none) (hu:IsD ps S u s) (a:Adj ps u v):Mid n ps S s (fs.set v.toNat (some (s + 1))) (BL ++ [v]) (ds ++ [v]):=by
 have hl:=m.len
 have hlt:v.toNat < fs.length:=by omega
 have iv:IsD ps S v (s + 1):=by
  refine ⟨.go hu.1 a,fun j hj w => ?_⟩
  obtain ⟨d,hd,i⟩:=w.least
  have:=(m.eq v v0 v1 d).mpr (.inl ⟨by omega,i⟩)
  rw [hn] at this
  cases this
 have key:∀ w:Int,0≤w→w < n→w≠v→(fs.set v.toNat (some (s + 1)))[w.toNat]? = fs[w.toNat]?:=fun w w0 w1 h => List.getElem?_set_ne (by omega)
 refine ⟨by rw [List.length_set]; exact hl,fun w w0 w1 d => ?_,fun w hw => ?_,fun w hw => ?_⟩
 ·by_cases h:w = v
  ·subst h
   rw [List.getElem?_set_self hlt]
   constructor
   ·intro z
    have:d = s + 1:=by cases z; rfl
    exact .inr ⟨this,by simp⟩
   ·rintro (z | z)
    ·have:=z.2.uniq iv
     omega
    ·rw [z.1]
  ·rw [key w w0 w1 h,m.eq w w0 w1 d]
   have:w∈BL ++ [v]↔w∈BL:=by simp [h]
   rw [this]
 ·rcases List.mem_append.mp hw with hw | hw
  ·exact m.sub w hw
  ·rw [List.mem_singleton.mp hw]; exact iv
 ·rcases List.mem_append.mp hw with hw | hw
  ·obtain ⟨w0,w1,d,hd⟩:=m.dn w hw
   refine ⟨w0,w1,?_⟩
   by_cases h:w = v
   ·subst h; exact ⟨_,List.getElem?_set_self hlt⟩
   ·exact ⟨d,by rw [key w w0 w1 h]; exact hd⟩
  ·rw [List.mem_singleton.mp hw]; exact ⟨v0,v1,_,List.getElem?_set_self hlt⟩
theorem Mid.done (m:Mid n ps S s fs BL ds) (h:∀ u v,IsD ps S u s→Adj ps u v→v∈ds):Fr n ps S (s + 1) fs∧∀ v,v∈BL↔IsD ps S v (s + 1):=by
 have key:∀ v,IsD ps S v (s + 1)→v∈BL:=fun v i => by
  obtain ⟨u,hu,a⟩:=i.prev
  obtain ⟨v0,v1,d,hd⟩:=m.dn v (h u v hu a)
  rcases (m.eq v v0 v1 d).mp hd with z | z
  ·have:=z.2.uniq i
   omega
  ·exact z.2
 refine ⟨⟨m.len,fun v v0 v1 d => ?_⟩,fun v => ⟨m.sub v,key v⟩⟩
 rw [m.eq v v0 v1 d]
 constructor
 ·rintro (z | z)
  ·exact ⟨by omega,z.2⟩
  ·rw [z.1]; exact ⟨Nat.le_refl _,m.sub v z.2⟩
 ·rintro ⟨h1,h2⟩
  by_cases hd:d≤s
  ·exact .inl ⟨hd,h2⟩
  ·have:d = s + 1:=by omega
   subst this
   exact .inr ⟨rfl,key v h2⟩
theorem QE {L:List Int} (h:L.Nodup) (hb:∀ z∈L,0≤z∧z < n):L.length≤n.toNat:=by
 have key:∀ L:List Int,L.Nodup→(∀ z∈L,0≤z∧z < n)→(L.map Int.toNat).Nodup:=by
  intro L
  induction L with
  | nil => intro _ _; simp
  | cons a L ih =>
   intro h hb
   rw [List.nodup_cons] at h
   rw [List.map_cons,List.nodup_cons]
   refine ⟨fun hm => ?_,ih h.2 fun z hz => hb z (List.mem_cons_of_mem _ hz)⟩
   obtain ⟨z,hz,e⟩:=List.mem_map.mp hm
   have h1:=hb z (List.mem_cons_of_mem _ hz)
   have h2:=hb a (List.mem_cons_self ..)
   have:z = a:=by omega
   subst this
   exact h.1 hz
 have:=StT.BW n.toNat (L.map Int.toNat) (key L h hb) (fun x hx => by
  obtain ⟨z,hz,rfl⟩:=List.mem_map.mp hx
  have:=hb z hz
  omega)
 rw [List.length_map] at this
 exact this
theorem Mid.fresh (m:Mid n ps S s fs BL ds) (v0:0≤v) (v1:v < n) (hn:fs[v.toNat]? = some none):v ∉ BL:=fun h => by
 have:=(m.eq v v0 v1 (s + 1)).mpr (.inr ⟨rfl,h⟩)
 rw [hn] at this
 cases this
end Gr
namespace L2.TL
open PySem PySem.Spec PyProof.Rows
section
variable {X:Cx}
theorem KL {v:V} {u:Value} (h:RelV v u):∀ n,Vals (List.replicate n v) (List.replicate n u)
 | 0 => .nil
 | n + 1 => .cons h (KL h n)
theorem KM {u:Value}:∀ (n:Nat) (acc:Array Value),List.foldl (fun x1 x2 => x1 ++ x2) acc (List.replicate n [u].toArray) = acc ++ (List.replicate n u).toArray
 | 0,acc => by simp
 | n + 1,acc => by
  rw [List.replicate_succ,List.foldl_cons,KM n]
  rw [List.replicate_succ]
  apply Array.ext'
  simp
def Xo (K:PySem.W.Frag):R2:=fun x y H Q => ∃ (a:Addr) (i:Int) (v:V),x = .ref a∧y = .int i∧SqL K H a [v]∧(0≤i∧i≤1000)∧∀ p,H p = none→Q (.ref p) (BG H p (.lst (List.replicate i.toNat v)))
theorem My:Co X (binaryOp .Mult) (Xo X.K):=by
 intro pins s σ H x y v u Q I rx ry h
 obtain ⟨a,i,e,rfl,rfl,ha,hi,q⟩:=h
 cases rx
 obtain ⟨tk,rfl⟩:=ry
 obtain ⟨its,rv,p,_⟩:=I.list ha
 obtain ⟨⟨cls,d,data,sl⟩,k,ho,hc,hdd,hd⟩:=id p
 simp only at hc hd
 subst hc hd
 obtain ⟨u1,rfl,ru⟩:=Vals.one rv
 have hf:=I.hok.fresh (Nat.le_refl s.heap.objs.size)
 refine wpAny_binaryOp_repeat_ref (T:="list") (U:="int") (by decide) ⟨_,ho,rfl⟩ (fun s' => typeIs_int s' i tk) noFill_list_mul F.fills_int_mul F.slot_int_rmul repeat_list F.slot_int_index.lookup
  (call_meets F.slot_int_rmul (typeIs_int s i tk) F.entry_int_rmul (F.args_int_rmul_2 _ _) (lm_int_rmul_list_any i tk a [u1].toArray k d sl)
   ⟨ho,rfl,⟨_,ho,rfl⟩,call_meets F.slot_list_mul ⟨_,ho,rfl⟩ F.entry_list_mul (F.args_list_mul_2 _ _)
    (lm_list_mul_any a [u1].toArray k d sl i tk (by simp [Builtin.List.listFitsIndex]; omega) (by simp; omega) (by simp [Builtin.List.listTooLong,sizeLine]; omega)) ⟨ho,?_⟩⟩)
 have ef:List.foldl (fun x1 x2 => x1 ++ x2) #[] (List.replicate (if [u1].toArray.isEmpty = true then 0 else i.toNat) [u1].toArray) = (List.replicate i.toNat u1).toArray:=by
  show List.foldl (fun x1 x2 => x1 ++ x2) #[] (List.replicate i.toNat [u1].toArray) = _
  rw [KM]
  simp
 rw [ef]
 exact ⟨.ref _,_,I.laid (t':=s.toks) (o:=.lst (List.replicate i.toNat e)) (fun b ob q => Heap.get?_push_of_some _ q) (Nat.le_refl _) ⟨by rw [List.length_replicate,sizeLine_eq]; omega,List.replicate i.toNat u1,0,KL ru _,Heap.get?_push_size _ rfl⟩,rfl,q _ hf⟩
end
section
variable {Z:Zx} {ρ:List (Option T)} {O:AL} {a b:Expr} {t:T} {Φ:BX} {pos:Pos} {i:Int}
theorem Rep.repl {K:PySem.W.Frag} {O:AL} {H:Hp} {v:V} {t:T} (h:Rep K O H v t):∀ n,Reps K O H (List.replicate n v) (List.replicate n t)
 | 0 => .nil
 | n + 1 => .cons h (Rep.repl h n)
theorem Sa (ha:ET Z ρ O a (.lst [t])) (hb:ET Z ρ O b (.int i)) (hi:0≤i∧i≤1000) (k:∀ p,O p = none→Φ (.raw (.ref p)) (Ae O p (List.replicate i.toNat t))):WE Z ρ O (.BinOp a .Mult b pos) Φ :=
 Bx My (ET.we ha (ET.we hb fun H v w Q ok r1 r2 q => by
  obtain ⟨a,xs,rfl,h1,_,r1⟩:=r1.lst_inv
  obtain ⟨v,rfl,g⟩:=r1.one_inv
  exact ⟨a,i,v,rfl,r2.int_inv,.inl (.inl h1),hi,fun l hl => q _ _ _ _ (k l (ok.none_of hl)) (.newO ok hl (Rep.repl g _)) (.raw _)⟩))
end
section
variable {Z:Zx} {ρ:List (Option T)} {O:AL} {body:List Stmt} {Ψ:Es} {pos:Pos}
abbrev zT (Z:Zx) (pins:List (Addr × Obj)) (E':Value→Shared→Prop) (Xi:Value→AL→Prop):Zx:=⟨Dh Z.X pins E',Z.Oe,Z.He,Xi⟩
theorem Sb {kh i:Nat} {psh:List Str} {n g bx:Str} {B fh:Addr} {fdh:FuncData} {np hpos gp ep cp2 rp2:Pos} (Cs:Addr→T→Prop)
  (hbody:∀ pins E',XFly (zT Z pins E' fun cls O' => ∃ C y,cls = .ref C∧Cs C y∧Ψ.rt y O').X (zT Z pins E' fun cls O' => ∃ C y,cls = .ref C∧Cs C y∧Ψ.rt y O').W→DW (zT Z pins E' fun cls O' => ∃ C y,cls = .ref C∧Cs C y∧Ψ.rt y O') ρ O body Ψ)
  (FH:∀ C y,Cs C y→FnH Z.X.prog Z.X.w Z.X.K Z.X.mg Z.X.base kh fh fdh psh (Vf C y)) (hrh:Room kh Z.X.A) (mh:Z.X.mg g = some (.ref fh)) (keh:PySem.W.keepIn Z.X.K (.ref fh) = true) (bh:Binds Z.X.K fdh psh [])
  (hst:Z.X.stack = Z.X.env :: Z.X.outer) (hex:Z.X.ex = []) (hfr:Z.X.env.frame = some Z.X.env.locals) (hN:Z.X.N.Nodup) (hi:Z.X.N[i]? = some n) (hk:Z.X.env.scope.names.lookup n = some .local) (hmB:Z.X.mg bx = some (.ref B)) (hbe:PySem.W.mroIn Z.X.K B (.type "BaseException") = some true)
  (kc:∀ C y,Cs C y→PySem.W.kitCls Z.X.K (.ref C) (.ref B) = some true)
  (hgB:Gl Z.X bx) (hgh:∀ z,Gl (Rb Z.X z) g) (hvn:∀ z,UR (Rb Z.X z).env.scope n)
  (he2:starEach [Expr.Name n ep] Z.X.env = (false,eval (Expr.Name n ep) Z.X.env) :: starEach [] Z.X.env) (hpl2:(backTo cp2 (starEach [] Z.X.env)).any (·.1) = false)
  (hd2:(bx == ("__debug__" : Str)) = false) (hd3:(g == ("__debug__" : Str)) = false) (hd4:(n == ("__debug__" : Str)) = false) (hd5:(n == ("__classdict__" : Str)) = false) :
  WS Z ρ O (.Try body [.ExceptHandler (some (.Name bx np)) (some n) [.Return (some (.Call (.Name g gp) [.Name n ep] [] cp2)) rp2] hpos] [] [] pos) Ψ:=by
 have hb1:∀ (W:St→XK) (X':Cx),TryIs Z.X X'→XFly X' W→PSs X' body (fun D σ H => tS Z ρ O Ψ D σ H∧∀ (σ':St) C y O' H',σ'.length = Z.X.N.length→Cs C y→Ψ.rt y O'→Frm Z.K Z.Oe Z.He O' H'→W σ' (.ref C) none H'):=by
  rintro W X' ⟨pins0,E',rfl⟩ xf
  intro pins s σ H D I ⟨⟨a,acc⟩,hw⟩
  refine hbody pins0 E' ⟨fun pins1 σ1 H1 s1 e s2 I1 c => xf.fly pins1 σ1 H1 s1 e s2 I1 ?_⟩ pins s σ H D I ⟨⟨a.rl,a.fr⟩,⟨fun ρ' O' σ' H' p a' k => acc.nx ρ' O' σ' H' p ⟨a'.rl,a'.fr⟩ k,acc.rt,fun ρ' O' σ' H' p a' k => acc.bk ρ' O' σ' H' p ⟨a'.rl,a'.fr⟩ k,fun ρ' O' σ' H' p a' k => acc.ct ρ' O' σ' H' p ⟨a'.rl,a'.fr⟩ k⟩⟩
  obtain ⟨x,cls,H',e1,fl,_,O',⟨C,y,rfl,hc,hy⟩,f⟩:=c
  exact ⟨x,_,H',e1,fl,hw σ1 C y O' H' I1.len hc hy f⟩
 have hh1:∀ z,PSs (Rb Z.X z) [.Return (some (.Call (.Name g gp) [.Name n ep] [] cp2)) rp2] (fun D σ H => ∃ C y,Cs C y∧Wi (LG (Vf C y) (fun _ => E0) (Tj (US i) Wz)) D σ H):=by
  rintro z pins s σ H D I ⟨C,y,c,q⟩
  exact Bm (CU (Jh (X:=Rb Z.X z) (FH C y c) (Room.toH hrh) (hgh z) mh keh bh (AI (Ks hi (hvn z) hd4 hd5) Ag he2) hd3 he2 hpl2)) pins s σ H D I q
 refine PS.weak (PB (i:=i) hst hex hfr hN hi hk hgB hmB hbe hb1 hh1 hd2) fun D σ H q => ?_
 refine ⟨q,?_⟩
 intro σ' C y O' H' hlen c p f2
 refine ⟨C,rfl,kc C y c,fun z hz => ⟨C,y,c,.ref z,?_,z,rfl,AJ,fun v H'' s'' rp => q.2.rt _ H'' _ O' p ?_ (rp _ _)⟩⟩
 ·have:i < σ'.length:=by rw [hlen]; exact (List.getElem?_eq_some_iff.mp hi).1
  rw [List.getElem?_set_self this]
 ·exact Frm.same f2 (SR s'' hz)
end
end L2.TL
namespace L2
open PySem PySem.Spec PyProof.Rows
def ZV (K:PySem.W.Frag) (a:Addr):It:=⟨fun i H => ∃ xs x,SqL K H a xs∧xs[i]? = some x,
 fun i H v H' => ∃ p x,H p = none∧v = .ref p∧H' = BG H p (.tup [.int i,x])∧∀ xs,SqL K H a xs→xs[i]? = some x,fun i H => ∃ xs,SqL K H a xs∧xs.length≤i⟩
section
variable {X:Cx}
theorem OH {P:Program} {w:World} {K:PySem.W.Frag} {es:List Expr} {k:Nat} {pos:Pos} {e it a:Addr} (hne:e≠it) :
  Turn P w K (.Tuple es k pos) (ZV K a) [e,it] e (fun i h => (∃ old,IsEnum h e it (i:Int) old)∧h.IsListIter it a i) where
 mem:=by simp
 obj:=fun i h st b hb => by
  obtain ⟨⟨old,s1⟩,⟨o2,e2,c2,d2⟩⟩:=st
  simp only [List.mem_cons,List.not_mem_nil,or_false] at hb
  rcases hb with rfl | rfl
  ·exact ⟨_,s1,fun v q => by have q:Data.fields _ = Data.cell v:=q; cases q⟩
  ·exact ⟨o2,e2,fun v q => by rw [d2] at q; cases q⟩
 keep:=fun i h h' st kk => by
  obtain ⟨⟨old,s1⟩,s2⟩:=st
  exact ⟨⟨old,kk e (by simp) _ s1⟩,s2.at fun o q => kk it (by simp) o q⟩
 item:=by
  intro X hP hw hK hc i pins s σ H E I hf st hg
  subst hP hw hK
  obtain ⟨xs,x,hq,hx⟩:=hg
  obtain ⟨its,rv,p,hz⟩:=I.list hq
  obtain ⟨u,hu,ru⟩:=rv.get hx
  obtain ⟨⟨old,s1⟩,s2⟩:=st
  refine wpAny_pyNext_enum_item s1 s2 p.isList (x:=u) (by simpa using hu) hne fun h1 z1 a1 n1 sz1 k1 => ?_
  refine ⟨_,rfl,wpAny_letOwnedTupleGo_enum (s:={ s with heap:=h1,toks:=s.toks + 1 }) z1 fun h2 z2 sb2 => ?_⟩
  have hlt:∀ v o,s.heap.get? v = some o→v≠s.heap.objs.size:=fun v o q => Nat.ne_of_lt (Heap.lt_size q)
  have zs:e≠s.heap.objs.size:=hlt e _ s1
  have up2:∀ v o,v≠e→h1.get? v = some o→h2.get? v = some o:=fun v o hv q => (sb2.2 v hv).trans q
  have hT:H s.heap.objs.size = none:=I.hok.fresh (Nat.le_refl _)
  have kk:∀ v o,v ∉ [e,it]→s.heap.get? v = some o→h2.get? v = some o:=fun v o hv q => by
   simp only [List.mem_cons,List.not_mem_nil,or_false,not_or] at hv
   exact up2 v o hv.1 (k1 v o hv.1 hv.2 q)
  have I1:Inv X pins σ (BG H s.heap.objs.size (.tup [.int i,x])) { s with heap:=h2,toks:=s.toks + 1 }:=by
   have ne:∀ v o,s.heap.get? v = some o→BG H s.heap.objs.size (.tup [.int i,x]) v = H v:=fun v o q => AK (hlt v o q)
   refine I.call' (s':={ s with heap:=h2,toks:=s.toks + 1 }) (ch:=[e,it]) rfl ⟨fun v o q _ _ hv => kk v o hv q,fun v o q _ _ hv => ⟨o.slots,kk v o hv q⟩,fun v o q n _ => by rw [ne v o q]; exact n,fun v o q hv => ⟨o,kk v o hv q⟩,fun v xs q => ?_,fun v o xs q => ?_,fun v ps q => ?_⟩ ?_ I.bare fun v hv => ?_
   ·rw [AK (AQ q hT)]; exact q
   ·rw [AK (AQ q hT)]; exact q
   ·exact ⟨#[],by rw [AK (AQ q hT),q]; simp⟩
   ·intro v o q
    by_cases hv:v = s.heap.objs.size
    ·subst hv
     rw [AJ] at q; cases q
     exact ⟨by show 2≤sizeLine; decide,[.int i s.toks,u],.cons ⟨_,rfl⟩ (.cons ru .nil),⟨_,up2 _ _ (Ne.symm zs) n1,rfl,_,rfl⟩⟩
    ·rw [AK hv] at q
     refine (I.hok v o q).stay (fun c w' hc' r => kk c w' (fun hm => ?_) r) (fun c r => by rw [AK (AQ r hT)]; exact r) fun c xs r => by rw [AK (AQ r hT)]; exact r
     have hn:=(hf c hm).1
     rcases hc' with rfl | hc'
     ·rw [q] at hn; cases hn
     ·rw [hc'] at hn; cases hn
   ·obtain ⟨_,q2,q3,q4,q5,q6⟩:=hf v hv
    exact ⟨q4,q2,q5,q6⟩
  refine ⟨.ref s.heap.objs.size,_,I1,rfl,⟨_,x,hT,rfl,rfl,fun xs' q => by rw [I.list_inj q hq]; exact hx⟩,⟨⟨_,z2⟩,a1.at fun o q => up2 it o (Ne.symm hne) q⟩,fun v hv => ?_⟩
  have hvo:∃ o,s.heap.get? v = some o:=by
   simp only [List.mem_cons,List.not_mem_nil,or_false] at hv
   rcases hv with rfl | rfl
   ·exact ⟨_,s1⟩
   ·obtain ⟨o,q,_⟩:=s2; exact ⟨o,q⟩
  obtain ⟨o,q⟩:=hvo
  rw [AK (hlt v o q)]
  exact (hf v hv).1
 done:=by
  intro X hP hw hK hc i pins s σ H E I hf st hg
  subst hP hw hK
  obtain ⟨xs,hq,hl⟩:=hg
  obtain ⟨its,rv,p,hz⟩:=I.list hq
  have l1:=rv.length
  obtain ⟨⟨old,s1⟩,s2⟩:=st
  refine wpAny_pyNext_enum_end (I.ok.hd hc) s1 s2 p.isList (by simp; omega) fun h' k1 => ⟨rfl,I.turns (t':=s.toks) hf fun v o hv q => ?_⟩
  simp only [List.mem_cons,List.not_mem_nil,or_false,not_or] at hv
  exact k1 v o hv.2 q
 self:=fun _ _ _ _ _ st h => by obtain ⟨⟨old,s1⟩,_⟩:=st; exact wpAny_pyIter_enum s1 h
theorem OI:bootBuiltins "enumerate" = some (.type "enumerate"):=by decide +kernel
def Xp (K:PySem.W.Frag) (ta:TA):TI:=fun σ H R => ta σ H fun vs H1 => ∃ t,vs = [.ref t]∧(∃ xs,SqL K H1 t xs)∧R (ZV K t) H1
theorem Sc {a:Expr} {ta:TA} {p pos tpos:Pos} {es:List Expr} {k:Nat} (hg:Gl X "enumerate") (hm:X.mg "enumerate" = none) (ha:PA X [a] ta) (hs:starEach [a] X.env = [(false,eval a X.env)]:=by rfl) :
  PI X (.Tuple es k tpos) (.Call (.Name "enumerate" p) [a] [] pos) (Xp X.K ta):=by
 intro pins s σ H R I h
 refine Call_ (Dk I hg hm OI (PyProof.Rows.callWith_type1 (Av (ha pos pins s σ H _ I h) fun us s1 ⟨vs,H1,I1,r1,q1⟩ => ?_) (by rw [hs]; rfl) rfl))
 obtain ⟨t,rfl,⟨xs,h1⟩,q⟩:=q1
 obtain ⟨v1,rfl,e1⟩:=Eu r1
 cases e1
 obtain ⟨its,rv,p1,_⟩:=I1.list h1
 refine call_enumerate_list p1.isList fun h' z1 z2 hsz kp => ?_
 refine wpAny_pyIter_enum z1 ?_
 refine ⟨_,_,_,_,H1,rfl,I1.kept (t':=s1.toks) kp,OH (Nat.succ_ne_self _),⟨⟨_,z1⟩,z2⟩,fun b hb => ?_,q⟩
 have hge:s1.heap.objs.size≤b:=by
  simp only [List.mem_cons,List.not_mem_nil,or_false] at hb
  rcases hb with rfl | rfl <;> omega
 exact I1.fpOk hge (I1.hok.fresh hge)
end
end L2
namespace L2.TL
open PySem PySem.Spec PyProof.Rows
section
variable {Z:Zx} {ρ:List (Option T)} {O:AL} {a:Expr} {ts:List T} {p pos:Pos}
def GN (ts:List T):List T:=ts.zipIdx.map fun x => .tup [.int (x.2:Nat),x.1]
theorem OJ {K:PySem.W.Frag} {H:Hp} {l:Addr} {xs:List V} (ok:OwnOk K O H) (h1:H l = some (.lst xs)) (n:O l = none) (r1:Reps K O H xs ts):Lf K (ZV K l) O H (GN ts):=fun O' H' k ok' => by
 have g1:SqL K H' l xs:=.inl (.inl (k.lst h1 n).1)
 have q1:=r1.kp k ok
 have hl:(GN ts).length = ts.length:=by simp [GN]
 refine ⟨fun i hi => ?_,fun i x H'' y t e => ?_,fun i hi => ⟨xs,g1,?_⟩⟩
 ·rw [hl] at hi
  obtain ⟨v,e1,_⟩:=q1.get (i:=i) (t:=ts[i]'hi) (by simp)
  exact ⟨xs,v,g1,e1⟩
 ·obtain ⟨p,v,hp,rfl,rfl,a1⟩:=y
  unfold GN at e
  rw [List.getElem?_map,List.getElem?_zipIdx] at e
  cases et:ts[i]? with
  | none => rw [et] at e; cases e
  | some t1 =>
   rw [et] at e
   have e:T.tup [.int ((0 + i:Nat):Int),t1] = t:=Option.some.inj e
   rw [Nat.zero_add] at e
   subst e
   obtain ⟨v',e1,rv⟩:=q1.get et
   have z1:=a1 xs g1
   rw [e1] at z1; cases z1
   exact ⟨.new ok' hp,.tup AJ ((Reps.cons (.int _) (.one rv)).kp (BT ok' hp) ok')⟩
 ·rw [hl] at hi
  rw [r1.length]
  omega
theorem Sd {tes:List Expr} {tk:Nat} {tpos:Pos} (hm:Z.X.mg "enumerate" = none) (h1:ET Z ρ O a (.lst ts)) (hg:Gl Z.X "enumerate":=by rfl) (hs:starEach [a] Z.X.env = [(false,eval a Z.X.env)]:=by rfl):EI Z ρ O (.Tuple tes tk tpos) (.Call (.Name "enumerate" p) [a] [] pos) (GN ts):=fun Φ q =>
 PI.weak (Sc hg hm (AU h1 AD hs (fun vs O' => vs = [.lst ts]∧O' = O) ⟨rfl,rfl⟩) hs) fun σ H R k => ⟨k.1,by
  rintro vs H' _ _ ⟨rfl,rfl⟩ f r
  obtain ⟨v,rfl,r1⟩:=r.one_inv
  obtain ⟨l,xs,rfl,g1,n,r1⟩:=r1.lst_inv
  exact ⟨l,rfl,⟨xs,.inl (.inl g1)⟩,k.2 _ H' _ _ q f (OJ f.ok g1 n r1)⟩⟩
end
section
variable {Z:Zx} {ρ:List (Option T)} {O:AL} {elt tg iter:Expr} {csc:Scope} {nc:List Str} {cap:List (Str × Nat)} {pos:Pos}
end
end L2.TL
namespace K11
open PySem L2 L2.TL PySem.Spec PyProof.Rows
def top (i:Nat):Stmt:=PySem.Challenge.pw_noshortring_k11_full_layers.main.body.getD i (.Pass ⟨0,0,0,0⟩)
abbrev Ll:Stmt:=top 11
abbrev Lm:Stmt:=top 16
abbrev QF:Stmt:=top 17
abbrev Mz:Stmt:=top 18
abbrev GO:Stmt:=top 49
abbrev Vg:Stmt:=top 50
abbrev GP:Stmt:=top 51
abbrev Iq:Stmt:=top 53
abbrev Cr:Stmt:=top 54
abbrev QG:Stmt:=top 57
abbrev QH:Stmt:=top 26
abbrev QI:Stmt:=top 27
abbrev ZW:Stmt:=top 28
abbrev Vh:Stmt:=top 29
abbrev Ln:Stmt:=top 30
abbrev Vi:Stmt:=top 31
abbrev Vj:Stmt:=top 38
abbrev Lo:Stmt:=top 39
abbrev Ir:Stmt:=top 40
abbrev Iu:Stmt:=top 41
abbrev EX:Stmt:=top 42
abbrev GQ:Stmt:=top 56
abbrev Vk:Stmt:=top 58
abbrev QJ:Stmt:=top 59
abbrev Hl:Stmt:=top 60
abbrev Lp:Stmt:=top 61
abbrev DI:Stmt:=top 62
abbrev KN:Stmt:=top 63
abbrev Vl:Stmt:=top 33
abbrev DJ:Stmt:=top 34
abbrev GR:Stmt:=top 35
abbrev Lq:Stmt:=top 36
abbrev Iv:Stmt:=top 37
abbrev GS:Stmt:=top 52
abbrev Ds:Stmt:=top 55
structure Txt (mg:Str→Option Value):Prop where
 nInt:mg "int" = none
 nBool:mg "bool" = none
 nTuple:mg "tuple" = none
 nList:mg "list" = none
 nSet:mg "set" = none
 nRange:mg "range" = none
 nIsi:mg "isinstance" = none
 nMax:mg "max" = none
 nMin:mg "min" = none
 nLen:mg "len" = none
 nAll:mg "all" = none
 nSorted:mg "sorted" = none
 nRepr:mg "repr" = none
 nVE:mg "ValueError" = none
 nEnum:mg "enumerate" = none
 iMP:∃ t:Tok,mg "MOST_PLACES" = some (.int 16 t)
 iLR:∃ t:Tok,mg "LEAST_RING" = some (.int 3 t)
 iLT:∃ t:Tok,mg "LEAST_TIES" = some (.int 2 t)
 iMT:∃ t:Tok,mg "MOST_TIES" = some (.int 15 t)
 iMR:∃ t:Tok,mg "MOST_RING" = some (.int 16 t)
def Bu (t:T) (a b:Int):Bool:=match t with
 | .int i => decide (a≤i) && decide (i≤b)
 | _ => false
def Hm (n:Int) (p:Int × Int):Prop:=0≤p.1∧p.1 < p.2∧p.2 < n
theorem EW.cast {Z:Zx} {ρ:List (Option T)} {O:AL} {e:Expr} {k l:Bool} (h:EW Z ρ O e k) (z:k = l):EW Z ρ O e l:=z ▸ h
theorem EB.cast {Z:Zx} {ρ:List (Option T)} {O:AL} {e:Expr} {k l:Bool} (h:EB Z ρ O e k) (z:k = l):EB Z ρ O e l:=z ▸ h
theorem ET.cast {Z:Zx} {ρ:List (Option T)} {O:AL} {e:Expr} {k l:T} (h:ET Z ρ O e k) (z:k = l):ET Z ρ O e l:=z ▸ h
section
variable {P:Program} {w:World} {K:PySem.W.Frag} {mg:Str→Option Value} {base:Heap}
def Iw:Br:=KA fun ts r => ∃ t a b,ts = [t,.int a,.int b]∧Aa t = false∧r = .bl (Bu t a b)
theorem Se:FnScope ["thing","least","most"] ["thing","least","most"] (AB Ll):=⟨rfl,rfl,rfl,by decide +kernel,rfl,by decide +kernel,by decide +kernel⟩
theorem QK {f:Addr} {fd:FuncData} (F:Fun K "is_whole" "is_whole" Ll f fd) (T:Txt mg):FnOk P w K mg base (CXe P w) 1 f fd ["thing","least","most"] (By K Iw):=by
 refine AV F Se ?_ ?_
 ·rintro ts O Φ Ξ ⟨r,⟨t,a,b,rfl,_⟩,_⟩
  rfl
 ·rintro cdv A outer s H E O Ξ hr xf _ Φ ⟨_,⟨t,a,b,rfl,ht,rfl⟩,q⟩
  refine AC (AZ (EW.eb (Mq (Ch (Po T.nIsi T.nInt VW Mu (ev 0) ht)) fun _ => IZ (Po T.nIsi T.nBool Tv KE (ev 0) ht))) (fun h => AF (AR (HY _ ?_))) (fun h => Ab ?_))
  ·have:Bu t a b = false:=by
    cases t <;> first | rfl | cases h
   rw [this] at q; exact q
  ·cases t with
   | int i => exact AF (AR (SJ (ev 1) (ev 0) (ev 2) (by with_unfolding_all rfl) _ q))
   | bl i => cases h
   | raw i => cases ht
   | _ => cases h
theorem NA {t:T} {a b:Int} (h:Bu t a b = true):∃ i,t = .int i:=by
 cases t <;> first | exact ⟨_,rfl⟩ | cases h
end
abbrev QL:Stmt:=top 44
abbrev QM:Stmt:=top 45
abbrev Vm:Stmt:=top 46
abbrev QN:Stmt:=top 47
abbrev Ix:Stmt:=top 48
def Gv (xs:List T):Prop:=∃ a b c:Int,xs = [.int a,.int b,.int c]∧0≤a∧0≤c∧c < 2147483648
section
variable {P:Program} {w:World} {K:PySem.W.Frag} {mg:Str→Option Value} {base:Heap}
def GT (K:PySem.W.Frag):Sp:=fun vs H Q _ => ∃ (a:Addr) (ns:List Int),vs = [.ref a,.int 0]∧SqL K H a (ns.map V.int)∧∀ i,Q (.int i) H
theorem Vn:FnScope ["_law_script","_law_k"] ["_law_script","_law_k"] (AB QL):=⟨rfl,rfl,rfl,by decide +kernel,rfl,by decide +kernel,by decide +kernel⟩
theorem Sf {f:Addr} {fd:FuncData} (F:Fun K "_law_cell_at" "_law_cell_at" QL f fd) (T:Txt mg):FnOk P w K mg base (CXe P w) 1 f fd ["_law_script","_law_k"] (GT K):=by
 refine F.okX Vn (fun vs H Q E h => ?_) (fun cdv A outer s H vs Q E hr h => ?_)
 ·obtain ⟨a,ns,rfl,_⟩:=h
  rfl
 ·obtain ⟨a,ns,rfl,hS,k⟩:=h
  refine ⟨_,Bd (JU (ED Th (pv 1) (Aq CZ (by rfl) T.nLen VZ (AI (pv 0) Ag)) (Af _)) (Bm (CU (Os CY (pv 0) (pv 1) (fun _ _ => rfl)))) EC) (Bm (CU Kt)),?_⟩
  refine ⟨_,rfl,_,rfl,a,_,rfl,.inl hS,_,_,rfl,rfl,_,rfl,?_⟩
  refine Uv (fun h1 => ?_) (fun h1 => ?_)
  ·have h1:(0:Int) < ((ns.map V.int).length:Int):=by simpa using h1
   cases ns with
   | nil => simp at h1
   | cons n ns => exact ⟨_,rfl,_,rfl,a,_,0,.int n,rfl,rfl,hS,BY (j:=0) rfl,k n⟩
  ·exact k 0
def QO:Br:=fun ts O Φ _ => ∃ n:Int,ts = [.int n]∧∀ m:Int,0≤m→m < 2147483629→Φ (.int m) O
theorem QP:FnScope ["_law_seed"] ["_law_seed"] (AB QM):=⟨rfl,rfl,rfl,by decide +kernel,rfl,by decide +kernel,by decide +kernel⟩
theorem Sg {f:Addr} {fd:FuncData} (F:Fun K "_law_next" "_law_next" QM f fd):FnOk P w K mg base (CXe P w) 1 f fd ["_law_seed"] (By K QO):=by
 refine AV F QP ?_ ?_
 ·rintro ts O Φ Ξ ⟨n,rfl,_⟩
  rfl
 ·rintro cdv A outer s H E O Ξ hr xf _ Φ ⟨n,rfl,q⟩
  have b1:=Int.emod_nonneg (n + 7919) (show (2147483647:Int)≠0 by decide)
  have b2:=Int.emod_lt_of_pos (n + 7919) (show (0:Int) < 2147483647 by decide)
  refine AC (AG 0 (ET.we (DF (Al (ev 0) AA) AA (by decide)) ?_) QP.nd)
  exact AF (AR (ET.we (DF (Al (Al (BV (ev 0) (ev 0) (.inl ⟨by omega,by omega⟩)) (BV AA (ev 0) (.inl ⟨by decide,by decide⟩))) AA) AA (by decide)) (q _ (Int.emod_nonneg _ (by decide)) (Int.emod_lt_of_pos _ (by decide)))))
def UB:Br:=fun ts O Φ _ => ∃ c:Int,ts = [.int c]∧∀ (p:Addr) (xs:List T),O p = none→Gv xs→Φ (.raw (.ref p)) (Ae O p xs)
theorem UC:FnScope ["_law_cell","_law_left"] ["_law_cell"] (AB Vm):=⟨rfl,rfl,rfl,by decide +kernel,rfl,by decide +kernel,by decide +kernel⟩
theorem Vo {f:Addr} {fd:FuncData} (F:Fun K "_law_pen_of" "_law_pen_of" Vm f fd) (T:Txt mg):FnOk P w K mg base (CXe P w) 1 f fd ["_law_cell"] (By K UB):=by
 refine AV F UC ?_ ?_
 ·rintro ts O Φ Ξ ⟨n,rfl,_⟩
  rfl
 ·rintro cdv A outer s H E O Ξ hr xf _ Φ ⟨n,rfl,q⟩
  refine AC (AG 1 (ET.we (ES T.nMax rfl (ev 0) (BF AA (ev 0))) ?_) UC.nd)
  refine AF (AR (EL (EA.wa (AU (ev 1) (AU (SQ T.nInt (XZ (ev 1) (La AA AA ⟨by decide,by decide,by decide⟩))) (AU (DF (ev 1) AA (by decide)) AD))) ⟨by show 3≤sizeLine; decide,fun a ha => q a _ ha ?_⟩)))
  have b1:=Int.emod_nonneg (max n (0 - n)) (show (1000003:Int)≠0 by decide)
  have b2:=Int.emod_lt_of_pos (max n (0 - n)) (show (0:Int) < 1000003 by decide)
  exact ⟨_,_,_,rfl,by omega,b1,by omega⟩
def CF:Br:=fun ts O Φ _ => ∃ (p:Addr) (xs:List T) (m:Int),ts = [.raw (.ref p),.int m]∧O p = some xs∧Gv xs∧0 < m∧m≤1000000000∧∀ (r:Int) (xs':List T),0≤r→r < m→Gv xs'→Φ (.int r) (Ae O p xs')
theorem QQ:FnScope ["_law_pen","_law_many","_law_found"] ["_law_pen","_law_many"] (AB QN):=⟨rfl,rfl,rfl,by decide +kernel,rfl,by decide +kernel,by decide +kernel⟩
theorem Sh {f:Addr} {fd:FuncData} (F:Fun K "_law_draw" "_law_draw" QN f fd) (G:FnT P w K mg base "_law_next" 1 ["_law_seed"] QO):FnOk P w K mg base (CXe P w) 2 f fd ["_law_pen","_law_many"] (By K CF):=by
 refine AV F QQ ?_ ?_
 ·rintro ts O Φ Ξ ⟨p,xs,m,rfl,_⟩
  rfl
 ·rintro cdv A outer s H E O Ξ hr xf _ Φ ⟨p,_,m,rfl,hp,⟨a,b,c,rfl,a0,c0,c1⟩,m0,m1,q⟩
  refine AC (AZ (BO (Ci hp (ev 0) AA) AA) (fun h => ?_) (fun h => Ab ?_))
  ·refine AC (AG 2 (ET.we (DF (Ci hp (ev 0) AA) (ev 1) m0) ?_) QQ.nd)
   refine AC (GG (ET.we (DV (Ci hp (ev 0) AA) (ev 1) ⟨m0,by omega⟩) (ET.we (ev 0) ⟨p,rfl,ET.we AA ⟨_,0,0,rfl,hp,rfl,?_⟩⟩)))
   exact AF (AR (ET.we (ev 2) (q _ _ (Int.emod_nonneg _ (by omega)) (Int.emod_lt_of_pos _ m0) ⟨a / m,b,c,rfl,Int.ediv_nonneg a0 (by omega),c0,c1⟩)))
  ·refine AC (GG (AN G hr xf (DU (Bx CW (AN G hr xf (EA.wa (AU (Ci hp (ev 0) AA) AD) ⟨c,rfl,fun u u0 u1 => ?_⟩))))))
   refine ET.we AA (Di _ (BE ⟨u + 7,rfl,fun r r0 r1 => ET.we (ev 0) ⟨p,rfl,ET.we AA ⟨_,2,2,rfl,hp,rfl,?_⟩⟩⟩))
   exact AF (AR (ET.we (DF (DV (Ci AH (ev 0) AA) AA ⟨by decide,by decide⟩) (ev 1) m0) (q _ _ (Int.emod_nonneg _ (by omega)) (Int.emod_lt_of_pos _ m0) ⟨a,b,r,rfl,a0,r0,by omega⟩)))
def GU:Br:=KA fun ts r => ∃ t,ts = [t]∧Aa t = false∧r = .bl (Tu t && !Pm t)
theorem QR:FnScope ["_law_found"] ["_law_found"] (AB Ix):=⟨rfl,rfl,rfl,by decide +kernel,rfl,by decide +kernel,by decide +kernel⟩
theorem OK {f:Addr} {fd:FuncData} (F:Fun K "_law_whole" "_law_whole" Ix f fd) (T:Txt mg):FnOk P w K mg base (CXe P w) 1 f fd ["_law_found"] (By K GU):=by
 refine AV F QR ?_ ?_
 ·rintro ts O Φ Ξ ⟨r,⟨t,rfl,_⟩,_⟩
  rfl
 ·rintro cdv A outer s H E O Ξ hr xf _ Φ ⟨_,⟨t,rfl,ht,rfl⟩,q⟩
  exact AF (AR (ET.we (Pe (Lh T.nIsi T.nInt VW Mu (ev 0) ht) fun _ => Ld (VR (Lh T.nIsi T.nBool Tv KE (ev 0) ht))) q))
end
theorem AT:(1000:Nat) < sizeLine:=by decide
def PO (O0:AL) (p:Addr) (O:AL):Prop:=∃ xs,O = Ae O0 p xs∧Gv xs
theorem PO.at {O0 O:AL} {p:Addr} (h:PO O0 p O):∃ xs,O p = some xs∧Gv xs:=by
 obtain ⟨xs,rfl,px⟩:=h
 exact ⟨xs,AH,px⟩
theorem PO.step {O0 O:AL} {p:Addr} {xs:List T} (h:PO O0 p O) (px:Gv xs):PO O0 p (Ae O p xs):=by
 obtain ⟨ys,rfl,_⟩:=h
 exact ⟨xs,Ba,px⟩
theorem PO.start {O:AL} {p:Addr} {xs:List T} (h:O p = some xs) (px:Gv xs):PO O p O:=⟨xs,(Pu h).symm,px⟩
section
variable {P:Program} {w:World} {K:PySem.W.Frag} {mg:Str→Option Value} {base:Heap}
section
variable {Z:Zx} {ρ:List (Option T)} {O O0 O1:AL} {a b:Expr} {Φ:BX} {pos q:Pos} {p c:Addr} {m:Int} {acc:List T}
theorem Ap (G:FnT Z.X.prog Z.X.w Z.X.K Z.X.mg Z.X.base "_law_draw" 2 ["_law_pen","_law_many"] CF) (hr:Room 2 Z.X.A) (xf:XFly Z.X Z.W) (po:PO O0 p O) (ha:ET Z ρ O a (.raw (.ref p))) (hb:ET Z ρ O b (.int m)) (m0:0 < m) (m1:m≤1000000000) (k:∀ r O',0≤r→r < m→PO O0 p O'→Φ (.int r) O') (hg:Gl Z.X "_law_draw":=by rfl)
  (he:starEach [a,b] Z.X.env = (false,eval a Z.X.env) :: starEach [b] Z.X.env:=by rfl) (he2:starEach [b] Z.X.env = (false,eval b Z.X.env) :: starEach [] Z.X.env:=by rfl) (hpl:(backTo pos (starEach [b] Z.X.env)).any (·.1) = false:=by rfl):WE Z ρ O (.Call (.Name "_law_draw" q) [a,b] [] pos) Φ:=by
 obtain ⟨xs,hp,px⟩:=po.at
 exact AN G hr xf (EA.wa (AU ha (AU hb AD he2) he) ⟨p,xs,m,rfl,hp,px,m0,m1,fun r xs' r0 r1 px' => k r _ r0 r1 (po.step px')⟩) hg (by decide) he hpl
theorem QS (G:FnT Z.X.prog Z.X.w Z.X.K Z.X.mg Z.X.base "_law_draw" 2 ["_law_pen","_law_many"] CF) (hr:Room 2 Z.X.A) (xf:XFly Z.X Z.W) (po:PO O0 p O) (hc:O c = none) (ha:ET Z ρ (Ae O c acc) a (.raw (.ref p))) (hb:ET Z ρ (Ae O c acc) b (.int m)) (m0:0 < m) (m1:m≤1000000000) (k:∀ r O',0≤r→r < m→PO O0 p O'→O' c = none→Φ (.int r) (Ae O' c acc)) (hg:Gl Z.X "_law_draw":=by rfl)
  (he:starEach [a,b] Z.X.env = (false,eval a Z.X.env) :: starEach [b] Z.X.env:=by rfl) (he2:starEach [b] Z.X.env = (false,eval b Z.X.env) :: starEach [] Z.X.env:=by rfl) (hpl:(backTo pos (starEach [b] Z.X.env)).any (·.1) = false:=by rfl):WE Z ρ (Ae O c acc) (.Call (.Name "_law_draw" q) [a,b] [] pos) Φ:=by
 obtain ⟨xs,hp,px⟩:=po.at
 have hpc:p≠c:=Va hp hc
 refine AN G hr xf (EA.wa (AU ha (AU hb AD he2) he) ⟨p,xs,m,rfl,by rw [AX hpc]; exact hp,px,m0,m1,fun r xs' r0 r1 px' => ?_⟩) hg (by decide) he hpl
 rw [DG hpc]
 exact k r _ r0 r1 (po.step px') (by rw [AX (Ne.symm hpc)]; exact hc)
end
theorem PO.trans {O0 O1 O2:AL} {p:Addr} (a:PO O0 p O1) (b:PO O1 p O2):PO O0 p O2:=by
 obtain ⟨xs,rfl,_⟩:=a
 obtain ⟨ys,rfl,h⟩:=b
 exact ⟨ys,Ba,h⟩
end
def mm (p:Int × Int):Int × Int:=(min p.1 p.2,max p.1 p.2)
section
variable {P:Program} {w:World} {K:PySem.W.Frag} {mg:Str→Option Value} {base:Heap} {CP CL:Addr}
def NB:Br:=KA fun ts r => ∃ n u t,ts = [.tup [.int n,u],t]∧Aa t = false∧r = .bl (Bu t 0 (n - 1))
theorem Si:FnScope ["web","thing"] ["web","thing"] (AB Lm):=⟨rfl,rfl,rfl,by decide +kernel,rfl,by decide +kernel,by decide +kernel⟩
theorem QT {f:Addr} {fd:FuncData} (F:Fun K "is_place" "is_place" Lm f fd) (G:FnT P w K mg base "is_whole" 1 ["thing","least","most"] Iw):FnOk P w K mg base (CXe P w) 2 f fd ["web","thing"] (By K NB):=by
 refine AV F Si ?_ ?_
 ·rintro ts O Φ Ξ ⟨r,⟨n,u,t,rfl,_⟩,_⟩
  rfl
 ·rintro cdv A outer s H E O Ξ hr xf _ Φ ⟨_,⟨n,u,t,rfl,ht,rfl⟩,q⟩
  exact AF (AR (ET.we (Ai G hr xf (AE (ev 1) (AE AA (AE (BF (BJ (ev 0) AA) AA) AD))) ⟨t,0,n - 1,rfl,ht,rfl⟩) q))
def Lr (CP:Addr):Br:=fun ts O Φ Ξ => ∃ n u t,ts = [.tup [.int n,u],t]∧Aa t = false∧(Bu t 0 (n - 1) = true→Φ .non O)∧(Bu t 0 (n - 1) = false→Ξ (.ref CP) O)
theorem Vp:FnScope ["web","thing"] ["web","thing"] (AB QF):=⟨rfl,rfl,rfl,by decide +kernel,rfl,by decide +kernel,by decide +kernel⟩
theorem Sj {f:Addr} {fd:FuncData} (F:Fun K "need_place" "need_place" QF f fd) (mP:mg "NoPlace" = some (.ref CP)) (xP:PySem.W.excIn K CP Go "ValueError.__new__" = true) (G:FnT P w K mg base "is_place" 2 ["web","thing"] NB):FnOk P w K mg base (CXe P w) 3 f fd ["web","thing"] (By K (Lr CP)):=by
 refine FT F Vp ?_ ?_
 ·rintro ts O Φ Ξ ⟨n,u,t,rfl,_⟩
  rfl
 ·rintro cdv A outer s H E O Ξ hr xo _ Φ ⟨n,u,t,rfl,ht,q1,q2⟩
  refine AF (AZ (Ch (EM (Ai G hr xo.f (AE (ev 0) (AE (ev 1) AD)) ⟨n,u,t,rfl,ht,rfl⟩))) (fun h => AF (Da xo rfl mP xP (q2 ?_))) (fun h => Ab (q1 ?_)))
  ·cases z:Bu t 0 (n - 1) with
   | true => rw [z] at h; cases h
   | false => rfl
  ·cases z:Bu t 0 (n - 1) with
   | true => rfl
   | false => rw [z] at h; cases h
def NC (ps:List (Int × Int)) (a b:Int):Bool:=decide (mm (a,b)∈ps)
def QU:Br:=KA fun ts r => ∃ n ps a b,ts = [BA n ps,.int a,.int b]∧r = .bl (NC ps a b)
theorem Vq:FnScope ["web","a","b"] ["web","a","b"] (AB Mz):=⟨rfl,rfl,rfl,by decide +kernel,rfl,by decide +kernel,by decide +kernel⟩
theorem Sk {f:Addr} {fd:FuncData} (F:Fun K "are_tied" "are_tied" Mz f fd) (Tx:Txt mg):FnOk P w K mg base (CXe P w) 1 f fd ["web","a","b"] (By K QU):=by
 refine AV F Vq ?_ ?_
 ·rintro ts O Φ Ξ ⟨r,⟨n,ps,a,b,rfl,_⟩,_⟩
  rfl
 ·rintro cdv A outer s H E O Ξ hr xf _ Φ ⟨_,⟨n,ps,a,b,rfl,rfl⟩,q⟩
  have hu:(A.deeper (envOfC "are_tied" (AB Mz) s.heap.objs.size f cdv)).units + 102 < cLine:=by have:=hr.un; omega
  refine AF (AR (ET.we (ET.cast (IX (Pw hu) rfl (Px (Mx (mm (a,b))) KI (Lk _)) (DY (Ii Tx.nMin rfl (ev 1) (ev 2)) (ES Tx.nMax rfl (ev 1) (ev 2))) (BJ (ev 0) AA)) ?_) q))
  show T.bl ((dTs (ps.map AM)).any fun y => PyData.eqv y (dT (AM (mm (a,b))))) = T.bl (NC ps a b)
  rw [Hi]
  rfl
def ZX (p:Int × Int):Prop:=(0≤p.1∧p.1 < 65536)∧0≤p.2∧p.2 < 65536
end
abbrev Iy:Stmt:=top 12
abbrev Iz:Stmt:=top 19
abbrev Hn:Stmt:=top 20
abbrev ND:Stmt:=top 21
section
variable {P:Program} {w:World} {K:PySem.W.Frag} {mg:Str→Option Value} {base:Heap}
end
open Gr
section
variable {P:Program} {w:World} {K:PySem.W.Frag} {mg:Str→Option Value} {base:Heap} {CP:Addr}
def Au (qs:List (Int × Int)) (i:Nat):List Int:=qs.filterMap fun p => if p.1 = (i:Int) then some p.2 else if p.2 = (i:Int) then some p.1 else none
theorem KO {qs:List (Int × Int)} {p:Int × Int} {i:Nat}:Au (qs ++ [p]) i = Au qs i ++ (if p.1 = (i:Int) then [p.2] else if p.2 = (i:Int) then [p.1] else []):=by
 unfold Au
 rw [List.filterMap_append]
 congr 1
 by_cases h:p.1 = (i:Int)
 ·simp [h]
 ·by_cases h2:p.2 = (i:Int)
  ·simp [h,h2]
  ·simp [h,h2]
theorem Dt {qs:List (Int × Int)} {i:Nat}:(Au qs i).length≤qs.length:=List.length_filterMap_le ..
def Dv (n:Int) (ps:List (Int × Int)):T:=.lst ((List.range n.toNat).map fun i => .lst ((Au ps i).map T.int))
structure Nst (n:Int) (O:AL) (l:Addr) (qs:List (Int × Int)) (rs:List (Addr × List T)):Prop where
 len:(rs.length:Int) = n
 nd:(rs.map Prod.fst).Nodup
 ne:∀ r∈rs,r.1≠l
 fr:∀ r∈rs,O r.1 = none
 val:∀ (i:Nat) r,rs[i]? = some r→r.2 = (Au qs i).map T.int
theorem EY {rs:List (Addr × List T)} {i:Nat} {r:Addr × List T} {vs:List T} (h:rs[i]? = some r):(rs.set i (r.1,vs)).map Prod.fst = rs.map Prod.fst:=SY (us:=r.2) h
theorem Xq {O:AL} {rs:List (Addr × List T)} {l:Addr} {i:Nat} {r:Addr × List T} {us:List T} (e:rs[i]? = some r) (hn:(rs.map Prod.fst).Nodup) (hl:∀ r∈rs,r.1≠l) :
  Ae (Ae (JS O rs) l (rs.map Gu)) r.1 us = Ae (JS O (rs.set i (r.1,us))) l ((rs.set i (r.1,us)).map Gu):=by
 rw [DG (hl r (List.mem_of_getElem? e)),SX (us:=r.2) hn e]
 congr 1
 have:=EY (vs:=us) e
 have e1:∀ rs:List (Addr × List T),rs.map Gu = (rs.map Prod.fst).map fun a => T.raw (.ref a):=fun rs => by rw [List.map_map]; rfl
 rw [e1,e1,this]
theorem Nst.set2 {n:Int} {O:AL} {l:Addr} {qs:List (Int × Int)} {rs:List (Addr × List T)} (h:Nst n O l qs rs) {a b:Nat} (hab:a≠b) {ra rb:Addr × List T} (ea:rs[a]? = some ra) (eb:rs[b]? = some rb) :
  Nst n O l (qs ++ [((a:Int),(b:Int))]) ((rs.set a (ra.1,ra.2 ++ [T.int b])).set b (rb.1,rb.2 ++ [T.int a])):=by
 have eb':(rs.set a (ra.1,ra.2 ++ [T.int b]))[b]? = some rb:=by rw [List.getElem?_set_ne hab]; exact eb
 have m1:=EY (vs:=ra.2 ++ [T.int b]) ea
 have m2:=EY (vs:=rb.2 ++ [T.int a]) eb'
 have hm:∀ r∈((rs.set a (ra.1,ra.2 ++ [T.int b])).set b (rb.1,rb.2 ++ [T.int a])),∃ r'∈rs,r'.1 = r.1:=fun r hr => by
  have:r.1∈(((rs.set a (ra.1,ra.2 ++ [T.int b])).set b (rb.1,rb.2 ++ [T.int a])).map Prod.fst):=List.mem_map_of_mem hr
  rw [m2,m1] at this
  obtain ⟨r',h1,h2⟩:=List.mem_map.mp this
  exact ⟨r',h1,h2⟩
 refine ⟨by rw [List.length_set,List.length_set]; exact h.len,by rw [m2,m1]; exact h.nd,fun r hr => ?_,fun r hr => ?_,fun i r e => ?_⟩
 ·obtain ⟨r',h1,h2⟩:=hm r hr
  rw [← h2]; exact h.ne r' h1
 ·obtain ⟨r',h1,h2⟩:=hm r hr
  rw [← h2]; exact h.fr r' h1
 ·have la:=(List.getElem?_eq_some_iff.mp ea).1
  have lb:=(List.getElem?_eq_some_iff.mp eb).1
  rw [KO,List.map_append]
  by_cases h1:i = b
  ·subst h1
   rw [List.getElem?_set_self (by rw [List.length_set]; exact lb)] at e
   cases e
   have:¬ ((a:Int) = (i:Int)):=by omega
   show rb.2 ++ [T.int a] = _
   rw [h.val i rb eb]
   simp [this]
  ·rw [List.getElem?_set_ne (fun z => h1 z.symm)] at e
   by_cases h2:i = a
   ·subst h2
    rw [List.getElem?_set_self la] at e
    cases e
    show ra.2 ++ [T.int b] = _
    rw [h.val i ra ea]
    simp
   ·rw [List.getElem?_set_ne (fun z => h2 z.symm)] at e
    have n1:¬ ((a:Int) = (i:Int)):=by omega
    have n2:¬ ((b:Int) = (i:Int)):=by omega
    rw [h.val i r e]
    simp [n1,n2]
theorem Nst.tree {n:Int} {O:AL} {l:Addr} {ps:List (Int × Int)} {rs:List (Addr × List T)} (h:Nst n O l ps rs):T.lst (rs.map fun r => T.lst r.2) = Dv n ps:=by
 have hl:=h.len
 unfold Dv
 congr 1
 apply List.ext_getElem?
 intro i
 rw [List.getElem?_map,List.getElem?_map]
 by_cases hi:i < rs.length
 ·rw [List.getElem?_eq_getElem hi,List.getElem?_range (by omega)]
  show some (T.lst rs[i].2) = _
  rw [h.val i rs[i] (List.getElem?_eq_getElem hi)]
  rfl
 ·rw [List.getElem?_eq_none (by omega),List.getElem?_eq_none (by rw [List.length_range]; omega)]
  rfl
def JA:Br:=KA fun ts r => ∃ n ps,ts = [BA n ps]∧0≤n∧n≤200∧QD n ps∧ps.length≤200∧r = Dv n ps
theorem JB:FnScope ["web","nears","a","b"] ["web"] (AB Iz):=⟨rfl,rfl,rfl,by decide +kernel,rfl,by decide +kernel,by decide +kernel⟩
theorem Xr:(Ah ["place"] []).Nodup:=by decide +kernel
theorem QV {f:Addr} {fd:FuncData} (F:Fun K "nears_of" "nears_of" Iz f fd) (Tx:Txt mg):FnOk P w K mg base (CXe P w) 1 f fd ["web"] (By K JA):=by
 refine AV F JB ?_ ?_
 ·rintro ts O Φ Ξ ⟨r,⟨n,ps,rfl,_⟩,_⟩
  rfl
 ·rintro cdv A outer s H E O Ξ hr xf _ Φ ⟨_,⟨n,ps,rfl,n0,n1,hw,hl,rfl⟩,q⟩
  have sb:=AT
  refine AC (Hk (i:=1) (nc:=["place"]) (cap:=[]) (by rfl) JB.nd rfl (CD (AB Iz) ["web","nears","a","b"] (by decide +kernel)) (EI.wi (As Tx.nRange (BJ (ev 0) AA) ⟨by omega,by omega⟩) ?_))
  refine ⟨fun i acc O' => i≤200∧∃ as:List Addr,acc = (as.map fun a => (a,([]:List T))).map Gu∧as.length = i∧as.Nodup∧(∀ a∈as,O a = none)∧O' = JS O (as.map fun a => (a,[])),⟨by omega,[],rfl,rfl,by simp,(fun _ h => by cases h),rfl⟩,?_,?_⟩
  ·rintro i t acc O' c e ⟨_,as,rfl,hal,hnd,hfr,rfl⟩ hc
   obtain ⟨hi,rfl⟩:=EQ e
   refine ⟨[some (.int (0 + (i:Int)))],fun X' Oe He is => ⟨?_,Id (Fj fun X' Oe He is => ?_)⟩⟩
   ·obtain ⟨cl,s',H',fp,rfl⟩:=is
    exact AS 0 Xr (by decide)
   ·obtain ⟨cl,s',H',fp,rfl⟩:=is
    refine EL (BE ⟨Nat.zero_le _,fun p hp => ?_⟩)
    have hpc:p≠c:=fun z => by rw [z,AH] at hp; cases hp
    rw [AX hpc] at hp
    have hpa:p ∉ as:=fun z => by
     rw [Dr (rs:=as.map fun a => (a,[])) (r:=(p,[])) (by rw [List.map_map]; simpa [Function.comp_def] using hnd) (List.mem_map_of_mem z)] at hp
     cases hp
    have hpO:O p = none:=by
     rw [Dc fun r hr => by
      obtain ⟨a,ha,rfl⟩:=List.mem_map.mp hr
      exact fun z => hpa (z ▸ ha)] at hp
     exact hp
    refine ⟨Ae (JS O (as.map fun a => (a,[]))) p [],DG hpc,by rw [AX hpc.symm]; exact hc,by rw [List.length_map,List.length_map]; omega,by omega,as ++ [p],by rw [List.map_append,List.map_append]; rfl,by simp; omega,?_,fun a ha => ?_,?_⟩
    ·rw [List.nodup_append]
     refine ⟨hnd,by simp,fun a ha b hb z => ?_⟩
     rw [List.mem_singleton.mp hb] at z
     exact hpa (z ▸ ha)
    ·rcases List.mem_append.mp ha with ha | ha
     ·exact hfr a ha
     ·rw [List.mem_singleton.mp ha]; exact hpO
    ·rw [List.map_append]; exact (QA (r:=(p,[]))).symm
  ·rintro acc O' ⟨_,as,rfl,hal,hnd,hfr,rfl⟩ l hlO
   rw [BR] at hal
   have hkeys:((as.map fun a => (a,([]:List T))).map Prod.fst) = as:=by rw [List.map_map]; simp [Function.comp_def]
   have nst0:Nst n O l [] (as.map fun a => (a,([]:List T))):=by
    refine ⟨by rw [List.length_map]; omega,by rw [hkeys]; exact hnd,fun r hr z => ?_,fun r hr => ?_,fun i r e => ?_⟩
    ·rw [← z,Dr (by rw [hkeys]; exact hnd) hr] at hlO
     cases hlO
    ·obtain ⟨a,ha,rfl⟩:=List.mem_map.mp hr
     exact hfr a ha
    ·have:=List.mem_of_getElem? e
     obtain ⟨a,ha,rfl⟩:=List.mem_map.mp this
     rfl
   have hlO':O l = none:=by
    rw [Dc nst0.ne] at hlO
    exact hlO
   refine AC (BP Ac.own rfl (EI.wi (Pj (BJ (ev 0) AA)) ⟨fun j ρ' O' => ∃ rs v2 v3,ρ' = [some (BA n ps),some (.raw (.ref l)),v2,v3]∧O' = Ae (JS O rs) l (rs.map Gu)∧Nst n O l (ps.take j) rs,⟨_,none,none,rfl,rfl,by rw [List.take_zero]; exact nst0⟩,?_,?_⟩))
   ·rintro j t _ _ e ⟨rs,v2,v3,rfl,rfl,nst⟩
    rw [List.getElem?_map] at e
    cases ec:ps[j]? with
    | none => rw [ec] at e; cases e
    | some z =>
     rw [ec] at e
     cases e
     have hb:=hw z (List.mem_of_getElem? ec)
     have hlen:=nst.len
     have htl:(ps.take j).length≤200:=by rw [List.length_take]; omega
     obtain ⟨a,ea⟩:=Int.eq_ofNat_of_zero_le hb.1
     obtain ⟨b,eb⟩:=Int.eq_ofNat_of_zero_le (show 0≤z.2 by omega)
     have ha:a < rs.length:=by omega
     have hb':b < rs.length:=by omega
     have hab:a≠b:=by omega
     have ga:=List.getElem?_eq_getElem ha
     have gb:(rs.set a (rs[a].1,rs[a].2 ++ [T.int b]))[b]? = some rs[b]:=by rw [List.getElem?_set_ne hab]; exact List.getElem?_eq_getElem hb'
     have m1:=EY (vs:=rs[a].2 ++ [T.int b]) ga
     have nd1:((rs.set a (rs[a].1,rs[a].2 ++ [T.int b])).map Prod.fst).Nodup:=by rw [m1]; exact nst.nd
     have ne1:∀ r∈rs.set a (rs[a].1,rs[a].2 ++ [T.int b]),r.1≠l:=fun r hr => by
      have:r.1∈(rs.set a (rs[a].1,rs[a].2 ++ [T.int b])).map Prod.fst:=List.mem_map_of_mem hr
      rw [m1] at this
      obtain ⟨r',h1,h2⟩:=List.mem_map.mp this
      rw [← h2]; exact nst.ne r' h1
     have la:rs[a].2.length≤200:=by rw [nst.val a rs[a] ga,List.length_map]; exact Nat.le_trans Dt htl
     have lb:rs[b].2.length≤200:=by rw [nst.val b rs[b] (List.getElem?_eq_getElem hb'),List.length_map]; exact Nat.le_trans Dt htl
     have ez:z = ((a:Int),(b:Int)):=by rw [← ea,← eb]
     subst ez
     refine ⟨[some (BA n ps),some (.raw (.ref l)),some (.int a),some (.int b)],EO 2 3 rfl JB.nd (by show 2 < 4; decide) (by show 3 < 4; decide),?_⟩
     refine AC (Ao (En (ET.we (Ci (ts:=rs.map Gu) AH (ev 1) (ev 2) (BY (by rw [List.getElem?_map,ga]; rfl))) ⟨rs[a].1,rfl,⟨rs[a].2,?_⟩,ET.we (ev 3) ⟨rs[a].2,?_,by omega,?_⟩⟩)))
     ·rw [AX (nst.ne _ (List.getElem_mem ha))]; exact Dr nst.nd (List.getElem_mem ha)
     ·rw [AX (nst.ne _ (List.getElem_mem ha))]; exact Dr nst.nd (List.getElem_mem ha)
     ·rw [Xq ga nst.nd nst.ne]
      refine AF (Ao (En (ET.we (Ci (ts:=(rs.set a (rs[a].1,rs[a].2 ++ [T.int b])).map Gu) AH (ev 1) (ev 3) (BY (by rw [List.getElem?_map,gb]; rfl))) ⟨rs[b].1,rfl,⟨rs[b].2,?_⟩,ET.we (ev 2) ⟨rs[b].2,?_,by omega,?_⟩⟩)))
      ·rw [AX (ne1 _ (List.mem_of_getElem? gb))]; exact Dr nd1 (List.mem_of_getElem? gb)
      ·rw [AX (ne1 _ (List.mem_of_getElem? gb))]; exact Dr nd1 (List.mem_of_getElem? gb)
      ·rw [Xq gb nd1 ne1]
       refine ⟨_,_,_,rfl,rfl,?_⟩
       have:ps.take (j + 1) = ps.take j ++ [((a:Int),(b:Int))]:=by
        rw [List.take_add_one,ec]; rfl
       rw [this]
       exact nst.set2 hab ga (List.getElem?_eq_getElem hb')
   ·rintro _ _ ⟨rs,v2,v3,rfl,rfl,nst⟩
    rw [List.length_map,List.take_length] at nst
    refine QC nst.nd nst.ne nst.fr nst.fr ?_
    refine CM (p:=l) (n:=1) (ts:=rs.map fun r => T.lst r.2) AH hlO' rfl ?_
    rw [At hlO']
    refine AF (AR (ET.we (ev 1) ?_))
    show Φ (T.lst (rs.map fun r => T.lst r.2)) O
    rw [nst.tree]
    exact q
end
section
variable {P:Program} {w:World} {K:PySem.W.Frag} {mg:Str→Option Value} {base:Heap} {CP:Addr}
theorem Ho {n:Int} {ps:List (Int × Int)} (hw:QD n ps) {i:Nat} {v:Int}:v∈Au ps i↔Adj ps (i:Int) v:=by
 unfold Au Adj
 rw [List.mem_filterMap]
 constructor
 ·rintro ⟨p,hp,e⟩
  by_cases h:p.1 = (i:Int)
  ·rw [if_pos h] at e
   cases e
   exact .inl (by rw [← h]; exact hp)
  ·rw [if_neg h] at e
   by_cases h2:p.2 = (i:Int)
   ·rw [if_pos h2] at e
    cases e
    exact .inr (by rw [← h2]; exact hp)
   ·rw [if_neg h2] at e; cases e
 ·rintro (h | h)
  ·exact ⟨_,h,by simp⟩
  ·have:=hw _ h
   simp only at this
   exact ⟨_,h,by rw [if_neg (by omega)]; simp⟩
theorem QW {n:Int} {ps:List (Int × Int)} {i:Nat} (h:(i:Int) < n):atI ((List.range n.toNat).map fun i => T.lst ((Au ps i).map T.int)) (i:Int) = some (.lst ((Au ps i).map T.int)) :=
 BY (by rw [List.getElem?_map,List.getElem?_range (by omega)]; rfl)
theorem JC {m:Nat} {i:Nat} (h:i < m):Oq m (i:Int) = some i:=by
 unfold Oq
 rw [if_pos (by omega),if_pos (by omega)]
 rfl
structure WebN (n:Int) (ps:List (Int × Int)):Prop where
 n0:0≤n
 n1:n≤200
 hw:QD n ps
 hl:ps.length≤200
def Ad:Option Nat→T
 | none => .non
 | some d => .int d
theorem GV {x:Option Nat}:Aa (Ad x) = false:=by cases x <;> rfl
theorem KP {x:Option Nat}:CQ (Ad x) = x.isNone:=by cases x <;> rfl
def QX:Br:=fun ts O Φ _ => ∃ n ps S,ts = [Dv n ps,.lst (S.map T.int)]∧WebN n ps∧(∀ z∈S,0≤z∧z < n)∧∀ fs,All n ps S fs→Φ (.lst (fs.map Ad)) O
def QY:List Str:=["nears","starts","fars","start","border","steps","beyond","place","near"]
theorem CG:FnScope QY ["nears","starts"] (AB Hn):=⟨rfl,rfl,rfl,by decide +kernel,rfl,by decide +kernel,by decide +kernel⟩
theorem Xs:(Ah ["near"] []).Nodup:=by decide +kernel
def Zt (i:Nat):Stmt:=(Aj Hn).getD i (.Pass ⟨0,0,0,0⟩)
def Hq:Stmt→List Stmt
 | .While _ b _ _ => b
 | .For _ _ b _ _ => b
 | _ => []
def Xu (i:Nat):Stmt:=(Hq (Zt 4)).getD i (.Pass ⟨0,0,0,0⟩)
variable {f:Addr} {cdv:Value} {A:Around} {outer:List Env} {s:Shared} {H:Hp} {E:XK} {O:AL} {Ξ:Value→AL→Prop} {n:Int} {ps:List (Int × Int)} {S bs:List Int} {l lb:Addr}
abbrev zF (P:Program) (w:World) (K:PySem.W.Frag) (mg:Str→Option Value) (base:Heap) (f:Addr) (cdv:Value) (A:Around) (outer:List Env) (s:Shared) (H:Hp) (E:XK) (O:AL) (Ξ:Value→AL→Prop):Zx:=zB P w K mg base QY "fars_from" (AB Hn) f cdv A outer s H E O Ξ
abbrev FF (n:Int) (ps:List (Int × Int)) (S:List Int) (l:Addr) (v3:Option T) (bs:List Int) (k:Nat) (v6 v7 v8:Option T):List (Option T):=[some (Dv n ps),some (.lst (S.map T.int)),some (.raw (.ref l)),v3,some (.lst (bs.map T.int)),some (.int (k:Int)),v6,v7,v8]
abbrev FG (O:AL) (l lb:Addr) (fs:List (Option Nat)) (BL:List Int):AL:=Ae (Ae O l (fs.map Ad)) lb (BL.map T.int)
theorem QZ {v3 v7:Option T} {k:Nat} {fs:List (Option Nat)} {BL ds:List Int} {u:Int} {v:Nat} {Φ:BX} {N Bk Ct:Ic} (hll:lb≠l) (n1:n≤200) (hv:(v:Int) < n) (m:Mid n ps S k fs BL ds) (nd:BL.Nodup) (hw:QD n ps) (hS:∀ z∈S,0≤z∧z < n) (hu:IsD ps S u k) (a:Adj ps u v)
  (q:∀ fs BL,Mid n ps S k fs BL (ds ++ [(v:Int)])→BL.Nodup→N (FF n ps S l v3 bs (k + 1) (some (.raw (.ref lb))) v7 (some (.int v))) (FG O l lb fs BL)) :
  DW (zF P w K mg base f cdv A outer s H E O Ξ) (FF n ps S l v3 bs (k + 1) (some (.raw (.ref lb))) v7 (some (.int v))) (FG O l lb fs BL) (Hq ((Hq (Xu 2)).getD 0 (.Pass ⟨0,0,0,0⟩))) { nx:=N,rt:=Φ,bk:=Bk,ct:=Ct }:=by
 have sb:=AT
 have hl:=m.len
 have hlt:v < fs.length:=by omega
 have gl:FG O l lb fs BL l = some (fs.map Ad):=by
  show Ae (Ae O l _) lb _ l = _
  rw [AX hll.symm,AH]
 have gv:atI (fs.map Ad) (v:Int) = some (Ad fs[v]):=BY (by rw [List.getElem?_map,List.getElem?_eq_getElem hlt]; rfl)
 refine AF (AZ (DH GV (Ci gl (ev 2) (ev 8) gv)) (fun h => ?_) (fun h => Ab ?_))
 ·rw [KP] at h
  have hn:fs[(v:Int).toNat]? = some none:=by
   rw [Int.toNat_natCast,List.getElem?_eq_getElem hlt]
   cases z:fs[v] with
   | none => rfl
   | some d => rw [z] at h; cases h
  have hb:BL.length≤n.toNat:=QE nd fun z hz => (m.sub z hz).1.inb hw hS
  refine AC (GG (ET.we (ev 5) (ET.we (ev 2) ⟨l,rfl,ET.we (ev 8) ⟨_,_,v,rfl,gl,by rw [List.length_map]; exact JC hlt,?_⟩⟩)))
  have eo:Ae (FG O l lb fs BL) l ((fs.map Ad).set v (.int ((k + 1:Nat):Int))) = FG O l lb (fs.set v (some (k + 1))) BL:=by
   show Ae (Ae (Ae O l _) lb _) l _ = _
   rw [DG hll.symm,Ba]
   show _ = Ae (Ae O l ((fs.set v (some (k + 1))).map Ad)) lb _
   rw [List.map_set]
   rfl
  rw [eo]
  refine AF (Ao (En (ET.we (ev 6) ⟨lb,rfl,⟨_,AH⟩,ET.we (ev 8) ⟨BL.map T.int,AH,by rw [List.length_map]; omega,?_⟩⟩)))
  have m2:=m.hit (v:=(v:Int)) (by omega) hv hn hu a
  rw [Int.toNat_natCast] at m2
  have:=q _ _ m2 (by
   rw [List.nodup_append]
   refine ⟨nd,by simp,fun x hx y hy z => ?_⟩
   rw [List.mem_singleton.mp hy] at z
   exact m.fresh (by omega) hv hn (z ▸ hx))
  have e2:Ae (FG O l lb (fs.set v (some (k + 1))) BL) lb (BL.map T.int ++ [T.int v]) = FG O l lb (fs.set v (some (k + 1))) (BL ++ [(v:Int)]):=by
   show Ae (Ae (Ae O l _) lb _) lb _ = Ae (Ae O l _) lb _
   rw [Ba,List.map_append]
   rfl
  rw [e2]
  exact this
 ·rw [KP] at h
  cases z:fs[v] with
  | none => rw [z] at h; cases h
  | some d => exact q fs BL (m.miss (by omega) hv (d:=d) (by rw [Int.toNat_natCast,List.getElem?_eq_getElem hlt,z])) nd
end
section
variable {P:Program} {w:World} {K:PySem.W.Frag} {mg:Str→Option Value} {base:Heap} {CP:Addr} {f:Addr} {cdv:Value} {A:Around} {outer:List Env} {s:Shared} {H:Hp} {E:XK} {O:AL} {Ξ:Value→AL→Prop} {n:Int} {ps:List (Int × Int)} {S bs:List Int} {l lb:Addr}
theorem OL {v3 v8:Option T} {k:Nat} {fs:List (Option Nat)} {BL ds:List Int} {u:Nat} {Φ:BX} {N Bk Ct:Ic} (hll:lb≠l) (n1:n≤200) (hu0:(u:Int) < n) (m:Mid n ps S k fs BL ds) (nd:BL.Nodup) (hw:QD n ps) (hS:∀ z∈S,0≤z∧z < n) (hu:IsD ps S u k)
  (q:∀ v8 fs BL ds',Mid n ps S k fs BL ds'→BL.Nodup→(∀ v∈ds,v∈ds')→(∀ v,Adj ps u v→v∈ds')→N (FF n ps S l v3 bs (k + 1) (some (.raw (.ref lb))) (some (.int u)) v8) (FG O l lb fs BL)) :
  DW (zF P w K mg base f cdv A outer s H E O Ξ) (FF n ps S l v3 bs (k + 1) (some (.raw (.ref lb))) (some (.int u)) v8) (FG O l lb fs BL) (Hq (Xu 2)) { nx:=N,rt:=Φ,bk:=Bk,ct:=Ct }:=by
 refine AF (BP Ac.own rfl (EI.wi (Ak (Ib (ev 0) (ev 7) (QW hu0))) ⟨fun j ρ' O' => ∃ v8 fs BL ds',ρ' = FF n ps S l v3 bs (k + 1) (some (.raw (.ref lb))) (some (.int u)) v8∧O' = FG O l lb fs BL∧Mid n ps S k fs BL ds'∧BL.Nodup∧(∀ v∈ds,v∈ds')∧∀ v∈(Au ps u).take j,v∈ds',⟨v8,fs,BL,ds,rfl,rfl,m,nd,fun _ h => h,fun v h => by simp at h⟩,?_,?_⟩))
 ·rintro j t _ _ e ⟨v8,fs,BL,ds',rfl,rfl,m,nd,h1,h2⟩
  rw [List.getElem?_map] at e
  cases ec:(Au ps u)[j]? with
  | none => rw [ec] at e; cases e
  | some z =>
   rw [ec] at e
   cases e
   have a:=(Ho hw).mp (List.mem_of_getElem? ec)
   have hb:=a.inb hw
   obtain ⟨v,rfl⟩:=Int.eq_ofNat_of_zero_le hb.1
   refine ⟨FF n ps S l v3 bs (k + 1) (some (.raw (.ref lb))) (some (.int u)) (some (.int v)),AS 8 CG.nd (by show 8 < 9; decide),QZ hll n1 hb.2.1 m nd hw hS hu a fun fs' bey' m' nd' => ⟨_,_,_,_,rfl,rfl,m',nd',fun x hx => List.mem_append_left _ (h1 x hx),fun x hx => ?_⟩⟩
   rw [List.take_add_one,ec] at hx
   rcases List.mem_append.mp hx with hx | hx
   ·exact List.mem_append_left _ (h2 x hx)
   ·exact List.mem_append_right _ hx
 ·rintro _ _ ⟨v8,fs,BL,ds',rfl,rfl,m,nd,h1,h2⟩
  rw [List.length_map,List.take_length] at h2
  exact q v8 fs BL ds' m nd h1 fun v a => h2 v ((Ho hw).mpr a)
theorem OM {v3 v6 v7 v8:Option T} {k:Nat} {fs:List (Option Nat)} {Φ:BX} {N Bk Ct:Ic} (hlO:O l = none) (wn:WebN n ps) (hS:∀ z∈S,0≤z∧z < n) (h:Fr n ps S k fs) (hb:∀ v,v∈bs↔IsD ps S v k)
  (q:∀ v6 v7 v8 fs BL,Fr n ps S (k + 1) fs→(∀ v,v∈BL↔IsD ps S v (k + 1))→N (FF n ps S l v3 BL (k + 1) v6 v7 v8) (Ae O l (fs.map Ad))) :
  DW (zF P w K mg base f cdv A outer s H E O Ξ) (FF n ps S l v3 bs k v6 v7 v8) (Ae O l (fs.map Ad)) (Hq (Zt 4)) { nx:=N,rt:=Φ,bk:=Bk,ct:=Ct }:=by
 have sb:=AT
 refine AC (GF 5 Ku rfl (ET.we AA (fun H v w Q ok r1 r2 acc => ⟨_,_,r1.int_inv,r2.int_inv,acc _ H (.int (((k + 1:Nat):Int))) _ ?_ (.refl ok) (.int _)⟩)) CG.nd)
 refine AC (AG 6 (EL (BE ⟨Nat.zero_le _,fun lb hlb => ?_⟩)) CG.nd)
 have hll:lb≠l:=fun z => by rw [z,AH] at hlb; cases hlb
 have hlb':O lb = none:=by rw [AX hll] at hlb; exact hlb
 refine AC (BP Ac.own rfl (EI.wi (Ak (ev 4)) ⟨fun i ρ' O' => ∃ v7 v8 fs BL ds,ρ' = FF n ps S l v3 bs (k + 1) (some (.raw (.ref lb))) v7 v8∧O' = FG O l lb fs BL∧Mid n ps S k fs BL ds∧BL.Nodup∧∀ u∈bs.take i,∀ v,Adj ps u v→v∈ds,⟨v7,v8,fs,[],[],rfl,rfl,h.mid,by simp,fun u hu => by simp at hu⟩,?_,?_⟩))
 ·rintro i t _ _ e ⟨v7,v8,fs,BL,ds,rfl,rfl,m,nd,h1⟩
  rw [List.getElem?_map] at e
  cases ec:bs[i]? with
  | none => rw [ec] at e; cases e
  | some z =>
   rw [ec] at e
   cases e
   have hz:=(hb z).mp (List.mem_of_getElem? ec)
   have hi:=hz.1.inb wn.hw hS
   obtain ⟨u,rfl⟩:=Int.eq_ofNat_of_zero_le hi.1
   refine ⟨FF n ps S l v3 bs (k + 1) (some (.raw (.ref lb))) (some (.int u)) v8,AS 7 CG.nd (by show 7 < 9; decide),OL hll wn.n1 hi.2 m nd wn.hw hS hz fun v8 fs' bey' ds' m' nd' g1 g2 => ⟨_,_,_,_,ds',rfl,rfl,m',nd',fun x hx v a => ?_⟩⟩
   rw [List.take_add_one,ec] at hx
   rcases List.mem_append.mp hx with hx | hx
   ·exact g1 v (h1 x hx v a)
   ·have:x = (u:Int):=by simpa using hx
    rw [this] at a
    exact g2 v a
 ·rintro _ _ ⟨v7,v8,fs,BL,ds,rfl,rfl,m,nd,h1⟩
  rw [List.length_map,List.take_length] at h1
  obtain ⟨h2,h3⟩:=m.done fun u v hu a => h1 u ((hb u).mpr hu) v a
  refine CM (p:=lb) (n:=6) (ts:=BL.map T.int) AH hlb' rfl ?_
  rw [show DE (FG O l lb fs BL) lb = Ae O l (fs.map Ad) from At (by rw [AX hll]; exact hlb')]
  exact AF (AG 4 (ET.we (ev 6) (q _ _ _ fs BL h2 h3)) CG.nd)
theorem GW {v:Int}:IsD ps S v 0↔v∈S:=by
 constructor
 ·rintro ⟨w,_⟩
  cases w with
  | «at» h => exact h
 ·intro h
  exact ⟨.at h,fun j hj => by omega⟩
theorem Sl {fd:FuncData} (F:Fun K "fars_from" "fars_from" Hn f fd):FnOk P w K mg base (CXe P w) 1 f fd ["nears","starts"] (By K QX):=by
 refine AV F CG ?_ ?_
 ·rintro ts O Φ Ξ ⟨n,ps,S,rfl,_⟩
  rfl
 ·rintro cdv A outer s H E O Ξ hr xf _ Φ ⟨n,ps,S,rfl,wn,hS,q⟩
  have sb:=AT
  have n0:=wn.n0
  have n1:=wn.n1
  refine AC (Hk (i:=2) (nc:=["near"]) (cap:=[]) (by rfl) CG.nd rfl (CD (AB Hn) QY (by decide +kernel)) (EI.wi (Ak (ev 0)) ?_))
  refine ⟨fun i acc O' => i≤200∧acc = (List.replicate i (none:Option Nat)).map Ad∧O = O',⟨by omega,rfl,rfl⟩,?_,?_⟩
  ·rintro i t acc _ c e ⟨_,rfl,rfl⟩ hc
   have hi:i < n.toNat:=by
    have:=(List.getElem?_eq_some_iff.mp e).1
    simpa using this
   refine ⟨[some t],fun X' Oe He is => ⟨?_,Id (Fj fun X' Oe He is => ?_)⟩⟩
   ·obtain ⟨cl,s',H',fp,rfl⟩:=is
    exact AS 0 Xs (by decide)
   ·obtain ⟨cl,s',H',fp,rfl⟩:=is
    exact ET.we BU ⟨O,rfl,hc,by rw [List.length_map,List.length_replicate]; omega,by omega,by rw [List.replicate_succ',List.map_append]; rfl,rfl⟩
  ·rintro acc _ ⟨_,rfl,rfl⟩ l hlO
   rw [List.length_map,List.length_range]
   refine AC (BP Ac.own rfl (EI.wi (Ak (ev 1)) ⟨fun j ρ' O' => ∃ (fs:List (Option Nat)) (v3:Option T),ρ' = [some (Dv n ps),some (.lst (S.map T.int)),some (.raw (.ref l)),v3,none,none,none,none,none]∧O' = Ae O l (fs.map Ad)∧(fs.length:Int) = n∧∀ v:Int,0≤v→v < n→∀ d,fs[v.toNat]? = some (some d)↔(d = 0∧v∈S.take j),⟨_,none,rfl,rfl,by rw [List.length_replicate]; omega,fun v v0 v1 d => ?_⟩,?_,?_⟩))
   ·rw [List.getElem?_replicate]
    simp
   ·rintro j t _ _ e ⟨fs,v3,rfl,rfl,hl,hf⟩
    rw [List.getElem?_map] at e
    cases ec:S[j]? with
    | none => rw [ec] at e; cases e
    | some z =>
     rw [ec] at e
     cases e
     have hz:=hS z (List.mem_of_getElem? ec)
     obtain ⟨v,rfl⟩:=Int.eq_ofNat_of_zero_le hz.1
     have hlt:v < fs.length:=by omega
     refine ⟨[some (Dv n ps),some (.lst (S.map T.int)),some (.raw (.ref l)),some (.int v),none,none,none,none,none],AS 3 CG.nd (by show 3 < 9; decide),?_⟩
     refine AF (GG (ET.we AA (ET.we (ev 2) ⟨l,rfl,ET.we (ev 3) ⟨_,_,v,rfl,AH,by rw [List.length_map]; exact JC hlt,?_⟩⟩)))
     refine ⟨fs.set v (some 0),_,rfl,by rw [Ba,List.map_set]; rfl,by rw [List.length_set]; exact hl,fun y y0 y1 d => ?_⟩
     rw [List.take_add_one,ec]
     by_cases hy:y = (v:Int)
     ·subst hy
      rw [Int.toNat_natCast,List.getElem?_set_self hlt]
      simp [eq_comm]
     ·rw [List.getElem?_set_ne (by omega),hf y y0 y1 d]
      simp [hy]
   ·rintro _ _ ⟨fs,v3,rfl,rfl,hl,hf⟩
    rw [List.length_map,List.take_length] at hf
    have fr:Fr n ps S 0 fs:=SZ hl hf
    refine AC (AG 4 (ET.we (ev 1) ?_) CG.nd)
    refine AC (AG 5 (ET.we AA ?_) CG.nd)
    refine AC (GM Ac.own (fun m ρ' O' => ∃ (k:Nat) (bs:List Int) (fs:List (Option Nat)) (v3 v6 v7 v8:Option T),ρ' = FF n ps S l v3 bs k v6 v7 v8∧O' = Ae O l (fs.map Ad)∧Fr n ps S k fs∧(∀ v,v∈bs↔IsD ps S v k)∧m = n.toNat + 1 - k) ⟨_,0,S,fs,v3,none,none,none,rfl,rfl,fr,fun v => GW.symm,rfl⟩ ?_)
    rintro m _ _ ⟨k,bs,fs,v3,v6,v7,v8,rfl,rfl,fr,hb,rfl⟩
    refine (show EB (zF P w K mg base f cdv A outer s H E O Ξ) (FF n ps S l v3 bs k v6 v7 v8) (Ae O l (fs.map Ad)) _ (!(bs.map T.int).isEmpty) from Jz (t:=T.lst (bs.map T.int)) (ev 4) rfl) _ ?_
    cases bs with
    | nil =>
     refine Dl ?_
     have al:=fr.all_end fun v hv => by
      have:=(hb v).mpr hv
      cases this
     refine CM (p:=l) (n:=2) (ts:=fs.map Ad) AH hlO rfl ?_
     rw [At hlO]
     exact AF (AR (ET.we (ev 2) (q fs al)))
    | cons b bs' =>
     refine Fj (OM hlO wn hS fr hb fun v6 v7 v8 fs' BL fr' hb' => ⟨_,?_,k + 1,BL,fs',_,v6,v7,v8,rfl,rfl,fr',hb',rfl⟩)
     have:=((hb b).mp (by simp)).lt wn.hw hS
     omega
end
end K11
namespace L2.TL
open PySem PySem.Spec PyProof.Rows
section
variable {Z:Zx} {ρ:List (Option T)} {O:AL} {e:Expr} {p pos:Pos} {ns:List Int} {i:Int}
theorem Sm (hi:IT ns i) (m:Z.X.mg "min" = none) (hc:Z.X.calm = true) (h:ET Z ρ O e (.lst (ns.map T.int))) (hg:Gl Z.X "min":=by rfl) (he:starEach [e] Z.X.env = (false,eval e Z.X.env) :: starEach [] Z.X.env:=by rfl):ET Z ρ O (.Call (.Name "min" p) [e] [] pos) (.int i) :=
 Bt (OB hc) m Xh (AU h AD he) (fun Φ q H vs Q ok r k => by
  obtain ⟨v,rfl,r1⟩:=r.one_inv
  obtain ⟨a,xs,rfl,h1,o1,r1⟩:=r1.lst_inv
  cases Reps.ints r1
  refine ⟨a,ns,rfl,.inl (.inl (.inl h1)),List.length_pos_of_mem hi.1,fun n hn => ?_⟩
  have:n = i:=Int.le_antisymm (hn.2 i hi.1) (hi.2 n hn.1)
  rw [this]
  exact k _ H _ O q (.refl ok) (.int _)) hg (by decide) (by decide) he
theorem NE (hi:EJ ns i) (m:Z.X.mg "max" = none) (hc:Z.X.calm = true) (h:ET Z ρ O e (.lst (ns.map T.int))) (hg:Gl Z.X "max":=by rfl) (he:starEach [e] Z.X.env = (false,eval e Z.X.env) :: starEach [] Z.X.env:=by rfl):ET Z ρ O (.Call (.Name "max" p) [e] [] pos) (.int i) :=
 Bt (OC hc) m VY (AU h AD he) (fun Φ q H vs Q ok r k => by
  obtain ⟨v,rfl,r1⟩:=r.one_inv
  obtain ⟨a,xs,rfl,h1,o1,r1⟩:=r1.lst_inv
  cases Reps.ints r1
  refine ⟨a,ns,rfl,.inl (.inl (.inl h1)),List.length_pos_of_mem hi.1,fun n hn => ?_⟩
  have:n = i:=Int.le_antisymm (hi.2 n hn.1) (hn.2 i hi.1)
  rw [this]
  exact k _ H _ O q (.refl ok) (.int _)) hg (by decide) (by decide) he
theorem KQ:∀ {ns:List Int},ns≠[]→∃ i,IT ns i
 | [],h => absurd rfl h
 | [a],_ => ⟨a,by simp,fun n hn => by rw [List.mem_singleton.mp hn]; exact Int.le_refl _⟩
 | a :: b :: ns,_ => by
  obtain ⟨i,h1,h2⟩:=KQ (ns:=b :: ns) (by simp)
  refine ⟨min a i,?_,fun n hn => ?_⟩
  ·rcases Int.le_total a i with h | h
   ·rw [Int.min_eq_left h]; simp
   ·rw [Int.min_eq_right h]; exact List.mem_cons_of_mem _ h1
  ·rcases List.mem_cons.mp hn with rfl | hn
   ·exact Int.min_le_left ..
   ·exact Int.le_trans (Int.min_le_right ..) (h2 n hn)
theorem FU:∀ {ns:List Int},ns≠[]→∃ i,EJ ns i
 | [],h => absurd rfl h
 | [a],_ => ⟨a,by simp,fun n hn => by rw [List.mem_singleton.mp hn]; exact Int.le_refl _⟩
 | a :: b :: ns,_ => by
  obtain ⟨i,h1,h2⟩:=FU (ns:=b :: ns) (by simp)
  refine ⟨max a i,?_,fun n hn => ?_⟩
  ·rcases Int.le_total a i with h | h
   ·rw [Int.max_eq_right h]; exact List.mem_cons_of_mem _ h1
   ·rw [Int.max_eq_left h]; simp
  ·rcases List.mem_cons.mp hn with rfl | hn
   ·exact Int.le_max_left ..
   ·exact Int.le_trans (h2 n hn) (Int.le_max_right ..)
end
end L2.TL
namespace K11
open PySem L2 L2.TL PySem.Spec PyProof.Rows Gr
section
variable {P:Program} {w:World} {K:PySem.W.Frag} {mg:Str→Option Value} {base:Heap} {CN:Addr}
def NF (CN:Addr):Br:=fun ts O Φ Ξ => ∃ t a b,ts = [t,.int a,.int b]∧Aa t = false∧(Bu t a b = true→Φ .non O)∧(Bu t a b = false→Ξ (.ref CN) O)
theorem Xv:FnScope ["thing","least","most"] ["thing","least","most"] (AB Iy):=⟨rfl,rfl,rfl,by decide +kernel,rfl,by decide +kernel,by decide +kernel⟩
theorem Vr {f:Addr} {fd:FuncData} (F:Fun K "need_number" "need_number" Iy f fd) (mN:mg "NoNumber" = some (.ref CN)) (xN:PySem.W.excIn K CN Go "ValueError.__new__" = true) (G:FnT P w K mg base "is_whole" 1 ["thing","least","most"] Iw):FnOk P w K mg base (CXe P w) 2 f fd ["thing","least","most"] (By K (NF CN)):=by
 refine FT F Xv ?_ ?_
 ·rintro ts O Φ Ξ ⟨t,a,b,rfl,_⟩
  rfl
 ·rintro cdv A outer s H E O Ξ hr xo _ Φ ⟨t,a,b,rfl,ht,q1,q2⟩
  refine AF (AZ (Ch (EM (Ai G hr xo.f (AE (ev 0) (AE (ev 1) (AE (ev 2) AD))) ⟨t,a,b,rfl,ht,rfl⟩))) (fun h => AF (Da xo rfl mN xN (q2 ?_))) (fun h => Ab (q1 ?_)))
  ·cases z:Bu t a b with
   | true => rw [z] at h; cases h
   | false => rfl
  ·cases z:Bu t a b with
   | true => rfl
   | false => rw [z] at h; cases h
def AY (n:Int) (ps:List (Int × Int)):List Int:=(List.range n.toNat).map fun i => ((Au ps i).length:Int)
def Ey (cs:List Int):T:=if cs.all (fun c => decide (c = cs.headD 0)) = true then .int (cs.headD 0) else .non
def Qa:Br:=KA fun ts r => ∃ n ps,ts = [BA n ps]∧WebN n ps∧1≤n∧r = Ey (AY n ps)
theorem Qb:FnScope ["web","counts"] ["web"] (AB ND):=⟨rfl,rfl,rfl,by decide +kernel,rfl,by decide +kernel,by decide +kernel⟩
theorem Xw:(Ah ["near"] []).Nodup:=by decide +kernel
theorem Vs {cs:List Int} {a b:Int} (ha:IT cs a) (hb:EJ cs b):cs.all (fun c => decide (c = cs.headD 0)) = decide (a = b):=by
 have hne:cs≠[]:=fun z => by rw [z] at ha; cases ha.1
 have hh:cs.headD 0∈cs:=by
  cases cs with
  | nil => exact absurd rfl hne
  | cons x xs => simp
 by_cases h:a = b
 ·subst h
  rw [decide_eq_true rfl,List.all_eq_true]
  intro c hc
  have h1:=ha.2 c hc
  have h2:=hb.2 c hc
  have h3:=ha.2 _ hh
  have h4:=hb.2 _ hh
  exact decide_eq_true (by omega)
 ·rw [decide_eq_false h]
  cases z:cs.all (fun c => decide (c = cs.headD 0)) with
  | false => rfl
  | true =>
   rw [List.all_eq_true] at z
   have h1:=of_decide_eq_true (z a ha.1)
   have h2:=of_decide_eq_true (z b hb.1)
   omega
theorem Sn {f:Addr} {fd:FuncData} (F:Fun K "even_by" "even_by" ND f fd) (Tx:Txt mg) (G:FnT P w K mg base "nears_of" 1 ["web"] JA):FnOk P w K mg base (CXe P w) 2 f fd ["web"] (By K Qa):=by
 refine AV F Qb ?_ ?_
 ·rintro ts O Φ Ξ ⟨r,⟨n,ps,rfl,_⟩,_⟩
  rfl
 ·rintro cdv A outer s H E O Ξ hr xf _ Φ ⟨_,⟨n,ps,rfl,wn,n0,rfl⟩,q⟩
  have sb:=AT
  have n1:=wn.n1
  have hlen:(AY n ps).length = n.toNat:=by simp [AY]
  have hne:AY n ps≠[]:=fun z => by rw [z] at hlen; simp at hlen; omega
  obtain ⟨a,ha⟩:=KQ hne
  obtain ⟨b,hb⟩:=FU hne
  have e0:atI ((AY n ps).map T.int) 0 = some (.int ((AY n ps).headD 0)):=by
   cases z:AY n ps with
   | nil => exact absurd z hne
   | cons x xs =>
    show atI _ ((0:Nat):Int) = _
    exact BY rfl
  refine AC (ER (i:=1) (nc:=["near"]) (cap:=[]) (by rfl) Qb.nd rfl (CD (AB ND) ["web","counts"] (by decide +kernel)) (EI.wi (Ak (Ai G hr xf (AE (ev 0) AD) ⟨n,ps,rfl,wn.n0,wn.n1,wn.hw,wn.hl,rfl⟩)) (EU (List.range n.toNat) (fun i => T.lst ((Au ps i).map T.int)) (fun i => T.int (((Au ps i).map T.int).length:Int)) (by simp; omega) (fun x hx => ⟨[some (.lst ((Au ps x).map T.int))],fun X' Oe He is O' => ?_⟩) ?_)))
  ·obtain ⟨cl,s',H',fp,rfl⟩:=is
   exact ⟨AS 0 Xw (by decide),FR Tx.nLen (ev 0)⟩
  ·have e1:(List.range n.toNat).map (fun i => T.int (((Au ps i).map T.int).length:Int)) = (AY n ps).map T.int:=by simp [AY]
   rw [e1]
   refine AF (AR (ET.we (Ha (BO (Sm ha Tx.nMin rfl (ev 1)) (NE hb Tx.nMax rfl (ev 1))) (fun _ => Ib (ev 1) AA e0) (fun _ => BU)) ?_))
   have:(if decide (a = b) = true then T.int ((AY n ps).headD 0) else T.non) = Ey (AY n ps):=by
    unfold Ey
    rw [Vs ha hb]
   rw [this]
   exact q
end
end K11
namespace L2.TL
open PySem PySem.Spec PyProof.Rows
section
variable {Z:Zx} {ρ:List (Option T)} {O:AL} {a:Expr} {t:T} {us:List T} {K:PySem.W.Frag} {p1 pos:Pos}
theorem NG {j:Nat} (hr:Aa t = false) (ha:ET Z ρ O a t):EB Z ρ O (.Compare a [.IsNot] [.Constant .none j p1] pos) (!CQ t):=BI Rk (Af _) (fun Φ p H v w Q ok r1 r2 q => by
 refine ⟨r2.non_inv,?_⟩
 have e:decide (v = V.non) = CQ t:=by
  cases r1 <;> first | rfl | cases hr
 rw [e]
 exact q _ H _ O p (.refl ok) (.bl _)) ha BU
end
def Cu (ns:List Int):T:=.tup (ns.map T.int)
theorem GX:∀ {ns ms:List Int},PyData.eqvAll (dTs (ns.map T.int)) (dTs (ms.map T.int)) = decide (ns = ms)
 | [],[] => rfl
 | [],_ :: _ => rfl
 | _ :: _,[] => rfl
 | n :: ns,m :: ms => by
  show ((n == m) && PyData.eqvAll (dTs (ns.map T.int)) (dTs (ms.map T.int))) = _
  rw [GX,Bool.eq_iff_iff]
  simp
theorem Cm:∀ {ns:List Int},rdBs (ns.map T.int) = true
 | [] => rfl
 | n :: ns => by
  show (Bn (.int n) && rdBs (ns.map T.int)) = true
  rw [Cm,Bn]; rfl
theorem EI.cast {Z:Zx} {ρ:List (Option T)} {O:AL} {tg iter:Expr} {ts us:List T} (h:EI Z ρ O tg iter ts) (e:ts = us):EI Z ρ O tg iter us:=e ▸ h
theorem Dw:∀ {ns:List Int},PyData.depthAll (dTs (ns.map T.int))≤1
 | [] => by simp [dTs,PyData.depthAll]
 | n :: ns => by
  have:=Dw (ns:=ns)
  simp only [List.map_cons,dTs,PyData.depthAll,dT,PyData.depth]
  omega
end L2.TL
namespace K11
open PySem L2 L2.TL PySem.Spec PyProof.Rows
theorem aX:bootBuiltins "ValueError" = some (.type "ValueError"):=by decide +kernel
theorem DK {H H':Hp} {p:Addr} {o:HO} (s:Same H H') (hp:H' p = none):Same H (BG H' p o):=fun b u e => by
 rw [AK (AQ (s b u e) hp)]; exact s b u e
structure Asks (K:PySem.W.Frag) (mg:Str→Option Value) (CN:Addr) (x:Str) (b:Bool):Prop where
 ex:∃ C,mg x = some (.ref C)∧PySem.W.kitOne K (.ref CN) (.ref C) = some b
structure Kinds (K:PySem.W.Frag) (mg:Str→Option Value) (CN:Addr) (b0 b1 b2 b3 b4 b5 b6 b7:Bool):Prop where
 a0:Asks K mg CN "NoPlace" b0
 a1:Asks K mg CN "NoNumber" b1
 a2:Asks K mg CN "NoLine" b2
 a3:Asks K mg CN "NoRing" b3
 a4:Asks K mg CN "NotEven" b4
 a5:Asks K mg CN "NoWeb" b5
 a6:Asks K mg CN "NoText" b6
 a7:Asks K mg CN "TooGreat" b7
 ve:PySem.W.kitOne K (.ref CN) (.type "ValueError") = some true
 eN:ExcCls K CN
section
variable {P:Program} {w:World} {K:PySem.W.Frag} {mg:Str→Option Value} {base:Heap} {CP:Addr}
theorem Lu:FnScope ["_law_e","_law_marks"] ["_law_e"] (AB GO):=⟨rfl,rfl,rfl,by decide +kernel,rfl,by decide +kernel,by decide +kernel⟩
theorem FV {f:Addr} {fd:FuncData} {b0 b1 b2 b3 b4 b5 b6 b7:Bool} {y:Str} {j:Nat} (F:Fun K "_law_kind_of" "_law_kind_of" GO f fd) (T:Txt mg) (U:Kinds K mg CP b0 b1 b2 b3 b4 b5 b6 b7) (hc:(([.bl b0,.bl b1,.bl b2,.bl b3] ++ [.bl b4,.bl b5,.bl b6,.bl b7]:List V).countP fun z => Eg z (.bl true)) = 1) (hj:([.bl b0,.bl b1,.bl b2,.bl b3] ++ [.bl b4,.bl b5,.bl b6,.bl b7]:List V)[j]? = some (.bl true)) (hno:∀ m z,m < j→([.bl b0,.bl b1,.bl b2,.bl b3] ++ [.bl b4,.bl b5,.bl b6,.bl b7]:List V)[m]? = some z→Eg z (.bl true) = false) (hw:([.str "place",.str "number",.str "line",.str "ring",.str "even",.str "web",.str "text",.str "great"]:List V)[j]? = some (.str y)):FnH P w K mg base 1 f fd ["_law_e"] (Db CP y):=by
 obtain ⟨c0,m0,k0⟩:=U.a0.ex
 obtain ⟨c1,m1,k1⟩:=U.a1.ex
 obtain ⟨c2,m2,k2⟩:=U.a2.ex
 obtain ⟨c3,m3,k3⟩:=U.a3.ex
 obtain ⟨c4,m4,k4⟩:=U.a4.ex
 obtain ⟨c5,m5,k5⟩:=U.a5.ex
 obtain ⟨c6,m6,k6⟩:=U.a6.ex
 obtain ⟨c7,m7,k7⟩:=U.a7.ex
 refine F.okH Lu (fun vs H Q E h => ?_) (fun cdv A outer s H vs Q hr h => ?_)
 ·obtain ⟨x,rfl,_⟩:=h
  rfl
 ·obtain ⟨x,rfl,hx,k⟩:=h
  refine ⟨_,Bd (IA (i:=1) Lu.nd rfl (Or.inl rfl) (Fe
    (AI (Aq BM (by rfl) T.nIsi Gq (AI (pv 0) (AI (Bl (v:=.ref c0) (by rfl) m0 rfl) Ag)))
    (AI (Aq BM (by rfl) T.nIsi Gq (AI (pv 0) (AI (Bl (v:=.ref c1) (by rfl) m1 rfl) Ag)))
    (AI (Aq BM (by rfl) T.nIsi Gq (AI (pv 0) (AI (Bl (v:=.ref c2) (by rfl) m2 rfl) Ag)))
    (AI (Aq BM (by rfl) T.nIsi Gq (AI (pv 0) (AI (Bl (v:=.ref c3) (by rfl) m3 rfl) Ag))) Ag))))))
   (Bd (IA (i:=1) Lu.nd rfl (Or.inl rfl) (Tf IE (pv 1) (Fe
    (AI (Aq BM (by rfl) T.nIsi Gq (AI (pv 0) (AI (Bl (v:=.ref c4) (by rfl) m4 rfl) Ag)))
    (AI (Aq BM (by rfl) T.nIsi Gq (AI (pv 0) (AI (Bl (v:=.ref c5) (by rfl) m5 rfl) Ag)))
    (AI (Aq BM (by rfl) T.nIsi Gq (AI (pv 0) (AI (Bl (v:=.ref c6) (by rfl) m6 rfl) Ag)))
    (AI (Aq BM (by rfl) T.nIsi Gq (AI (pv 0) (AI (Bl (v:=.ref c7) (by rfl) m7 rfl) Ag))) Ag)))))))
   (Bd (JU (Td (Oc (JW (Aq BM (by rfl) T.nIsi Gq (AI (pv 0) (AI (MO (v:=.ty "ValueError") (by rfl) T.nVE aX rfl) Ag))) (fun _ => rfl)))
     (Ob (ED Tg (Ov PySem.F.plainAttrs_list PySem.F.slot_list_count PySem.F.type_list_count Ji (pv 1) (AI Oa Ag)) Kt (Af _)))).pt
     (Bm (CU Bg)) EC)
   (Bm (CU (Os CY (Fe (AI Bg (AI Bg (AI Bg (AI Bg (AI Bg (AI Bg (AI Bg (AI Bg Ag)))))))))
    (Ov PySem.F.plainAttrs_list PySem.F.slot_list_index PySem.F.type_list_index PD (pv 1) (AI Oa Ag)) (fun _ _ => rfl)))))),?_⟩
  refine ⟨_,rfl,_,.ref c0,_,_,b0,rfl,rfl,.inr ⟨x,CP,rfl,rfl,hx,U.eN⟩,k0,?_⟩
  refine ⟨_,rfl,_,.ref c1,_,_,b1,rfl,rfl,.inr ⟨x,CP,rfl,rfl,hx,U.eN⟩,k1,?_⟩
  refine ⟨_,rfl,_,.ref c2,_,_,b2,rfl,rfl,.inr ⟨x,CP,rfl,rfl,hx,U.eN⟩,k2,?_⟩
  refine ⟨_,rfl,_,.ref c3,_,_,b3,rfl,rfl,.inr ⟨x,CP,rfl,rfl,hx,U.eN⟩,k3,(by show 4≤sizeLine; decide),fun p hp => ?_⟩
  have hx1:(BG H p (.lst [.bl b0,.bl b1,.bl b2,.bl b3])) x = some (IH CP x):=by rw [AK (AQ hx hp)]; exact hx
  refine ⟨_,rfl,?_⟩
  refine ⟨_,rfl,_,.ref c4,_,_,b4,rfl,rfl,.inr ⟨x,CP,rfl,rfl,hx1,U.eN⟩,k4,?_⟩
  refine ⟨_,rfl,_,.ref c5,_,_,b5,rfl,rfl,.inr ⟨x,CP,rfl,rfl,hx1,U.eN⟩,k5,?_⟩
  refine ⟨_,rfl,_,.ref c6,_,_,b6,rfl,rfl,.inr ⟨x,CP,rfl,rfl,hx1,U.eN⟩,k6,?_⟩
  refine ⟨_,rfl,_,.ref c7,_,_,b7,rfl,rfl,.inr ⟨x,CP,rfl,rfl,hx1,U.eN⟩,k7,(by show 4≤sizeLine; decide),fun p2 hp2 => ?_⟩
  have np:p≠p2:=fun z => by rw [z,AJ] at hp2; cases hp2
  refine ⟨p,p2,_,_,rfl,rfl,(by rw [AK np]; exact AJ),AJ,(by show 8≤sizeLine; decide),fun p3 hp3 => ?_⟩
  have s1:Same H (BG H p (.lst [.bl b0,.bl b1,.bl b2,.bl b3])):=DK (Same.refl H) hp
  have s2:=DK (o:=.lst [.bl b4,.bl b5,.bl b6,.bl b7]) s1 hp2
  have s3:=DK (o:=.lst ([.bl b0,.bl b1,.bl b2,.bl b3] ++ [.bl b4,.bl b5,.bl b6,.bl b7])) s2 hp3
  refine ⟨_,rfl,_,.ty "ValueError",_,_,true,rfl,rfl,.inr ⟨x,CP,rfl,rfl,s3 _ _ hx,U.eN⟩,U.ve,true,rfl,?_⟩
  refine Dl ?_
  refine ⟨_,rfl,.inl ⟨rfl,_,SqL.of AJ⟩,p3,_,_,rfl,rfl,SqL.of AJ,rfl,rfl,rfl,_,rfl,?_⟩
  have ec:(!decide (V.int ((([.bl b0,.bl b1,.bl b2,.bl b3] ++ [.bl b4,.bl b5,.bl b6,.bl b7]:List V).countP fun z => Eg z (.bl true):Nat):Int) = V.int 1)) = false:=by rw [hc]; rfl
  rw [ec]
  refine Dl ?_
  refine ⟨(by show 8≤sizeLine; decide),fun p4 hp4 => ?_⟩
  have n4:p3≠p4:=fun z => by rw [z,AJ] at hp4; cases hp4
  refine ⟨_,rfl,.inl ⟨rfl,_,SqL.of (by rw [AK n4]; exact AJ)⟩,p3,_,_,j,rfl,rfl,SqL.of (by rw [AK n4]; exact AJ),rfl,rfl,⟨.bl true,hj,rfl⟩,hno,?_⟩
  exact ⟨p4,_,(j:Int),_,rfl,rfl,SqL.of AJ,BY hw,k _ (DK s3 hp4)⟩
theorem NH {xs:List V} {j:Nat} (h:((List.range j).all fun m => match xs[m]? with | some z => !Eg z (.bl true) | none => true) = true):∀ m z,m < j→xs[m]? = some z→Eg z (.bl true) = false:=fun m z hm e => by
 have:=List.all_eq_true.mp h m (List.mem_range.mpr hm)
 rw [e] at this
 simpa using this
theorem Gx {f:Addr} {fd:FuncData} (F:Fun K "_law_kind_of" "_law_kind_of" GO f fd) (T:Txt mg) (U:Kinds K mg CP true false false false false false false false):FnH P w K mg base 1 f fd ["_law_e"] (Db CP "place"):=FV (j:=0) F T U rfl rfl (NH (by decide)) rfl
theorem GY {f:Addr} {fd:FuncData} (F:Fun K "_law_kind_of" "_law_kind_of" GO f fd) (T:Txt mg) (U:Kinds K mg CP false true false false false false false false):FnH P w K mg base 1 f fd ["_law_e"] (Db CP "number"):=FV (j:=1) F T U rfl rfl (NH (by decide)) rfl
theorem JD {f:Addr} {fd:FuncData} (F:Fun K "_law_kind_of" "_law_kind_of" GO f fd) (T:Txt mg) (U:Kinds K mg CP false false true false false false false false):FnH P w K mg base 1 f fd ["_law_e"] (Db CP "line"):=FV (j:=2) F T U rfl rfl (NH (by decide)) rfl
theorem JE {f:Addr} {fd:FuncData} (F:Fun K "_law_kind_of" "_law_kind_of" GO f fd) (T:Txt mg) (U:Kinds K mg CP false false false false true false false false):FnH P w K mg base 1 f fd ["_law_e"] (Db CP "even"):=FV (j:=4) F T U rfl rfl (NH (by decide)) rfl
theorem UD:FnScope ["_law_e","_law_kind"] ["_law_e"] (AB Vg):=⟨rfl,rfl,rfl,by decide +kernel,rfl,by decide +kernel,by decide +kernel⟩
theorem JF {f fK:Addr} {fd fdK:FuncData} {y:Str} (h1:y≠"great") (h2:y≠"web") (F:Fun K "_law_refused" "_law_refused" Vg f fd) (FK:FnH P w K mg base 1 fK fdK ["_law_e"] (Db CP y)) (mK:mg "_law_kind_of" = some (.ref fK)) (kK:PySem.W.keepIn K (.ref fK) = true) (bK:Binds K fdK ["_law_e"] []):FnH P w K mg base 2 f fd ["_law_e"] (Vf CP (.tup [.str y])):=by
 refine F.okH UD (fun vs H Q E h => ?_) (fun cdv A outer s H vs Q hr h => ?_)
 ·obtain ⟨x,rfl,_⟩:=h
  rfl
 ·obtain ⟨x,rfl,hx,k⟩:=h
  refine ⟨_,Bd (IA (i:=1) UD.nd rfl (Or.inl rfl) (Jh FK hr (by rfl) mK kK bK (AI (pv 0) Ag)))
   (Bd (JU (ED HE (pv 1) Bg (Af _)) (Bm (CU (IB (AI (pv 1) (AI (Kz (pv 0) rfl) (AI (Kz (pv 0) rfl) Ag)))))) EC)
   (Bd (JU (ED HE (pv 1) Bg (Af _)) (Bm (CU (IB (AI (pv 1) (AI (Kz (pv 0) rfl) Ag))))) EC)
   (Bm (CU (IB (AI (pv 1) Ag)))))),?_⟩
  refine ⟨_,rfl,x,rfl,hx,fun H' s' => ?_⟩
  have e1:decide (V.str y = V.str "great") = false:=decide_eq_false fun z => h1 (by injection z)
  have e2:decide (V.str y = V.str "web") = false:=decide_eq_false fun z => h2 (by injection z)
  refine ⟨_,rfl,rfl,_,rfl,?_⟩
  rw [e1]
  refine Dl ?_
  refine ⟨_,rfl,rfl,_,rfl,?_⟩
  rw [e2]
  refine Dl ?_
  refine ⟨_,rfl,(by show 1≤sizeLine; decide),fun p hp => ?_⟩
  refine k _ _ (DK s' hp) fun K O => .tup AJ (.one (.str y))
end
section
variable {P:Program} {w:World} {K:PySem.W.Frag} {mg:Str→Option Value} {base:Heap} {CP CL:Addr}
structure WebA (n:Int) (ps:List (Int × Int)):Prop where
 n0:1≤n
 n1:n≤16
 hp:∀ p∈ps,Hm n p
 hl:ps.length≤200
theorem Lv {t:T} {n:Int} (h:Bu t 0 (n - 1) = true):∃ i:Int,t = .int i∧0≤i∧i < n:=by
 obtain ⟨i,rfl⟩:=NA h
 have h:(decide (0≤i) && decide (i≤n - 1)) = true:=h
 simp at h
 exact ⟨i,rfl,h.1,by omega⟩
end
end K11
namespace L2.TL
open PySem PySem.Spec PyProof.Rows
section
variable {Z:Zx} {ρ:List (Option T)} {O:AL} {e elt tg iter:Expr} {ifs:List Expr} {csc:Scope} {nc:List Str} {cap:List (Str × Nat)} {Φ:BX} {pos:Pos}
theorem Vt (hc:Z.X.calm = true) (ok:LcOk Z.X csc nc cap) (h:WI Z ρ O tg iter (Pk Z ρ elt tg ifs csc nc cap fun acc O' => ∀ a,O' a = none→Φ (.raw (.ref a)) (Ae O' a acc)))
  (hs:∀ x,foldedSetIterable iter Z.X.env x = pure x:=by intro _; rfl):WE Z ρ O (.ListComp elt [⟨tg,iter,ifs,0⟩] csc pos) Φ :=
 PE.weak (Tl hc ok h SM Mt SN hs) fun σ H Q q => Lg q.1 h fun acc O' p H' p1 n f nb => q.2 _ _ _ _ (p1 p n) f (.raw _)
theorem KR {α:Type} {F:List T→AL→Prop} {c:Expr} (xs:List α) (f g:α→T) (q:α→Bool) (hl:xs.length≤sizeLine) (h:∀ x,x∈xs→∃ ρ4,∀ X' Oe He,LcCx Z.X csc (Ah nc cap) X'→∀ O',(∀ b us,O b = some us→O' b = some us)→(WG (zc X' Oe He) nc.length (FD nc ρ cap) O' tg (f x) ρ4∧EB (zc X' Oe He) ρ4 O' c (q x)∧(q x = true→ET (zc X' Oe He) ρ4 O' elt (g x)))) (fin:F ((xs.filter q).map g) O):Pk Z ρ elt tg [c] csc nc cap F (xs.map f) O:=by
 refine ⟨fun i acc O' => O' = O∧acc = ((xs.take i).filter q).map g,⟨rfl,by simp⟩,?_,?_⟩
 ·rintro i t acc O' p e ⟨rfl,rfl⟩ np
  rw [List.getElem?_map] at e
  cases ex:xs[i]? with
  | none => rw [ex] at e; cases e
  | some x =>
   rw [ex] at e
   cases e
   have hk:∀ b us,O' b = some us→(Ae O' p (((xs.take i).filter q).map g)) b = some us:=fun b us e => by
    have:b≠p:=fun z => by rw [z,np] at e; cases e
    rw [AX this]; exact e
   obtain ⟨ρ4,w⟩:=h x (List.mem_of_getElem? ex)
   have hi:=(List.getElem?_eq_some_iff.mp ex).1
   refine ⟨ρ4,fun X' Oe He is => ⟨(w X' Oe He is _ hk).1,Ie ((w X' Oe He is _ hk).2.1 _ ?_)⟩⟩
   cases hq:q x with
   | true =>
    refine Fj fun X' Oe He is => (w X' Oe He is _ hk).2.2 hq _ ⟨_,rfl,np,?_,rfl,?_⟩
    ·have:=List.length_filter_le q (xs.take i)
     simp at this ⊢; omega
    ·rw [List.take_add_one,ex]; simp [hq]
   | false =>
    refine Dl ⟨_,rfl,np,rfl,?_⟩
    rw [List.take_add_one,ex]; simp [hq]
 ·rintro acc O' ⟨rfl,rfl⟩
  rw [List.length_map,List.take_length]
  exact fin
theorem So {α:Type} (nc:List Str) (cap:List (Str × Nat)) {c:Expr} (xs:List α) (f g:α→T) (q:α→Bool) (hc:Z.X.calm = true) (ok:LcOk Z.X csc nc cap) (hi:EI Z ρ O tg iter (xs.map f)) (hl:xs.length≤sizeLine) (h:∀ x,x∈xs→∃ ρ4,∀ X' Oe He,LcCx Z.X csc (Ah nc cap) X'→∀ O',(∀ b us,O b = some us→O' b = some us)→(WG (zc X' Oe He) nc.length (FD nc ρ cap) O' tg (f x) ρ4∧EB (zc X' Oe He) ρ4 O' c (q x)∧(q x = true→ET (zc X' Oe He) ρ4 O' elt (g x))))
  (hs:∀ x,foldedSetIterable iter Z.X.env x = pure x:=by intro _; rfl):ET Z ρ O (.ListComp elt [⟨tg,iter,[c],0⟩] csc pos) (.lst ((xs.filter q).map g)):=fun Φ p => Pl hc ok (hi _ (KR xs f g q hl h p)) hs
theorem Qc {ts:List T} {p:Pos} (m:Z.X.mg "list" = none) (h:ET Z ρ O e (.lst ts)) (hg:Gl Z.X "list":=by rfl) (he:starEach [e] Z.X.env = (false,eval e Z.X.env) :: starEach [] Z.X.env:=by rfl):ET Z ρ O (.Call (.Name "list" p) [e] [] pos) (.lst ts) :=
 Em GC m Tw (AU h AD he) (fun Φ q H vs Q ok r k => by
  obtain ⟨v,rfl,r1⟩:=r.one_inv
  obtain ⟨a,xs,rfl,h1,_,r1⟩:=r1.lst_inv
  exact ⟨a,xs,rfl,.inl (.inl (.inl h1)),fun p hp => k _ _ _ O q (.new ok hp) (.lst AJ (ok.none_of hp) (r1.kp (BT ok hp) ok))⟩) hg (by decide) (by decide) he
theorem KS (h:WE Z ρ O e fun t O' => ∃ a ts,t = .raw (.ref a)∧O a = none∧O' = Ae O a ts∧Φ (.lst ts) O):WE Z ρ O e Φ :=
 PE.weak h fun σ H Q q => ⟨q.1,fun v H' t O' p f r => by
  obtain ⟨a,ts,rfl,na,rfl,p⟩:=p
  cases r.raw_inv
  refine q.2 _ H' _ O p ⟨fun b o e1 e2 => ?_,fun b us e1 => ⟨us,e1⟩,?_⟩ ?_
  ·have:=f.kp.trans (Cf (a:=a)) b o e1 e2
   rw [At na] at this; exact this
  ·have:=f.ok.drop (a:=a)
   rw [At na] at this; exact this
  ·have:=f.ok.rep (a:=a) AH
   rw [At na] at this
   exact this⟩
end
theorem Er {i:Int}:∀ {ns:List Int},((dTs (ns.map T.int)).any fun y => PyData.eqv y (dT (.int i))) = decide (i∈ns)
 | [] => rfl
 | n :: ns => by
  show ((n == i) || (dTs (ns.map T.int)).any fun y => PyData.eqv y (dT (.int i))) = _
  rw [Er,Bool.eq_iff_iff]
  simp only [Bool.or_eq_true,decide_eq_true_eq,List.mem_cons,beq_iff_eq]
  constructor
  ·rintro (h | h)
   ·exact .inl h.symm
   ·exact .inr h
  ·rintro (h | h)
   ·exact .inl h.symm
   ·exact .inr h
end L2.TL
namespace K11
open PySem L2 L2.TL PySem.Spec PyProof.Rows Gr
theorem Qd {fs:List (Option Nat)}:GN (fs.map Ad) = (List.range fs.length).map fun j => .tup [.int (j:Int),Ad (fs.getD j none)]:=by
 unfold GN
 apply List.ext_getElem?
 intro m
 rw [List.getElem?_map,List.getElem?_map,List.getElem?_zipIdx,List.getElem?_map]
 by_cases hm:m < fs.length
 ·rw [List.getElem?_eq_getElem hm,List.getElem?_range hm]
  simp [List.getD,hm]
 ·rw [List.getElem?_eq_none (by omega),List.getElem?_eq_none (by simp; omega)]
  rfl
def Cv (fs:List (Option Nat)) (k:Nat):List Int:=((List.range fs.length).filter fun j => decide (fs.getD j none = some k)).map fun (j:Nat) => (j:Int)
def GZ (fs:List (Option Nat)):List Int:=(fs.filter Option.isSome).map fun x => ((x.getD 0:Nat):Int)
theorem Ga:∀ {fs:List (Option Nat)},(fs.filter Option.isSome).map Ad = (GZ fs).map T.int
 | [] => rfl
 | none :: fs => Ga (fs:=fs)
 | some d :: fs => by
  show T.int (d:Int) :: (fs.filter Option.isSome).map Ad = T.int (d:Int) :: (GZ fs).map T.int
  rw [Ga]
def Dg (fs:List (Option Nat)) (d:Int):List (List Int):=(List.range (d + 1).toNat).map fun k => Cv fs k
theorem FW {fs:List (Option Nat)} {z:Int}:z∈GZ fs↔∃ (i d:Nat),fs[i]? = some (some d)∧z = d:=by
 unfold GZ
 rw [List.mem_map]
 constructor
 ·rintro ⟨x,hx,rfl⟩
  obtain ⟨h1,h2⟩:=List.mem_filter.mp hx
  cases x with
  | none => cases h2
  | some d =>
   obtain ⟨i,hi⟩:=List.getElem?_of_mem h1
   exact ⟨i,d,hi,rfl⟩
 ·rintro ⟨i,d,h,rfl⟩
  exact ⟨some d,List.mem_filter.mpr ⟨List.mem_of_getElem? h,rfl⟩,rfl⟩
theorem Qe {n:Int} {ps:List (Int × Int)} {S:List Int} {fs:List (Option Nat)} (al:All n ps S fs) (hS:∀ z∈S,0≤z∧z < n) (h0:S≠[]):GZ fs≠[]:=by
 cases S with
 | nil => exact absurd rfl h0
 | cons s S =>
  have hs:=hS s (by simp)
  have:=(al.eq s hs.1 hs.2 0).mpr (GW.mpr (by simp))
  intro z
  have m:((0:Nat):Int)∈GZ fs:=FW.mpr ⟨_,_,this,rfl⟩
  rw [z] at m
  cases m
theorem Qf {n:Int} {ps:List (Int × Int)} {S:List Int} {fs:List (Option Nat)} (wn:WebN n ps) (al:All n ps S fs) (hS:∀ z∈S,0≤z∧z < n) {z:Int} (h:z∈GZ fs):0≤z∧z < n:=by
 obtain ⟨i,d,e,rfl⟩:=FW.mp h
 have hl:=al.len
 have hi:=(List.getElem?_eq_some_iff.mp e).1
 have:=((al.eq i (by omega) (by omega) d).mp (by rw [Int.toNat_natCast]; exact e)).lt wn.hw hS
 omega
theorem NI {x:Option Nat} {k:Nat}:PyData.eqv (dT (Ad x)) (dT (.int (k:Int))) = decide (x = some k):=by
 cases x with
 | none => rfl
 | some d =>
  show ((d:Int) == (k:Int)) = _
  rw [Bool.eq_iff_iff]
  simp
  omega
theorem Qg {x:Option Nat}:Bn (Ad x) = true:=by cases x <;> rw [Ad,Bn]
theorem ON {x:Option Nat}:(dT (Ad x)).depth≤100:=by cases x <;> (show 0≤100; decide)
theorem WebA.wn {n:Int} {ps:List (Int × Int)} (a:WebA n ps):WebN n ps:=⟨by have:=a.n0; omega,by have:=a.n1; omega,a.hp,a.hl⟩
section
variable {P:Program} {w:World} {K:PySem.W.Frag} {mg:Str→Option Value} {base:Heap} {CP CL:Addr}
def UE (CP CL:Addr):Br:=fun ts O Φ Ξ => ∃ n ps t u,ts = [BA n ps,t,u]∧Aa t = false∧Aa u = false ∧
 (∀ i j:Int,t = .int i→u = .int j→0≤i→i < n→0≤j→j < n→(NC ps i j = true→Φ .non O)∧(NC ps i j = false→Ξ (.ref CL) O))∧(Bu t 0 (n - 1) = false∨Bu u 0 (n - 1) = false→Ξ (.ref CP) O)
theorem Xx:FnScope ["web","a","b"] ["web","a","b"] (AB Vl):=⟨rfl,rfl,rfl,by decide +kernel,rfl,by decide +kernel,by decide +kernel⟩
theorem Vu {f:Addr} {fd:FuncData} (F:Fun K "need_tie" "need_tie" Vl f fd) (mL:mg "NoLine" = some (.ref CL)) (xL:PySem.W.excIn K CL Go "ValueError.__new__" = true) (Gn:FnT P w K mg base "need_place" 3 ["web","thing"] (Lr CP)) (G:FnT P w K mg base "are_tied" 1 ["web","a","b"] QU):FnOk P w K mg base (CXe P w) 4 f fd ["web","a","b"] (By K (UE CP CL)):=by
 refine FT F Xx ?_ ?_
 ·rintro ts O Φ Ξ ⟨n,ps,t,u,rfl,_⟩
  rfl
 ·rintro cdv A outer s H E O Ξ hr xo _ Φ ⟨n,ps,t,u,rfl,ht,hu,q1,q2⟩
  have xf:=xo.f
  refine AC (Ao (AN Gn hr xf (EA.wa (AE (ev 0) (AE (ev 1) AD)) ⟨n,_,t,rfl,ht,fun h => ?_,fun h => q2 (.inl h)⟩)))
  refine AC (Ao (AN Gn hr xf (EA.wa (AE (ev 0) (AE (ev 2) AD)) ⟨n,_,u,rfl,hu,fun h2 => ?_,fun h => q2 (.inr h)⟩)))
  obtain ⟨i,rfl,i0,i1⟩:=Lv h
  obtain ⟨j,rfl,j0,j1⟩:=Lv h2
  obtain ⟨q3,q4⟩:=q1 i j rfl rfl i0 i1 j0 j1
  refine AF (AZ (Ch (EM (Ai G (hr.mono (by decide)) xf (AE (ev 0) (AE (ev 1) (AE (ev 2) AD))) ⟨n,ps,i,j,rfl,rfl⟩))) (fun h => AF (Da xo rfl mL xL (q4 ?_))) (fun h => Ab (q3 ?_)))
  ·cases z:NC ps i j with
   | true => rw [z] at h; cases h
   | false => rfl
  ·cases z:NC ps i j with
   | true => rfl
   | false => rw [z] at h; cases h
def NJ:Br:=KA fun ts r => ∃ fs k,ts = [.lst (fs.map Ad),.int ((k:Nat):Int)]∧fs.length≤200∧r = Cu (Cv fs k)
theorem Sq:FnScope ["fars","far"] ["fars","far"] (AB GR):=⟨rfl,rfl,rfl,by decide +kernel,rfl,by decide +kernel,by decide +kernel⟩
theorem Xy:(Ah ["place","found"] [(("far" : Str),1)]).Nodup:=by decide +kernel
theorem OO {f:Addr} {fd:FuncData} (F:Fun K "places_so_far" "places_so_far" GR f fd) (Tx:Txt mg):FnOk P w K mg base (CXe P w) 1 f fd ["fars","far"] (By K NJ):=by
 refine AV F Sq ?_ ?_
 ·rintro ts O Φ Ξ ⟨r,⟨fs,k,rfl,_⟩,_⟩
  rfl
 ·rintro cdv A outer s H E O Ξ hr xf _ Φ ⟨_,⟨fs,k,rfl,hl,rfl⟩,q⟩
  have sb:=AT
  have hu:(A.deeper (envOfC "places_so_far" (AB GR) s.heap.objs.size f cdv)).units + 102 < cLine:=by have:=hr.un; omega
  refine AF (AR (ET.we (t:=Cu (Cv fs k)) (ET.cast (Pp Tx.nTuple (Eo ["place","found"] [("far",1)] (List.range fs.length) (fun j => .tup [.int (j:Int),Ad (fs.getD j none)]) (fun j => .int (j:Int)) (fun j => decide (fs.getD j none = some k)) rfl (CD (AB GR) ["fars","far"] (by decide +kernel)) (EI.cast (Sd Tx.nEnum (ev 0)) Qd) (by rw [List.length_range]; omega) fun x hx => ⟨[some (.int (x:Int)),some (Ad (fs.getD x none)),some (.int (k:Int))],fun X' Oe He is O' => ?_⟩)) ?_) q))
  ·obtain ⟨cl,s',H',fp,rfl⟩:=is
   refine ⟨EO 0 1 rfl Xy (by decide) (by decide),EB.cast (BI (GL (Nat.lt_of_succ_lt hu)) (Af _) (Ip (u:=.int (k:Int)) Qg (by rw [Bn]) ON) (ev 1) (ev 2)) NI,fun _ => ev 0⟩
  ·unfold Cu Cv
   rw [List.map_map]
   rfl
def Lw:Br:=fun ts O Φ _ => ∃ n ps S,ts = [BA n ps,.lst (S.map T.int)]∧WebN n ps∧(∀ z∈S,0≤z∧z < n)∧S≠[]∧∀ fs d,All n ps S fs→EJ (GZ fs) d→∀ a,O a = none→Φ (.raw (.ref a)) (Ae O a ((Dg fs d).map Cu))
def Qh:List Str:=["web","starts","fars","deepest"]
theorem Lx:FnScope Qh ["web","starts"] (AB DJ):=⟨rfl,rfl,rfl,by decide +kernel,rfl,by decide +kernel,by decide +kernel⟩
theorem Vv:(Ah ["far"] []).Nodup:=by decide +kernel
theorem Vw:(Ah ["far"] [(("fars" : Str),2)]).Nodup:=by decide +kernel
theorem Sr {f:Addr} {fd:FuncData} (F:Fun K "layers_from" "layers_from" DJ f fd) (Tx:Txt mg) (G:FnT P w K mg base "nears_of" 1 ["web"] JA) (Gf:FnT P w K mg base "fars_from" 1 ["nears","starts"] QX) (Gp:FnT P w K mg base "places_so_far" 1 ["fars","far"] NJ):FnOk P w K mg base (CXe P w) 2 f fd ["web","starts"] (By K Lw):=by
 refine AV F Lx ?_ ?_
 ·rintro ts O Φ Ξ ⟨n,ps,S,rfl,_⟩
  rfl
 ·rintro cdv A outer s H E O Ξ hr xf _ Φ ⟨n,ps,S,rfl,wn,hS,hne,q⟩
  have sb:=AT
  have n1:=wn.n1
  refine AC (AG 2 (AN Gf hr xf (EA.wa (AE (Ai G hr xf (AE (ev 0) AD) ⟨n,ps,rfl,wn.n0,wn.n1,wn.hw,wn.hl,rfl⟩) (AE (ev 1) AD)) ⟨n,ps,S,rfl,wn,hS,fun fs al => ?_⟩)) Lx.nd)
  have hlf:=al.len
  obtain ⟨d,hd⟩:=FU (Qe al hS hne)
  have hdi:=Qf wn al hS hd.1
  refine AC (AG 3 (ET.we (t:=.int d) (NE hd Tx.nMax rfl (ET.cast (Eo ["far"] [] fs Ad Ad Option.isSome rfl (CD (AB DJ) Qh (by decide +kernel)) (Ak (ev 2)) (by omega) fun x hx => ⟨[some (Ad x)],fun X' Oe He is O' => ?_⟩) (by rw [Ga]))) ?_) Lx.nd)
  ·obtain ⟨cl,s',H',fp,rfl⟩:=is
   refine ⟨AS 0 Vv (by decide),EB.cast (NG GV (ev 0)) ?_,fun _ => ev 0⟩
   cases x <;> rfl
  ·refine AF (AR (Vt (nc:=["far"]) (cap:=[("fars",2)]) rfl (CD (AB DJ) Qh (by decide +kernel)) (EI.wi (ts:=(List.range (d + 1).toNat).map fun k => T.int ((k:Nat):Int)) (EI.cast (As Tx.nRange (Al (ev 3) AA) ⟨by omega,by omega⟩) ?_) (EU (List.range (d + 1).toNat) (fun k => T.int ((k:Nat):Int)) (fun k => Cu (Cv fs k)) (by rw [List.length_range]; omega) (fun x hx => ⟨[some (.int (x:Int)),some (.lst (fs.map Ad))],fun X' Oe He is O' => ?_⟩) ?_))))
   ·unfold GH
    simp
   ·obtain ⟨cl,s',H',fp,rfl⟩:=is
    exact ⟨AS 0 Vw (by decide),Ai Gp (hr.mono (by decide)) DX (AE (ev 1) (AE (ev 0) AD)) ⟨fs,x,rfl,by omega,rfl⟩⟩
   ·intro a ha
    have:=q fs d al hd a ha
    unfold Dg at this
    rw [List.map_map] at this
    exact this
def Xz (n:Int) (ps:List (Int × Int)) (S:List Int) (O:AL) (Φ:BX):Prop:=∀ fs d,All n ps S fs→EJ (GZ fs) d→∀ a,O a = none→Φ (.raw (.ref a)) (Ae O a ((Dg fs d).map Cu))
def NK (CP:Addr):Br:=fun ts O Φ Ξ => ∃ n ps t,ts = [BA n ps,t]∧Aa t = false∧WebN n ps∧(∀ i:Int,t = .int i→0≤i→i < n→Xz n ps [i] O Φ)∧(Bu t 0 (n - 1) = false→Ξ (.ref CP) O)
theorem Ss:FnScope ["web","place"] ["web","place"] (AB Lq):=⟨rfl,rfl,rfl,by decide +kernel,rfl,by decide +kernel,by decide +kernel⟩
theorem OP {f:Addr} {fd:FuncData} (F:Fun K "layers_of" "layers_of" Lq f fd) (Gn:FnT P w K mg base "need_place" 3 ["web","thing"] (Lr CP)) (G:FnT P w K mg base "layers_from" 2 ["web","starts"] Lw):FnOk P w K mg base (CXe P w) 4 f fd ["web","place"] (By K (NK CP)):=by
 refine AV F Ss ?_ ?_
 ·rintro ts O Φ Ξ ⟨n,ps,t,rfl,_⟩
  rfl
 ·rintro cdv A outer s H E O Ξ hr xf _ Φ ⟨n,ps,t,rfl,ht,wn,q1,q2⟩
  refine AC (Ao (AN Gn hr xf (EA.wa (AE (ev 0) (AE (ev 1) AD)) ⟨n,_,t,rfl,ht,fun h => ?_,fun h => q2 h⟩)))
  obtain ⟨i,rfl,i0,i1⟩:=Lv h
  refine AF (AR (AN G (hr.mono (by decide)) xf (EA.wa (AE (ev 0) (AE (Az (ts:=[i].map T.int) (AE (ev 1) AD) (by show 1≤sizeLine; decide)) AD)) ⟨n,ps,[i],rfl,wn,fun z hz => ?_,by simp,q1 i rfl i0 i1⟩)))
  rw [List.mem_singleton.mp hz]; exact ⟨i0,i1⟩
def KT (CP CL:Addr):Br:=fun ts O Φ Ξ => ∃ n ps t u,ts = [BA n ps,t,u]∧Aa t = false∧Aa u = false∧WebN n ps ∧
 (∀ i j:Int,t = .int i→u = .int j→0≤i→i < n→0≤j→j < n→(NC ps i j = true→Xz n ps [i,j] O Φ)∧(NC ps i j = false→Ξ (.ref CL) O))∧(Bu t 0 (n - 1) = false∨Bu u 0 (n - 1) = false→Ξ (.ref CP) O)
theorem Qi:FnScope ["web","a","b"] ["web","a","b"] (AB Iv):=⟨rfl,rfl,rfl,by decide +kernel,rfl,by decide +kernel,by decide +kernel⟩
theorem Ly {f:Addr} {fd:FuncData} (F:Fun K "layers_by_tie" "layers_by_tie" Iv f fd) (Gn:FnT P w K mg base "need_tie" 4 ["web","a","b"] (UE CP CL)) (G:FnT P w K mg base "layers_from" 2 ["web","starts"] Lw):FnOk P w K mg base (CXe P w) 5 f fd ["web","a","b"] (By K (KT CP CL)):=by
 refine AV F Qi ?_ ?_
 ·rintro ts O Φ Ξ ⟨n,ps,t,u,rfl,_⟩
  rfl
 ·rintro cdv A outer s H E O Ξ hr xf _ Φ ⟨n,ps,t,u,rfl,ht,hu,wn,q1,q2⟩
  refine AC (Ao (AN Gn hr xf (EA.wa (AE (ev 0) (AE (ev 1) (AE (ev 2) AD))) ⟨n,ps,t,u,rfl,ht,hu,fun i j e1 e2 i0 i1 j0 j1 => ⟨fun h => ?_,fun h => (q1 i j e1 e2 i0 i1 j0 j1).2 h⟩,q2⟩)))
  subst e1
  subst e2
  refine AF (AR (AN G (hr.mono (by decide)) xf (EA.wa (AE (ev 0) (AE (Az (ts:=[i,j].map T.int) (AE (ev 1) (AE (ev 2) AD)) (by show 2≤sizeLine; decide)) AD)) ⟨n,ps,[i,j],rfl,wn,fun z hz => ?_,by simp,(q1 i j rfl rfl i0 i1 j0 j1).1 h⟩)))
  simp only [List.mem_cons,List.not_mem_nil,or_false] at hz
  rcases hz with rfl | rfl
  ·exact ⟨i0,i1⟩
  ·exact ⟨j0,j1⟩
end
end K11
namespace StT
open PySem PySem.SetTable PyProof.Rows
section
variable {prog:Program} {w:World} {A:Around} {E:Value→Shared→Prop} {s:Shared}
abbrev ih (prog:Program) (w:World) (k:Int):Int:=(intKind prog w).hash k
def Dx (xs:List (Int × Tok)) (prog:Program) (w:World):List (Int × Value):=xs.map fun p => (ih prog w p.1,Value.int p.1 p.2)
structure SetN (prog:Program) (w:World) (h:Heap) (a:Addr) (xs:List (Int × Tok)) (o:Obj) (es:Array (Int × Value)) (ep:Nat) (t:SetTable):Prop where
 get:h.get? a = some o
 ex:o.ExactSet
 dat:o.data = .set es ep t
 es:es.toList = Dx xs prog w
 nd:(xs.map (·.1)).Nodup
 tb:Tb t (xs.map fun p => ih prog w p.1)
 pl:t.plain = true
 room:xs.length * 5 < t.mask * 3
 led:t.led = !w.params.followText "set-order"
def SetY (prog:Program) (w:World) (h:Heap) (a:Addr) (xs:List (Int × Tok)):Prop:=∃ o es ep t,SetN prog w h a xs o es ep t
variable {a:Addr} {xs:List (Int × Tok)} {o:Obj} {es:Array (Int × Value)} {ep:Nat} {t:SetTable}
theorem KU:(Dx xs prog w).length = xs.length:=by simp [Dx]
theorem Qj (h:es.toList = Dx xs prog w):ElemsOf (intKind prog w) es.toList:=by
 intro e he
 rw [h] at he
 obtain ⟨p,_,rfl⟩:=List.mem_map.mp he
 exact ⟨⟨p.1,intKind_is _ _ _ _,rfl⟩,rfl⟩
theorem JG {n:Nat} (htb:Tb t (xs.map fun p => ih prog w p.1)) (hn:n = xs.length) (hr:xs.length * 5 < t.mask * 3∨xs.length≤t.mask):t.fits n = true:=by
 have h1:=htb.size
 have h3:t.fill = t.place.size:=by unfold SetTable.fill; rw [htb.dum]; rfl
 rw [List.length_map] at h1
 unfold SetTable.fits
 rw [h3,hn,h1]
 simp only [beq_self_eq_true,Bool.true_and,decide_eq_true_eq]
 omega
theorem SetN.size (S:SetN prog w s.heap a xs o es ep t):es.size = xs.length:=by
 rw [← Array.length_toList,S.es]; simp [Dx]
theorem SetN.fits (S:SetN prog w s.heap a xs o es ep t):t.fits es.size = true:=JG S.tb S.size (.inl S.room)
theorem SetN.wk (S:SetN prog w s.heap a xs o es ep t):Wk w o es ep t:=⟨S.ex.1,S.dat,S.fits,S.tb.ris,S.pl,S.led⟩
theorem Vx {n:Nat} (hes:es.toList = Dx xs prog w) (hnd:(xs.map (·.1)).Nodup) (htb:Tb t (xs.map fun p => ih prog w p.1)) (hpl:t.plain = true) (hled:t.led = !w.params.followText "set-order") (hn:xs.length = n + 1) (h1:n * 5 < t.mask * 3) (h2:t.mask * 3≤(n + 1) * 5) (h3:n < 300) :
  ∃ es' t' xs',relayAll t es (grown es.size) = (es',t',false)∧es'.toList = Dx xs' prog w∧(xs'.map (·.1)).Nodup∧Tb t' (xs'.map fun p => ih prog w p.1)∧t'.plain = true∧xs'.length * 5 < t'.mask * 3∧t'.led = (!w.params.followText "set-order")∧xs'.Perm xs∧es'.size = es.size:=by
 obtain ⟨m1,m2,m3,m4⟩:=HQ htb.mask h1 h2 h3
 have hsz:es.size = n + 1:=by rw [← Array.length_toList,hes,KU,hn]
 obtain ⟨t',order,el,q1,q2,q3,q4,q5,q6,q7,q8,q9⟩:=Me m1 (es.map (·.1)) (by rw [Array.size_map,hsz]; omega) t.finger (t.movedTo (sizeAbove (grown (n + 1)) - 1)) t.led t.plain
 rw [Array.size_map] at q5 q6 q8
 have el':t.relaid (es.map (·.1)) (grown (n + 1)) = some (t',order):=el
 have hmem:∀ r∈order.toList,r < es.size:=fun r hr => by
  obtain ⟨i,hi⟩:=List.getElem?_of_mem hr
  exact q6 i r (by simpa using hi)
 have hpo:order.toList.Perm (List.range es.size):=by
  have nd:order.toList.Nodup:=by
   rw [List.nodup_iff_pairwise_ne]
   refine List.pairwise_iff_getElem.mpr fun i j hi hj hij e => ?_
   have:=q7 i j order.toList[i] (by simp [show i < order.size by simpa using hi]) (by rw [e]; simp [show j < order.size by simpa using hj])
   omega
  refine List.perm_iff_count.mpr fun r => ?_
  rw [nd.count,List.nodup_range.count]
  by_cases hr:r < es.size
  ·obtain ⟨i,hi⟩:=q8 r hr
   rw [if_pos (List.mem_of_getElem? (i:=i) (by simpa using hi)),if_pos (List.mem_range.mpr hr)]
  ·rw [if_neg fun z => hr (hmem r z),if_neg fun z => hr (List.mem_range.mp z)]
 have hfm:(order.filterMap (es[·]?)).toList = order.toList.filterMap fun r => es[r]?:=by simp
 have hes':(order.filterMap (es[·]?)).size = es.size:=by
  rw [← Array.length_toList,hfm,BZ es _ hmem,Array.length_toList,q5]
 have hesx:∀ i:Nat,es[i]? = (xs[i]?).map fun p => (ih prog w p.1,Value.int p.1 p.2):=fun i => by
  have:es[i]? = es.toList[i]?:=by simp
  rw [this,hes,Dx,List.getElem?_map]
 have hmx:∀ r∈order.toList,r < xs.toArray.size:=fun r hr => by rw [List.size_toArray,hn]; have:=hmem r hr; omega
 have at_:∀ i:Nat,(order.toList.filterMap fun r => xs[r]?)[i]? = (order.toList[i]?).bind fun r => xs[r]?:=fun i => by
  have:=BK xs.toArray order.toList hmx i
  simpa only [List.getElem?_toArray] using this
 have hpx:(order.toList.filterMap fun r => xs[r]?).Perm xs:=by
  refine (hpo.filterMap _).trans ?_
  have:(List.range es.size).filterMap (fun r => xs[r]?) = xs:=by
   rw [hsz,← hn]
   apply List.ext_getElem?
   intro i
   have:=BK xs.toArray (List.range xs.length) (fun r hr => by rw [List.size_toArray]; exact List.mem_range.mp hr) i
   simp only [List.getElem?_toArray] at this
   rw [this]
   by_cases hi:i < xs.length
   ·rw [List.getElem?_range hi]; rfl
   ·rw [List.getElem?_eq_none (by simp; omega),List.getElem?_eq_none (by omega)]; rfl
  rw [this]
 have hlen:=hpx.length_eq
 have ee:(order.filterMap (es[·]?)).toList = Dx (order.toList.filterMap fun r => xs[r]?) prog w:=by
  apply List.ext_getElem?
  intro i
  rw [hfm,BK es _ hmem,Dx,List.getElem?_map,at_]
  cases order.toList[i]? with
  | none => rfl
  | some r => exact hesx r
 have tb':Tb t' ((order.toList.filterMap fun r => xs[r]?).map fun p => ih prog w p.1):=by
  have:(order.toList.filterMap fun r => xs[r]?).map (fun p => ih prog w p.1) = order.toList.map fun r => (es.map (·.1)).getD r 0:=by
   apply List.ext_getElem?
   intro i
   rw [List.getElem?_map,at_,List.getElem?_map]
   cases hr:order.toList[i]? with
   | none => rfl
   | some r =>
    have hrl:=hmem r (List.mem_of_getElem? hr)
    have hp:xs[r]? = some (xs[r]'(by rw [hn]; omega)):=by simp [show r < xs.length by rw [hn]; omega]
    show (xs[r]?).map _ = some ((es.map (·.1)).getD r 0)
    have e3:=hesx r
    rw [hp] at e3 ⊢
    obtain ⟨l,g⟩:=Array.getElem?_eq_some_iff.mp e3
    simp [Array.getD,hrl,g]
  rw [this]
  exact q9
 have room':(order.toList.filterMap fun r => xs[r]?).length * 5 < t'.mask * 3:=by rw [hlen,hn,q1]; exact m3
 have hf':t'.fits (order.filterMap (es[·]?)).size = true:=JG (xs:=order.toList.filterMap fun r => xs[r]?) tb' (by rw [hes',hlen,hsz,hn]) (.inl room')
 refine ⟨order.filterMap (es[·]?),t',order.toList.filterMap fun r => xs[r]?,?_,ee,(hpx.map _).nodup_iff.mpr hnd,tb',by rw [q3]; exact hpl,room',by rw [q2]; exact hled,hpx,hes'⟩
 unfold relayAll
 rw [hsz,el']
 dsimp only
 rw [if_pos]
 rw [Bool.and_eq_true]
 refine ⟨?_,hf'⟩
 unfold coversAll
 rw [← hsz]
 exact List.isPerm_iff.mpr hpo
theorem ZY (S:SetN prog w s.heap a xs o es ep t) (hl:xs.length < 300) {k:Int} {tk:Tok} (hno:∀ y,(k,y) ∉ xs) :
  ∃ es1 t1 xs1,layNew t es (ih prog w k) (.int k tk) = (es1,t1,false,false)∧es1.toList = Dx xs1 prog w∧(xs1.map (·.1)).Nodup∧Tb t1 (xs1.map fun p => ih prog w p.1)∧t1.plain = true∧t1.led = (!w.params.followText "set-order")∧t1.mask = t.mask∧xs1.Perm (xs ++ [(k,tk)])∧es1.size = es.size + 1:=by
 have hlm:(xs.map fun p => ih prog w p.1).length≤t.mask:=by rw [List.length_map]; have:=S.room; omega
 obtain ⟨n,hn,hstop⟩:=Ev S.tb hlm (p:=start t.mask (ih prog w k)) (Pr.start _ _) (fun _ => ih prog w k + 1) (ih prog w k)
 rcases hstop with ⟨hf,hp⟩ | ⟨_,_,h2,_⟩
 ·have hfree:t.freeSlot (ih prog w k) = some ((advN t.mask n (start t.mask (ih prog w k))).j,false):=by
   unfold SetTable.freeSlot
   have:t.probeStart (ih prog w k) = start t.mask (ih prog w k):=Jj t _
   rw [this,hp]
   rfl
  obtain ⟨p1,p2,p3,p4,p5,p6⟩:=S.tb.put hf fun c hc => by obtain ⟨i,h1,_⟩:=hn c hc; exact ⟨i,h1⟩
  generalize hJ:(advN t.mask n (start t.mask (ih prog w k))).j = J at *
  generalize hput:t.put J = tp at *
  obtain ⟨t1,q⟩:=tp
  dsimp only at p1 p2 p3 p4 p5 p6
  rw [List.length_map] at p2
  have hes1:(insertAt es q (ih prog w k,.int k tk)).toList = Dx (xs.take q ++ (k,tk) :: xs.drop q) prog w:=by
   rw [BC,S.es]
   simp [Dx]
  have hpm:(xs.take q ++ (k,tk) :: xs.drop q).Perm (xs ++ [(k,tk)]):=by
   refine List.perm_middle.trans ?_
   rw [List.take_append_drop]
   exact (List.perm_append_singleton _ _).symm
  have hsz1:(insertAt es q (ih prog w k,.int k tk)).size = es.size + 1:=CA _ _ _ (by rw [S.size]; exact p2)
  have htb1:Tb t1 ((xs.take q ++ (k,tk) :: xs.drop q).map fun p => ih prog w p.1):=by simpa using p1
  have hlen:(xs.take q ++ (k,tk) :: xs.drop q).length = xs.length + 1:=by rw [hpm.length_eq]; simp
  have hfit:t1.fits (insertAt es q (ih prog w k,.int k tk)).size = true:=JG htb1 (by rw [hsz1,S.size,hlen]) (.inr (by rw [hlen,p3]; have:=S.room; have:=S.tb.low; omega))
  refine ⟨insertAt es q (ih prog w k,.int k tk),t1,xs.take q ++ (k,tk) :: xs.drop q,?_,hes1,?_,htb1,by rw [p4]; exact S.pl,by rw [p5]; exact S.led,p3,hpm,hsz1⟩
  ·unfold layNew
   rw [hfree]
   dsimp only
   rw [hput]
   dsimp only
   unfold SetTable.orStandIn
   rw [hfit]
   rfl
  ·rw [(hpm.map (·.1)).nodup_iff,List.map_append]
   refine List.nodup_append.mpr ⟨S.nd,by simp,fun b hb c hc => ?_⟩
   have:c = k:=by simpa using hc
   subst this
   rintro rfl
   obtain ⟨⟨k',y⟩,hm,hk⟩:=List.mem_map.mp hb
   exact hno y (by rw [← show k' = b from hk]; exact hm)
 ·exact absurd h2 (by omega)
end
section
variable {prog:Program} {w:World} {A:Around} {E:Value→Shared→Prop} {s:Shared}
variable {a:Addr} {xs:List (Int × Tok)} {o:Obj} {es:Array (Int × Value)} {ep:Nat} {t:SetTable}
theorem Vy {k:Int} {v:Value} (h:(intKind prog w).is k v = true):∃ tk,v = .int k tk:=DQ h
theorem add_int (S:SetY prog w s.heap a xs) {k:Int} {tk:Tok} (hl:xs.length < 300) {Q:Bool→Shared→Prop}
  (hT:∀ y,(k,y)∈xs→Q false s)
  (hF:(∀ y,(k,y) ∉ xs)→∀ h' xs',Heap.SameBut a s.heap h'→SetY prog w h' a xs'→xs'.Perm (xs ++ [(k,tk)])→Q true { s with heap:=h' }) :
  wpAny (model prog w) A (setAddHashed a (.int k tk) (ih prog w k)) Q E s:=by
 obtain ⟨o,es,ep,t,S⟩:=S
 have hel:=Qj S.es
 have hsb:es.size < scanBound:=by rw [S.size,show scanBound = 4096 from rfl]; omega
 unfold setAddHashed setAddHashedIn
 refine wpAny_holding (wpAny_bind (wpAny_setState_of S.get S.dat S.fits ?_))
 dsimp only
 rw [byScan_of (knd:=intKind prog w) rfl hsb hel]
 simp only [↓reduceIte]
 unfold setAddByScan
 refine wpAny_bind ?_
 refine wpAny_bind (wpAny_rule ?_)
 refine wpAny_bind (wpAny_setScan_of (intKind_is _ _ _ _) S.get S.dat S.fits hel ?_)
 cases hr:List.findIdx? (fun e => (intKind prog w).is k e.2) es.toList with
 | some j =>
  dsimp only
  obtain ⟨hj,hpj,_⟩:=List.findIdx?_eq_some_iff_getElem.mp hr
  refine wpAny_pure (wpAny_pure ?_)
  have hm:=List.getElem_mem hj
  rw [show es.toList[j] = es.toList[j] from rfl] at hm
  have hm2:es.toList[j]∈Dx xs prog w:=by rw [← S.es]; exact hm
  obtain ⟨p,hp,he⟩:=List.mem_map.mp hm2
  rw [← he] at hpj
  obtain ⟨tk',e2⟩:=Vy hpj
  injection e2 with e3 e4
  exact hT p.2 (by rw [← e3]; exact hp)
 | none =>
  dsimp only
  have hno:∀ y,(k,y) ∉ xs:=fun y hy => by
   have:=List.findIdx?_eq_none_iff.mp hr (ih prog w k,.int k y) (by rw [S.es]; exact List.mem_map.mpr ⟨_,hy,rfl⟩)
   rw [intKind_is] at this
   exact Bool.noConfusion this
  obtain ⟨es1,t1,xs1,hL,h1,h2,h3,h4,h5,h6,h7,h8⟩:=ZY S hl (tk:=tk) hno
  have hL':layNew t es ((intKind prog w).hash k) (.int k tk) = (es1,t1,false,false):=hL
  rw [hL']
  dsimp only
  refine wpAny_bind (wpAny_pure ?_)
  rw [h4]
  simp only [↓reduceIte]
  refine wpAny_bind ?_
  rw [hashByValue_scannable 8 rfl]
  refine wpAny_pure ?_
  simp only [plainKind,↓reduceIte]
  have hs1:es1.size = xs.length + 1:=by rw [h8,S.size]
  have hl1:xs1.length = xs.length + 1:=by rw [h7.length_eq]; simp
  refine wpAny_bind (wpAny_storeSet_of S.get S.dat ?_ (by rw [hs1,sizeLine_eq]; omega))
  have hg1:=DR (s:=s) S.get S.dat es1 t1
  have hsb1:=Heap.SameBut.update s.heap a (Obj.putSet es1 t1)
  have hfill:t1.fill = xs.length + 1:=by
   unfold SetTable.fill
   rw [h3.dum]
   have:=h3.size
   rw [List.length_map,hl1] at this
   rw [this]; rfl
  have hroom:=S.room
  simp only [Bool.not_false,Bool.true_and]
  cases htf:t1.tooFull with
  | true =>
   simp only [if_true]
   have htf':t1.mask * 3≤(xs.length + 1) * 5:=by
    unfold SetTable.tooFull at htf
    rw [hfill] at htf
    simpa using htf
   obtain ⟨es2,t2,xs2,g0,g1,g2,g3,g4,g5,g6,g7,g8⟩:=Vx h1 h2 h3 h4 h5 hl1 (by rw [h6]; exact hroom) htf' hl
   rw [g0]
   dsimp only
   refine wpAny_bind (wpAny_pure ?_)
   refine wpAny_bind (wpAny_storeSet_of hg1 rfl ?_ (by rw [g8,hs1,sizeLine_eq]; omega))
   have hg2:=DR (s:={ s with heap:=s.heap.update a (Obj.putSet es1 t1) }) hg1 rfl es2 t2
   exact wpAny_pure (wpAny_pure (hF hno _ xs2 (hsb1.trans (Heap.SameBut.update _ a _)) ⟨_,es2,_,t2,hg2,S.ex,rfl,g1,g2,g3,g4,g5,g6⟩ (g7.trans h7)))
  | false =>
   simp only [Bool.false_eq_true,if_false]
   refine wpAny_pure (wpAny_pure (hF hno _ xs1 hsb1 ⟨_,es1,_,t1,hg1,S.ex,rfl,h1,h2,h3,h4,?_,h5⟩ h7))
   unfold SetTable.tooFull at htf
   rw [hfill] at htf
   rw [hl1]
   simpa using htf
def JH (ks:List Int) (xs:List (Int × Tok)):Prop:=(∀ k,k∈xs.map (·.1)↔k∈ks)∧(xs.map (·.1)).Nodup∧xs.length≤ks.length
theorem SetY.keep {h h':Heap} (S:SetY prog w h a xs) (hk:∀ u,h.get? a = some u→h'.get? a = some u):SetY prog w h' a xs:=by
 obtain ⟨o,es,ep,t,S⟩:=S
 exact ⟨o,es,ep,t,hk _ S.get,S.ex,S.dat,S.es,S.nd,S.tb,S.pl,S.room,S.led⟩
theorem SetY.nd {h:Heap} (S:SetY prog w h a xs):(xs.map (·.1)).Nodup:=by
 obtain ⟨o,es,ep,t,S⟩:=S
 exact S.nd
theorem Qk {xs:List (Int × Tok)} (nd:(xs.map (·.1)).Nodup) (hb:∀ k∈xs.map (·.1),0≤k∧k < 60):xs.length < 300:=by
 have:=BW 60 ((xs.map (·.1)).map Int.toNat) (by
  rw [List.nodup_iff_pairwise_ne,List.pairwise_map]
  refine List.Pairwise.imp_of_mem (fun {a b} ha hb' hne z => hne ?_) (List.nodup_iff_pairwise_ne.mp nd)
  have p1:=hb a ha
  have p2:=hb b hb'
  omega) (fun x hx => by
  obtain ⟨a,ha,rfl⟩:=List.mem_map.mp hx
  have p1:=hb a ha
  omega)
 rw [List.length_map,List.length_map] at this
 omega
theorem Ql {I l:Addr} {items:Array Value} {ps:List (Int × Tok)} (hh:A.in1.handled = none) (hne:l≠I) (hI:a≠I) (hla:a≠l) (hps:items.toList = ps.map fun p => Value.int p.1 p.2) (hb:∀ k∈ps.map (·.1),0≤k∧k < 60)
  {R:Result→Shared→Prop}:∀ (n i:Nat) (s:Shared) (xs:List (Int × Tok)),n = ps.length - i→i≤ps.length→s.heap.IsListIter I l i→s.heap.IsList l items→SetY prog w s.heap a xs→JH ((ps.take i).map (·.1)) xs →
   (∀ h' tk' xs',(∀ b u,b≠a→b≠I→s.heap.get? b = some u→h'.get? b = some u)→SetY prog w h' a xs'→JH (ps.map (·.1)) xs'→R (.ok (.ret .none)) { s with heap:=h',toks:=tk' }) →
   codeAny (model prog w) A (.builtin "set.update.loop" ⟨[.ref a,.ref I],[]⟩) R s:=by
 have hsz:items.size = ps.length:=by rw [← Array.length_toList,hps,List.length_map]
 intro n
 induction n with
 | zero =>
  intro i s xs hn hi hit hl hX hS hR
  have:i = ps.length:=by omega
  subst this
  rw [List.take_length] at hS
  refine codeAny_builtin PyProof.Rows.F.entry_set_update_loop ?_
  rw [Around.under_plainId PyProof.Rows.F.plain_set_update_loop _]
  show wpAny _ A.in1 (pyNext (.ref I) >>= _) _ _ s
  refine wpAny_bind (wpAny_pyNext_list_end hh hit hl (by simp [hsz]) fun h' hk => ?_)
  show wpAny _ A.in1 (ret Value.none) _ _ _
  exact wpAny_pure (hR h' s.toks xs (fun b u _ hb e => hk b u hb e) (hX.keep fun u e => hk a u hI e) hS)
 | succ n ih =>
  intro i s xs hn hi hit hl hX hS hR
  have hlt:i < ps.length:=by omega
  obtain ⟨⟨k,x⟩,hkx⟩:∃ p,ps[i]? = some p:=⟨_,by simp [hlt]; rfl⟩
  have hitem:items[i]? = some (.int k x):=by
   have:items[i]? = items.toList[i]?:=by simp
   rw [this,hps,List.getElem?_map,hkx]; rfl
  refine codeAny_builtin PyProof.Rows.F.entry_set_update_loop ?_
  rw [Around.under_plainId PyProof.Rows.F.plain_set_update_loop _]
  show wpAny _ A.in1 (pyNext (.ref I) >>= _) _ _ s
  refine wpAny_bind (wpAny_pyNext_list_item hit hl hitem fun h1 hit1 sb1 => ?_)
  have hk1:∀ b u,b≠I→s.heap.get? b = some u→h1.get? b = some u:=fun b u hb e => (sb1.2 b hb).trans e
  have hX1:SetY prog w h1 a xs:=hX.keep fun u e => hk1 a u hI e
  have hl1:h1.IsList l items:=hl.at fun o e => hk1 l o hne e
  show wpAny _ A.in1 (holding [Value.int k x] (setAdd a (.int k x)) >>= _) _ _ _
  refine wpAny_bind (wpAny_holding ?_)
  unfold setAdd
  refine wpAny_holding ?_
  refine wpAny_bind ((intKind prog w).pyHash (s:={ s with heap:=h1 }) (k:=k) (intKind_is _ _ _ _) ?_)
  have htake:(ps.take (i + 1)).map (·.1) = (ps.take i).map (·.1) ++ [k]:=by rw [List.take_add_one,hkx,List.map_append]; rfl
  have hlen:xs.length < 300:=Qk hS.2.1 fun k hk => hb k (by
   have:=(hS.1 k).mp hk
   rw [List.map_take] at this
   exact List.mem_of_mem_take this)
  refine add_int (s:={ s with heap:=h1,toks:=s.toks + 1 }) hX1 hlen (fun y hy => ?_) (fun hno h2 xs' sb sx pm => ?_)
  ·refine wpAny_pure ⟨plainId_quiet PyProof.Rows.F.plain_set_update_loop _,ih (i + 1) _ xs (by omega) (by omega) hit1 hl1 hX1 ⟨fun k' => ?_,hS.2.1,by rw [htake,List.length_append]; have:=hS.2.2; omega⟩ fun h' tk' xs' kp sx so => hR h' tk' xs' (fun b u h1' h2' e => kp b u h1' h2' (hk1 b u h2' e)) sx so⟩
   rw [htake,List.mem_append,List.mem_singleton,hS.1 k']
   constructor
   ·exact .inl
   ·rintro (h | rfl)
    ·exact h
    ·exact (hS.1 k').mp (List.mem_map.mpr ⟨_,hy,rfl⟩)
  ·have keep2:∀ b u,b≠a→h1.get? b = some u→h2.get? b = some u:=fun b u hb e => (sb.2 b hb).trans e
   refine wpAny_pure ⟨plainId_quiet PyProof.Rows.F.plain_set_update_loop _,ih (i + 1) { s with heap:=h2,toks:=s.toks + 1 } xs' (by omega) (by omega) (hit1.at fun o e => keep2 I o (Ne.symm hI) e) (hl1.at fun o e => keep2 l o (Ne.symm hla) e)
    sx ⟨fun k' => ?_,sx.nd,by rw [htake,List.length_append,pm.length_eq,List.length_append]; have:=hS.2.2; simpa using this⟩ fun h' tk' xs2 kp sx so => hR h' tk' xs2 (fun b u h1' h2' e => kp b u h1' h2' (keep2 b u h1' (hk1 b u h2' e))) sx so⟩
   rw [htake,List.mem_append,List.mem_singleton,← hS.1 k',(pm.map (·.1)).mem_iff,List.map_append,List.mem_append]
   simp
end
section
variable {prog:Program} {w:World} {A:Around} {E:Value→Shared→Prop} {s:Shared}
theorem Gy {l:Addr} {items:Array Value} {ps:List (Int × Tok)} {Q:Value→Shared→Prop}
  (hh:A.handled = none) (hl:s.heap.IsList l items) (hps:items.toList = ps.map fun p => Value.int p.1 p.2) (hb:∀ k∈ps.map (·.1),0≤k∧k < 60)
  (h:∀ (h':Heap) (tk:Nat) (xs:List (Int × Tok)),SetY prog w h' s.heap.objs.size xs→JH (ps.map (·.1)) xs →
   (∀ b o,b < s.heap.objs.size→s.heap.get? b = some o→h'.get? b = some o)→Q (.ref s.heap.objs.size) { s with heap:=h',toks:=tk }) :
  wpAny (model prog w) A (call (.type "set") [.ref l]) Q E s:=by
 refine Fz (Q₁:=fun obj s₁ => obj = .ref s.heap.objs.size∧s₁ = { s with heap:=s.heap.push (Ax w) }) PySem.F.called_set (PySem.F.typeCall_set_1 _) (Ju _ ⟨rfl,rfl⟩) ?_
 rintro obj s₁ ⟨rfl,rfl⟩
 have hS:(s.heap.push (Ax w)).get? s.heap.objs.size = some (Ax w):=Heap.get?_push_size _ rfl
 have hT:Shared.TypeIs { s with heap:=s.heap.push (Ax w) } (.ref s.heap.objs.size) "set":=⟨_,hS,rfl⟩
 refine ⟨hT,codeAny_call_builtin PySem.F.called_set.init.plain PySem.F.entry_set_init (check_set_init_1 hT ?_)⟩
 obtain ⟨ol,hol,hcl,nl,hdl⟩:=hl
 obtain ⟨ocls,odict,odata,oslots⟩:=ol
 simp only at hcl hdl
 subst hcl; subst hdl
 have hol':(s.heap.push (Ax w)).get? l = some { cls:=.type "list",dict:=odict,data:=.seq items nl,slots:=oslots }:=Heap.get?_push_of_some _ hol
 have hsls:=PySem.F.sub_list_set
 have hslf:=PySem.F.sub_list_frozenset
 have hne:(Value.type "list" == Value.type "dict") = false:=by decide
 have hl1:(s.heap.push (Ax w)).IsList l items:=⟨_,hol',rfl,nl,rfl⟩
 unfold Builtin.«set.__init__» noKeywords Builtin.Frozenset.updateFrom
 generalize hPI:pyIter = PI
 wp_walk
 subst hPI
 refine wpAny_pyIter_list hl1 ?_
 refine wpAny_bind (wpAny_runValue ?_)
 have hlS:l < s.heap.objs.size:=Heap.lt_size hol
 have hneI:l≠(s.heap.push (Ax w)).objs.size:=by
  rw [Heap.size_push]; exact Nat.ne_of_lt (Nat.lt_succ_of_lt hlS)
 have kp:∀ b o,s.heap.get? b = some o→((s.heap.push (Ax w)).push { cls:=.type "list_iterator",data:=.fields #[.ref l,.int 0 0] }).get? b = some o:=fun b o e => Heap.get?_push_of_some _ (Heap.get?_push_of_some _ e)
 refine Ql (a:=s.heap.objs.size) (l:=l) (ps:=ps) (by simpa using hh) hneI (by rw [Heap.size_push]; exact Nat.ne_of_lt (Nat.lt_succ_self _)) (Nat.ne_of_gt hlS) hps hb (ps.length - 0) 0 _ [] rfl (Nat.zero_le _)
  ⟨_,Heap.get?_push_size _ rfl,rfl,rfl⟩ (hl1.push _) ⟨Ax w,#[],0,_,Heap.get?_push_of_some _ hS,⟨rfl,rfl,rfl⟩,rfl,rfl,List.nodup_nil,Tb.fresh _ _ _,rfl,(by show 0 * 5 < 7 * 3; decide),rfl⟩ ⟨fun p => by simp,List.nodup_nil,by simp⟩ ?_
 intro h' tk' xs' kk sx so
 refine wpAny_pure ?_
 show wpAny _ _ (ret Value.none) _ _ _
 refine wpAny_pure ⟨rfl,h h' tk' xs' sx so fun b o hb e => kk b o (Nat.ne_of_lt hb) ?_ (kp b o e)⟩
 rw [Heap.size_push]; exact Nat.ne_of_lt (Nat.lt_succ_of_lt hb)
end
open PySem.Calls PySem.W
section
variable {prog:Program} {w:World} {A:Around} {E:Value→Shared→Prop} {s:Shared}
theorem KW:∀ (xs:List (Int × Tok)),IntsAre (xs.map fun p => Value.int p.1 p.2) (xs.map (·.1))
 | [] => .nil
 | p :: xs => .cons p.1 p.2 (KW xs)
theorem KY {a:Addr} {xs:List (Int × Tok)} {Q:Value→Shared→Prop} (hh:A.handled = none) (S:SetY prog w s.heap a xs) (hz:xs.length < 64)
  (h:∀ (h':Heap) (tk:Nat) (D:Addr) (out:List Value) (ms:List Int) (c:Nat),s.heap.get? D = none→h'.get? D = some (seqObj "list" out.toArray c)→(∀ b o,s.heap.get? b = some o→h'.get? b = some o)→IntsAre out ms→ms.Perm (xs.map (·.1))→ms.Pairwise (·≤·)→Q (.ref D) { s with heap:=h',toks:=tk }) :
  wpAny (model prog w) A (call (.builtin "sorted") [.ref a]) Q E s:=by
 obtain ⟨o,es,ep,t,S⟩:=S
 refine call_function_entry kind_sorted plain_sorted entry_sorted (args_sorted1 _) ?_
 unfold Builtin.«sorted»
 refine wpAny_bind (m:=checkCount "sorted" 1 1 _) (wpAny_pure ?_)
 refine wpAny_bind (kdu_collect (A:=A.in1) (Mj S.wk) hh S.get (by rw [S.size,sizeLine_eq]; omega) fun h1 tk1 acc hk1 hacc => ?_)
 have hsz:acc.toList.length = xs.length:=by rw [Array.length_toList,hacc.1,S.size]
 have hacc2:acc.toList = (Cy w a ep es).toList.map (·.2):=by
  apply List.ext_getElem?
  intro i
  rw [List.getElem?_map]
  by_cases hi:i < acc.size
  ·have e1:acc[i]? = some acc[i]:=by simp [hi]
   obtain ⟨hh',e2⟩:=hacc.2 i _ e1
   have e2':(Cy w a ep es).toList[i]? = some (hh',acc[i]):=by simpa using e2
   rw [e2']
   simpa using e1
  ·have h1':acc.toList[i]? = none:=by simp; omega
   have h2':(Cy w a ep es).toList[i]? = none:=by
    apply List.getElem?_eq_none
    rw [Array.length_toList,DS,← hacc.1]; omega
   rw [h1',h2']; rfl
 have hperm:acc.toList.Perm (xs.map fun p => Value.int p.1 p.2):=by
  rw [hacc2]
  refine ((Ej w a ep es).map (·.2)).trans ?_
  rw [S.es,Dx,List.map_map]
  exact List.Perm.refl _
 obtain ⟨ws,hw1,hw2⟩:=Cd hperm rfl
 have hI:IntsAre acc.toList (ws.map (·.1)):=by rw [← hw2]; exact KW ws
 refine wpAny_bind (wpAny_newList ?_ (by rw [hsz,sizeLine_eq]; omega))
 have hoL:(h1.push (seqObj "list" acc.toList.toArray 0)).get? h1.objs.size = some (seqObj "list" acc.toList.toArray 0):=Heap.get?_push_size _ rfl
 have hDn:s.heap.get? h1.objs.size = none:=by
  cases e:s.heap.get? h1.objs.size with
  | none => rfl
  | some o' => exact absurd (Heap.lt_size (hk1 _ _ e)) (Nat.lt_irrefl _)
 refine wpAny_bind (wpAny_holding (wpAny_call_entry slot_list_sort ⟨_,hoL,rfl⟩ entry_list_sort (list_sort_tree (s:={ s with heap:=h1.push (seqObj "list" acc.toList.toArray 0),toks:=tk1 }) hoL hI (by omega) fun out ms a1 a2 a3 => ⟨_,rfl,?_⟩) (args_list_sort _)))
 refine wpAny_pure ⟨_,rfl,?_⟩
 obtain ⟨c,hcat⟩:=sortedHeap_at (out:=out) hoL
 refine h _ tk1 h1.objs.size out.toList ms c hDn hcat (fun b o e => ?_) a1 (a2.trans (hw1.map _)) a3
 have hlt:=Heap.lt_size (hk1 b o e)
 rw [sortedHeap_old (Nat.ne_of_lt hlt) (by rw [size_push']; exact Nat.lt_succ_of_lt hlt)]
 exact Heap.get?_push_of_some _ (hk1 b o e)
end
end StT
namespace L2
open PySem PySem.Spec PySem.Calls PyProof.Rows
section
variable {X:Cx}
def YA (P:Program) (w:World) (a:Addr) (xs:List (Int × Tok)) (h:Heap):Prop:=StT.SetY P w h a xs
def KZ (P:Program) (w:World) (a:Addr) (xs:List (Int × Tok)):HO:=.ext (YA P w a xs)
theorem Qm {P:Program} {w:World} {H:Hp} {h:Heap} {a:Addr} {xs:List (Int × Tok)} (S:StT.SetY P w h a xs):ObjOk P w H h a (KZ P w a xs):=by
 obtain ⟨o,es,ep,t,T⟩:=S
 exact ⟨⟨o,es,ep,t,T⟩,⟨o,T.get⟩,fun h1 h2 S hk => S.keep (hk)⟩
theorem Gb:∀ {ns:List Int} {us:List Value},Vals (ns.map V.int) us→∃ ps:List (Int × Tok),us = ps.map (fun p => Value.int p.1 p.2)∧ps.map (·.1) = ns
 | [],us,r => by rw [List.map_nil] at r; cases r; exact ⟨[],rfl,rfl⟩
 | n :: ns,us,r => by
  rw [List.map_cons] at r
  cases r with
  | cons r1 r2 =>
   obtain ⟨t,rfl⟩:=r1
   obtain ⟨ps,rfl,e⟩:=Gb r2
   exact ⟨(n,t) :: ps,rfl,by rw [List.map_cons,e]⟩
def YB (X:Cx):List V→Hp→VK→Prop:=fun vs H Q => ∃ a ns,vs = [.ref a]∧SqL X.K H a (ns.map V.int)∧(∀ k∈ns,0≤k∧k < 60) ∧
 ∀ p xs,H p = none→StT.JH ns xs→Q (.ref p) (BG H p (KZ X.prog X.w p xs))
theorem Lz (hc:X.calm = true):BQ X (.type "set") (YB X):=by
 intro pins s σ H vs us Q I r h
 obtain ⟨a,ns,rfl,hl,hz,q⟩:=h
 obtain ⟨u,rfl,ru⟩:=Vals.one r
 cases ru
 obtain ⟨its,rv,p,_⟩:=I.list hl
 obtain ⟨ps,e1,rfl⟩:=Gb rv
 refine StT.Gy (ps:=ps) (I.ok.hd hc) p.isList (by simpa using e1) hz fun h' tk xs sx so kp => ?_
 have hf:H s.heap.objs.size = none:=I.hok.fresh (Nat.le_refl _)
 exact ⟨.ref s.heap.objs.size,BG H s.heap.objs.size (KZ X.prog X.w s.heap.objs.size xs),I.laid (t':=tk) (fun b u e => kp b u (Heap.lt_size e) e) (Nat.le_refl _) (Qm sx),rfl,q _ _ hf so⟩
def Su (X:Cx):List V→Hp→VK→Prop:=fun vs H Q => ∃ p xs,vs = [.ref p]∧H p = some (KZ X.prog X.w p xs)∧xs.length < 64 ∧
 ∀ (q:Addr) (ms:List Int),H q = none→ms.Perm (xs.map (·.1))→ms.Pairwise (·≤·)→Q (.ref q) (BG H q (.lst (ms.map V.int)))
theorem Gz (hc:X.calm = true):BQ X (.builtin "sorted") (Su X):=by
 intro pins s σ H vs us Q I r h
 obtain ⟨p,xs,rfl,hp,hz,q⟩:=h
 obtain ⟨u,rfl,ru⟩:=Vals.one r
 cases ru
 obtain ⟨S,_,_⟩:=I.hok p _ hp
 refine StT.KY (xs:=xs) (I.ok.hd hc) S hz fun h' tk D out ms c hD hg kp hI pm pw => ?_
 have hf:H D = none:=I.hok.none_of hD
 refine ⟨.ref D,BG H D (.lst (ms.map V.int)),I.laidF (t':=tk) kp hD ⟨?_,out,c,DP hI,hg⟩,rfl,q D ms hf pm pw⟩
 rw [List.length_map,pm.length_eq,List.length_map,sizeLine_eq]
 omega
end
end L2
namespace L2.TL
open PySem PySem.Spec PySem.Calls PyProof.Rows
section
variable {Z:Zx} {ρ:List (Option T)} {O:AL} {e:Expr} {Φ:BX} {pos p p1 pos1:Pos}
theorem HA {ns:List Int} {l0:Addr} (m:Z.X.mg "sorted" = none) (m2:Z.X.mg "set" = none) (hc:Z.X.calm = true) (h:ET Z ρ O e (.raw (.ref l0))) (hO:O l0 = some (ns.map T.int)) (hb:∀ q∈ns,0≤q∧q < 60)
  (k:∀ ms:List Int,ms.Pairwise (· < ·)→(∀ q,q∈ms↔q∈ns)→Φ (.lst (ms.map T.int)) O) (hg:Gl Z.X "sorted":=by rfl) (hg2:Gl Z.X "set":=by rfl) (he:starEach [e] Z.X.env = (false,eval e Z.X.env) :: starEach [] Z.X.env:=by rfl)
  (he2:starEach [Expr.Call (.Name "set" p1) [e] [] pos1] Z.X.env = (false,eval (.Call (.Name "set" p1) [e] [] pos1) Z.X.env) :: starEach [] Z.X.env:=by rfl):WE Z ρ O (.Call (.Name "sorted" p) [.Call (.Name "set" p1) [e] [] pos1] [] pos) Φ:=by
 refine PE.weak (Aq (Gz hc) hg m Ih (AI (Ef (Lz hc) hg2 m2 Xf (Jw (ρ:=ρ)) (by decide) (by decide) he) Ag he2) (by decide) (by decide) he2) fun σ H Q q => ?_
 refine ⟨O,_,AU h AD he (fun ts O' => ts = [.raw (.ref l0)]∧O' = O) ⟨rfl,rfl⟩,q.1,?_⟩
 rintro vs H1 _ _ ⟨rfl,rfl⟩ f r
 obtain ⟨v,rfl,r1⟩:=r.one_inv
 cases r1.raw_inv
 obtain ⟨xs0,h1,r1⟩:=f.ok l0 _ hO
 cases r1.ints
 refine ⟨l0,ns,rfl,  .inl (.inl h1),hb,fun l xs hl1 so => ?_⟩
 obtain ⟨s1,s2,s3⟩:=so
 have f1:=Frm.new (o:=KZ Z.X.prog Z.X.w l xs) f.ok hl1
 have hlen:xs.length < 64:=by
  have:=StT.BW 60 ((xs.map (·.1)).map Int.toNat) (by
   rw [List.nodup_iff_pairwise_ne,List.pairwise_map]
   refine List.Pairwise.imp_of_mem (fun {a b} ha hb' hne z => hne ?_) (List.nodup_iff_pairwise_ne.mp s2)
   have p1:=hb a ((s1 a).mp ha)
   have p2:=hb b ((s1 b).mp hb')
   omega) (fun x hx => by
   obtain ⟨a,ha,rfl⟩:=List.mem_map.mp hx
   have p1:=hb a ((s1 a).mp ha)
   omega)
  rw [List.length_map,List.length_map] at this
  omega
 refine ⟨l,xs,rfl,AJ,hlen,fun d ms hd pm pw => ?_⟩
 have f2:=Frm.new (o:=.lst (ms.map V.int)) f1.ok hd
 have nd:ms.Nodup:=pm.nodup_iff.mpr s2
 refine q.2 _ _ _ _ (k ms ?_ fun z => by rw [pm.mem_iff,s1 z]) (f.trans (f1.trans f2)) (.lst AJ (f1.ok.none_of hd) (DZ ms))
 refine (pw.and (List.nodup_iff_pairwise_ne.mp nd)).imp fun {a b} h => ?_
 have:=h.1
 have:=h.2
 omega
end
end L2.TL
namespace K11
open PySem L2 L2.TL PySem.Spec PyProof.Rows Gr
def BD (ps:List (Int × Int)) (x:Int):List Int:=(ps.filter fun p => decide (x∈[p.1,p.2])).map fun p => p.1 + p.2 - x
theorem CS {ps:List (Int × Int)} {x v:Int}:v∈BD ps x↔Adj ps x v:=by
 unfold BD
 rw [List.mem_map]
 constructor
 ·rintro ⟨p,hp,rfl⟩
  obtain ⟨h1,h2⟩:=List.mem_filter.mp hp
  have h2:x = p.1∨x = p.2:=by simpa using h2
  rcases h2 with h | h
  ·refine .inl ?_
   have e:(x,p.1 + p.2 - x) = p:=Prod.ext h (by show p.1 + p.2 - x = p.2; omega)
   rw [e]; exact h1
  ·refine .inr ?_
   have e:(p.1 + p.2 - x,x) = p:=Prod.ext (by show p.1 + p.2 - x = p.1; omega) h
   rw [e]; exact h1
 ·rintro (h | h)
  ·exact ⟨_,List.mem_filter.mpr ⟨h,by simp⟩,by show x + v - x = v; omega⟩
  ·exact ⟨_,List.mem_filter.mpr ⟨h,by simp⟩,by show v + x - x = v; omega⟩
theorem Hr {ps:List (Int × Int)} {x:Int}:(BD ps x).length≤ps.length:=by
 unfold BD
 rw [List.length_map]
 exact List.length_filter_le ..
structure Lt (n:Int) (ps:List (Int × Int)) (S:List Int) (k:Nat) (fs:List (Option Nat)):Prop where
 len:(fs.length:Int) = n
 eq:∀ v:Int,0≤v→v < n→∀ d,fs[v.toNat]? = some (some d)↔(d < k∧IsD ps S v d)
section
variable {P:Program} {w:World} {K:PySem.W.Frag} {mg:Str→Option Value} {base:Heap}
def Dd:Br:=KA fun ts r => ∃ n ps x,ts = [BA n ps,.int x]∧ps.length≤200∧r = .lst ((BD ps x).map T.int)
theorem Sv:FnScope ["_law_web","_law_place"] ["_law_web","_law_place"] (AB GS):=⟨rfl,rfl,rfl,by decide +kernel,rfl,by decide +kernel,by decide +kernel⟩
theorem YC:(Ah ["_law_a","_law_b"] [(("_law_place" : Str),1)]).Nodup:=by decide +kernel
theorem Qn {f:Addr} {fd:FuncData} (F:Fun K "_law_near_of" "_law_near_of" GS f fd):FnOk P w K mg base (CXe P w) 1 f fd ["_law_web","_law_place"] (By K Dd):=by
 refine AV F Sv ?_ ?_
 ·rintro ts O Φ Ξ ⟨r,⟨n,ps,x,rfl,_⟩,_⟩
  rfl
 ·rintro cdv A outer s H E O Ξ hr xf _ Φ ⟨_,⟨n,ps,x,rfl,hl,rfl⟩,q⟩
  have sb:=AT
  have hu:(A.deeper (envOfC "_law_near_of" (AB GS) s.heap.objs.size f cdv)).units + 102 < cLine:=by have:=hr.un; omega
  refine AF (AR (ET.we (t:=.lst ((BD ps x).map T.int)) (ET.cast (Eo ["_law_a","_law_b"] [("_law_place",1)] ps AM (fun p => .int (p.1 + p.2 - x)) (fun p => decide (x∈[p.1,p.2])) rfl (CD (AB GS) ["_law_web","_law_place"] (by decide +kernel)) (Pj (BJ (ev 0) AA)) (by omega) fun p hp => ⟨[some (.int p.1),some (.int p.2),some (.int x)],fun X' Oe He is O' => ?_⟩) ?_) q))
  ·obtain ⟨cl,s',H',fp,rfl⟩:=is
   refine ⟨EO 0 1 rfl YC (by decide) (by decide),EB.cast (BI (Pw hu) rfl (Px (t:=.int x) (us:=[p.1,p.2].map T.int) (by rw [Bn]) Cm (by show 0≤100; decide)) (ev 2) (Ay (AE (ev 0) (AE (ev 1) AD)) (by show 2≤sizeLine; decide))) Er,fun _ => BF (Al (ev 0) (ev 1)) (ev 2)⟩
  ·unfold BD
   rw [List.map_map]
   rfl
def NL:Br:=fun ts O Φ _ => ∃ n ps S,ts = [BA n ps,.lst (S.map T.int)]∧WebA n ps∧S.length≤16∧(∀ z∈S,0≤z∧z < n)∧∀ fs,All n ps S fs→Φ (.lst (fs.map Ad)) O
def ZZ:List Str:=["_law_web","_law_starts","_law_found","_law_here","_law_far","_law_place","_law_later"]
theorem JI:FnScope ZZ ["_law_web","_law_starts"] (AB Ds):=⟨rfl,rfl,rfl,by decide +kernel,rfl,by decide +kernel,by decide +kernel⟩
theorem YD:(Ah ["_law_other"] [(("_law_found" : Str),2)]).Nodup:=by decide +kernel
def Za (i:Nat):Stmt:=(Aj Ds).getD i (.Pass ⟨0,0,0,0⟩)
variable {f:Addr} {cdv:Value} {A:Around} {outer:List Env} {s:Shared} {H:Hp} {E:XK} {O:AL} {Ξ:Value→AL→Prop} {n:Int} {ps:List (Int × Int)} {S bs:List Int} {l:Addr}
abbrev YE (P:Program) (w:World) (K:PySem.W.Frag) (mg:Str→Option Value) (base:Heap) (f:Addr) (cdv:Value) (A:Around) (outer:List Env) (s:Shared) (H:Hp) (E:XK) (O:AL) (Ξ:Value→AL→Prop):Zx:=zB P w K mg base ZZ "_law_fars" (AB Ds) f cdv A outer s H E O Ξ
abbrev Ez (n:Int) (ps:List (Int × Int)) (S:List Int) (l:Addr) (bs:List Int) (k:Nat) (v5 v6:Option T):List (Option T):=[some (BA n ps),some (.lst (S.map T.int)),some (.raw (.ref l)),some (.lst (bs.map T.int)),some (.int (k:Int)),v5,v6]
theorem Qo {v5 v6:Option T} {k:Nat} {fs:List (Option Nat)} {Φ:BX} {N Bk Ct:Ic} (Tx:Txt mg) (hr:Room 1 (YE P w K mg base f cdv A outer s H E O Ξ).X.A) (xf:XFly (YE P w K mg base f cdv A outer s H E O Ξ).X (YE P w K mg base f cdv A outer s H E O Ξ).W) (G:FnT P w K mg base "_law_near_of" 1 ["_law_web","_law_place"] Dd) (hlO:O l = none) (wa:WebA n ps) (hS:∀ z∈S,0≤z∧z < n) (h:Lt n ps S k fs) (hbl:bs.length≤60) (hb:∀ v,v∈bs↔IsD ps S v k)
  (q:∀ v5 v6 fs ms,Lt n ps S (k + 1) fs→ms.length≤60→(∀ v,v∈ms↔IsD ps S v (k + 1))→N (Ez n ps S l ms (k + 1) v5 v6) (Ae O l (fs.map Ad))) :
  DW (YE P w K mg base f cdv A outer s H E O Ξ) (Ez n ps S l bs k v5 v6) (Ae O l (fs.map Ad)) (Hq (Za 3)) { nx:=N,rt:=Φ,bk:=Bk,ct:=Ct }:=by
 have sb:=AT
 have sz:sizeLine = 16777216:=sizeLine_eq
 have n1:=wa.n1
 have hw:QD n ps:=wa.hp
 refine AC (BP Ac.own rfl (EI.wi (Ak (ev 3)) ⟨fun j ρ' O' => ∃ (fs:List (Option Nat)) (v5:Option T),ρ' = Ez n ps S l bs k v5 v6∧O' = Ae O l (fs.map Ad)∧(fs.length:Int) = n∧∀ v:Int,0≤v→v < n→∀ d,fs[v.toNat]? = some (some d)↔((d < k∧IsD ps S v d)∨(d = k∧v∈bs.take j)),⟨fs,v5,rfl,rfl,h.len,fun v v0 v1 d => by rw [h.eq v v0 v1 d]; simp⟩,?_,?_⟩))
 ·rintro j t _ _ e ⟨fs,v5,rfl,rfl,hl,hf⟩
  rw [List.getElem?_map] at e
  cases ec:bs[j]? with
  | none => rw [ec] at e; cases e
  | some z =>
   rw [ec] at e
   cases e
   have hz:=(hb z).mp (List.mem_of_getElem? ec)
   have hi:=hz.1.inb hw hS
   obtain ⟨v,rfl⟩:=Int.eq_ofNat_of_zero_le hi.1
   have hlt:v < fs.length:=by omega
   refine ⟨Ez n ps S l bs k (some (.int v)) v6,AS 5 JI.nd (by show 5 < 7; decide),?_⟩
   refine AF (GG (ET.we (ev 4) (ET.we (ev 2) ⟨l,rfl,ET.we (ev 5) ⟨_,_,v,rfl,AH,by rw [List.length_map]; exact JC hlt,?_⟩⟩)))
   refine ⟨fs.set v (some k),_,rfl,by rw [Ba,List.map_set]; rfl,by rw [List.length_set]; exact hl,fun y y0 y1 d => ?_⟩
   rw [List.take_add_one,ec]
   by_cases hy:y = (v:Int)
   ·subst hy
    rw [Int.toNat_natCast,List.getElem?_set_self hlt]
    constructor
    ·intro e
     have e:k = d:=by simpa using e
     subst e
     exact .inr ⟨rfl,by simp⟩
    ·rintro (⟨h1,h2⟩ | ⟨rfl,_⟩)
     ·have:=h2.uniq hz
      omega
     ·rfl
   ·rw [List.getElem?_set_ne (by omega),hf y y0 y1 d]
    simp [hy]
 ·rintro _ _ ⟨fs,v5,rfl,rfl,hl,hf⟩
  rw [List.length_map,List.take_length] at hf
  have h1:Lt n ps S (k + 1) fs:=⟨hl,fun v v0 v1 d => by
   rw [hf v v0 v1 d]
   constructor
   ·rintro (⟨h1,h2⟩ | ⟨rfl,h2⟩)
    ·exact ⟨by omega,h2⟩
    ·exact ⟨by omega,(hb v).mp h2⟩
   ·rintro ⟨h1,h2⟩
    by_cases hd:d = k
    ·subst hd; exact .inr ⟨rfl,(hb v).mpr h2⟩
    ·exact .inl ⟨by omega,h2⟩⟩
  clear hf h
  refine AC (AG 6 (EL (BE ⟨Nat.zero_le _,fun lb hlb => ?_⟩)) JI.nd)
  have hll:lb≠l:=fun z => by rw [z,AH] at hlb; cases hlb
  have hlb':O lb = none:=by rw [AX hll] at hlb; exact hlb
  refine AC (BP Ac.own rfl (EI.wi (Ak (ev 3)) ⟨fun j ρ' O' => ∃ (ls:List Int) (v5:Option T),ρ' = Ez n ps S l bs k v5 (some (.raw (.ref lb)))∧O' = Ae (Ae O l (fs.map Ad)) lb (ls.map T.int)∧ls.length≤200 * j∧j≤bs.length∧∀ v:Int,v∈ls↔∃ u∈bs.take j,Adj ps u v∧fs.getD v.toNat none = none,⟨[],v5,rfl,rfl,by simp,by omega,fun v => by simp⟩,?_,?_⟩))
  ·rintro j t _ _ e ⟨ls,v5,rfl,rfl,hls,hj,hv⟩
   rw [List.getElem?_map] at e
   cases ec:bs[j]? with
   | none => rw [ec] at e; cases e
   | some u =>
    rw [ec] at e
    cases e
    have hj':=(List.getElem?_eq_some_iff.mp ec).1
    have hnl:=Hr (ps:=ps) (x:=u)
    have hpl:=wa.hl
    have gl:Ae (Ae O l (fs.map Ad)) lb (ls.map T.int) l = some (fs.map Ad):=by rw [AX hll.symm,AH]
    refine ⟨Ez n ps S l bs k (some (.int u)) (some (.raw (.ref lb))),AS 5 JI.nd (by show 5 < 7; decide),?_⟩
    refine AF (Ao (Hj (ET.we (ev 6) ⟨lb,rfl,⟨_,AH⟩,ET.we (So ["_law_other"] [("_law_found",2)] (BD ps u) T.int T.int (fun v => CQ (Ad (fs.getD v.toNat none))) rfl (CD (AB Ds) ZZ (by decide +kernel)) (Ak (Ai G hr xf (AE (ev 0) (AE (ev 5) AD)) ⟨n,ps,u,rfl,wa.hl,rfl⟩)) (by omega) fun v hvn => ⟨[some (.int v),some (.raw (.ref l))],fun X' Oe He is O' hk => ?_⟩) ⟨_,_,rfl,AH,?_,?_⟩⟩)))
    ·obtain ⟨cl,s',H',fp,rfl⟩:=is
     have a:=(CS.mp hvn).inb hw
     obtain ⟨m,rfl⟩:=Int.eq_ofNat_of_zero_le a.1
     have hlt:m < fs.length:=by omega
     refine ⟨AS 0 YD (by decide),DH GV (Ci (hk _ _ gl) (ev 1) (ev 0) (BY ?_)),fun _ => ev 0⟩
     rw [List.getElem?_map,List.getElem?_eq_getElem hlt,Int.toNat_natCast]
     simp [List.getD,hlt]
    ·have:=List.length_filter_le (fun v:Int => CQ (Ad (fs.getD v.toNat none))) (BD ps u)
     rw [List.length_map,List.length_map]
     have:(200:Nat) * j≤200 * 60:=Nat.mul_le_mul_left _ (by omega)
     omega
    ·refine ⟨ls ++ (BD ps u).filter (fun v => CQ (Ad (fs.getD v.toNat none))),_,rfl,by rw [Ba,List.map_append],?_,by omega,fun v => ?_⟩
     ·have:=List.length_filter_le (fun v:Int => CQ (Ad (fs.getD v.toNat none))) (BD ps u)
      rw [List.length_append,Nat.mul_add]
      omega
     ·rw [List.mem_append,hv v,List.mem_filter,CS,List.take_add_one,ec]
      have e3:CQ (Ad (fs.getD v.toNat none)) = true↔fs.getD v.toNat none = none:=by
       cases fs.getD v.toNat none with
       | none => exact ⟨fun _ => rfl,fun _ => rfl⟩
       | some d => exact ⟨(fun h => by cases h),(fun h => by cases h)⟩
      rw [e3]
      constructor
      ·rintro (⟨u',h1,h2⟩ | h)
       ·exact ⟨u',List.mem_append_left _ h1,h2⟩
       ·exact ⟨u,List.mem_append_right _ (by simp),h⟩
      ·rintro ⟨u',h1,h2⟩
       rcases List.mem_append.mp h1 with h1 | h1
       ·exact .inl ⟨u',h1,h2⟩
       ·have:u' = u:=by simpa using h1
        subst this
        exact .inr h2
  ·rintro _ _ ⟨ls,v5,rfl,rfl,hls,hj,hv⟩
   rw [List.length_map,List.take_length] at hv
   have hv2:∀ v,v∈ls↔IsD ps S v (k + 1):=fun v => by
    rw [hv v]
    constructor
    ·rintro ⟨u,hu,a,hn⟩
     have ab:=a.inb hw
     have hlt:v.toNat < fs.length:=by omega
     obtain ⟨d,hd,i⟩:=(W.go ((hb u).mp hu).1 a).least
     by_cases hdk:d < k + 1
     ·have:=(h1.eq v ab.1 ab.2.1 d).mpr ⟨hdk,i⟩
      rw [List.getD_eq_getElem?_getD,this] at hn
      cases hn
     ·have:d = k + 1:=by omega
      rw [← this]; exact i
    ·intro i
     obtain ⟨u,hu,a⟩:=i.prev
     have ab:=a.inb hw
     refine ⟨u,(hb u).mpr hu,a,?_⟩
     have hlt:v.toNat < fs.length:=by omega
     rw [List.getD_eq_getElem?_getD,List.getElem?_eq_getElem hlt]
     cases z:fs[v.toNat] with
     | none => rfl
     | some d =>
      have:=(h1.eq v ab.1 ab.2.1 d).mp (by rw [List.getElem?_eq_getElem hlt,z])
      have:=this.2.uniq i
      omega
   refine AC (AG 3 (HA (ns:=ls) (l0:=lb) Tx.nSorted Tx.nSet rfl (ev 6) AH (fun z hz => ?_) fun ms hm1 hm2 => ?_) JI.nd)
   ·have:=((hv2 z).mp hz).1.inb hw hS
    omega
   ·refine CM (p:=lb) (n:=6) (ts:=ls.map T.int) AH hlb' rfl ?_
    rw [show DE (Ae (Ae O l (fs.map Ad)) lb (ls.map T.int)) lb = Ae O l (fs.map Ad) from At (by rw [AX hll]; exact hlb')]
    refine AF (AG 4 (ET.we (Al (ev 4) AA) (q _ _ fs ms h1 ?_ fun v => (hm2 v).trans (hv2 v))) JI.nd)
    have nd:ms.Nodup:=List.nodup_iff_pairwise_ne.mpr (hm1.imp fun {a b} h => by omega)
    have hlm:ms.length≤n.toNat:=QE nd fun z hz => ((hv2 z).mp ((hm2 z).mp hz)).1.inb hw hS
    omega
theorem Qp {fd:FuncData} (F:Fun K "_law_fars" "_law_fars" Ds f fd) (Tx:Txt mg) (G:FnT P w K mg base "_law_near_of" 1 ["_law_web","_law_place"] Dd):FnOk P w K mg base (CXe P w) 2 f fd ["_law_web","_law_starts"] (By K NL):=by
 refine AV F JI ?_ ?_
 ·rintro ts O Φ Ξ ⟨n,ps,S,rfl,_⟩
  rfl
 ·rintro cdv A outer s H E O Ξ hr xf _ Φ ⟨n,ps,S,rfl,wa,hSl,hS,q⟩
  have sb:=AT
  have n0:=wa.n0
  have n1:=wa.n1
  have hu:(A.deeper (envOfC "_law_fars" (AB Ds) s.heap.objs.size f cdv)).units + 101 < cLine:=by have:=hr.un; omega
  refine AC (AG 2 (Sa (t:=.non) (Az (AE BU AD) (by show 1≤sizeLine; decide)) (BJ (ev 0) AA) ⟨by omega,by omega⟩ fun l hlO => ?_) JI.nd)
  refine AC (AG 3 (ET.we (Qc Tx.nList (ev 1)) ?_) JI.nd)
  refine AC (AG 4 (ET.we AA ?_) JI.nd)
  have h0:Lt n ps S 0 (List.replicate n.toNat none):=⟨by rw [List.length_replicate]; omega,fun v v0 v1 d => by
   rw [List.getElem?_replicate]
   simp⟩
  refine AC (GM Ac.own (fun m ρ' O' => ∃ (k:Nat) (bs:List Int) (fs:List (Option Nat)) (v5 v6:Option T),ρ' = Ez n ps S l bs k v5 v6∧O' = Ae O l (fs.map Ad)∧Lt n ps S k fs∧bs.length≤60∧(∀ v,v∈bs↔IsD ps S v k)∧m = n.toNat + 1 - k) ⟨_,0,S,List.replicate n.toNat none,none,none,rfl,by rw [List.map_replicate]; rfl,h0,by omega,fun v => GW.symm,rfl⟩ ?_)
  rintro m _ _ ⟨k,bs,fs,v5,v6,rfl,rfl,lt,hbl,hb,rfl⟩
  refine (show EB (YE P w K mg base f cdv A outer s H E O Ξ) (Ez n ps S l bs k v5 v6) (Ae O l (fs.map Ad)) _ (!decide (bs = [])) from EB.cast (BI (Io hu) (Af _) (Ip (t:=.lst (bs.map T.int)) (u:=.lst (([]:List Int).map T.int)) (by rw [Bn]; exact Cm) (by rw [Bn]; exact Cm) (by show PyData.depthAll _ + 1≤100; have:=Dw (ns:=bs); omega)) (ev 3) (Az AD (Nat.zero_le _))) (show _ = !decide (bs = []) from congrArg (!·) GX)) _ ?_
  by_cases hbs:bs = []
  ·subst hbs
   refine Dl ?_
   have al:All n ps S fs:=⟨lt.len,fun v v0 v1 d => by
    rw [lt.eq v v0 v1 d]
    refine ⟨fun z => z.2,fun z => ⟨?_,z⟩⟩
    by_cases hd:d < k
    ·exact hd
    ·obtain ⟨j,rfl⟩:∃ j,d = k + j:=⟨d - k,by omega⟩
     obtain ⟨u,hu⟩:=z.down
     have:=(hb u).mpr hu
     cases this⟩
   refine CM (p:=l) (n:=2) (ts:=fs.map Ad) AH hlO rfl ?_
   rw [At hlO]
   exact AF (AR (ET.we (ev 2) (q fs al)))
  ·rw [show (!decide (bs = [])) = true by simp [hbs]]
   refine Fj (Qo Tx (hr.mono (by decide)) xf G hlO wa hS lt hbl hb fun v5 v6 fs' ms lt' hml hm => ⟨_,?_,k + 1,ms,fs',v5,v6,rfl,rfl,lt',hml,hm,rfl⟩)
   cases bs with
   | nil => exact absurd rfl hbs
   | cons b bs' =>
    have:=((hb b).mp (by simp)).lt (show QD n ps from wa.hp) hS
    omega
end
def YF:Stmt→Expr
 | .Return (some e) _ => e
 | .Assign _ e _ => e
 | _ => .Constant .none 0 ⟨0,0,0,0⟩
section
variable {P:Program} {w:World} {K:PySem.W.Frag} {mg:Str→Option Value} {base:Heap} {CP CL:Addr}
theorem Vz:(Ah ["_law_a","_law_b"] []).Nodup:=by decide +kernel
theorem YG:(Ah ["_law_place"] [(("_law_begin" : Str),2),(("_law_step" : Str),1),(("_law_n" : Str),0)]).Nodup:=by decide +kernel
def De:Br:=fun ts O Φ _ => ∃ (n:Int) (ps:List (Int × Int)),ts = [.int n,.lst (ps.map AM)]∧ps.length≤300∧(∀ p∈ps,ZX p)∧∀ rs:List (Int × Int),rs.Pairwise Yk→(∀ q,q∈rs↔q∈ps.map mm)→rs.length≤ps.length→Φ (BA n rs) O
theorem Sw:FnScope ["_law_many","_law_ties"] ["_law_many","_law_ties"] (AB GP):=⟨rfl,rfl,rfl,by decide +kernel,rfl,by decide +kernel,by decide +kernel⟩
theorem OQ {f:Addr} {fd:FuncData} (F:Fun K "_law_web_of" "_law_web_of" GP f fd) (Tx:Txt mg):FnOk P w K mg base (CXe P w) 1 f fd ["_law_many","_law_ties"] (By K De):=by
 refine AV F Sw ?_ ?_
 ·rintro ts O Φ Ξ ⟨n,ps,rfl,_⟩
  rfl
 ·rintro cdv A outer s H E O Ξ hr xf _ Φ ⟨n,ps,rfl,hl,hp,q⟩
  have hu:(A.deeper (envOfC "_law_web_of" (AB GP) s.heap.objs.size f cdv)).units + 8 < cLine:=by have:=hr.un; omega
  have hz:ps.length≤sizeLine:=Nat.le_trans hl (by decide)
  refine AF (AR (LY (CO (ET.we (ev 0) (CO (KG Tx.nTuple (Ik (ps:=ps.map mm) Tx.nSorted Tx.nSet rfl hu ?_ (by simpa using hl) ?_ fun qs h1 h2 h3 => ⟨_,rfl,BE ⟨by show 2≤sizeLine; decide,q qs h1 h2 (by simpa using h3)⟩⟩)))))))
  ·rw [List.map_map]
   refine Dq ["_law_a","_law_b"] [] ps AM _ rfl (CD (AB GP) ["_law_many","_law_ties"] (by decide +kernel)) (Ak (ev 1)) hz fun x hx => ⟨[some (.int x.1),some (.int x.2)],fun X' Oe He is O' => ?_⟩
   obtain ⟨cl,s',H',fp,rfl⟩:=is
   exact ⟨EO 0 1 rfl Vz (by decide) (by decide),Ay (AE (Ii Tx.nMin rfl (ev 0) (ev 1)) (AE (ES Tx.nMax rfl (ev 0) (ev 1)) AD))⟩
  ·intro z hz
   obtain ⟨p,h1,rfl⟩:=List.mem_map.mp hz
   have:=hp p h1
   unfold ZX at this
   show 0≤max _ _∧max _ _ < 65536
   omega
def Ka (n st bg:Int):List (Int × Int):=(List.range n.toNat).map fun (i:Nat) => (bg + (0 + (i:Int)),bg + ((0 + (i:Int)) + st) % n)
def FX:Br:=KA fun ts r => ∃ n st bg,ts = [.int n,.int st,.int bg]∧0 < n∧n≤100∧r = .lst ((Ka n st bg).map AM)
theorem Sx:FnScope ["_law_n","_law_step","_law_begin"] ["_law_n","_law_step","_law_begin"] (AB Iq):=⟨rfl,rfl,rfl,by decide +kernel,rfl,by decide +kernel,by decide +kernel⟩
theorem Qq {f:Addr} {fd:FuncData} (F:Fun K "_law_round" "_law_round" Iq f fd) (Tx:Txt mg):FnOk P w K mg base (CXe P w) 1 f fd ["_law_n","_law_step","_law_begin"] (By K FX):=by
 refine AV F Sx ?_ ?_
 ·rintro ts O Φ Ξ ⟨r,⟨n,st,bg,rfl,_⟩,_⟩
  rfl
 ·rintro cdv A outer s H E O Ξ hr xf _ Φ ⟨_,⟨n,st,bg,rfl,n0,n1,rfl⟩,q⟩
  have sb:=AT
  refine AF (AR (ET.we (ET.cast (Dq ["_law_place"] [("_law_begin",2),("_law_step",1),("_law_n",0)] (List.range n.toNat) (fun i => .int (0 + (i:Int))) (fun i => AM (bg + (0 + (i:Int)),bg + ((0 + (i:Int)) + st) % n)) rfl (CD (AB Iq) ["_law_n","_law_step","_law_begin"] (by decide +kernel)) (As Tx.nRange (ev 0) ⟨by omega,by omega⟩) (by simp; omega) fun x hx => ⟨[some (.int (0 + (x:Int))),some (.int bg),some (.int st),some (.int n)],fun X' Oe He is O' => ?_⟩) ?_) q))
  ·obtain ⟨cl,s',H',fp,rfl⟩:=is
   exact ⟨AS 0 YG (by decide),DY (Al (ev 1) (ev 0)) (Al (ev 1) (DF (Al (ev 0) (ev 2)) (ev 3) n0))⟩
  ·unfold Ka
   rw [List.map_map]
   rfl
end
section
variable {P:Program} {w:World} {K:PySem.W.Frag} {mg:Str→Option Value} {base:Heap} {CP CL:Addr}
def WB (n r:Int):List T:=[.int n,.int (n + 1 + r),.int (-1),.bl true,.bl false,.non,.str "0",.tup [.int 0],.lst [.int 0],.dct]
theorem WC {n r:Int} (n0:0≤n) (r0:0≤r):∀ t∈WB n r,Aa t = false∧Bu t 0 (n - 1) = false:=by
 intro t ht
 unfold WB at ht
 simp only [List.mem_cons,List.not_mem_nil,or_false] at ht
 rcases ht with rfl | rfl | rfl | rfl | rfl | rfl | rfl | rfl | rfl | rfl <;> refine ⟨rfl,?_⟩ <;> first | rfl | (show (decide (_≤_) && decide (_≤_)) = false; simp; omega)
def Qr:Br:=fun ts O Φ _ => ∃ (p:Addr) (xs:List T) (n:Int),ts = [.raw (.ref p),.int n]∧O p = some xs∧Gv xs∧1≤n∧n≤16∧∀ (t:T) (O':AL),Aa t = false→Bu t 0 (n - 1) = false→PO O p O'→Φ t O'
theorem Qs:FnScope ["_law_pen","_law_many","_law_odd"] ["_law_pen","_law_many"] (AB QG):=⟨rfl,rfl,rfl,by decide +kernel,rfl,by decide +kernel,by decide +kernel⟩
theorem Kb {f:Addr} {fd:FuncData} (F:Fun K "_law_no_place" "_law_no_place" QG f fd) (G:FnT P w K mg base "_law_draw" 2 ["_law_pen","_law_many"] CF):FnOk P w K mg base (CXe P w) 3 f fd ["_law_pen","_law_many"] (By K Qr):=by
 refine AV F Qs ?_ ?_
 ·rintro ts O Φ Ξ ⟨p,xs,n,rfl,_⟩
  rfl
 ·rintro cdv A outer s H E O Ξ hr xf _ Φ ⟨p,xs,n,rfl,hp,px,n0,n1,q⟩
  have sb:=AT
  refine AC (AG 2 (LZ (CO (ET.we (ev 1) (CO (Bx CW (ET.we (Al (ev 1) AA) (Ap (m:=1000000000) G hr xf (PO.start hp px) (ev 0) (ET.cast (La AA AA ⟨by decide,by decide,by decide⟩) rfl) (by decide) (by decide) fun r O1 r0 r1 po1 => Di _ ?_))))))) Qs.nd)
  refine EA.wa (ts:=[.int (-1),.bl true,.bl false,.non,.str "0",.tup [.int 0],.lst [.int 0],.dct]) (AE (VP AA) (AE HY (AE HY (AE BU (AE Dp (AE (Ay (AE AA AD) (by show 1≤sizeLine; decide)) (AE (Az (AE AA AD) (by show 1≤sizeLine; decide)) (AE Ps AD)))))))) ⟨Nat.le_trans (show 10≤1000 by decide) (Nat.le_of_lt sb),?_⟩
  refine AF (AR (Mo CY (fun _ _ => rfl) (ET.we (ev 2) (Ap G hr xf po1 (ev 0) AA (by decide) (by decide) fun r' O2 r0' r1' po2 => ?_))))
  obtain ⟨t,e1,m1⟩:=DN (L:=WB n r) r0' r1'
  obtain ⟨k1,k2⟩:=WC (by omega) r0 t m1
  exact Ia e1 _ (q t _ k1 k2 po2)
end
section
variable {P:Program} {w:World} {K:PySem.W.Frag} {mg:Str→Option Value} {base:Heap} {CP CL:Addr}
theorem Dy {y:Str}:(dT (.tup [.str y])).depth≤100:=by simp [dT,dTs,PyData.depth,PyData.depthAll]
end
end K11
namespace L2.TL
open PySem PySem.Spec PyProof.Rows
theorem MA {Z:Zx} {ρ:List (Option T)} {O:AL} {e:Expr} {p pos:Pos} {ns:List Int} (m:Z.X.mg "sorted" = none) (h:ET Z ρ O e (.tup (ns.map T.int))) (hl:ns.length < 64) (hg:Gl Z.X "sorted":=by rfl)
  (he:starEach [e] Z.X.env = (false,eval e Z.X.env) :: starEach [] Z.X.env:=by rfl):ET Z ρ O (.Call (.Name "sorted" p) [e] [] pos) (.lst ((PySem.W.sortI ns).map T.int)):=fun Φ q => Lj m h hl (fun ms pm pw => by rw [PySem.W.eq_sortI pm pw]; exact q) hg he
end L2.TL
namespace K11
open PySem L2 L2.TL PySem.Spec PyProof.Rows
def Hs (n:Int) (L:List (Int × Int)):Prop:=∀ p∈L,0≤p.1∧p.1 < n∧0≤p.2∧p.2 < n
def EZ:List Str:=["_law_pen","_law_most","_law_n","_law_half","_law_way","_law_every","_law_one","_law_share","_law_drawn","_law_step","_law_pairs","_law_pair"]
theorem BB:FnScope EZ ["_law_pen","_law_most"] (AB Cr):=⟨rfl,rfl,rfl,by decide +kernel,rfl,by decide +kernel,by decide +kernel⟩
def HB (i:Nat):Stmt:=(Aj Cr).getD i (.Pass ⟨0,0,0,0⟩)
def Zu:Stmt→List Stmt
 | .If _ a _ _ => a
 | _ => []
theorem YH:(Ah ["_law_other"] [(("_law_pair" : Str),11)]).Nodup:=by decide +kernel
theorem YI:(Ah ["_law_pair"] []).Nodup:=by decide +kernel
theorem YJ:(Ah ["_law_other"] [(("_law_one" : Str),6)]).Nodup:=by decide +kernel
theorem YK:(Ah ["_law_pair"] [(("_law_pen" : Str),0),(("_law_share" : Str),7)]).Nodup:=by decide +kernel
theorem YL:(Ah ["_law_pair"] [(("_law_half" : Str),3)]).Nodup:=by decide +kernel
theorem UF:(Ah ["_law_at"] [(("_law_half" : Str),3)]).Nodup:=by decide +kernel
section
variable {P:Program} {w:World} {K:PySem.W.Frag} {mg:Str→Option Value} {base:Heap} {f:Addr} {cdv:Value} {A:Around} {outer:List Env} {s:Shared} {H:Hp} {E:XK} {O0 O1:AL} {Ξ:Value→AL→Prop} {p:Addr} {n:Int} {L:List (Int × Int)} {v3 v4 v5 v6 v7 v8 v9 v11:Option T} {Φ:BX} {N:Ic}
abbrev zW (P:Program) (w:World) (K:PySem.W.Frag) (mg:Str→Option Value) (base:Heap) (f:Addr) (cdv:Value) (A:Around) (outer:List Env) (s:Shared) (H:Hp) (E:XK) (O:AL) (Ξ:Value→AL→Prop):Zx:=zB P w K mg base EZ "_law_some_web" (AB Cr) f cdv A outer s H E O Ξ
abbrev MB (p:Addr) (n:Int) (v3 v4 v5 v6 v7 v8 v9:Option T) (L:List (Int × Int)) (v11:Option T):List (Option T):=[some (.raw (.ref p)),some (.int 16),some (.int n),v3,v4,v5,v6,v7,v8,v9,some (.lst (L.map AM)),v11]
def Qt (O0:AL) (p:Addr) (Φ:BX):Prop:=∀ (n:Int) (ps:List (Int × Int)) (O':AL),3≤n→n≤16→(∀ q∈ps,Hm n q)→ps.Pairwise Yk→ps.length≤200→PO O0 p O'→Φ (BA n ps) O'
theorem Qu (hr:Room 2 (zW P w K mg base f cdv A outer s H E O0 Ξ).X.A) (xf:XFly (zW P w K mg base f cdv A outer s H E O0 Ξ).X (zW P w K mg base f cdv A outer s H E O0 Ξ).W) (Gw:FnT P w K mg base "_law_web_of" 1 ["_law_many","_law_ties"] De)
  (po:PO O0 p O1) (n0:3≤n) (n1:n≤16) (hL:Hs n L) (hl:L.length≤140) (q:Qt O0 p Φ) :
  DW (zW P w K mg base f cdv A outer s H E O0 Ξ) (MB p n v3 v4 v5 v6 v7 v8 v9 L v11) O1 [HB 14] { nx:=N,rt:=Φ }:=by
 have sb:=AT
 have lf:(L.filter fun p => !decide (p.1 = p.2)).length≤L.length:=List.length_filter_le ..
 refine AF (AR (AN Gw (hr.mono (by decide)) xf (EA.wa (AE (ev 2) (AE (Eo ["_law_pair"] [] L AM AM (fun p => !decide (p.1 = p.2)) rfl (CD (AB Cr) EZ (by decide +kernel)) (Ak (ev 10)) (by omega) fun x hx => ⟨[some (AM x)],fun X' Oe He is O' => ?_⟩) AD)) ⟨n,L.filter fun p => !decide (p.1 = p.2),rfl,by omega,fun p hp => ?_,fun rs r1 r2 r3 => q n rs O1 n0 n1 (fun z hz => ?_) r1 (by omega) po⟩)))
 ·obtain ⟨cl,s',H',fp,rfl⟩:=is
  exact ⟨AS 0 YI (by decide),Lc (BJ (ev 0) AA) (BJ (ev 0) AA),fun _ => ev 0⟩
 ·have:=hL p (List.mem_filter.mp hp).1
  unfold ZX
  omega
 ·obtain ⟨y,hy,rfl⟩:=List.mem_map.mp ((r2 z).mp hz)
  obtain ⟨h1,h2⟩:=List.mem_filter.mp hy
  have:=hL y h1
  have h2:y.1≠y.2:=by simpa using h2
  unfold Hm mm
  show 0≤min _ _∧min _ _ < max _ _∧max _ _ < n
  omega
theorem Qv (hr:Room 2 (zW P w K mg base f cdv A outer s H E O0 Ξ).X.A) (xf:XFly (zW P w K mg base f cdv A outer s H E O0 Ξ).X (zW P w K mg base f cdv A outer s H E O0 Ξ).W) (Tx:Txt mg) (G:FnT P w K mg base "_law_draw" 2 ["_law_pen","_law_many"] CF) (Gw:FnT P w K mg base "_law_web_of" 1 ["_law_many","_law_ties"] De)
  (po:PO O0 p O1) (n0:3≤n) (n1:n≤16) (hL:Hs n L) (hl:L.length≤130) (q:Qt O0 p Φ) :
  DW (zW P w K mg base f cdv A outer s H E O0 Ξ) (MB p n v3 v4 v5 v6 v7 v8 v9 L v11) O1 [HB 13,HB 14] { nx:=N,rt:=Φ }:=by
 have sb:=AT
 have hu:(zW P w K mg base f cdv A outer s H E O0 Ξ).X.A.units < cLine:=by have:=hr.un; omega
 refine AC (Pg (Lb HE (Af _) (Ap G hr xf po (ev 0) AA (by decide) (by decide) fun r0 O2 _ _ po2 => ET.we AA (IY _ ⟨_,rfl,Uv (fun _ => ?_) (fun _ => Ab (Qu hr xf Gw po2 n0 n1 hL (by omega) q))⟩))))
 refine AC (AG 6 (Ap G hr xf po2 (ev 0) (BF (ev 2) AA) (by omega) (by omega) fun one O3 o0 o1 po3 => ?_) BB.nd)
 refine AC (AG 11 (LY (CO (ET.we (ev 6) (CO (Bx CW (ET.we (Al (ev 6) AA) (Ap G hr xf po3 (ev 0) (BF (BF (ev 2) AA) (ev 6)) (by omega) (by omega) fun r O4 r0 r1 po4 => Di _ (BE ⟨by show 2≤sizeLine; decide,?_⟩))))))))  BB.nd)
 have lf:(L.filter fun x => !decide (PySem.W.sortI [x.1,x.2] = [one,one + 1 + r])).length≤L.length:=List.length_filter_le ..
 refine AF (AG 10 (Bx IE (ET.we (Eo ["_law_other"] [("_law_pair",11)] L AM AM (fun x => !decide (PySem.W.sortI [x.1,x.2] = [one,one + 1 + r])) rfl (CD (AB Cr) EZ (by decide +kernel)) (Ak (ev 10)) (by omega) fun x hx => ⟨[some (AM x),some (AM (one,one + 1 + r))],fun X' Oe He is O' => ?_⟩) (Bx SU (ET.we (Az (AE (ev 11) AD) (by show 1≤sizeLine; decide)) (Ap G hr xf po4 (ev 0) AA (by decide) (by decide) fun k O5 k0 k1 po5 => SV (by omega) _ ?_))))) BB.nd)
 ·obtain ⟨cl,s',H',fp,rfl⟩:=is
  exact ⟨AS 0 YH (by decide),BI (Vc hu) (Af _) (Xm (ms:=[one,one + 1 + r])) (MA (ns:=[x.1,x.2]) Tx.nSorted (ev 0) (by simp)) (Pq Tx.nList (ev 1)),fun _ => ev 0⟩
 ·have lr:(List.replicate k.toNat (T.tup [.int one,.int (one + 1 + r)])).length≤1:=by rw [List.length_replicate]; omega
  refine Ij (by rw [List.length_map]; omega) _ ?_
  have e:(L.filter fun x => !decide (PySem.W.sortI [x.1,x.2] = [one,one + 1 + r])).map AM ++ List.replicate k.toNat (T.tup [.int one,.int (one + 1 + r)]) = ((L.filter fun x => !decide (PySem.W.sortI [x.1,x.2] = [one,one + 1 + r])) ++ List.replicate k.toNat (one,one + 1 + r)).map AM:=by
   rw [List.map_append,List.map_replicate]; rfl
  rw [e]
  refine Qu hr xf Gw po5 n0 n1 (fun z hz => ?_) (by rw [List.length_append,List.length_replicate]; omega) q
  rcases List.mem_append.mp hz with hz | hz
  ·exact hL z (List.mem_filter.mp hz).1
  ·rw [(List.mem_replicate.mp hz).2]
   show 0≤one∧one < n∧0≤one + 1 + r∧one + 1 + r < n
   omega
end
theorem Ea {n st bg:Int}:(Ka n st bg).length = n.toNat:=by simp [Ka]
theorem Gc {n st bg m:Int} (n0:0 < n) (b0:0≤bg) (h:bg + n≤m):Hs m (Ka n st bg):=by
 intro p hp
 obtain ⟨i,hi,rfl⟩:=List.mem_map.mp hp
 have hi:=List.mem_range.mp hi
 have h1:=Int.emod_nonneg (0 + (i:Int) + st) (show n≠0 by omega)
 have h2:=Int.emod_lt_of_pos (0 + (i:Int) + st) n0
 show 0≤bg + (0 + (i:Int))∧bg + (0 + (i:Int)) < m∧0≤bg + (0 + (i:Int) + st) % n∧bg + (0 + (i:Int) + st) % n < m
 omega
def Rc (h:Int):List (Int × Int):=(List.range h.toNat).map fun (i:Nat) => (0 + (i:Int),h + (0 + (i:Int)))
theorem Sy {h:Int}:(Rc h).length = h.toNat:=by simp [Rc]
theorem Qw {h m:Int} (e:2 * h≤m) (h0:0≤h):Hs m (Rc h):=by
 intro p hp
 obtain ⟨i,hi,rfl⟩:=List.mem_map.mp hp
 have hi:=List.mem_range.mp hi
 show 0≤0 + (i:Int)∧0 + (i:Int) < m∧0≤h + (0 + (i:Int))∧h + (0 + (i:Int)) < m
 omega
theorem Eb {n:Int} {L M:List (Int × Int)} (a:Hs n L) (b:Hs n M):Hs n (L ++ M):=fun p hp => (List.mem_append.mp hp).elim (a p) (b p)
section
variable {P:Program} {w:World} {K:PySem.W.Frag} {mg:Str→Option Value} {base:Heap} {f:Addr} {cdv:Value} {A:Around} {outer:List Env} {s:Shared} {H:Hp} {E:XK} {O0 O1:AL} {Ξ:Value→AL→Prop} {p:Addr} {n hf way st:Int} {L es:List (Int × Int)} {v6 v7 v8:Option T} {Φ:BX} {N:Ic}
theorem MC {ρ:List (Option T)} (Tx:Txt mg) (h0:0≤hf) (h1:hf≤8) (hρ:ρ[3]? = some (some (.int hf))) (hρl:ρ.length = 12):ET (zW P w K mg base f cdv A outer s H E O0 Ξ) ρ O1 (match YF ((Zu (HB 11)).getD 1 (.Pass ⟨0,0,0,0⟩)) with | .BinOp _ _ b _ => b | x => x) (.lst ((Rc hf).map AM)):=by
 have sb:=AT
 match ρ,hρl,hρ with
 | [a0,a1,a2,a3,a4,a5,a6,a7,a8,a9,a10,a11],_,hρ =>
  cases (show a3 = some (.int hf) from Option.some.inj hρ)
  refine ET.cast (Dq ["_law_at"] [("_law_half",3)] (List.range hf.toNat) (fun i => .int (0 + (i:Int))) (fun i => AM (0 + (i:Int),hf + (0 + (i:Int)))) rfl (CD (AB Cr) EZ (by decide +kernel)) (As Tx.nRange (ev 3) ⟨by omega,by omega⟩) (by simp; omega) fun x hx => ⟨[some (.int (0 + (x:Int))),some (.int hf)],fun X' Oe He is O' => ?_⟩) ?_
  ·obtain ⟨cl,s',H',fp,rfl⟩:=is
   exact ⟨AS 0 UF (by decide),DY (ev 0) (Al (ev 1) (ev 0))⟩
  ·unfold Rc
   rw [List.map_map]; rfl
theorem MD {ρ:List (Option T)} (Tx:Txt mg) (h0:0≤hf) (h1:hf≤8) (hρ:ρ[3]? = some (some (.int hf))) (hρl:ρ.length = 12):ET (zW P w K mg base f cdv A outer s H E O0 Ξ) ρ O1 (match YF ((Zu (HB 12)).getD 1 (.Pass ⟨0,0,0,0⟩)) with | .BinOp _ _ b _ => b | x => x) (.lst ((Rc hf).map AM)):=by
 have sb:=AT
 match ρ,hρl,hρ with
 | [a0,a1,a2,a3,a4,a5,a6,a7,a8,a9,a10,a11],_,hρ =>
  cases (show a3 = some (.int hf) from Option.some.inj hρ)
  refine ET.cast (Dq ["_law_at"] [("_law_half",3)] (List.range hf.toNat) (fun i => .int (0 + (i:Int))) (fun i => AM (0 + (i:Int),hf + (0 + (i:Int)))) rfl (CD (AB Cr) EZ (by decide +kernel)) (As Tx.nRange (ev 3) ⟨by omega,by omega⟩) (by simp; omega) fun x hx => ⟨[some (.int (0 + (x:Int))),some (.int hf)],fun X' Oe He is O' => ?_⟩) ?_
  ·obtain ⟨cl,s',H',fp,rfl⟩:=is
   exact ⟨AS 0 UF (by decide),DY (ev 0) (Al (ev 1) (ev 0))⟩
  ·unfold Rc
   rw [List.map_map]; rfl
theorem WD (hr:Room 2 (zW P w K mg base f cdv A outer s H E O0 Ξ).X.A) (xf:XFly (zW P w K mg base f cdv A outer s H E O0 Ξ).X (zW P w K mg base f cdv A outer s H E O0 Ξ).W) (Tx:Txt mg) (G:FnT P w K mg base "_law_draw" 2 ["_law_pen","_law_many"] CF) (Gr:FnT P w K mg base "_law_round" 1 ["_law_n","_law_step","_law_begin"] FX) (Gw:FnT P w K mg base "_law_web_of" 1 ["_law_many","_law_ties"] De)
  (po:PO O0 p O1) (n0:3≤n) (n1:n≤16) (f0:3≤hf) (f1:hf≤8) (hE:Hs n es) (hel:es.length≤120) (hL:Hs n L) (hl:L.length≤120) (h7:way = 7→L.length≤16) (q:Qt O0 p Φ) :
  DW (zW P w K mg base f cdv A outer s H E O0 Ξ) (MB p n (some (.int hf)) (some (.int way)) (some (.lst (es.map AM))) v6 v7 v8 (some (.int st)) L none) O1 [HB 9,HB 10,HB 11,HB 12,HB 13,HB 14] { nx:=N,rt:=Φ }:=by
 have sb:=AT
 refine AC (FQ (Ψ:={ nx:=fun ρ' O' => O1 = O'∧∃ L,ρ' = MB p n (some (.int hf)) (some (.int way)) (some (.lst (es.map AM))) v6 v7 v8 (some (.int st)) L none∧Hs n L∧L.length≤120,rt:=Φ }) (AZ (BO (ev 4) AA) (fun h => ?_) (fun h => Ab ⟨rfl,L,rfl,hL,hl⟩)) ?_ (fun _ _ z => z) (fun _ _ z => z) (fun _ _ z => z))
 ·have h:way = 7:=by simpa using h
  have:=h7 h
  have e:(Ka n (st + 1) 0).length = n.toNat:=Ea
  refine AF (AG 10 (ET.we (FS (ev 10) (Ai Gr (hr.mono (by decide)) xf (AE (ev 2) (AE (Al (ev 9) AA) (AE AA AD))) ⟨n,st + 1,0,rfl,by omega,by omega,rfl⟩) (by simp only [List.length_map]; omega)) ?_) BB.nd)
  refine ⟨rfl,L ++ Ka n (st + 1) 0,?_,Eb hL (Gc (by omega) (by omega) (by omega)),by rw [List.length_append]; omega⟩
  unfold MB
  rw [List.map_append]; rfl
 rintro _ _ ⟨rfl,L,rfl,hL,hl⟩
 refine AC (FQ (Ψ:={ nx:=fun ρ' O' => O1 = O'∧∃ L,ρ' = MB p n (some (.int hf)) (some (.int way)) (some (.lst (es.map AM))) v6 v7 v8 (some (.int st)) L none∧Hs n L∧L.length≤120,rt:=Φ }) (AZ (BO (ev 4) AA) (fun h => ?_) (fun h => Ab ⟨rfl,L,rfl,hL,hl⟩)) ?_ (fun _ _ z => z) (fun _ _ z => z) (fun _ _ z => z))
 ·have lf:(es.filter fun x => decide (x.1 < hf) && decide (hf≤x.2)).length≤es.length:=List.length_filter_le ..
  refine AF (ER (i:=10) (nc:=["_law_pair"]) (cap:=[("_law_half",3)]) (by rfl) BB.nd rfl (CD (AB Cr) EZ (by decide +kernel)) (Ak (ev 5) _ (Ex es AM AM (fun x => decide (x.1 < hf) && decide (hf≤x.2)) (by omega) (fun x hx => ⟨[some (AM x),some (.int hf)],fun X' Oe He is O' => ?_⟩) ?_)))
  ·obtain ⟨cl,s',H',fp,rfl⟩:=is
   exact ⟨AS 0 YL (by decide),EW.eb (GE (Xb (BJ (ev 0) AA) (ev 1)) fun _ => EN (Xc (BJ (ev 0) AA) (ev 1))),fun _ => ev 0⟩
  ·exact ⟨rfl,_,rfl,fun z hz => hE z (List.mem_filter.mp hz).1,by omega⟩
 rintro _ _ ⟨rfl,L,rfl,hL,hl⟩
 have e1:(Ka hf 1 0).length = hf.toNat:=Ea
 have e2:(Ka hf st hf).length = hf.toNat:=Ea
 have e3:(Rc hf).length = hf.toNat:=Sy
 have e4:(Ka (2 * hf) 1 0).length = (2 * hf).toNat:=Ea
 refine AC (FQ (Ψ:={ nx:=fun ρ' O' => O1 = O'∧∃ n L,3≤n∧n≤16∧ρ' = MB p n (some (.int hf)) (some (.int way)) (some (.lst (es.map AM))) v6 v7 v8 (some (.int st)) L none∧Hs n L∧L.length≤120,rt:=Φ }) (AZ (EW.eb (GE (BO (ev 4) AA) fun _ => EN (Mp (BV AA (ev 3) (.inl ⟨by decide,by decide⟩)) (ev 1)))) (fun h => ?_) (fun h => Ab ⟨rfl,n,L,n0,n1,rfl,hL,hl⟩)) ?_ (fun _ _ z => z) (fun _ _ z => z) (fun _ _ z => z))
 ·have h:(decide (way = 4) && decide (2 * hf≤16)) = true:=h
  have h16:2 * hf≤16:=by simp at h; omega
  refine AC (AG 2 (ET.we (BV AA (ev 3) (.inl ⟨by decide,by decide⟩)) ?_) BB.nd)
  refine AF (AG 10 (ET.we (t:=.lst ((Ka hf 1 0 ++ Ka hf st hf ++ Rc hf).map AM)) ?_ ?_) BB.nd)
  rotate_left
  ·exact ⟨rfl,2 * hf,_,by omega,by omega,rfl,Eb (Eb (Gc (by omega) (by omega) (by omega)) (Gc (by omega) (by omega) (by omega))) (Qw (by omega) (by omega)),by simp only [List.length_append]; omega⟩
  rw [List.map_append,List.map_append]
  exact FS (FS (Ai Gr (hr.mono (by decide)) xf (AE (ev 3) (AE AA (AE AA AD))) ⟨hf,1,0,rfl,by omega,by omega,rfl⟩) (Ai Gr (hr.mono (by decide)) xf (AE (ev 3) (AE (ev 9) (AE (ev 3) AD))) ⟨hf,st,hf,rfl,by omega,by omega,rfl⟩) (by simp only [List.length_map]; omega)) (MC Tx (by omega) (by omega) rfl rfl) (by simp only [List.length_append,List.length_map]; omega)
 rintro _ _ ⟨rfl,n,L,n0,n1,rfl,hL,hl⟩
 refine AC (AZ (EW.eb (GE (BO (ev 4) AA) fun _ => EN (Mp (BV AA (ev 3) (.inl ⟨by decide,by decide⟩)) (ev 1)))) (fun h => ?_) (fun h => Ab (Qv hr xf Tx G Gw po n0 n1 hL (by omega) q)))
 have h:(decide (way = 5) && decide (2 * hf≤16)) = true:=h
 have h16:2 * hf≤16:=by simp at h; omega
 refine AC (AG 2 (ET.we (BV AA (ev 3) (.inl ⟨by decide,by decide⟩)) ?_) BB.nd)
 refine AF (AG 10 (ET.we (t:=.lst ((Ka (2 * hf) 1 0 ++ Rc hf).map AM)) ?_ (Qv hr xf Tx G Gw po (by omega) (by omega) (Eb (Gc (by omega) (by omega) (by omega)) (Qw (by omega) (by omega))) (by simp only [List.length_append]; omega) q)) BB.nd)
 rw [List.map_append]
 exact FS (Ai Gr (hr.mono (by decide)) xf (AE (ev 2) (AE AA (AE AA AD))) ⟨2 * hf,1,0,rfl,by omega,by omega,rfl⟩) (MD Tx (by omega) (by omega) rfl rfl) (by simp only [List.length_map]; omega)
end
section
variable {P:Program} {w:World} {K:PySem.W.Frag} {mg:Str→Option Value} {base:Heap} {f:Addr} {cdv:Value} {A:Around} {outer:List Env} {s:Shared} {H:Hp} {E:XK} {O0 O1:AL} {Ξ:Value→AL→Prop} {p:Addr} {n hf way sh st:Int} {L es ds:List (Int × Int)} {v6 v7 v8:Option T} {Φ:BX} {N:Ic}
def Qx (n:Int) (es ds:List (Int × Int)):List (List (Int × Int)):=[ds,Ka n 1 0,es,ds,[],[],ds,Ka n 1 0]
theorem Qy (n0:3≤n) (n1:n≤16) (hE:Hs n es) (hel:es.length≤120) (hD:Hs n ds) (hdl:ds.length≤120) (w0:0≤way) (w1:way < 8) :
  ∃ L,atI ((Qx n es ds).map fun L => T.lst (L.map AM)) way = some (.lst (L.map AM))∧Hs n L∧L.length≤120∧(way = 7→L.length≤16):=by
 have e:(Ka n 1 0).length = n.toNat:=Ea
 have hR:Hs n (Ka n 1 0):=Gc (by omega) (by omega) (by omega)
 have:way = 0∨way = 1∨way = 2∨way = 3∨way = 4∨way = 5∨way = 6∨way = 7:=by omega
 have hN:Hs n []:=fun _ h => by cases h
 rcases this with rfl | rfl | rfl | rfl | rfl | rfl | rfl | rfl
 ·exact ⟨ds,rfl,hD,hdl,fun z => by omega⟩
 ·exact ⟨_,rfl,hR,by omega,fun z => by omega⟩
 ·exact ⟨es,rfl,hE,hel,fun z => by omega⟩
 ·exact ⟨ds,rfl,hD,hdl,fun z => by omega⟩
 ·exact ⟨[],rfl,hN,by simp,fun z => by omega⟩
 ·exact ⟨[],rfl,hN,by simp,fun z => by omega⟩
 ·exact ⟨ds,rfl,hD,hdl,fun z => by omega⟩
 ·exact ⟨_,rfl,hR,by omega,fun z => by omega⟩
theorem WF (hr:Room 2 (zW P w K mg base f cdv A outer s H E O0 Ξ).X.A) (xf:XFly (zW P w K mg base f cdv A outer s H E O0 Ξ).X (zW P w K mg base f cdv A outer s H E O0 Ξ).W) (Tx:Txt mg) (G:FnT P w K mg base "_law_draw" 2 ["_law_pen","_law_many"] CF) (Gr:FnT P w K mg base "_law_round" 1 ["_law_n","_law_step","_law_begin"] FX) (Gw:FnT P w K mg base "_law_web_of" 1 ["_law_many","_law_ties"] De)
  (po:PO O0 p O1) (n0:3≤n) (n1:n≤16) (f0:3≤hf) (f1:hf≤8) (w0:0≤way) (w1:way < 8) (hE:Hs n es) (hel:es.length≤120) (q:Qt O0 p Φ) :
  DW (zW P w K mg base f cdv A outer s H E O0 Ξ) [some (.raw (.ref p)),some (.int 16),some (.int n),some (.int hf),some (.int way),some (.lst (es.map AM)),v6,none,none,none,none,none] O1 [HB 5,HB 6,HB 7,HB 8,HB 9,HB 10,HB 11,HB 12,HB 13,HB 14] { nx:=N,rt:=Φ }:=by
 have sb:=AT
 refine AC (AG 7 (Bx CW (ET.we AA (Ap G hr xf po (ev 0) AA (by decide) (by decide) fun r O2 r0 r1 po2 => Di _ ?_))) BB.nd)
 refine AC (ER (i:=8) (nc:=["_law_pair"]) (cap:=[("_law_pen",0),("_law_share",7)]) (by rfl) BB.nd rfl (CD (AB Cr) EZ (by decide +kernel)) (EI.wi (Ak (ev 5)) ?_))
 refine ⟨fun i acc O' => ∃ qs:List (Int × Int),acc = qs.map AM∧Hs n qs∧qs.length≤i∧i≤120∧PO O0 p O',⟨[],rfl,(fun _ h => by cases h),by simp,by omega,po2⟩,?_,?_⟩
 ·rintro i t acc O' c e ⟨qs,rfl,hq,hl,_,po⟩ hc
  rw [List.getElem?_map] at e
  cases ee:es[i]? with
  | none => rw [ee] at e; cases e
  | some z =>
   rw [ee] at e
   cases e
   have hi:=(List.getElem?_eq_some_iff.mp ee).1
   refine ⟨[some (AM z),some (.raw (.ref p)),some (.int (2 + r))],fun X' Oe He is => ?_⟩
   obtain ⟨cl,s',H',fp,rfl⟩:=is
   refine ⟨AS 0 YK (by decide),Ie (Lb HE (Af _) (QS G hr DX po hc (ev 1) (ev 2) (by omega) (by omega) fun r' O3 r0' r1' po3 hc3 => ET.we AA (IY _ ⟨_,rfl,?_⟩)))⟩
   refine Uv (fun h => ?_) (fun h => ?_)
   ·rintro X' Oe He ⟨cl,s',H',fp,rfl⟩
    refine ET.we (ev 0) ⟨O3,rfl,hc3,by rw [List.length_map]; omega,qs ++ [z],by rw [List.map_append]; rfl,fun y hy => ?_,by simp; omega,by omega,po3⟩
    rcases List.mem_append.mp hy with hy | hy
    ·exact hq y hy
    ·rw [List.mem_singleton.mp hy]; exact hE z (List.mem_of_getElem? ee)
   ·exact ⟨O3,rfl,hc3,qs,rfl,hq,by omega,by omega,po3⟩
 ·rintro acc O' ⟨ds,rfl,hD,hdl,_,po3⟩
  rw [List.length_map] at hdl
  refine AC (AG 9 (Bx CW (ET.we AA (Ap G hr xf po3 (ev 0) (ES Tx.nMax rfl AA (DV (BF (ev 3) AA) AA ⟨by decide,by decide⟩)) (by omega) (by omega) fun st O4 t0 t1 po4 => Di _ ?_))) BB.nd)
  obtain ⟨L,a1,a2,a3,a4⟩:=Qy (n:=n) (es:=es) (ds:=ds) (way:=way) n0 n1 hE hel hD (by omega) w0 w1
  refine AC (AG 10 (ET.we (Ib (ts:=(Qx n es ds).map fun L => T.lst (L.map AM)) (Az (AE (ev 8) (AE ?_ (AE (ev 5) (AE (ev 8) (AE (Az AD (Nat.zero_le _)) (AE (Az AD (Nat.zero_le _)) (AE (ev 8) (AE ?_ AD)))))))) (Nat.le_trans (show 8≤1000 by decide) (Nat.le_of_lt sb))) (ev 4) a1) ?_) BB.nd)
  ·exact Ai Gr (hr.mono (by decide)) xf (AE (ev 2) (AE AA (AE AA AD))) ⟨n,1,0,rfl,by omega,by omega,rfl⟩
  ·exact Ai Gr (hr.mono (by decide)) xf (AE (ev 2) (AE AA (AE AA AD))) ⟨n,1,0,rfl,by omega,by omega,rfl⟩
  ·exact WD hr xf Tx G Gr Gw po4 n0 n1 f0 f1 hE hel a2 a3 a4 q
def Qz:Br:=fun ts O Φ _ => ∃ (p:Addr) (xs:List T),ts = [.raw (.ref p),.int 16]∧O p = some xs∧Gv xs∧Qt O p Φ
theorem Kc {fd:FuncData} (F:Fun K "_law_some_web" "_law_some_web" Cr f fd) (Tx:Txt mg) (G:FnT P w K mg base "_law_draw" 2 ["_law_pen","_law_many"] CF) (Gr:FnT P w K mg base "_law_round" 1 ["_law_n","_law_step","_law_begin"] FX) (Gw:FnT P w K mg base "_law_web_of" 1 ["_law_many","_law_ties"] De):FnOk P w K mg base (CXe P w) 3 f fd ["_law_pen","_law_most"] (By K Qz):=by
 refine AV F BB ?_ ?_
 ·rintro ts O Φ Ξ ⟨p,xs,rfl,_⟩
  rfl
 ·rintro cdv A outer s H E O Ξ hr xf _ Φ ⟨p,xs,rfl,hp,px,q⟩
  have sb:=AT
  refine AC (AG 2 (Bx CW (ET.we AA (Ap G hr xf (PO.start hp px) (ev 0) (BF (ev 1) AA) (by decide) (by decide) fun r O1 r0 r1 po1 => Di _ ?_))) BB.nd)
  have n0:3≤3 + r:=by omega
  have n1:3 + r≤16:=by omega
  refine AC (AG 3 (ET.we (ES Tx.nMax rfl AA (DV (ev 2) AA ⟨by decide,by decide⟩)) ?_) BB.nd)
  have f0:3≤max 3 ((3 + r) / 2):=by omega
  have f1:max 3 ((3 + r) / 2)≤8:=by omega
  refine AC (AG 4 (Ap G hr xf po1 (ev 0) AA (by decide) (by decide) fun way O2 w0 w1 po2 => ?_) BB.nd)
  refine AC (AG 5 (EL (BE ⟨Nat.zero_le _,fun l hl => ?_⟩)) BB.nd)
  refine AC (BP Ac.own rfl (EI.wi (As Tx.nRange (ev 2) ⟨by omega,by omega⟩) ⟨fun i ρ' O' => i≤16∧∃ (es:List (Int × Int)) (v6:Option T),ρ' = [some (.raw (.ref p)),some (.int 16),some (.int (3 + r)),some (.int (max 3 ((3 + r) / 2))),some (.int way),some (.raw (.ref l)),v6,none,none,none,none,none]∧O' = Ae O2 l (es.map AM)∧Hs (3 + r) es∧2 * es.length + i = i * i,⟨by omega,[],none,rfl,rfl,(fun _ h => by cases h),rfl⟩,?_,?_⟩))
  ·rintro i t _ _ e ⟨_,es,v6,rfl,rfl,hE,hlen⟩
   obtain ⟨hi,rfl⟩:=EQ e
   have hi2:i < 16:=by omega
   have hsq:i * i≤15 * 15:=Nat.mul_le_mul (by omega) (by omega)
   refine ⟨[some (.raw (.ref p)),some (.int 16),some (.int (3 + r)),some (.int (max 3 ((3 + r) / 2))),some (.int way),some (.raw (.ref l)),some (.int (0 + i)),none,none,none,none,none],AS 6 BB.nd (by show 6 < 12; decide),?_⟩
   refine AF (Ao (Hj (ET.we (ev 5) ⟨l,rfl,⟨_,AH⟩,ET.we (Dq ["_law_other"] [("_law_one",6)] (List.range (0 + (i:Int)).toNat) (fun j => .int (0 + (j:Int))) (fun j => AM (0 + (j:Int),0 + (i:Int))) rfl (CD (AB Cr) EZ (by decide +kernel)) (As Tx.nRange (ev 6) ⟨by omega,by omega⟩) (by simp; omega) fun x hx => ⟨[some (.int (0 + (x:Int))),some (.int (0 + (i:Int)))],fun X' Oe He is O' => ?_⟩) ⟨_,_,rfl,AH,by simp only [List.length_map,List.length_range]; omega,?_⟩⟩)))
   ·obtain ⟨cl,s',H',fp,rfl⟩:=is
    exact ⟨AS 0 YJ (by decide),DY (ev 0) (ev 1)⟩
   ·refine ⟨by omega,es ++ (List.range (0 + (i:Int)).toNat).map (fun (j:Nat) => (0 + (j:Int),0 + (i:Int))),_,rfl,?_,Eb hE (fun z hz => ?_),?_⟩
    ·rw [Ba,List.map_append,List.map_map]; rfl
    ·obtain ⟨j,hj,rfl⟩:=List.mem_map.mp hz
     have hj:=List.mem_range.mp hj
     show 0≤0 + (j:Int)∧0 + (j:Int) < 3 + r∧0≤0 + (i:Int)∧0 + (i:Int) < 3 + r
     omega
    ·rw [List.length_append,List.length_map,List.length_range]
     have e1:(i + 1) * (i + 1) = i * i + 2 * i + 1:=by rw [Nat.succ_mul,Nat.mul_succ]; omega
     rw [e1]
     omega
  ·rintro _ _ ⟨_,es,v6,rfl,rfl,hE,hlen⟩
   rw [BR] at hlen
   have hsq:(3 + r).toNat * (3 + r).toNat≤16 * (3 + r).toNat:=Nat.mul_le_mul_right _ (by omega)
   refine CM (p:=l) (n:=5) (ts:=es.map AM) AH ?_ rfl ?_
   ·obtain ⟨ys,rfl,_⟩:=po2
    by_cases hb:l = p
    ·rw [hb,AH] at hl; cases hl
    ·rw [AX hb] at hl; exact hl
   ·rw [At hl]
    exact WF hr xf Tx G Gr Gw po2 n0 n1 f0 f1 w0 w1 hE (by omega) q
end
end K11
namespace L2
open PySem PySem.Spec PySem.Calls PyProof.Rows
section
variable {prog:Program} {w:World} {A:Around} {R:Result→Shared→Prop} {I:Addr} {fp wr:List Addr} {n:Nat} {P:Nat→Value→Prop} {St:Nat→Heap→Prop}
end
section
variable {prog:Program} {w:World} {A:Around} {E:Value→Shared→Prop} {s:Shared}
end
section
variable {M:Model} {A:Around} {E:Value→Shared→Prop} {s:Shared}
theorem JJ {pos:Pos} {id:String} {k:Str} {x y:Sem Value} {Q:Value→Shared→Prop}
  (h:wpAny M A x (fun v s₁ => wpAny M A y (fun d s₂ => wpAny M A (call (.builtin id) [v] [(k,d)]) Q E s₂) E s₁) E s) :
  wpAny M A (callWith pos (.builtin id) [] [(false,x)] [(some k,y)]) Q E s:=by
 unfold callWith
 refine wpAny_bind (wpAny_holding (evalArgs_kw rfl (Calls.spliced_cons (wpAny_mono h (fun v s₁ h₁ => ?_) fun _ _ e => e))))
 refine Calls.spliced_nil (wpAny_evalAll_cons (wpAny_mono h₁ (fun d s₂ h₂ => wpAny_evalAll_nil ?_) fun _ _ e => e))
 refine wpAny_bind (wpAny_standAt ?_)
 refine wpAny_bind (wpAny_pure ?_)
 exact wpAny_bind (wpAny_mono h₂ (fun r s₃ hr => wpAny_bind (wpAny_holding (wpAny_point (wpAny_pure hr)))) fun _ _ e => e)
end
section
variable {X:Cx}
def Zb:Option Int→V
 | none => .non
 | some m => .int m
end
end L2
namespace L2.TL
open PySem PySem.Spec PySem.Calls PyProof.Rows
section
variable {Z:Zx} {ρ:List (Option T)} {O:AL} {e:Expr} {p pos kp np:Pos} {ns:List Int} {j:Nat}
def Bv:Option Int→T
 | none => .non
 | some m => .int m
end
end L2.TL
namespace L2
open PySem PySem.Spec PySem.Calls PyProof.Rows
section
variable {prog:Program} {w:World} {A:Around} {R:Result→Shared→Prop} {I:Addr} {fp wr:List Addr} {n:Nat} {P:Nat→Value→Prop} {St:Nat→Heap→Prop}
theorem Ec:(toString "max" ++ toString ".loop" : String) = "max.loop":=by decide
theorem OR {kw:List (Str × Value)} (W:Walks prog w A.in1 I fp wr n P St) (bt:Nat→Nat→Bool) (hcmp:CmpOf prog w A.in1 .Gt P bt) (S:Addr) (hSf:S ∉ fp) :
  ∀ (k j:Nat) (s:Shared) (vb:Value) (c:Nat),n - (j + 1) = k→j + 1≤n→St (j + 1) s.heap→P (argBest bt j) vb →
  s.heap.get? S = some { cls:=.type "list",dict:=none,data:=.seq #[vb,vb] c,slots:=#[] } →
  (∀ v h' tk,P (argBest bt (n - 1)) v→(∀ b o,b ∉ wr→b≠S→s.heap.get? b = some o→h'.get? b = some o)→R (.ok (.ret v)) { s with heap:=h',toks:=tk }) →
  codeAny (model prog w) A (.builtin "max.loop" ⟨[.ref I,.none,.ref S],kw⟩) R s:=by
 have hSw:S ∉ wr:=fun h => hSf (W.sub _ h)
 intro k
 induction k with
 | zero =>
  intro j s vb c hk hj hst hPb hS hR
  have hin:j + 1 = n:=by omega
  refine codeAny_builtin F.entry_max_loop ?_
  rw [Around.under_plainId F.plain_max_loop _]
  show wpAny _ A.in1 (seqItems? (.ref S) >>= _) _ _ s
  refine wpAny_bind (wpAny_seqItems hS rfl ?_)
  show wpAny _ A.in1 (tryCatch (pyNext (.ref I)) _ >>= _) _ _ s
  refine wpAny_bind (wpAny_tryCatch (W.done s _ _ (hin ▸ hst) fun h' tk hk' => ?_))
  have hS':=hk' S _ hSw hS
  show wpAny _ A.in1 (updateSeq S (fun _ => #[]) >>= _) _ _ _
  refine wpAny_bind (wpAny_updateSeq hS' rfl (wpAny_bind (wpAny_letGo (wpAny_pure ?_))))
  exact hR vb _ tk (by rw [← hin]; exact hPb) fun b o hbw hbS e => (Heap.get?_update_other _ _ (Ne.symm hbS)).trans (hk' b o hbw e)
 | succ k ih =>
  intro j s vb c hk hj hst hPb hS hR
  have hlt:j + 1 < n:=by omega
  refine codeAny_builtin F.entry_max_loop ?_
  rw [Around.under_plainId F.plain_max_loop _]
  show wpAny _ A.in1 (seqItems? (.ref S) >>= _) _ _ s
  refine wpAny_bind (wpAny_seqItems hS rfl ?_)
  show wpAny _ A.in1 (tryCatch (pyNext (.ref I)) _ >>= _) _ _ s
  refine wpAny_bind (wpAny_tryCatch (W.item (j + 1) s _ _ hlt hst fun v h' tk hP hst' hk' => ?_))
  have hS':=hk' S _ hSw hS
  show wpAny _ A.in1 (tryCatch (holding [v,v] (richCompare .Gt v vb >>= _)) _ >>= _) _ _ _
  refine wpAny_bind (wpAny_tryCatch (wpAny_holding (wpAny_bind (hcmp (j + 1) (argBest bt j) v vb _ _ _ hP hPb ?_))))
  refine wpAny_bind (wpAny_holding (wpAny_truthy_bool (wpAny_bind (wpAny_letGo (wpAny_pure ?_)))))
  cases hb:bt (j + 1) (argBest bt j) with
  | true =>
   simp only [if_true]
   refine wpAny_bind (wpAny_updateSeq hS' rfl (wpAny_bind (wpAny_letGo ?_)))
   rw [Ec]
   refine wpAny_pure ⟨plainId_quiet F.plain_max_loop _,ih (j + 1) _ v _ (by omega) hlt (W.frame _ _ _ hst' fun b hbf o e => ?_) (by simp only [argBest,hb,if_true]; exact hP) (Heap.get?_update_self _ hS' rfl) fun v' h'' tk'' hP' hk'' => ?_⟩
   ·exact (Heap.get?_update_other _ _ (fun h:S = b => hSf (by rw [h]; exact hbf))).trans e
   ·exact hR v' h'' tk'' hP' fun b o hbw hbS e => hk'' b o hbw hbS ((Heap.get?_update_other _ _ (Ne.symm hbS)).trans (hk' b o hbw e))
  | false =>
   simp only [Bool.false_eq_true,if_false]
   refine wpAny_bind (wpAny_letGo ?_)
   rw [Ec]
   refine wpAny_pure ⟨plainId_quiet F.plain_max_loop _,ih (j + 1) _ vb c (by omega) hlt hst' (by simp only [argBest,hb,Bool.false_eq_true,if_false]; exact hPb) hS' fun v' h'' tk'' hP' hk'' => ?_⟩
   exact hR v' h'' tk'' hP' fun b o hbw hbS e => hk'' b o hbw hbS (hk' b o hbw e)
theorem ME {nm:Str} {d:Value} (W:Walks prog w A.in1 I fp wr n P St) (bt:Nat→Nat→Bool) (hcmp:CmpOf prog w A.in1 .Gt P bt) (S:Addr) (hSf:S ∉ fp) {s:Shared} {c:Nat} (hst:St 0 s.heap)
  (hS:s.heap.get? S = some { cls:=.type "list",dict:=none,data:=.seq #[] c,slots:=#[] })
  (h0:n = 0→∀ h' tk,(∀ b o,b ∉ wr→b≠S→s.heap.get? b = some o→h'.get? b = some o)→R (.ok (.ret d)) { s with heap:=h',toks:=tk })
  (hR:0 < n→∀ v h' tk,P (argBest bt (n - 1)) v→(∀ b o,b ∉ wr→b≠S→s.heap.get? b = some o→h'.get? b = some o)→R (.ok (.ret v)) { s with heap:=h',toks:=tk }) :
  codeAny (model prog w) A (.builtin "max.loop" ⟨[.ref I,.none,.ref S],[(nm,d)]⟩) R s:=by
 have hSw:S ∉ wr:=fun h => hSf (W.sub _ h)
 refine codeAny_builtin F.entry_max_loop ?_
 rw [Around.under_plainId F.plain_max_loop _]
 show wpAny _ A.in1 (seqItems? (.ref S) >>= _) _ _ s
 refine wpAny_bind (wpAny_seqItems hS rfl ?_)
 show wpAny _ A.in1 (tryCatch (pyNext (.ref I)) _ >>= _) _ _ s
 by_cases hn:0 < n
 ·refine wpAny_bind (wpAny_tryCatch (W.item 0 s _ _ hn hst fun v h' tk hP hst' hk' => ?_))
  have hS':=hk' S _ hSw hS
  show wpAny _ A.in1 (updateSeq S (fun _ => #[v,v]) >>= _) _ _ _
  refine wpAny_bind (wpAny_updateSeq hS' rfl ?_)
  rw [Ec]
  refine wpAny_pure ⟨plainId_quiet F.plain_max_loop _,OR W bt hcmp S hSf _ 0 _ v _ rfl hn (W.frame _ _ _ hst' fun b hbf o e => ?_) hP (Heap.get?_update_self _ hS' rfl) fun v' h'' tk'' hP' hk'' => ?_⟩
  ·exact (Heap.get?_update_other _ _ (fun h:S = b => hSf (by rw [h]; exact hbf))).trans e
  ·exact hR hn v' h'' tk'' hP' fun b o hbw hbS e => hk'' b o hbw hbS ((Heap.get?_update_other _ _ (Ne.symm hbS)).trans (hk' b o hbw e))
 ·have e0:n = 0:=by omega
  refine wpAny_bind (wpAny_tryCatch (W.done s _ _ (by rw [e0]; exact hst) fun h' tk hk' => ?_))
  show wpAny _ A.in1 (rule _ >>= fun _ => ret d) _ _ _
  exact wpAny_bind (wpAny_rule (wpAny_pure (h0 e0 h' tk fun b o hbw _ e => hk' b o hbw e)))
end
section
variable {prog:Program} {w:World} {A:Around} {E:Value→Shared→Prop} {s:Shared}
theorem OS {x d:Value} {Q:Value→Shared→Prop}
  (h:wpAny (model prog w) A.in1 (pyIter x) (fun it s₂ => ∃ I fp wr n P St bt,it = .ref I∧Walks prog w A.in1 I fp wr n P St∧St 0 s₂.heap∧(∀ b∈fp,b < s₂.heap.objs.size)∧CmpOf prog w A.in1 .Gt P bt ∧
   (n = 0→∀ h' tk,(∀ b o,b ∉ wr→s₂.heap.get? b = some o→h'.get? b = some o)→Q d { s₂ with heap:=h',toks:=tk }) ∧
   (0 < n→∀ v h' tk,P (argBest bt (n - 1)) v→(∀ b o,b ∉ wr→s₂.heap.get? b = some o→h'.get? b = some o)→Q v { s₂ with heap:=h',toks:=tk })) E s) :
  wpAny (model prog w) A (call (.builtin "max") [x] [("default",d)]) Q E s:=by
 refine wpAny_call (codeAny_call_builtin F.plain_max F.entry_max ?_)
 refine wpAny_of_eq (show checkBuiltinCall "max" ⟨[x],[("default",d)]⟩ = pure () by kernel_rfl) ?_
 show wpAny _ A.in1 (Builtin.Builtins.bindParams "max" ["key","default"] 0 ⟨[],[("default",d)]⟩ >>= _) _ _ s
 refine wpAny_bind (wpAny_of_eq (show Builtin.Builtins.bindParams "max" ["key","default"] 0 ⟨[],[("default",d)]⟩ = pure [none,some d] from rfl) ?_)
 refine wpAny_bind (wpAny_pure ?_)
 refine wpAny_bind (wpAny_mono h (fun it s₂ h₂ => ?_) fun _ _ e => e)
 obtain ⟨I,fp,wr,n,P,St,bt,rfl,W,hst,hfp,hcmp,q0,q1⟩:=h₂
 refine wpAny_bind (wpAny_newObj_type ?_)
 have hSf:s₂.heap.objs.size ∉ fp:=fun hm => Nat.lt_irrefl _ (hfp _ hm)
 rw [Ec]
 refine wpAny_pure ⟨plainId_quiet F.plain_max_loop _,ME W bt hcmp s₂.heap.objs.size hSf (W.frame _ _ _ hst fun b _ o e => Heap.get?_push_of_some _ e) (Heap.get?_push_size _ rfl) (fun e0 h' tk hk => ?_) fun hn v h' tk hP hk => ?_⟩
 ·exact q0 e0 h' tk fun b o hbw e => hk b o hbw (Nat.ne_of_lt (Heap.lt_size e)) (Heap.get?_push_of_some _ e)
 ·exact q1 hn v h' tk hP fun b o hbw e => hk b o hbw (Nat.ne_of_lt (Heap.lt_size e)) (Heap.get?_push_of_some _ e)
end
section
variable {X:Cx}
def Kd (ns:List Int):Option Int→Prop
 | none => ns = []
 | some m => EJ ns m
theorem Sz {e:Expr} {te:TE} {p pos kp np:Pos} {j:Nat} (hc:X.calm = true) (hg:Gl X "max") (hm:X.mg "max" = none) (he:PE X e te) (hn:TL.Bb e = true) :
  PE X (.Call (.Name "max" p) [e] [⟨some "default",.Constant .none j np,kp⟩] pos) (fun σ H Q => te σ H fun v H1 => ∃ (a:Addr) (ns:List Int),v = .ref a∧XW X.K H1 a (ns.map V.int)∧∀ m,Kd ns m→Q (Zb m) H1):=by
 intro pins s σ H Q I h
 refine wpAny_Call_Name_kw (Dk I hg hm TL.VY ?_ (by decide) (by decide))
 rw [TL.Ep hn]
 refine JJ (Av (he pins s σ H _ I h) fun u s1 ⟨v,H1,I1,r1,q1⟩ => ?_)
 obtain ⟨a,ns,rfl,hq,q⟩:=q1
 cases r1
 refine wpAny_bind ?_
 show wpAny _ _ (eval (.Constant .none j np) X.env) _ _ _
 refine wpAny_pure (wpAny_bind (wpAny_standAt (wpAny_pure ?_)))
 obtain ⟨its,rv,lt,wk⟩:=I1.walk hq
 have hl:its.length = ns.length:=by have:=rv.length; rw [List.length_map] at this; exact this.symm
 refine OS (wk X.A.in1 _ _ (I1.ok.hd hc) fun o St W st => ⟨_,_,_,_,_,_,_,rfl,W,st,fun b hb => ?_,CmpOf.ints_gt (fun i => ns.getD i 0) (fun i v hv => CK rv i v hv),fun e0 h' tk hk => ?_,fun hn v h' tk hP hk => ?_⟩)
 ·show b < (s1.heap.push o).objs.size
  rw [Heap.size_push]
  simp only [List.mem_cons,List.not_mem_nil,or_false] at hb
  rcases hb with rfl | rfl
  ·exact Nat.lt_succ_self _
  ·exact Nat.lt_succ_of_lt lt
 ·exact ⟨.non,H1,I1.kept (t':=tk) (IS hk),rfl,q none (List.eq_nil_of_length_eq_zero (by omega))⟩
 ·obtain ⟨t,rfl⟩:=CK rv _ v hP
  obtain ⟨b1,b2⟩:=argBest_gt (fun i => ns.getD i 0) (its.length - 1)
  exact ⟨.int _,H1,I1.kept (t':=tk) (IS hk),⟨t,rfl⟩,q (some _) ⟨GB (by omega),fun n hn => by
   obtain ⟨j,hj,rfl⟩:=List.getElem_of_mem hn
   have:=b2 j (by omega)
   simpa [List.getD,hj] using this⟩⟩
end
end L2
namespace L2.TL
open PySem PySem.Spec PySem.Calls PyProof.Rows
section
variable {Z:Zx} {ρ:List (Option T)} {O:AL} {e:Expr} {p pos kp np:Pos} {ns:List Int} {j:Nat}
theorem MF {a b:Option Int} (ha:Kd ns a) (hb:Kd ns b):a = b:=by
 cases a with
 | none =>
  cases b with
  | none => rfl
  | some m => rw [show ns = [] from ha] at hb; exact absurd hb.1 (by simp)
 | some m =>
  cases b with
  | none => rw [show ns = [] from hb] at ha; exact absurd ha.1 (by simp)
  | some k => rw [Int.le_antisymm (ha.2 k hb.1) (hb.2 m ha.1)]
theorem TB {m:Option Int} (hm:Kd ns m) (mm:Z.X.mg "max" = none) (hc:Z.X.calm = true) (h:ET Z ρ O e (.lst (ns.map T.int))) (hg:Gl Z.X "max":=by rfl) (hn:Bb e = true:=by rfl) :
  ET Z ρ O (.Call (.Name "max" p) [e] [⟨some "default",.Constant .none j np,kp⟩] pos) (Bv m):=fun Φ q =>
 PE.weak (Sz hc hg mm (h (fun t O' => t = .lst (ns.map T.int)∧O' = O) ⟨rfl,rfl⟩) hn) fun σ H Q k => ⟨k.1,by
  rintro v H' _ _ ⟨rfl,rfl⟩ f r
  obtain ⟨a,xs,rfl,h1,o1,r1⟩:=r.lst_inv
  cases Reps.ints r1
  refine ⟨a,ns,rfl,.inl (.inl (.inl h1)),fun m' hm' => ?_⟩
  cases MF hm' hm
  refine k.2 _ H' _ _ q f ?_
  cases m with
  | none => exact .non
  | some m => exact .int m⟩
end
section
variable {X:Cx}
end
section
variable {Z:Zx} {ρ:List (Option T)} {O:AL} {e a b hi:Expr} {p p2 pos:Pos} {t:T} {ts:List T} {i:Int} {Φ:BX}
theorem JK (ha:ET Z ρ O a (.lst [t])) (hb:ET Z ρ O b (.int i)) (hi:0≤i∧i≤1000):ET Z ρ O (.BinOp a .Mult b pos) (.lst (List.replicate i.toNat t)):=fun Φ k =>
 Bx My (ET.we ha (ET.we hb fun H v w Q ok r1 r2 q => by
  obtain ⟨a,xs,rfl,h1,_,r1⟩:=r1.lst_inv
  obtain ⟨v,rfl,g⟩:=r1.one_inv
  exact ⟨a,i,v,rfl,r2.int_inv,.inl (.inl h1),hi,fun l hl => q _ _ _ _ k (.new ok hl) (.lst AJ (ok.none_of hl) ((Rep.repl g _).kp (BT ok hl) ok))⟩))
theorem WH (h:ET Z ρ O e (.lst ts)) (h2:ET Z ρ O hi (.int i)):ET Z ρ O (.Subscript e (.Slice none (some hi) none p2) pos) (.lst (Gs ts none (some i))):=fun Φ k => by
 refine PE.weak (Fg ID (BN (ρ:=ρ)) MW (FJ (BN (ρ:=ρ)))) fun σ H0 Q q => ?_
 refine ⟨O,_,h (fun t O' => t = .lst ts∧O' = O) ⟨rfl,rfl⟩,q.1,?_⟩
 rintro v H1 _ _ ⟨rfl,rfl⟩ f1 r1
 refine ⟨_,_,h2 (fun t O' => t = .int i∧O' = _) ⟨rfl,rfl⟩,q.1.step f1,?_⟩
 rintro v2 H2 _ _ ⟨rfl,rfl⟩ f2 r2
 obtain ⟨a,xs,rfl,h1,_,r1⟩:=(r1.kp f2.kp f1.ok).lst_inv
 have ff:=f1.trans f2
 exact ⟨i,r2.int_inv,a,xs,rfl,.inl (.inl h1),fun l hl => q.2 _ _ _ _ k (ff.trans (.new ff.ok hl)) (.lst AJ (ff.ok.none_of hl) ((r1.cut).kp (BT ff.ok hl) ff.ok))⟩
end
section
variable {Z:Zx} {ρ:List (Option T)} {O:AL} {e lo:Expr} {p2 pos:Pos} {ts:List T} {i:Int}
theorem TC (h:ET Z ρ O e (.lst ts)) (h2:ET Z ρ O lo (.int i)):ET Z ρ O (.Subscript e (.Slice (some lo) none none p2) pos) (.lst (Gs ts (some i) none)):=fun Φ k => by
 refine PE.weak (Fg ID (BN (ρ:=ρ)) (FJ (BN (ρ:=ρ))) MW) fun σ H0 Q q => ?_
 refine ⟨O,_,h (fun t O' => t = .lst ts∧O' = O) ⟨rfl,rfl⟩,q.1,?_⟩
 rintro v H1 _ _ ⟨rfl,rfl⟩ f1 r1
 refine ⟨_,_,h2 (fun t O' => t = .int i∧O' = _) ⟨rfl,rfl⟩,q.1.step f1,?_⟩
 rintro v2 H2 _ _ ⟨rfl,rfl⟩ f2 r2
 obtain ⟨a,xs,rfl,h1,_,r1⟩:=(r1.kp f2.kp f1.ok).lst_inv
 have ff:=f1.trans f2
 exact ⟨i,r2.int_inv,a,xs,rfl,.inl (.inl h1),fun l hl => q.2 _ _ _ _ k (ff.trans (.new ff.ok hl)) (.lst AJ (ff.ok.none_of hl) ((r1.cut).kp (BT ff.ok hl) ff.ok))⟩
theorem RA {ts:List T} {k:Nat}:Gs ts (some (k:Int)) none = ts.drop k:=by
 unfold Gs
 rw [HT.JY,HT.MV]
 rcases Nat.le_total k ts.length with h | h
 ·rw [Nat.min_eq_left h,List.take_of_length_le (by rw [List.length_drop]; exact Nat.le_refl _)]
 ·rw [Nat.min_eq_right h,Nat.sub_self,List.take_zero,List.drop_of_length_le h]
end
end L2.TL
namespace K11
open PySem L2 L2.TL PySem.Spec PyProof.Rows Gr
def HC (b:Int):Nat→Int
 | 0 => 0
 | n + 1 => HC b n + b ^ n
def grown (d:Int) (g:Nat):Int:=if g % 2 = 1 then 1 + d * HC (d - 1) (g / 2) else 2 * HC (d - 1) (g / 2)
section
variable {P:Program} {w:World} {K:PySem.W.Frag} {mg:Str→Option Value} {base:Heap} {CN CE CP CL:Addr}
def RB (CN:Addr) (a b:Int):Br:=fun ts O Φ Ξ => ∃ t,ts = [t]∧Aa t = false∧(Bu t a b = true→Φ .non O)∧(Bu t a b = false→Ξ (.ref CN) O)
theorem WJ:FnScope ["d"] ["d"] (AB QH):=⟨rfl,rfl,rfl,by decide +kernel,rfl,by decide +kernel,by decide +kernel⟩
theorem TD {f:Addr} {fd:FuncData} (F:Fun K "need_ties" "need_ties" QH f fd) (Tx:Txt mg) (G:FnT P w K mg base "need_number" 2 ["thing","least","most"] (NF CN)):FnOk P w K mg base (CXe P w) 3 f fd ["d"] (By K (RB CN 2 15)):=by
 refine AV F WJ ?_ ?_
 ·rintro ts O Φ Ξ ⟨t,rfl,_⟩
  rfl
 ·rintro cdv A outer s H E O Ξ hr xf _ Φ ⟨t,rfl,ht,q1,q2⟩
  exact AF (Ao (AN G hr xf (EA.wa (AE (ev 0) (AE (Cg Tx.iLT) (AE (Cg Tx.iMT) AD))) ⟨t,2,15,rfl,ht,q1,q2⟩)))
theorem WK:FnScope ["g"] ["g"] (AB QI):=⟨rfl,rfl,rfl,by decide +kernel,rfl,by decide +kernel,by decide +kernel⟩
theorem TF {f:Addr} {fd:FuncData} (F:Fun K "need_ring" "need_ring" QI f fd) (Tx:Txt mg) (G:FnT P w K mg base "need_number" 2 ["thing","least","most"] (NF CN)):FnOk P w K mg base (CXe P w) 3 f fd ["g"] (By K (RB CN 3 16)):=by
 refine AV F WK ?_ ?_
 ·rintro ts O Φ Ξ ⟨t,rfl,_⟩
  rfl
 ·rintro cdv A outer s H E O Ξ hr xf _ Φ ⟨t,rfl,ht,q1,q2⟩
  exact AF (Ao (AN G hr xf (EA.wa (AE (ev 0) (AE (Cg Tx.iLR) (AE (Cg Tx.iMR) AD))) ⟨t,3,16,rfl,ht,q1,q2⟩)))
def YM (CN:Addr):Br:=fun ts O Φ Ξ => ∃ t u,ts = [t,u]∧Aa t = false∧Aa u = false∧(Bu t 2 15 = true→Bu u 3 16 = true→Φ .non O)∧(Bu t 2 15 = false∨Bu u 3 16 = false→Ξ (.ref CN) O)
theorem Zc:FnScope ["d","g"] ["d","g"] (AB ZW):=⟨rfl,rfl,rfl,by decide +kernel,rfl,by decide +kernel,by decide +kernel⟩
theorem YN {f:Addr} {fd:FuncData} (F:Fun K "need_ties_and_ring" "need_ties_and_ring" ZW f fd) (G:FnT P w K mg base "need_ties" 3 ["d"] (RB CN 2 15)) (G2:FnT P w K mg base "need_ring" 3 ["g"] (RB CN 3 16)):FnOk P w K mg base (CXe P w) 4 f fd ["d","g"] (By K (YM CN)):=by
 refine AV F Zc ?_ ?_
 ·rintro ts O Φ Ξ ⟨t,u,rfl,_⟩
  rfl
 ·rintro cdv A outer s H E O Ξ hr xf _ Φ ⟨t,u,rfl,ht,hu,q1,q2⟩
  refine AC (Ao (AN G hr xf (EA.wa (AE (ev 0) AD) ⟨t,rfl,ht,fun h => ?_,fun h => q2 (.inl h)⟩)))
  exact AF (Ao (AN G2 hr xf (EA.wa (AE (ev 1) AD) ⟨u,rfl,hu,fun h2 => q1 h h2,fun h => q2 (.inr h)⟩)))
def UG:Br:=KA fun ts r => ∃ (b:Int) (m:Nat),ts = [.int b,.int (m:Int)]∧(0≤b∧b < 100)∧m≤100∧r = .int (HC b m)
def Zd:List Str:=["base","many","total","power","step"]
theorem Ht:FnScope Zd ["base","many"] (AB Vh):=⟨rfl,rfl,rfl,by decide +kernel,rfl,by decide +kernel,by decide +kernel⟩
theorem WL {f:Addr} {fd:FuncData} (F:Fun K "sum_of_powers" "sum_of_powers" Vh f fd) (Tx:Txt mg):FnOk P w K mg base (CXe P w) 1 f fd ["base","many"] (By K UG):=by
 refine AV F Ht ?_ ?_
 ·rintro ts O Φ Ξ ⟨r,⟨b,m,rfl,_⟩,_⟩
  rfl
 ·rintro cdv A outer s H E O Ξ hr xf _ Φ ⟨_,⟨b,m,rfl,hb,hm,rfl⟩,q⟩
  refine AC (AG 2 (ET.we AA ?_) Ht.nd)
  refine AC (AG 3 (ET.we AA ?_) Ht.nd)
  refine AC (BP Ac.own rfl (EI.wi (As Tx.nRange (ev 1) ⟨by omega,by omega⟩) ⟨fun i ρ' O' => ∃ v4,ρ' = [some (.int b),some (.int (m:Int)),some (.int (HC b i)),some (.int (b ^ i)),v4]∧O = O',⟨none,by rw [Int.pow_zero]; rfl,rfl⟩,?_,?_⟩))
  ·rintro i t _ _ e ⟨v4,rfl,rfl⟩
   refine ⟨[some (.int b),some (.int (m:Int)),some (.int (HC b i)),some (.int (b ^ i)),some t],AS 4 Ht.nd (by show 4 < 5; decide),?_⟩
   refine AC (GF 2 Ku rfl (ET.we (ev 3) (fun H v w Q ok r1 r2 acc => ⟨_,_,r1.int_inv,r2.int_inv,acc _ H (.int (HC b (i + 1))) _ ?_ (.refl ok) (.int _)⟩)) Ht.nd)
   refine AF (GF 3 PC rfl (ET.we (ev 0) (fun H v w Q ok r1 r2 acc => ⟨_,_,r1.int_inv,r2.int_inv,.inr ⟨by omega,by omega⟩,acc _ H (.int (b ^ (i + 1))) _ ⟨_,rfl,rfl⟩ (.refl ok) (by rw [Int.pow_succ]; exact .int _)⟩)) Ht.nd)
  ·rintro _ _ ⟨v4,rfl,rfl⟩
   refine AF (AR (ET.we (t:=.int (HC b m)) (ev 2 ?_) q))
   rw [BR,Int.toNat_natCast]
   rfl
def NM:Br:=KA fun ts r => ∃ (d:Int) (g:Nat),ts = [.int d,.int (g:Int)]∧(1≤d∧d < 100)∧g≤100∧r = .int (grown d g)
theorem NN:FnScope ["d","g","powers"] ["d","g"] (AB Ln):=⟨rfl,rfl,rfl,by decide +kernel,rfl,by decide +kernel,by decide +kernel⟩
theorem RC {f:Addr} {fd:FuncData} (F:Fun K "grown_places" "grown_places" Ln f fd) (G:FnT P w K mg base "sum_of_powers" 1 ["base","many"] UG):FnOk P w K mg base (CXe P w) 2 f fd ["d","g"] (By K NM):=by
 refine AV F NN ?_ ?_
 ·rintro ts O Φ Ξ ⟨r,⟨d,g,rfl,_⟩,_⟩
  rfl
 ·rintro cdv A outer s H E O Ξ hr xf _ Φ ⟨_,⟨d,g,rfl,hd,hg,rfl⟩,q⟩
  refine AC (AG 2 (ET.we (Ai G hr xf (AE (BF (ev 0) AA) (AE (DV (ev 1) AA ⟨by decide,by decide⟩) AD)) ⟨d - 1,g / 2,rfl,⟨by omega,by omega⟩,by omega,rfl⟩) ?_) NN.nd)
  refine AF (AR (ET.we (ET.cast (Ha (BO (DF (ev 1) AA (by decide)) AA) (fun _ => Al AA (BV (ev 0) (ev 2) (.inl ⟨by omega,by omega⟩))) (fun _ => BV AA (ev 2) (.inl ⟨by decide,by decide⟩))) ?_) q))
  unfold grown
  by_cases h:g % 2 = 1
  ·rw [if_pos h,decide_eq_true (by omega:(g:Int) % 2 = 1)]; rfl
  ·rw [if_neg h,decide_eq_false (by omega:¬ (g:Int) % 2 = 1)]; rfl
def UH:Br:=KA fun ts r => ∃ (d:Int) (g:Nat),ts = [.int d,.int (g:Int)]∧(2≤d∧d≤15)∧3≤g∧g≤16∧r = .int (grown d g)
theorem YO:FnScope ["d","g"] ["d","g"] (AB Vi):=⟨rfl,rfl,rfl,by decide +kernel,rfl,by decide +kernel,by decide +kernel⟩
theorem Hu {i a b:Int} (h0:a≤i) (h1:i≤b):Bu (.int i) a b = true:=by
 show (decide (a≤i) && decide (i≤b)) = true
 simp
 omega
theorem WM {f:Addr} {fd:FuncData} (F:Fun K "least_by_growth" "least_by_growth" Vi f fd) (G:FnT P w K mg base "need_ties_and_ring" 4 ["d","g"] (YM CN)) (G2:FnT P w K mg base "grown_places" 2 ["d","g"] NM):FnOk P w K mg base (CXe P w) 5 f fd ["d","g"] (By K UH):=by
 refine AV F YO ?_ ?_
 ·rintro ts O Φ Ξ ⟨r,⟨d,g,rfl,_⟩,_⟩
  rfl
 ·rintro cdv A outer s H E O Ξ hr xf _ Φ ⟨_,⟨d,g,rfl,hd,h3,hg,rfl⟩,q⟩
  have h1:Bu (.int d) 2 15 = true:=Hu hd.1 hd.2
  have h2:Bu (.int (g:Int)) 3 16 = true:=Hu (by omega) (by omega)
  refine AC (Ao (AN G hr xf (EA.wa (AE (ev 0) (AE (ev 1) AD)) ⟨_,_,rfl,rfl,rfl,fun _ _ => ?_,fun h => ?_⟩)))
  ·exact AF (AR (ET.we (Ai G2 (hr.mono (by decide)) xf (AE (ev 0) (AE (ev 1) AD)) ⟨d,g,rfl,⟨by omega,by omega⟩,by omega,rfl⟩) q))
  ·rw [h1,h2] at h
   rcases h with h | h <;> cases h
def TH (d many:Int):List Int:=((List.range 14).filter fun k => decide (grown d (k + 3)≤many)).map fun (k:Nat) => 3 + (k:Int)
def Dj (p:Nat→Bool):Nat→Option Nat
 | 0 => none
 | n + 1 => if p n = true then some n else Dj p n
theorem Gd {p:Nat→Bool}:∀ {n m:Nat},Dj p n = some m→m < n∧p m = true∧∀ k,k < n→p k = true→k≤m
 | n + 1,m,h => by
  unfold Dj at h
  by_cases hp:p n = true
  ·rw [if_pos hp] at h
   cases h
   exact ⟨by omega,hp,fun k hk _ => by omega⟩
  ·rw [if_neg hp] at h
   obtain ⟨h1,h2,h3⟩:=Gd h
   exact ⟨by omega,h2,fun k hk hpk => by
    by_cases hkn:k = n
    ·subst hkn; exact absurd hpk hp
    ·exact h3 k (by omega) hpk⟩
theorem Gg {p:Nat→Bool}:∀ {n:Nat},Dj p n = none→∀ k,k < n→p k = false
 | n + 1,h,k,hk => by
  unfold Dj at h
  by_cases hp:p n = true
  ·rw [if_pos hp] at h; cases h
  ·rw [if_neg hp] at h
   by_cases hkn:k = n
   ·subst hkn; exact Bool.not_eq_true _ ▸ hp
   ·exact Gg h k (by omega)
def OT (d many:Int) (k:Nat):Bool:=decide (grown d (k + 3)≤many)
def Bz (d many:Int):Option Int:=(Dj (OT d many) 14).map fun k => 3 + (k:Int)
theorem OU {d many:Int}:Kd (TH d many) (Bz d many):=by
 unfold Bz
 cases h:Dj (OT d many) 14 with
 | none =>
  show TH d many = []
  unfold TH
  rw [List.filter_eq_nil_iff.mpr fun k hk => by rw [show decide (grown d (k + 3)≤many) = OT d many k from rfl,Gg h k (List.mem_range.mp hk)]; exact Bool.false_ne_true]
  rfl
 | some m =>
  obtain ⟨h1,h2,h3⟩:=Gd h
  refine ⟨List.mem_map.mpr ⟨m,List.mem_filter.mpr ⟨List.mem_range.mpr h1,h2⟩,rfl⟩,fun n hn => ?_⟩
  obtain ⟨k,hk,rfl⟩:=List.mem_map.mp hn
  obtain ⟨hk1,hk2⟩:=List.mem_filter.mp hk
  have:=h3 k (List.mem_range.mp hk1) hk2
  show 3 + (k:Int)≤3 + (m:Int)
  omega
def RD (CN:Addr):Br:=fun ts O Φ Ξ => ∃ t u,ts = [t,u]∧Aa t = false∧Aa u = false∧(∀ d m:Int,t = .int d→u = .int m→2≤d→d≤15→1≤m→m≤16→Φ (Bv (Bz d m)) O)∧(Bu t 2 15 = false∨Bu u 1 16 = false→Ξ (.ref CN) O)
theorem WN:FnScope ["d","many"] ["d","many"] (AB EX):=⟨rfl,rfl,rfl,by decide +kernel,rfl,by decide +kernel,by decide +kernel⟩
theorem YQ:(Ah ["g"] [(("d" : Str),0),(("many" : Str),1)]).Nodup:=by decide +kernel
theorem RE {t:T} {a b:Int} (h:Bu t a b = true):∃ i,t = .int i∧a≤i∧i≤b:=by
 obtain ⟨i,rfl⟩:=NA h
 have h:(decide (a≤i) && decide (i≤b)) = true:=h
 simp at h
 exact ⟨i,rfl,h.1,h.2⟩
theorem TJ {f:Addr} {fd:FuncData} (F:Fun K "longest_fit" "longest_fit" EX f fd) (Tx:Txt mg) (G:FnT P w K mg base "need_ties" 3 ["d"] (RB CN 2 15)) (Gn:FnT P w K mg base "need_number" 2 ["thing","least","most"] (NF CN)) (Gl:FnT P w K mg base "least_by_growth" 5 ["d","g"] UH):FnOk P w K mg base (CXe P w) 6 f fd ["d","many"] (By K (RD CN)):=by
 refine AV F WN ?_ ?_
 ·rintro ts O Φ Ξ ⟨t,u,rfl,_⟩
  rfl
 ·rintro cdv A outer s H E O Ξ hr xf _ Φ ⟨t,u,rfl,ht,hu,q1,q2⟩
  have sb:=AT
  refine AC (Ao (AN G (hr.mono (by decide)) xf (EA.wa (AE (ev 0) AD) ⟨t,rfl,ht,fun h => ?_,fun h => q2 (.inl h)⟩)))
  refine AC (Ao (AN Gn (hr.mono (by decide)) xf (EA.wa (AE (ev 1) (AE AA (AE (Cg Tx.iMP) AD))) ⟨u,1,16,rfl,hu,fun h2 => ?_,fun h => q2 (.inr h)⟩)))
  obtain ⟨d,rfl,d0,d1⟩:=RE h
  obtain ⟨m,rfl,m0,m1⟩:=RE h2
  refine AF (AR (ET.we (TB OU Tx.nMax rfl (ET.cast (Eo ["g"] [("d",0),("many",1)] (List.range 14) (fun k => T.int (3 + ((k:Nat):Int))) (fun k => T.int (3 + ((k:Nat):Int))) (OT d m) rfl (CD (AB EX) ["d","many"] (by decide +kernel)) (EI.cast (Hc (k:=3) (l:=16 + 1) Tx.nRange (Cg Tx.iLR) (Al (Cg Tx.iMR) AA) ⟨by decide,by decide,by decide,by decide⟩) (by rfl)) (by rw [List.length_range]; omega) fun x hx => ⟨[some (.int (3 + (x:Int))),some (.int d),some (.int m)],fun X' Oe He is O' => ?_⟩) ?_)) (q1 d m rfl rfl d0 d1 m0 m1)))
  ·obtain ⟨cl,s',H',fp,rfl⟩:=is
   have hx:=List.mem_range.mp hx
   refine ⟨AS 0 YQ (by decide),Mp (Ai Gl (hr.mono (by decide)) DX (AE (ev 1) (AE (ev 0) AD)) ⟨d,x + 3,?_,⟨d0,d1⟩,by omega,by omega,rfl⟩) (ev 2),fun _ => ev 0⟩
   rw [show ((x + 3:Nat):Int) = 3 + (x:Int) by omega]
  ·unfold TH
   rw [List.map_map]
   rfl
end
theorem MG (cs:List Int):(∃ d,Ey cs = .int d∧d = cs.headD 0)∨Ey cs = .non:=by
 unfold Ey
 split
 ·exact .inl ⟨_,rfl,rfl⟩
 ·exact .inr rfl
theorem RF {n:Int} {ps:List (Int × Int)} (wn:WebN n ps) (n0:1≤n) {d:Int} (h:Ey (AY n ps) = .int d):0≤d∧d≤200:=by
 rcases MG (AY n ps) with ⟨d',e,hd⟩ | e
 ·rw [h] at e
  cases e
  have hl:(AY n ps).length = n.toNat:=by simp [AY]
  cases z:AY n ps with
  | nil => rw [z] at hl; simp at hl; omega
  | cons x xs =>
   rw [z] at hd
   have hm:x∈AY n ps:=by rw [z]; simp
   unfold AY at hm
   obtain ⟨i,_,rfl⟩:=List.mem_map.mp hm
   have:=Dt (qs:=ps) (i:=i)
   have:=wn.hl
   rw [hd]
   simp
   omega
 ·rw [h] at e; cases e
theorem OV {n:Int} {ps:List (Int × Int)} (hw:QD n ps) {i:Nat}:(BD ps (i:Int)).length = (Au ps i).length:=by
 have key:∀ qs:List (Int × Int),(BD qs (i:Int)).length = (Au qs i).length:=by
  intro qs
  induction qs with
  | nil => rfl
  | cons p qs ih =>
   unfold BD Au at ih ⊢
   rw [List.length_map] at ih ⊢
   by_cases h1:p.1 = (i:Int)
   ·rw [List.filterMap_cons,if_pos h1,List.filter_cons,if_pos (by simp [h1]),List.length_cons,List.length_cons,ih]
   ·by_cases h2:p.2 = (i:Int)
    ·rw [List.filterMap_cons,if_neg h1,if_pos h2,List.filter_cons,if_pos (by simp [h2]),List.length_cons,List.length_cons,ih]
    ·rw [List.filterMap_cons,if_neg h1,if_neg h2,List.filter_cons,if_neg (by simp [Ne.symm h1,Ne.symm h2]),ih]
 exact key ps
def Bj:List (List Int)→Int→Int→Nat
 | [],_,_ => 0
 | L :: Ls,s,t => if (L.length:Int) = s then Bj Ls (s * t) t + 1 else 0
theorem RG {fs:List (Option Nat)}:(List.range fs.length).map (fun j => fs.getD j none) = fs:=by
 apply List.ext_getElem?
 intro m
 rw [List.getElem?_map]
 by_cases hm:m < fs.length
 ·rw [List.getElem?_range hm,List.getElem?_eq_getElem hm]
  simp [List.getD,hm]
 ·rw [List.getElem?_eq_none (show (List.range fs.length).length≤m by rw [List.length_range]; omega),List.getElem?_eq_none (by omega)]
  rfl
theorem OW {fs:List (Option Nat)} {k:Nat}:(Cv fs k).length = fs.countP fun x => decide (x = some k):=by
 have h:fs.countP (fun x => decide (x = some k)) = ((List.range fs.length).map (fun j => fs.getD j none)).countP fun x => decide (x = some k):=by rw [RG]
 rw [h,List.countP_map,List.countP_eq_length_filter]
 unfold Cv
 rw [List.length_map]
 rfl
theorem RH {fs:List (Option Nat)} {m:Int} {k:Nat} (h:((k:Nat):Int) + 1≤m):(Dg fs m).drop (k + 1) = Cv fs (k + 1) :: (Dg fs m).drop (k + 2):=by
 unfold Dg
 have hlt:k + 1 < ((List.range (m + 1).toNat).map fun k => Cv fs k).length:=by simp; omega
 rw [List.drop_eq_getElem_cons hlt]
 simp
theorem TK {fs:List (Option Nat)} {m:Int} {k:Nat} (h:m < ((k:Nat):Int) + 1):(Dg fs m).drop (k + 1) = []:=by
 unfold Dg
 apply List.drop_of_length_le
 simp
 omega
def NO:Option Nat→V
 | none => .non
 | some d => .int d
theorem Hv {K:PySem.W.Frag} {O:AL} {H:Hp}:∀ {xs:List V} {fs:List (Option Nat)},Reps K O H xs (fs.map Ad)→xs = fs.map NO
 | xs,[],r => r.nil_inv
 | xs,x :: fs,r => by
  obtain ⟨v,vs,rfl,h,r'⟩:=Reps.cons_inv r
  rw [Hv r']
  cases x with
  | none => rw [h.non_inv]; rfl
  | some d => rw [h.int_inv]; rfl
theorem Et:∀ {fs:List (Option Nat)},(fs.map NO).all Bh = true
 | [] => rfl
 | none :: fs => Et (fs:=fs)
 | some d :: fs => Et (fs:=fs)
theorem Gh {k:Nat}:∀ {fs:List (Option Nat)},(fs.map NO).countP (fun z => Eg z (.int (k:Int))) = fs.countP fun x => decide (x = some k)
 | [] => rfl
 | none :: fs => by
  rw [List.map_cons,List.countP_cons,List.countP_cons,Gh]
  rfl
 | some d :: fs => by
  rw [List.map_cons,List.countP_cons,List.countP_cons,Gh]
  have:Eg (NO (some d)) (.int (k:Int)) = decide (some d = some k):=by
   show ((d:Int) == (k:Int)) = _
   rw [Bool.eq_iff_iff]
   simp
   omega
  rw [this]
theorem Ke {k:Nat}:∀ {fs:List (Option Nat)},((dTs (fs.map Ad)).any fun y => PyData.eqv y (dT (.int (k:Int)))) = decide (some k∈fs)
 | [] => by simp [dTs]
 | x :: fs => by
  rw [List.map_cons,dTs,List.any_cons,Ke,NI,Bool.eq_iff_iff,Bool.or_eq_true,decide_eq_true_eq,decide_eq_true_eq,decide_eq_true_eq,List.mem_cons]
  exact ⟨fun h => h.imp Eq.symm id,fun h => h.imp Eq.symm id⟩
theorem Kf:∀ {fs:List (Option Nat)},rdBs (fs.map Ad) = true
 | [] => rfl
 | x :: fs => by
  rw [List.map_cons,rdBs,Qg,Kf]
  rfl
section
variable {Z:Zx} {ρ:List (Option T)} {O:AL} {o e:Expr} {apos cpos:Pos} {fs:List (Option Nat)} {k:Nat} {Φ:BX}
theorem RI (h:ET Z ρ O o (.lst (fs.map Ad))) (h2:ET Z ρ O e (.int (k:Int))) (hbase:attributeBase o "count" Z.X.env (eval o Z.X.env) = eval o Z.X.env:=by rfl)
  (hfew:((backTo cpos (starEach [e] Z.X.env)).all (fun x => !x.1) && (backToKw cpos (keywordEach [] Z.X.env)).all (fun x => x.1.isSome) && decide ([e].length + ([]:List Keyword).length + (if ([]:List Keyword).isEmpty then 0 else 1) < 30)) = true:=by rfl) (hline:(apos.endLine == cpos.line) = true:=by rfl)
  (hs:starEach [e] Z.X.env = (false,eval e Z.X.env) :: starEach [] Z.X.env:=by rfl) (hplain:(backTo cpos (starEach [] Z.X.env)).any (·.1) = false:=by rfl) :
  ET Z ρ O (.Call (.Attribute o "count" apos) [e] [] cpos) (.int ((Cv fs k).length:Int)):=fun Φ q =>
 Pf PySem.F.plainAttrs_list PySem.F.slot_list_count PySem.F.type_list_count Ji (ET.we h ⟨SL,EA.wa (AU h2 AD hs) fun H v vs Q ok r1 r2 acc => by
  obtain ⟨a,xs,rfl,h1,_,r1⟩:=r1.lst_inv
  obtain ⟨u,rfl,r3⟩:=r2.one_inv
  cases r3.int_inv
  cases Hv r1
  refine ⟨a,_,_,rfl,rfl,.inl (.inl h1),rfl,Et,?_⟩
  rw [Gh,← OW]
  exact acc _ H _ O q (.refl ok) (.int _)⟩) hbase hfew hline hs hplain
end
section
variable {P:Program} {w:World} {K:PySem.W.Frag} {mg:Str→Option Value} {base:Heap} {CN CE CP CL:Addr}
def RJ (CE:Addr):Br:=fun ts O Φ Ξ => ∃ n ps,ts = [BA n ps]∧WebN n ps∧1≤n∧(∀ d,Ey (AY n ps) = .int d→Φ (.int d) O)∧(Ey (AY n ps) = .non→Ξ (.ref CE) O)
theorem UI:FnScope ["web","d"] ["web"] (AB Vj):=⟨rfl,rfl,rfl,by decide +kernel,rfl,by decide +kernel,by decide +kernel⟩
theorem WO {f:Addr} {fd:FuncData} (F:Fun K "evenness" "evenness" Vj f fd) (mE:mg "NotEven" = some (.ref CE)) (xE:PySem.W.excIn K CE Go "ValueError.__new__" = true) (G:FnT P w K mg base "even_by" 2 ["web"] Qa):FnOk P w K mg base (CXe P w) 3 f fd ["web"] (By K (RJ CE)):=by
 refine FT F UI ?_ ?_
 ·rintro ts O Φ Ξ ⟨n,ps,rfl,_⟩
  rfl
 ·rintro cdv A outer s H E O Ξ hr xo _ Φ ⟨n,ps,rfl,wn,n0,q1,q2⟩
  refine AC (AG 1 (ET.we (Ai G hr xo.f (AE (ev 0) AD) ⟨n,ps,rfl,wn,n0,rfl⟩) ?_) UI.nd)
  rcases MG (AY n ps) with ⟨d,h,_⟩ | h
  ·rw [h]
   exact AC (AZ (k:=false) (DH (t:=.int d) rfl (ev 1)) (fun h => by cases h) (fun _ => Ab (AF (AR (ET.we (ev 1) (q1 d h))))))
  ·rw [h]
   exact AC (AZ (k:=true) (DH (t:=.non) rfl (ev 1)) (fun _ => AF (Da xo rfl mE xE (q2 h))) (fun h => by cases h))
def JL:Br:=KA fun ts r => ∃ (Ls:List (List Int)) (s t:Int),ts = [.lst (Ls.map Cu),.int s,.int t]∧(-100≤t∧t < 1000)∧r = .int (Bj (Ls.drop 1) s t)
def WP:List Str:=["layers","due","times","full","size","layer"]
theorem Df:FnScope WP ["layers","due","times"] (AB Lo):=⟨rfl,rfl,rfl,by decide +kernel,rfl,by decide +kernel,by decide +kernel⟩
theorem RL {f:Addr} {fd:FuncData} (F:Fun K "full_layers" "full_layers" Lo f fd) (Tx:Txt mg):FnOk P w K mg base (CXe P w) 1 f fd ["layers","due","times"] (By K JL):=by
 refine AV F Df ?_ ?_
 ·rintro ts O Φ Ξ ⟨r,⟨Ls,s,t,rfl,_⟩,_⟩
  rfl
 ·rintro cdv A outer s H E O Ξ hr xf _ Φ ⟨_,⟨Ls,sz,t,rfl,ht,rfl⟩,q⟩
  refine AC (AG 3 (ET.we AA ?_) Df.nd)
  refine AC (AG 4 (ET.we (ev 1) ?_) Df.nd)
  have ed:Gs (Ls.map Cu) (some 1) none = (Ls.drop 1).map Cu:=by rw [List.map_drop]; exact RA (k:=1)
  refine AC (BP Ac.own rfl (EI.wi (EI.cast (Ak (TC (ev 0) AA)) ed) ⟨fun i ρ' O' => ∃ v5,ρ' = [some (.lst (Ls.map Cu)),some (.int sz),some (.int t),some (.int (i:Int)),some (.int (sz * t ^ i)),v5]∧O = O'∧Bj (Ls.drop 1) sz t = i + Bj ((Ls.drop 1).drop i) (sz * t ^ i) t,⟨none,by rw [Int.pow_zero,Int.mul_one]; rfl,rfl,by rw [Int.pow_zero,Int.mul_one]; simp⟩,?_,?_⟩))
  ·rintro i u _ _ e ⟨v5,rfl,rfl,hf⟩
   rw [List.getElem?_map] at e
   cases ec:(Ls.drop 1)[i]? with
   | none => rw [ec] at e; cases e
   | some L =>
    rw [ec] at e
    cases e
    obtain ⟨hi,hL⟩:=List.getElem?_eq_some_iff.mp ec
    have hd:(Ls.drop 1).drop i = L :: (Ls.drop 1).drop (i + 1):=by rw [List.drop_eq_getElem_cons hi,hL]
    rw [hd] at hf
    refine ⟨[some (.lst (Ls.map Cu)),some (.int sz),some (.int t),some (.int (i:Int)),some (.int (sz * t ^ i)),some (Cu L)],AS 5 Df.nd (by show 5 < 6; decide),?_⟩
    refine AC (AZ (k:=!decide ((L.length:Int) = sz * t ^ i)) (EB.cast (Lc (SO Tx.nLen (ev 5)) (ev 4)) (by rw [List.length_map])) (fun h => ?_) (fun h => Ab ?_))
    ·have hne:¬ (L.length:Int) = sz * t ^ i:=by simpa using h
     rw [Bj,if_neg hne] at hf
     rw [hf] at q
     exact AF (AR (ET.we (ev 3) q))
    ·have heq:(L.length:Int) = sz * t ^ i:=by simpa using h
     rw [Bj,if_pos heq] at hf
     have e1:sz * t ^ i * t = sz * t ^ (i + 1):=by rw [Int.mul_assoc,Int.pow_succ]
     refine AC (GF 3 Ku rfl (ET.we AA (fun H v w Q ok r1 r2 acc => ⟨_,_,r1.int_inv,r2.int_inv,acc _ H (.int ((i + 1:Nat):Int)) _ ?_ (.refl ok) (.int _)⟩)) Df.nd)
     refine AF (GF 4 PC rfl (ET.we (ev 2) (fun H v w Q ok r1 r2 acc => ⟨_,_,r1.int_inv,r2.int_inv,.inr ⟨by omega,by omega⟩,acc _ H (.int (sz * t ^ (i + 1))) _ ⟨_,rfl,rfl,?_⟩ (.refl ok) (by rw [← e1]; exact .int _)⟩)) Df.nd)
     rw [hf,e1]
     omega
  ·rintro _ _ ⟨v5,rfl,rfl,hf⟩
   rw [List.length_map,List.drop_length,Bj] at hf
   refine AF (AR (ET.we (t:=.int (Bj (Ls.drop 1) sz t:Int)) (ev 3 ?_) q))
   rw [hf,List.length_map]
   rfl
def Kg (n:Int) (ps:List (Int × Int)) (S:List Int) (sz t:Int) (O:AL) (Φ:BX):Prop:=∀ fs m,All n ps S fs→EJ (GZ fs) m→Φ (.int (Bj ((Dg fs m).drop 1) sz t)) O
def Kh (CE CP:Addr):Br:=fun ts O Φ Ξ => ∃ n ps t,ts = [BA n ps,t]∧Aa t = false∧WebN n ps∧1≤n∧(Ey (AY n ps) = .non→Ξ (.ref CE) O) ∧
 ∀ d,Ey (AY n ps) = .int d→(∀ i:Int,t = .int i→0≤i→i < n→Kg n ps [i] d (d - 1) O Φ)∧(Bu t 0 (n - 1) = false→Ξ (.ref CP) O)
theorem Ki:FnScope ["web","place","d"] ["web","place"] (AB Ir):=⟨rfl,rfl,rfl,by decide +kernel,rfl,by decide +kernel,by decide +kernel⟩
theorem MH {f:Addr} {fd:FuncData} (F:Fun K "full_at" "full_at" Ir f fd) (Ge:FnT P w K mg base "evenness" 3 ["web"] (RJ CE)) (Gf:FnT P w K mg base "full_layers" 1 ["layers","due","times"] JL) (Gl:FnT P w K mg base "layers_of" 4 ["web","place"] (NK CP)):FnOk P w K mg base (CXe P w) 5 f fd ["web","place"] (By K (Kh CE CP)):=by
 refine AV F Ki ?_ ?_
 ·rintro ts O Φ Ξ ⟨n,ps,t,rfl,_⟩
  rfl
 ·rintro cdv A outer s H E O Ξ hr xf _ Φ ⟨n,ps,t,rfl,ht,wn,n0,q1,q2⟩
  refine AC (AG 2 (AN Ge (hr.mono (by decide)) xf (EA.wa (AE (ev 0) AD) ⟨n,ps,rfl,wn,n0,fun d hd => ?_,q1⟩)) Ki.nd)
  obtain ⟨q3,q4⟩:=q2 d hd
  have bd:=RF wn n0 hd
  refine AF (AR (AN Gf (hr.mono (by decide)) xf (CO (KS (AN Gl hr xf (EA.wa (AE (ev 0) (AE (ev 1) AD)) ⟨n,ps,t,rfl,ht,wn,fun i e i0 i1 fs m al hm a ha => ?_,fun h => q4 h⟩))))))
  exact ⟨a,_,rfl,ha,rfl,EA.wa (AE (ev 2) (AE (BF (ev 2) AA) AD)) ⟨_,⟨Dg fs m,d,d - 1,rfl,⟨by omega,by omega⟩,rfl⟩,q3 i e i0 i1 fs m al hm⟩⟩
def Kj (CE CP CL:Addr):Br:=fun ts O Φ Ξ => ∃ n ps t u,ts = [BA n ps,t,u]∧Aa t = false∧Aa u = false∧WebN n ps∧1≤n∧(Ey (AY n ps) = .non→Ξ (.ref CE) O) ∧
 ∀ d,Ey (AY n ps) = .int d→(∀ i j:Int,t = .int i→u = .int j→0≤i→i < n→0≤j→j < n→(NC ps i j = true→Kg n ps [i,j] (2 * (d - 1)) (d - 1) O Φ)∧(NC ps i j = false→Ξ (.ref CL) O))∧(Bu t 0 (n - 1) = false∨Bu u 0 (n - 1) = false→Ξ (.ref CP) O)
theorem Kl:FnScope ["web","a","b","d"] ["web","a","b"] (AB Iu):=⟨rfl,rfl,rfl,by decide +kernel,rfl,by decide +kernel,by decide +kernel⟩
theorem MI {f:Addr} {fd:FuncData} (F:Fun K "full_by" "full_by" Iu f fd) (Ge:FnT P w K mg base "evenness" 3 ["web"] (RJ CE)) (Gf:FnT P w K mg base "full_layers" 1 ["layers","due","times"] JL) (Gl:FnT P w K mg base "layers_by_tie" 5 ["web","a","b"] (KT CP CL)):FnOk P w K mg base (CXe P w) 6 f fd ["web","a","b"] (By K (Kj CE CP CL)):=by
 refine AV F Kl ?_ ?_
 ·rintro ts O Φ Ξ ⟨n,ps,t,u,rfl,_⟩
  rfl
 ·rintro cdv A outer s H E O Ξ hr xf _ Φ ⟨n,ps,t,u,rfl,ht,hu,wn,n0,q1,q2⟩
  refine AC (AG 3 (AN Ge (hr.mono (by decide)) xf (EA.wa (AE (ev 0) AD) ⟨n,ps,rfl,wn,n0,fun d hd => ?_,q1⟩)) Kl.nd)
  obtain ⟨q3,q4⟩:=q2 d hd
  have bd:=RF wn n0 hd
  refine AF (AR (AN Gf (hr.mono (by decide)) xf (CO (KS (AN Gl hr xf (EA.wa (AE (ev 0) (AE (ev 1) (AE (ev 2) AD))) ⟨n,ps,t,u,rfl,ht,hu,wn,fun i j e1 e2 i0 i1 j0 j1 => ⟨fun h fs m al hm a ha => ?_,fun h => (q3 i j e1 e2 i0 i1 j0 j1).2 h⟩,fun h => q4 h⟩))))))
  exact ⟨a,_,rfl,ha,rfl,EA.wa (AE (BV AA (BF (ev 3) AA) (.inl ⟨by decide,by decide⟩)) (AE (BF (ev 3) AA) AD)) ⟨_,⟨Dg fs m,2 * (d - 1),d - 1,rfl,⟨by omega,by omega⟩,rfl⟩,(q3 i j e1 e2 i0 i1 j0 j1).1 h fs m al hm⟩⟩
end
theorem OX {ts:List T} {k:Nat}:Gs ts none (some (k:Int)) = ts.take k:=by
 unfold Gs
 rw [HT.JY,HT.MV,List.drop_zero,Nat.sub_zero]
 rcases Nat.le_total k ts.length with h | h
 ·rw [Nat.min_eq_left h]
 ·rw [Nat.min_eq_right h,List.take_length,List.take_of_length_le h]
theorem TM {cs:List Int} {n:Nat} {c:Int} (hl:cs.length = n):decide (cs = List.replicate n c) = cs.all fun x => decide (x = c):=by
 rw [Bool.eq_iff_iff,decide_eq_true_eq,List.all_eq_true]
 constructor
 ·rintro h x hx
  rw [h] at hx
  exact decide_eq_true (List.eq_of_mem_replicate hx)
 ·intro h
  exact List.eq_replicate_iff.mpr ⟨hl,fun x hx => of_decide_eq_true (h x hx)⟩
section
variable {P:Program} {w:World} {K:PySem.W.Frag} {mg:Str→Option Value} {base:Heap} {CN CE CP CL:Addr}
def JM:Br:=KA fun ts r => ∃ n ps,ts = [BA n ps]∧WebA n ps∧r = Ey (AY n ps)
theorem NP:FnScope ["_law_web","_law_counts"] ["_law_web"] (AB GQ):=⟨rfl,rfl,rfl,by decide +kernel,rfl,by decide +kernel,by decide +kernel⟩
theorem YR:(Ah ["_law_place"] [(("_law_web" : Str),0)]).Nodup:=by decide +kernel
theorem RM {f:Addr} {fd:FuncData} (F:Fun K "_law_even" "_law_even" GQ f fd) (Tx:Txt mg) (G:FnT P w K mg base "_law_near_of" 1 ["_law_web","_law_place"] Dd):FnOk P w K mg base (CXe P w) 2 f fd ["_law_web"] (By K JM):=by
 refine AV F NP ?_ ?_
 ·rintro ts O Φ Ξ ⟨r,⟨n,ps,rfl,_⟩,_⟩
  rfl
 ·rintro cdv A outer s H E O Ξ hr xf _ Φ ⟨_,⟨n,ps,rfl,wa,rfl⟩,q⟩
  have sb:=AT
  have n1:=wa.n1
  have n0:=wa.n0
  have hu:(A.deeper (envOfC "_law_even" (AB GQ) s.heap.objs.size f cdv)).units + 102 < cLine:=by have:=hr.un; omega
  have hlen:(AY n ps).length = n.toNat:=by simp [AY]
  have hne:AY n ps≠[]:=fun z => by rw [z] at hlen; simp at hlen; omega
  refine AC (ER (i:=1) (nc:=["_law_place"]) (cap:=[("_law_web",0)]) (by rfl) NP.nd rfl (CD (AB GQ) ["_law_web","_law_counts"] (by decide +kernel)) (EI.wi (ts:=(List.range n.toNat).map fun i => T.int ((i:Nat):Int)) (EI.cast (As Tx.nRange (BJ (ev 0) AA) ⟨by omega,by omega⟩) ?_) (EU (List.range n.toNat) (fun i => T.int ((i:Nat):Int)) (fun i => T.int (((BD ps (i:Int)).map T.int).length:Int)) (by rw [List.length_range]; omega) (fun x hx => ⟨[some (.int (x:Int)),some (BA n ps)],fun X' Oe He is O' => ?_⟩) ?_)))
  ·unfold GH
   simp
  ·obtain ⟨cl,s',H',fp,rfl⟩:=is
   exact ⟨AS 0 YR (by decide),FR Tx.nLen (Ai G (hr.mono (by decide)) DX (AE (ev 1) (AE (ev 0) AD)) ⟨n,ps,x,rfl,wa.hl,rfl⟩)⟩
  ·have e1:(List.range n.toNat).map (fun i => T.int (((BD ps ((i:Nat):Int)).map T.int).length:Int)) = (AY n ps).map T.int:=by
    unfold AY
    rw [List.map_map]
    apply List.map_congr_left
    intro i _
    show T.int _ = T.int _
    rw [List.length_map,OV wa.wn.hw]
   rw [e1]
   cases z:AY n ps with
   | nil => exact absurd z hne
   | cons x xs =>
    rw [z] at hlen
    have es:Gs ((x :: xs).map T.int) none (some 1) = [.int x]:=by
     rw [show (some (1:Int)) = some ((1:Nat):Int) from rfl,OX]
     rfl
    refine AF (AR (ET.we (ET.cast (Ha (x:=decide (x :: xs = List.replicate n.toNat x)) (ta:=.int x) (tb:=.non) (EB.cast (BI (GL (Nat.lt_of_succ_lt hu)) (Af _) (Ip (t:=.lst ((x :: xs).map T.int)) (u:=.lst ((List.replicate n.toNat x).map T.int)) (by rw [Bn]; exact Cm) (by rw [Bn]; exact Cm) (by show PyData.depthAll _ + 1≤100; have:=Dw (ns:=x :: xs); omega)) (ev 1) (ET.cast (JK (t:=.int x) (ET.cast (WH (ev 1) AA) (by rw [es])) (BJ (ev 0) AA) ⟨by omega,by omega⟩) (by rw [List.map_replicate]))) GX) (fun _ => Ib (ev 1) AA (BY (j:=0) rfl)) (fun _ => BU)) ?_) q))
    rw [TM hlen,← z]
    unfold Ey
    rw [z]
    rfl
def TN (a b:Int):List T:=[.int (a - 1),.int (b + 1),.bl true,.non,.str "2",.tup [.int 2],.lst [.int 1],.bl false,.int (10 ^ 30),.dct]
theorem WQ {a b:Int} (hb:b < 1000):∀ t∈TN a b,Aa t = false∧Bu t a b = false:=by
 intro t ht
 unfold TN at ht
 simp only [List.mem_cons,List.not_mem_nil,or_false] at ht
 rcases ht with rfl | rfl | rfl | rfl | rfl | rfl | rfl | rfl | rfl | rfl <;> refine ⟨rfl,?_⟩ <;> first | rfl | (show (decide (_≤_) && decide (_≤_)) = false; simp; omega)
def UJ:Br:=fun ts O Φ _ => ∃ (p:Addr) (xs:List T) (a b:Int),ts = [.raw (.ref p),.int a,.int b]∧O p = some xs∧Gv xs∧b < 1000∧∀ (t:T) (O':AL),Aa t = false→Bu t a b = false→PO O p O'→Φ t O'
theorem YS:FnScope ["_law_pen","_law_low","_law_high"] ["_law_pen","_law_low","_law_high"] (AB Vk):=⟨rfl,rfl,rfl,by decide +kernel,rfl,by decide +kernel,by decide +kernel⟩
theorem WR {f:Addr} {fd:FuncData} (F:Fun K "_law_odd_of" "_law_odd_of" Vk f fd) (G:FnT P w K mg base "_law_draw" 2 ["_law_pen","_law_many"] CF):FnOk P w K mg base (CXe P w) 3 f fd ["_law_pen","_law_low","_law_high"] (By K UJ):=by
 refine AV F YS ?_ ?_
 ·rintro ts O Φ Ξ ⟨p,xs,a,b,rfl,_⟩
  rfl
 ·rintro cdv A outer s H E O Ξ hr xf _ Φ ⟨p,xs,a,b,rfl,hp,px,hb,q⟩
  have sb:=AT
  refine AF (AR (Mo CY (fun _ _ => rfl) (ET.we (t:=.lst (TN a b)) (Az (AE (BF (ev 1) AA) (AE (Al (ev 2) AA) (AE HY (AE BU (AE Dp (AE (Ay (AE AA AD) (by show 1≤sizeLine; decide)) (AE (Az (AE AA AD) (by show 1≤sizeLine; decide)) (AE HY (AE (ET.cast (La AA AA ⟨by decide,by decide,by decide⟩) rfl) (AE Ps AD)))))))))) (Nat.le_trans (show 10≤1000 by decide) (Nat.le_of_lt sb))) (Ap G hr xf (PO.start hp px) (ev 0) AA (by decide) (by decide) fun r O2 r0 r1 po2 => ?_))))
  obtain ⟨t,e1,m1⟩:=DN (L:=TN a b) r0 r1
  obtain ⟨k1,k2⟩:=WQ hb t m1
  exact Ia e1 _ (q t _ k1 k2 po2)
def NQ:Br:=KA fun ts r => ∃ d m:Int,ts = [.int d,.int m]∧(1≤d∧d < 100)∧r = Bv (Bz d m)
def aY:List Str:=["_law_d","_law_many","_law_found","_law_g","_law_layer","_law_places","_law_turn"]
theorem Bc:FnScope aY ["_law_d","_law_many"] (AB Lp):=⟨rfl,rfl,rfl,by decide +kernel,rfl,by decide +kernel,by decide +kernel⟩
def TQ (d m:Int) (i:Nat):Option Int:=(Dj (OT d m) i).map fun k => 3 + (k:Int)
theorem RN {f:Addr} {fd:FuncData} (F:Fun K "_law_longest" "_law_longest" Lp f fd) (Tx:Txt mg):FnOk P w K mg base (CXe P w) 1 f fd ["_law_d","_law_many"] (By K NQ):=by
 refine AV F Bc ?_ ?_
 ·rintro ts O Φ Ξ ⟨r,⟨d,m,rfl,_⟩,_⟩
  rfl
 ·rintro cdv A outer s H E O Ξ hr xf _ Φ ⟨_,⟨d,m,rfl,hd,rfl⟩,q⟩
  refine AC (AG 2 (ET.we BU ?_) Bc.nd)
  refine AC (BP Ac.own rfl (EI.wi (Hc Tx.nRange AA AA ⟨by decide,by decide,by decide,by decide⟩) ⟨fun i ρ' O' => ∃ v3 v4 v5 v6,ρ' = [some (.int d),some (.int m),some (Bv (TQ d m i)),v3,v4,v5,v6]∧O = O',⟨none,none,none,none,rfl,rfl⟩,?_,?_⟩))
  ·rintro i t _ _ e ⟨v3,v4,v5,v6,rfl,rfl⟩
   obtain ⟨hi,rfl⟩:=EQ e
   have hi:i < 14:=hi
   refine ⟨[some (.int d),some (.int m),some (Bv (TQ d m i)),some (.int (3 + (i:Int))),v4,v5,v6],AS 3 Bc.nd (by show 3 < 7; decide),?_⟩
   refine AC (AG 4 (ET.we AA ?_) Bc.nd)
   refine AC (AG 5 (ET.we AA ?_) Bc.nd)
   refine AC (BP Ac.own rfl (EI.wi (As Tx.nRange (DV (ev 3) AA ⟨by decide,by decide⟩) ⟨by omega,by omega⟩) ⟨fun j ρ' O' => ∃ v6,ρ' = [some (.int d),some (.int m),some (Bv (TQ d m i)),some (.int (3 + (i:Int))),some (.int ((d - 1) ^ j)),some (.int (HC (d - 1) j)),v6]∧O = O',⟨v6,by rw [Int.pow_zero]; rfl,rfl⟩,?_,?_⟩))
   ·rintro j t _ _ e ⟨v6,rfl,rfl⟩
    refine ⟨[some (.int d),some (.int m),some (Bv (TQ d m i)),some (.int (3 + (i:Int))),some (.int ((d - 1) ^ j)),some (.int (HC (d - 1) j)),some t],AS 6 Bc.nd (by show 6 < 7; decide),?_⟩
    refine AC (AG 5 (ET.we (Al (ev 5) (ev 4)) ?_) Bc.nd)
    refine AF (AG 4 (ET.we (t:=.int ((d - 1) ^ (j + 1))) (ET.cast (BV (i:=(d - 1) ^ j) (j:=d - 1) (ev 4) (BF (ev 0) AA) (.inr ⟨by omega,by omega⟩)) (by rw [← Int.pow_succ])) ?_) Bc.nd)
    exact ⟨_,rfl,rfl⟩
   ·rintro _ _ ⟨v6,rfl,rfl⟩
    rw [BR,show ((3 + (i:Int)) / 2).toNat = (i + 3) / 2 by omega]
    refine AC (AG 5 (ET.we (t:=.int (grown d (i + 3))) (ET.cast (Ha (BO (DF (ev 3) AA (by decide)) AA) (fun _ => BV AA (ev 5) (.inl ⟨by decide,by decide⟩)) (fun _ => Al AA (BV (ev 0) (ev 5) (.inl ⟨by omega,by omega⟩)))) ?_) ?_) Bc.nd)
    ·unfold grown
     by_cases h:(i + 3) % 2 = 1
     ·rw [if_pos h,decide_eq_false (by omega:¬ (3 + (i:Int)) % 2 = 0)]; rfl
     ·rw [if_neg h,decide_eq_true (by omega:(3 + (i:Int)) % 2 = 0)]; rfl
    ·refine AF (AZ (k:=OT d m i) (Mp (ev 5) (ev 1)) (fun h => AF (AG 2 (ET.we (ev 3) ?_) Bc.nd)) (fun h => Ab ?_))
     ·have:TQ d m (i + 1) = some (3 + (i:Int)):=by unfold TQ Dj; rw [if_pos h]; rfl
      exact ⟨some (.int (3 + (i:Int))),_,_,_,by rw [this]; rfl,rfl⟩
     ·have:TQ d m (i + 1) = TQ d m i:=by unfold TQ; rw [Dj,if_neg (by rw [h]; exact Bool.false_ne_true)]
      exact ⟨_,_,_,_,by rw [this]; rfl,rfl⟩
  ·rintro _ _ ⟨v3,v4,v5,v6,rfl,rfl⟩
   exact AF (AR (ET.we (ev 2) q))
end
section
variable {P:Program} {w:World} {K:PySem.W.Frag} {mg:Str→Option Value} {base:Heap} {CN CE CP CL:Addr}
def JN:Br:=fun ts O Φ _ => ∃ n ps S d,ts = [BA n ps,.lst (S.map T.int),.int d]∧WebA n ps∧(∀ z∈S,0≤z∧z < n)∧(S.length = 1∨S.length = 2)∧(-100≤d∧d≤200)∧Kg n ps S (if S.length = 1 then d else 2 * (d - 1)) (d - 1) O Φ
def YT:List Str:=["_law_web","_law_starts","_law_d","_law_far","_law_size","_law_found"]
theorem Hw:FnScope YT ["_law_web","_law_starts","_law_d"] (AB Hl):=⟨rfl,rfl,rfl,by decide +kernel,rfl,by decide +kernel,by decide +kernel⟩
theorem RO {f:Addr} {fd:FuncData} (F:Fun K "_law_full" "_law_full" Hl f fd) (Tx:Txt mg) (G:FnT P w K mg base "_law_fars" 2 ["_law_web","_law_starts"] NL):FnOk P w K mg base (CXe P w) 3 f fd ["_law_web","_law_starts","_law_d"] (By K JN):=by
 refine AV F Hw ?_ ?_
 ·rintro ts O Φ Ξ ⟨n,ps,S,d,rfl,_⟩
  rfl
 ·rintro cdv A outer s H E O Ξ hr xf _ Φ ⟨n,ps,S,d,rfl,wa,hS,hl,hd,q⟩
  have hu:(A.deeper (envOfC "_law_full" (AB Hl) s.heap.objs.size f cdv)).units + 102 < cLine:=by have:=hr.un; omega
  have hne:S≠[]:=fun z => by rw [z] at hl; rcases hl with h | h <;> cases h
  refine AC (AG 3 (AN G hr xf (EA.wa (AE (ev 0) (AE (ev 1) AD)) ⟨n,ps,S,rfl,wa,by omega,hS,fun fs al => ?_⟩)) Hw.nd)
  obtain ⟨m,hm⟩:=FU (Qe al hS hne)
  have q:=q fs m al hm
  generalize hs0:(if S.length = 1 then d else 2 * (d - 1)) = s0 at q
  refine AC (AG 4 (ET.we (t:=.int s0) (ET.cast (Ha (x:=decide ((S.length:Int) = 1)) (EB.cast (BO (FR Tx.nLen (ev 1)) AA) (by rw [List.length_map])) (fun _ => ev 2) (fun _ => BV AA (BF (ev 2) AA) (.inl ⟨by decide,by decide⟩))) ?_) ?_) Hw.nd)
  ·rw [← hs0]
   by_cases h:S.length = 1
   ·rw [if_pos h,decide_eq_true (by omega)]; rfl
   ·rw [if_neg h,decide_eq_false (by omega)]; rfl
  refine AC (AG 5 (ET.we AA ?_) Hw.nd)
  have hmi:=Qf wa.wn al hS hm.1
  have hlf:=al.len
  have mem_far:∀ k:Nat,some k∈fs↔(k:Int)≤m:=fun k => by
   constructor
   ·intro h
    obtain ⟨i,hi⟩:=List.getElem?_of_mem h
    exact hm.2 _ (FW.mpr ⟨i,k,hi,rfl⟩)
   ·intro h
    obtain ⟨i,e,he,hme⟩:=FW.mp hm.1
    have hi:=(List.getElem?_eq_some_iff.mp he).1
    have D:=(al.eq (i:Int) (by omega) (by omega) e).mp (by rw [Int.toNat_natCast]; exact he)
    obtain ⟨u,Du⟩:=IsD.down (s:=k) (k:=e - k) (by rw [show k + (e - k) = e by omega]; exact D)
    have hb:=Du.1.inb wa.wn.hw hS
    exact List.mem_of_getElem? ((al.eq u hb.1 hb.2 k).mpr Du)
  refine AC (GM Ac.own (fun c ρ' O' => ∃ k:Nat,ρ' = [some (BA n ps),some (.lst (S.map T.int)),some (.int d),some (.lst (fs.map Ad)),some (.int (s0 * (d - 1) ^ k)),some (.int (k:Int))]∧O = O'∧c = 20 - k∧(k:Int)≤m∧Bj ((Dg fs m).drop 1) s0 (d - 1) = k + Bj ((Dg fs m).drop (k + 1)) (s0 * (d - 1) ^ k) (d - 1)) ⟨20,0,by rw [Int.pow_zero,Int.mul_one]; rfl,rfl,rfl,by omega,by rw [Int.pow_zero,Int.mul_one]; simp⟩ ?_)
  ·rintro c _ _ ⟨k,rfl,rfl,rfl,hkm,hf⟩
   have hn1:=wa.n1
   have test:EB (zB P w K mg base YT "_law_full" (AB Hl) f cdv A outer s H E O Ξ) [some (BA n ps),some (.lst (S.map T.int)),some (.int d),some (.lst (fs.map Ad)),some (.int (s0 * (d - 1) ^ k)),some (.int (k:Int))] O (match (Aj Hl).getD 3 (.Pass ⟨0,0,0,0⟩) with | .While c _ _ _ => c | _ => .Constant .none 0 ⟨0,0,0,0⟩) (decide (some (k + 1)∈fs) && decide (((Cv fs (k + 1)).length:Int) = s0 * (d - 1) ^ k)) :=
    EW.eb (GE (EB.cast (BI (Pw hu) rfl (Py (t:=.int ((k + 1:Nat):Int)) (us:=fs.map Ad) (by rw [Bn]) Kf (by show 0≤100; decide)) (Al (i:=(k:Int)) (j:=1) (ev 5) AA) (ev 3)) (by rw [Ke]; rfl)) fun _ => EN (BO (RI (k:=k + 1) (ev 3) (Al (i:=(k:Int)) (j:=1) (ev 5) AA)) (ev 4)))
   refine EB.wt test ?_
   by_cases h1:(k:Int) + 1≤m
   ·have hin:some (k + 1)∈fs:=(mem_far (k + 1)).mpr (by omega)
    rw [RH h1,Bj] at hf
    by_cases h2:((Cv fs (k + 1)).length:Int) = s0 * (d - 1) ^ k
    ·rw [if_pos h2] at hf
     rw [decide_eq_true hin,decide_eq_true h2]
     have e1:s0 * (d - 1) ^ k * (d - 1) = s0 * (d - 1) ^ (k + 1):=by rw [Int.mul_assoc,Int.pow_succ]
     refine Fj (AC (AG 5 (ET.we (t:=.int ((k + 1:Nat):Int)) (Al (i:=(k:Int)) (j:=1) (ev 5) AA) ?_) Hw.nd))
     refine AF (AG 4 (ET.we (t:=.int (s0 * (d - 1) ^ (k + 1))) (ET.cast (BV (i:=s0 * (d - 1) ^ k) (j:=d - 1) (ev 4) (BF (ev 2) AA) (.inr ⟨by omega,by omega⟩)) (by rw [e1])) ?_) Hw.nd)
     refine ⟨20 - (k + 1),by omega,k + 1,rfl,rfl,rfl,by omega,?_⟩
     rw [hf,e1]
     show _ = k + 1 + Bj ((Dg fs m).drop (k + 2)) _ _
     omega
    ·rw [if_neg h2] at hf
     rw [decide_eq_true hin,decide_eq_false h2]
     refine Dl ?_
     rw [hf] at q
     exact AF (AR (ET.we (ev 5) q))
   ·have hin:¬ some (k + 1)∈fs:=fun z => h1 (by have:=(mem_far (k + 1)).mp z; omega)
    rw [TK (k:=k) (by omega),Bj] at hf
    rw [decide_eq_false hin,Bool.false_and]
    refine Dl ?_
    rw [hf] at q
    exact AF (AR (ET.we (ev 5) q))
end
abbrev kT (y:Str):T:=.tup [.str y]
theorem UK {n i:Int} (h0:0≤i) (h1:i < n):Bu (.int i) 0 (n - 1) = true:=Hu h0 (by omega)
theorem NR {n:Int} {ps:List (Int × Int)} (hp:∀ p∈ps,Hm n p) {i j:Int}:NC ps i j = true↔Adj ps i j:=by
 unfold NC mm
 rw [decide_eq_true_eq]
 constructor
 ·intro h
  rcases Int.le_total i j with hij | hij
  ·rw [show (min i j,max i j) = (i,j) from Prod.ext (by show min i j = i; omega) (by show max i j = j; omega)] at h
   exact .inl h
  ·rw [show (min i j,max i j) = (j,i) from Prod.ext (by show min i j = j; omega) (by show max i j = i; omega)] at h
   exact .inr h
 ·rintro (h | h)
  ·have:=(hp _ h).2.1
   rw [show (min i j,max i j) = (i,j) from Prod.ext (by show min i j = i; simp only at this; omega) (by show max i j = j; simp only at this; omega)]
   exact h
  ·have:=(hp _ h).2.1
   rw [show (min i j,max i j) = (j,i) from Prod.ext (by show min i j = j; simp only at this; omega) (by show max i j = i; simp only at this; omega)]
   exact h
section
variable {P:Program} {w:World} {K:PySem.W.Frag} {mg:Str→Option Value} {base:Heap} {CN CE CP CL:Addr}
def aZ (n:Int) (ps:List (Int × Int)) (t:T) (O:AL) (Φ:BX) (XE XP:Prop):Prop:=(Ey (AY n ps) = .non→XE)∧∀ d,Ey (AY n ps) = .int d→(∀ i:Int,t = .int i→0≤i→i < n→Kg n ps [i] d (d - 1) O Φ)∧(Bu t 0 (n - 1) = false→XP)
def aa (n:Int) (ps:List (Int × Int)) (t u:T) (O:AL) (Φ:BX) (XE XP XL:Prop):Prop:=(Ey (AY n ps) = .non→XE)∧∀ d,Ey (AY n ps) = .int d →
 (∀ i j:Int,t = .int i→u = .int j→0≤i→i < n→0≤j→j < n→(NC ps i j = true→Kg n ps [i,j] (2 * (d - 1)) (d - 1) O Φ)∧(NC ps i j = false→XL))∧(Bu t 0 (n - 1) = false∨Bu u 0 (n - 1) = false→XP)
def ad (t u:T) (O:AL) (Φ:BX) (XN:Prop):Prop:=(∀ d m:Int,t = .int d→u = .int m→2≤d→d≤15→1≤m→m≤16→Φ (Bv (Bz d m)) O)∧(Bu t 2 15 = false∨Bu u 1 16 = false→XN)
def OY:Br:=fun ts O Φ _ =>
 (∃ n ps t u,ts = [.int 0,BA n ps,t,u]∧Aa t = false∧WebA n ps∧aZ n ps t O Φ (Φ (kT "even") O) (Φ (kT "place") O)) ∨
 (∃ n ps t u,ts = [.int 1,BA n ps,t,u]∧Aa t = false∧Aa u = false∧WebA n ps∧aa n ps t u O Φ (Φ (kT "even") O) (Φ (kT "place") O) (Φ (kT "line") O)) ∨
 (∃ t u v,ts = [.int 2,t,u,v]∧Aa t = false∧Aa u = false∧ad t u O Φ (Φ (kT "number") O))
def ae:List Str:=["_law_way","_law_web","_law_one","_law_other","_law_e"]
theorem RQ:FnScope ae ["_law_way","_law_web","_law_one","_law_other"] (AB QJ):=⟨rfl,rfl,rfl,by decide +kernel,rfl,by decide +kernel,by decide +kernel⟩
theorem TR {f fR:Addr} {fd fdR:FuncData} {CR:Addr} (F:Fun K "_law_told" "_law_told" QJ f fd) (FP:FnH P w K mg base 2 fR fdR ["_law_e"] (Vf CP (kT "place"))) (FL:FnH P w K mg base 2 fR fdR ["_law_e"] (Vf CL (kT "line"))) (FE:FnH P w K mg base 2 fR fdR ["_law_e"] (Vf CE (kT "even"))) (FN:FnH P w K mg base 2 fR fdR ["_law_e"] (Vf CN (kT "number")))
  (mR':mg "_law_refused" = some (.ref fR)) (kR':PySem.W.keepIn K (.ref fR) = true) (bR':Binds K fdR ["_law_e"] [])
  (mR:mg "RingError" = some (.ref CR)) (bR:PySem.W.mroIn K CR (.type "BaseException") = some true) (kP:PySem.W.kitCls K (.ref CP) (.ref CR) = some true) (kL:PySem.W.kitCls K (.ref CL) (.ref CR) = some true) (kE:PySem.W.kitCls K (.ref CE) (.ref CR) = some true) (kN:PySem.W.kitCls K (.ref CN) (.ref CR) = some true)
  (G1:FnT P w K mg base "full_at" 5 ["web","place"] (Kh CE CP)) (G2:FnT P w K mg base "full_by" 6 ["web","a","b"] (Kj CE CP CL)) (G3:FnT P w K mg base "longest_fit" 6 ["d","many"] (RD CN)):FnOk P w K mg base (CXe P w) 7 f fd ["_law_way","_law_web","_law_one","_law_other"] (By K OY):=by
 refine AV F RQ ?_ ?_
 ·rintro ts O Φ Ξ (⟨n,ps,t,u,rfl,_⟩ | ⟨n,ps,t,u,rfl,_⟩ | ⟨t,u,v,rfl,_⟩) <;> rfl
 ·rintro cdv A outer s H E O Ξ hr xf ts Φ q
  refine AF ?_
  refine Sb (kh:=2) (i:=4) (fun C y => (C = CP∧y = kT "place")∨(C = CL∧y = kT "line")∨(C = CE∧y = kT "even")∨(C = CN∧y = kT "number")) (fun pins E' xf => ?body) ?fh (hr.mono (by decide)) mR' kR' bR' rfl rfl rfl RQ.nd rfl rfl mR bR ?kc rfl (fun _ => rfl) (fun _ => Or.inl rfl) rfl rfl (by decide) (by decide) (by decide) (by decide)
  case fh =>
   rintro C y (⟨rfl,rfl⟩ | ⟨rfl,rfl⟩ | ⟨rfl,rfl⟩ | ⟨rfl,rfl⟩)
   ·exact FP
   ·exact FL
   ·exact FE
   ·exact FN
  case kc =>
   rintro C y (⟨rfl,_⟩ | ⟨rfl,_⟩ | ⟨rfl,_⟩ | ⟨rfl,_⟩)
   ·exact kP
   ·exact kL
   ·exact kE
   ·exact kN
  case body =>
   rcases q with ⟨n,ps,t,u,rfl,ht,wa,q1,q2⟩ | ⟨n,ps,t,u,rfl,ht,hu,wa,q1,q2⟩ | ⟨t,u,v,rfl,ht,hu,q1,q2⟩
   ·refine AC (AZ (k:=true) (EB.cast (BO (ev 0) AA) rfl) (fun _ => AF (AR ?_)) (fun h => by cases h))
    exact AN G1 (hr.mono (by decide)) xf (EA.wa (AE (ev 1) (AE (ev 2) AD)) ⟨n,ps,t,rfl,ht,wa.wn,wa.n0,fun h => ⟨CE,_,rfl,.inr (.inr (.inl ⟨rfl,rfl⟩)),q1 h⟩,fun d hd => ⟨(q2 d hd).1,fun h => ⟨CP,_,rfl,.inl ⟨rfl,rfl⟩,(q2 d hd).2 h⟩⟩⟩)
   ·refine AC (AZ (k:=false) (EB.cast (BO (ev 0) AA) rfl) (fun h => by cases h) (fun _ => Ab ?_))
    refine AC (AZ (k:=true) (EB.cast (BO (ev 0) AA) rfl) (fun _ => AF (AR ?_)) (fun h => by cases h))
    exact AN G2 hr xf (EA.wa (AE (ev 1) (AE (ev 2) (AE (ev 3) AD))) ⟨n,ps,t,u,rfl,ht,hu,wa.wn,wa.n0,fun h => ⟨CE,_,rfl,.inr (.inr (.inl ⟨rfl,rfl⟩)),q1 h⟩,fun d hd => ⟨fun i j e1 e2 i0 i1 j0 j1 => ⟨((q2 d hd).1 i j e1 e2 i0 i1 j0 j1).1,fun h => ⟨CL,_,rfl,.inr (.inl ⟨rfl,rfl⟩),((q2 d hd).1 i j e1 e2 i0 i1 j0 j1).2 h⟩⟩,fun h => ⟨CP,_,rfl,.inl ⟨rfl,rfl⟩,(q2 d hd).2 h⟩⟩⟩)
   ·refine AC (AZ (k:=false) (EB.cast (BO (ev 0) AA) rfl) (fun h => by cases h) (fun _ => Ab ?_))
    refine AC (AZ (k:=false) (EB.cast (BO (ev 0) AA) rfl) (fun h => by cases h) (fun _ => Ab (AF (AR ?_))))
    exact AN G3 hr xf (EA.wa (AE (ev 1) (AE (ev 2) AD)) ⟨t,u,rfl,ht,hu,q1,fun h => ⟨CN,_,rfl,.inr (.inr (.inr ⟨rfl,rfl⟩)),q2 h⟩⟩)
theorem MJ {y:Str} (h:PyData.strOk y = true):Bn (kT y) = true:=by rw [Bn,rdBs,Bn,h]; rfl
theorem RS {y:Str}:PyData.eqv (dT (kT y)) (dT (kT y)) = true:=by simp [dT,dTs,PyData.eqv,PyData.eqvAll]
theorem Km {n:Int} {ps:List (Int × Int)} {S:List Int} {d m:Int} {fs:List (Option Nat)} (wa:WebA n ps) (hS:∀ z∈S,0≤z∧z < n) (hl:S.length = 1∨S.length = 2) (hd : -100≤d∧d≤200) (al:All n ps S fs) (hm:EJ (GZ fs) m) {O:AL} {Φ:BX} {Ξ:Value→AL→Prop}
  (q:Φ (.int (Bj ((Dg fs m).drop 1) (if S.length = 1 then d else 2 * (d - 1)) (d - 1))) O):JN [BA n ps,.lst (S.map T.int),.int d] O Φ Ξ :=
 ⟨n,ps,S,d,rfl,wa,hS,hl,hd,fun fs' m' al' hm' => by
  cases al'.uniq al
  have:m' = m:=Int.le_antisymm (hm.2 _ hm'.1) (hm'.2 _ hm.1)
  rw [this]
  exact q⟩
def YU:Br:=KA fun ts r => ∃ (n:Int) (ps:List (Int × Int)) (i j:Int),ts = [BA n ps,.int i,.int j]∧WebA n ps∧(0≤i∧i < n)∧(0≤j∧j < n)∧r = .bl true
def Ze:List Str:=["_law_web","_law_one","_law_other","_law_d","_law_at","_law_by"]
theorem TU:FnScope Ze ["_law_web","_law_one","_law_other"] (AB DI):=⟨rfl,rfl,rfl,by decide +kernel,rfl,by decide +kernel,by decide +kernel⟩
end
end K11
namespace L2.TL
open PySem PySem.Spec PyProof.Rows
section
variable {Z:Zx} {ρ:List (Option T)} {O:AL} {Ψ:Es}
theorem JO (i j:Nat) {x y:Str} {a b:Expr} {px py pt pos:Pos} {kt k2 pt2} (hc:Z.X.calm = true) (hN:Z.X.N.Nodup) (h:WA Z ρ O [a,b] fun ts O' => ∃ t u,ts = [t,u]∧Ψ.nx ((ρ.set i (some t)).set j (some u)) O')
  (hi:Z.X.N[i]? = some x:=by rfl) (hj:Z.X.N[j]? = some y:=by rfl) (hij:i≠j:=by decide) (hx:Z.X.env.scope.names.lookup x = some .local:=by rfl) (hy:Z.X.env.scope.names.lookup y = some .local:=by rfl)
  (hw:swappedStores [.Tuple [.Name x px,.Name y py] kt pt] (.Tuple [a,b] k2 pt2) Z.X.env = pure (some [x,y]):=by rfl)
  (hs:swapsWithSole [.Tuple [.Name x px,.Name y py] kt pt] (.Tuple [a,b] k2 pt2) pos.line Z.X.env = pure false:=by rfl) :
  WS Z ρ O (.Assign [.Tuple [.Name x px,.Name y py] kt pt] (.Tuple [a,b] k2 pt2) pos) Ψ :=
 PS.weak (Uc hc hN hi hj hij hx hy h hw hs) fun D σ H q => ⟨q.1,fun vs H' ts O' ⟨t,u,e,p⟩ f r => by
  subst e
  obtain ⟨v,w,rfl,r1,r2⟩:=r.two_inv
  exact ⟨v,w,rfl,q.2.nx _ O' _ H' p ⟨((q.1.step f).rl.set r1).set r2,(q.1.step f).fr⟩ f.kp⟩⟩
end
end L2.TL
namespace K11
open PySem L2 L2.TL PySem.Spec PyProof.Rows Gr
section
variable {P:Program} {w:World} {K:PySem.W.Frag} {mg:Str→Option Value} {base:Heap}
theorem YV {f:Addr} {fd:FuncData} (F:Fun K "_law_right" "_law_right" DI f fd) (Gw:FnT P w K mg base "_law_whole" 1 ["_law_found"] GU) (Gn:FnT P w K mg base "_law_near_of" 1 ["_law_web","_law_place"] Dd) (Ge:FnT P w K mg base "_law_even" 2 ["_law_web"] JM)
  (Gt:FnT P w K mg base "_law_told" 7 ["_law_way","_law_web","_law_one","_law_other"] OY) (Gf:FnT P w K mg base "_law_full" 3 ["_law_web","_law_starts","_law_d"] JN):FnOk P w K mg base (CXe P w) 8 f fd ["_law_web","_law_one","_law_other"] (By K YU):=by
 refine AV F TU ?_ ?_
 ·rintro ts O Φ Ξ ⟨r,⟨n,ps,i,j,rfl,_⟩,_⟩
  rfl
 ·rintro cdv A outer s H E O Ξ hr xf _ Φ ⟨_,⟨n,ps,i,j,rfl,wa,hi,hj,rfl⟩,q⟩
  have hu:(A.deeper (envOfC "_law_right" (AB DI) s.heap.objs.size f cdv)).units + 102 < cLine:=by have:=hr.un; omega
  have w1:=UK hi.1 hi.2
  have w2:=UK hj.1 hj.2
  refine AC (AG 3 (ET.we (Ai Ge (hr.mono (by decide)) xf (AE (ev 0) AD) ⟨n,ps,rfl,wa,rfl⟩) ?_) TU.nd)
  rcases MG (AY n ps) with ⟨d,hd,hdd⟩ | hd
  ·clear hdd
   have bd:=RF wa.wn wa.n0 hd
   rw [hd]
   refine AC (JO 4 5 rfl TU.nd (CO (AN Gt hr xf (EA.wa (AE AA (AE (ev 0) (AE (ev 1) (AE BU AD)))) (.inl ⟨n,ps,_,_,rfl,rfl,wa,(fun h => by rw [hd] at h; cases h),fun d' hd' => ⟨fun i' e i0 i1 fs m al hm => ?_,fun h => by rw [w1] at h; cases h⟩⟩)))))
   cases e
   rw [hd] at hd'
   cases hd'
   have at_ok:∀ {ρ:List (Option T)} {t5:T},ρ = [some (BA n ps),some (.int i),some (.int j),some (.int d),some (.int (Bj ((Dg fs m).drop 1) d (d - 1))),some t5]→EB (zB P w K mg base Ze "_law_right" (AB DI) f cdv A outer s H E O Ξ) ρ O (match (Aj DI).getD 3 (.Pass ⟨0,0,0,0⟩) with | .If c _ _ _ => c | _ => .Constant .none 0 ⟨0,0,0,0⟩) false:=by
    rintro ρ t5 rfl
    refine EW.eb (EW.cast (Mq (x:=false) (y:=false) (EB.cast (Ch (k:=true) (EM (Ai Gw (hr.mono (by decide)) xf (AE (ev 4) AD) ⟨_,rfl,rfl,rfl⟩))) rfl) fun _ => IZ (EB.cast (Lc (ev 4) (Cj Gf (hr.mono (by decide)) xf (AE (ev 0) (AE (Az (ts:=[i].map T.int) (AE (ev 1) AD) (by show 1≤sizeLine; decide)) (AE (ev 3) AD))) fun Φ q => Km wa (by simp; exact hi) (.inl rfl) (by omega) al hm q)) ?_)) rfl)
    rw [if_pos (show [i].length = 1 from rfl),decide_eq_true rfl]; rfl
   have near_ok:∀ {ρ:List (Option T)} {t4 t5:Option T},ρ = [some (BA n ps),some (.int i),some (.int j),some (.int d),t4,t5]→EB (zB P w K mg base Ze "_law_right" (AB DI) f cdv A outer s H E O Ξ) ρ O (match (Aj DI).getD 4 (.Pass ⟨0,0,0,0⟩) with | .If c _ _ _ => c | _ => .Constant .none 0 ⟨0,0,0,0⟩) (!decide (j∈BD ps i)):=by
    rintro ρ t4 t5 rfl
    exact EB.cast (BI (Ve hu) rfl (Py (t:=.int j) (us:=(BD ps i).map T.int) (by rw [Bn]) Cm (by show 0≤100; decide)) (ev 2) (Ai Gn (hr.mono (by decide)) xf (AE (ev 0) (AE (ev 1) AD)) ⟨n,ps,i,rfl,wa.hl,rfl⟩)) (by rw [Er])
   refine CO (AN Gt hr xf (EA.wa (AE AA (AE (ev 0) (AE (ev 1) (AE (ev 2) AD)))) (.inr (.inl ⟨n,ps,_,_,rfl,rfl,rfl,wa,(fun h => by rw [hd] at h; cases h),fun d2 hd2 => ⟨fun i2 j2 e1 e2 _ _ _ _ => ?_,fun h => by rw [w1,w2] at h; rcases h with h | h <;> cases h⟩⟩))))
   cases e1
   cases e2
   rw [hd] at hd2
   cases hd2
   refine ⟨fun ht fs2 m2 al2 hm2 => BE ⟨_,_,rfl,?_⟩,fun ht => BE ⟨_,_,rfl,?_⟩⟩
   ·have hmm:j∈BD ps i:=CS.mpr ((NR wa.hp).mp ht)
    refine AC (AZ (k:=false) (DH (t:=.int d) rfl (ev 3)) (fun h => by cases h) (fun _ => Ab ?_))
    refine AC (AZ (k:=false) (at_ok rfl) (fun h => by cases h) (fun _ => Ab ?_))
    refine AC (AZ (k:=false) (EB.cast (near_ok rfl) (by simp [hmm])) (fun h => by cases h) (fun _ => Ab ?_))
    refine AF (AR (ET.we (t:=.bl true) (ET.cast (Pe (x:=true) (y:=true) (Ai Gw (hr.mono (by decide)) xf (AE (ev 5) AD) ⟨_,rfl,rfl,rfl⟩) fun _ => Ld (ET.cast (VO (ev 5) (Cj Gf (hr.mono (by decide)) xf (AE (ev 0) (AE (Az (ts:=[i,j].map T.int) (AE (ev 1) (AE (ev 2) AD)) (by show 2≤sizeLine; decide)) (AE (ev 3) AD))) fun Φ q => Km wa (by simp; exact ⟨hi,hj⟩) (.inr rfl) (by omega) al2 hm2 q)) ?_)) rfl) q))
    rw [if_neg (show ¬ [i,j].length = 1 by simp),decide_eq_true rfl]
   ·have hmm:¬ j∈BD ps i:=fun z => by rw [(NR wa.hp).mpr (CS.mp z)] at ht; cases ht
    refine AC (AZ (k:=false) (DH (t:=.int d) rfl (ev 3)) (fun h => by cases h) (fun _ => Ab ?_))
    refine AC (AZ (k:=false) (at_ok rfl) (fun h => by cases h) (fun _ => Ab ?_))
    refine AC (AZ (k:=true) (EB.cast (near_ok rfl) (by simp [hmm])) (fun _ => AF (AR (ET.we (t:=.bl true) (ET.cast (IX (GL (Nat.lt_of_succ_lt hu)) (Af _) (Ip (t:=kT "line") (u:=kT "line") (MJ (by decide +kernel)) (MJ (by decide +kernel)) Dy) (ev 5) (Ay (AE Dp AD) (by show 1≤sizeLine; decide))) (by rw [RS])) q))) (fun h => by cases h))
  ·rw [hd]
   refine AC (JO 4 5 rfl TU.nd (CO (AN Gt hr xf (EA.wa (AE AA (AE (ev 0) (AE (ev 1) (AE BU AD)))) (.inl ⟨n,ps,_,_,rfl,rfl,wa,(fun h => ?_),fun d' hd' => by rw [hd] at hd'; cases hd'⟩)))))
   refine CO (AN Gt hr xf (EA.wa (AE AA (AE (ev 0) (AE (ev 1) (AE (ev 2) AD)))) (.inr (.inl ⟨n,ps,_,_,rfl,rfl,rfl,wa,(fun h => ?_),fun d' hd' => by rw [hd] at hd'; cases hd'⟩))))
   refine BE ⟨_,_,rfl,?_⟩
   refine AC (AZ (k:=true) (DH (t:=.non) rfl (ev 3)) (fun _ => AF (AR (ET.we (t:=.bl true) (ET.cast (Jx (GL (Nat.lt_of_succ_lt hu)) (GL (Nat.lt_of_succ_lt hu)) (Ip (t:=kT "even") (u:=kT "even") (MJ (by decide +kernel)) (MJ (by decide +kernel)) Dy) (fun _ => Ip (t:=kT "even") (u:=kT "even") (MJ (by decide +kernel)) (MJ (by decide +kernel)) Dy) (ev 4) (ev 5) (fun _ => Ay (AE Dp AD) (by show 1≤sizeLine; decide))) (by rw [RS]; rfl)) q))) (fun h => by cases h))
end
end K11
namespace L2.TL
open PySem PySem.Spec PySem.Calls PyProof.Rows
section
variable {K:PySem.W.Frag} {O:AL} {H:Hp} {P:Program} {w:World} {h:Heap}
end
section
variable {X:Cx}
end
section
variable {Z:Zx} {ρ:List (Option T)} {O:AL} {e:Expr} {p pos:Pos} {t:T} {ts:List T} {Φ:BX}
end
end L2.TL
namespace L2
open PySem PySem.Spec PyProof.Rows
section
variable {X:Cx} {a b:Expr} {rest:List Expr} {pos:Pos} {ta tb:TE}
theorem WU (ha:PE X a ta) (hb:PE X (.BoolOp .Or (b :: rest) pos) tb):PE X (.BoolOp .Or (a :: b :: rest) pos) (fun σ H Q => ta σ H fun x H1 => ∃ k,Rn X.K x H1 k∧if k = true then Q x H1 else tb σ H1 Q):=by
 intro pins s σ H Q I h
 refine BoolOp_or (Av (ha pins s σ H _ I h) fun v s1 ⟨x,H1,I1,r1,k,tr,q1⟩ => ?_)
 refine wpAny_mono (Om pins s1 σ H1 x v (fun k' H' => k' = k∧H' = H1) I1 r1 ⟨k,tr,rfl,rfl⟩) ?_ fun _ _ e => e
 rintro k' s2 ⟨H2,I2,rfl,rfl⟩
 cases k' with
 | false =>
  rw [if_neg Bool.false_ne_true] at q1
  exact hb pins s2 σ H2 Q I2 q1
 | true =>
  rw [if_pos rfl] at q1
  exact ⟨x,H2,I2,r1,q1⟩
end
end L2
namespace L2.TL
open PySem PySem.Spec PyProof.Rows
section
variable {Z:Zx} {ρ:List (Option T)} {O:AL} {a b:Expr} {es:List Expr} {pos:Pos} {t u:T}
theorem WV {x:Bool} (ha:ET Z ρ O a t) (tr:TruT O t x) (hb:x = false→ET Z ρ O (.BoolOp .Or (b :: es) pos) u):ET Z ρ O (.BoolOp .Or (a :: b :: es) pos) (if x = true then t else u):=fun Φ p => by
 refine PE.weak (WU (BN (ρ:=ρ)) (BN (ρ:=ρ))) fun σ H Q q => ?_
 refine ⟨O,_,ha (fun t' O' => t' = t∧O' = O) ⟨rfl,rfl⟩,q.1,?_⟩
 rintro v H1 _ _ ⟨rfl,rfl⟩ f r
 refine ⟨x,tr.v r f.ok,?_⟩
 cases x with
 | true => exact Fj (q.2 _ H1 _ _ p f r)
 | false => exact Dl ⟨_,_,hb rfl _ p,q.1.step f,q.2.step f⟩
end
section
variable {Z:Zx} {ρ:List (Option T)} {O:AL} {es:List Expr} {ts:List T} {Ψ:Es} {pos p:Pos} {tg:Expr} {body:List Stmt} {k:Nat} {x y z:Str} {ta tb tc:T} {p1 p2 p3:Pos}
theorem MK {es:List Expr} {k:Nat} {p:Pos} {env:Env} {x:Value}:foldedSetIterable (.Tuple es k p) env x = pure x:=rfl
theorem Kn (hp:PassesOwn (model Z.X.prog Z.X.w) Z.X.A Z.X.env Z.X.xe) (hc:Z.X.calm = true) (h:HEA Z ρ O es ts) (hl:ts.length≤sizeLine) (I:Nat→Ic) (i0:I 0 ρ O)
  (st:∀ i t ρ' O',ts[i]? = some t→I i ρ' O'→∃ ρ2,WG Z Z.X.N.length ρ' O' tg t ρ2∧HS Z ρ2 O' body { nx:=I (i + 1),rt:=Ψ.rt,bk:=Ψ.nx,ct:=I (i + 1) })
  (fin:∀ ρ' O',I ts.length ρ' O'→Ψ.nx ρ' O'):WS Z ρ O (.For tg (.Tuple es k p) body [] pos) Ψ :=
 BP hp hc (Pi (ET.we (Ay h.out hl) ⟨ts,rfl,I,i0,fun i t ρ' O' e q => by
  obtain ⟨ρ2,h1,h2⟩:=st i t ρ' O' e q
  exact ⟨ρ2,h1,h2.out⟩,fin⟩)) (fun _ => MK)
theorem Reps.three_inv {K:PySem.W.Frag} {O:AL} {H:Hp} {vs:List V} {t u v:T} (r:Reps K O H vs [t,u,v]):∃ a b c,vs = [a,b,c]∧Rep K O H a t∧Rep K O H b u∧Rep K O H c v:=by
 obtain ⟨a,vs',rfl,h1,r'⟩:=Reps.cons_inv r
 obtain ⟨b,c,rfl,h2,h3⟩:=r'.two_inv
 exact ⟨a,b,c,rfl,h1,h2,h3⟩
theorem TV (i j m:Nat) {n:Nat} (hc:Z.X.calm = true) (hN:Z.X.N.Nodup) (hni:i < n) (hnj:j < n) (hnm:m < n) (hi:Z.X.N[i]? = some x:=by rfl) (hj:Z.X.N[j]? = some y:=by rfl) (hm:Z.X.N[m]? = some z:=by rfl)
  (hx:NX Z.X.env.scope x:=by first | exact Or.inl rfl | exact Or.inr rfl) (hy:NX Z.X.env.scope y:=by first | exact Or.inl rfl | exact Or.inr rfl) (hz:NX Z.X.env.scope z:=by first | exact Or.inl rfl | exact Or.inr rfl)
  (hf:Z.X.fn x = true∨Z.X.env.scope.names.lookup x = some .local:=by first | exact .inl rfl | exact .inr rfl) (hf2:Z.X.fn y = true∨Z.X.env.scope.names.lookup y = some .local:=by first | exact .inl rfl | exact .inr rfl) (hf3:Z.X.fn z = true∨Z.X.env.scope.names.lookup z = some .local:=by first | exact .inl rfl | exact .inr rfl)
  (hs:(assignEach [.Name x p1,.Name y p2,.Name z p3] Z.X.env).map (·.2) = assign (.Name x p1) Z.X.env :: (assignEach [.Name y p2,.Name z p3] Z.X.env).map (·.2):=by rfl) (hs2:(assignEach [.Name y p2,.Name z p3] Z.X.env).map (·.2) = assign (.Name y p2) Z.X.env :: (assignEach [.Name z p3] Z.X.env).map (·.2):=by rfl) (hs3:(assignEach [.Name z p3] Z.X.env).map (·.2) = assign (.Name z p3) Z.X.env :: (assignEach [] Z.X.env).map (·.2):=by rfl)
  (hl:(assignEach [.Name x p1,.Name y p2,.Name z p3] Z.X.env).length = 3:=by rfl) (hst:(assignEach [.Name x p1,.Name y p2,.Name z p3] Z.X.env).findIdx? (·.1) = none:=by rfl) :
  WG Z n ρ O (.Tuple [.Name x p1,.Name y p2,.Name z p3] k pos) (.tup [ta,tb,tc]) (((ρ.set i (some ta)).set j (some tb)).set m (some tc)) :=
 PG.weak (Of hc (Cz (DM hN hi hx hf) (Cz (DM hN hj hy hf2) (Cz (DM hN hm hz hf3) MP hs3) hs2) hs) hl hst) fun v σ H Q q => by
  obtain ⟨q1,q2,q3⟩:=q
  obtain ⟨a,xs,rfl,h1,r⟩:=q2.tup_inv
  obtain ⟨v,w,u,rfl,r1,r2,r3⟩:=r.three_inv
  exact ⟨a,_,rfl,.inl (.inl h1),rfl,v,_,rfl,w,_,rfl,u,_,rfl,rfl,q3 _ ⟨((q1.rl.set r1).set r2).set r3,q1.fr⟩ ⟨by simp,fun m hm => by rw [List.getElem?_set_ne (by omega),List.getElem?_set_ne (by omega),List.getElem?_set_ne (by omega)]⟩⟩
end
end L2.TL
namespace K11
open PySem L2 L2.TL PySem.Spec PyProof.Rows Gr
def NS (i:Nat):Stmt:=(Aj KN).getD i (.Pass ⟨0,0,0,0⟩)
def Zf:Stmt→Expr
 | .For _ e _ _ _ => e
 | _ => .Constant .none 0 ⟨0,0,0,0⟩
def FI:Stmt→List Stmt
 | .For _ _ b _ _ => b
 | _ => []
def ML:List Str:=["_law_script","_law_web","_law_d","_law_many","_law_cell","_law_pen","_law_turn","_law_one","_law_near","_law_other","_law_odd","_law_due","_law_found","_law_bad","_law_more","_law_wrong"]
theorem Bf:FnScope ML ["_law_script"] (AB KN):=⟨rfl,rfl,rfl,by decide +kernel,rfl,by decide +kernel,by decide +kernel⟩
theorem YW:(Ah ["_law_way","_law_one","_law_two"] [(("_law_web" : Str),1)]).Nodup:=by decide +kernel
theorem YX:(Ah ["_law_one","_law_two"] []).Nodup:=by decide +kernel
theorem WX {cs:List Int}:Aa (Ey cs) = false:=by
 unfold Ey
 split <;> rfl
theorem FY {x:Option Int}:Bn (Bv x) = true:=by cases x <;> rw [Bv,Bn]
theorem Gi {x:Option Int}:(dT (Bv x)).depth≤100:=by cases x <;> (show 0≤100; decide)
theorem Ko {x:Option Int}:PyData.eqv (dT (Bv x)) (dT (Bv x)) = true:=by
 cases x with
 | none => rfl
 | some i => show (i == i) = true; simp
theorem Kq {x:Option Int}:Aa (Bv x) = false:=by cases x <;> rfl
section
variable {P:Program} {w:World} {K:PySem.W.Frag} {mg:Str→Option Value} {base:Heap} {f:Addr} {cdv:Value} {A:Around} {outer:List Env} {s:Shared} {H:Hp} {E:XK}
abbrev zL (P:Program) (w:World) (K:PySem.W.Frag) (mg:Str→Option Value) (base:Heap) (f:Addr) (cdv:Value) (A:Around) (outer:List Env) (s:Shared) (H:Hp) (E:XK):Zx:=zB P w K mg base ML "law" (AB KN) f cdv A outer s H E Mw (fun _ _ => False)
structure Has (P:Program) (w:World) (K:PySem.W.Frag) (mg:Str→Option Value) (base:Heap):Prop where
 tx:Txt mg
 gd:FnT P w K mg base "_law_draw" 2 ["_law_pen","_law_many"] CF
 gp:FnT P w K mg base "_law_pen_of" 1 ["_law_cell"] UB
 gh:FnT P w K mg base "_law_whole" 1 ["_law_found"] GU
 gs:FnT P w K mg base "_law_some_web" 3 ["_law_pen","_law_most"] Qz
 gw:FnT P w K mg base "_law_near_of" 1 ["_law_web","_law_place"] Dd
 ge:FnT P w K mg base "_law_even" 2 ["_law_web"] JM
 gn:FnT P w K mg base "_law_no_place" 3 ["_law_pen","_law_many"] Qr
 go:FnT P w K mg base "_law_odd_of" 3 ["_law_pen","_law_low","_law_high"] UJ
 gt:FnT P w K mg base "_law_told" 7 ["_law_way","_law_web","_law_one","_law_other"] OY
 gl:FnT P w K mg base "_law_longest" 1 ["_law_d","_law_many"] NQ
 gr:FnT P w K mg base "_law_right" 8 ["_law_web","_law_one","_law_other"] YU
def NT (K:PySem.W.Frag):Sp:=fun vs H Q _ => ∃ (a:Addr) (ns:List Int),vs = [.ref a]∧SqL K H a (ns.map V.int)∧ns.length≤63∧∀ H',Q (.bl true) H'
def Zg:BX:=fun t _ => t = .bl true
theorem RU {ρ:List (Option T)} {a:Addr} {ns:List Int} {Φ:BX} {fC:Addr} {fdC:FuncData} (hr:Room 8 (zL P w K mg base f cdv A outer s H E).X.A) (xf:XFly (zL P w K mg base f cdv A outer s H E).X (zL P w K mg base f cdv A outer s H E).W) (hS:SqL K H a (ns.map V.int)) (hn:ns.length≤63) (hρ:ρ[0]? = some (some (.raw (.ref a))))
  (FC:FnOk P w K mg base (CXe P w) 1 fC fdC ["_law_script","_law_k"] (GT K)) (mC:mg "_law_cell_at" = some (.ref fC)) (kC:PySem.W.keepIn K (.ref fC) = true) (bC:Binds K fdC ["_law_script","_law_k"] [])
  (k:∀ ms:List Int,ms.length≤64→Φ (.lst (ms.map T.int)) Mw):HWE (zL P w K mg base f cdv A outer s H E) ρ Mw (Zf (NS 2)) Φ:=by
 have sb:=AT
 refine ⟨?_⟩
 refine Bx IE ?_
 refine LZ (CO (Pt FC mC kC bC (hr.mono (by decide)) xf (AE (ev 0 hρ) (AE AA AD)) ?_))
 intro σ H1 vs Q as r acc
 obtain ⟨v,u,rfl,r1,r2⟩:=r.two_inv
 cases r1.raw_inv
 cases r2.int_inv
 refine ⟨a,ns,rfl,Tz as.fr.kp hS,fun c => acc _ _ _ _ ?_ (.refl as.ok) (.int c)⟩
 refine BE ⟨by show 1≤sizeLine; decide,?_⟩
 refine Vd rfl hS (ev 0 hρ) AA AA fun ms hm => ?_
 exact Ij (ts:=[T.int c]) (us:=ms.map T.int) (by simp; omega) _ (k (c :: ms) (by simp; omega))
theorem Hx {d m:Int} (hd:2≤d∧d≤15) (hm:1≤m∧m≤16) {O:AL} {Φ:BX} {Ξ:Value→AL→Prop} (q:Φ (Bv (Bz d m)) O):OY [.int 2,.int d,.int m,.non] O Φ Ξ :=
 .inr (.inr ⟨_,_,_,rfl,rfl,rfl,fun d' m' e1 e2 _ _ _ _ => by cases e1; cases e2; exact q,fun h => by rw [Hu hd.1 hd.2,Hu hm.1 hm.2] at h; rcases h with h | h <;> cases h⟩)
theorem JP {a b:Int} {t:T} (h:Bu t a b = false) {i:Int} (e:t = .int i) (h0:a≤i) (h1:i≤b):False:=by
 rw [e,Hu h0 h1] at h
 cases h
theorem Gj {t u:T} (ht:Aa t = false) (hu:Aa u = false) (h:Bu t 2 15 = false∨Bu u 1 16 = false) {O:AL} {Φ:BX} {Ξ:Value→AL→Prop} (q:Φ (kT "number") O):OY [.int 2,t,u,.non] O Φ Ξ :=
 .inr (.inr ⟨_,_,_,rfl,ht,hu,fun d m e1 e2 d0 d1 m0 m1 => (by rcases h with h | h; exact JP h e1 d0 d1; exact JP h e2 m0 m1:False).elim,fun _ => q⟩)
def Cw (n:Int) (ps:List (Int × Int)):Str:=if CQ (Ey (AY n ps)) = true then "even" else "place"
def TW (t:T):List (T × T × T):=[(.int 0,t,.int 0),(.int 1,t,t),(.int 1,.int 0,t)]
theorem RV {n:Int} {ps:List (Int × Int)} {t:T} (wa:WebA n ps) (ht:Aa t = false) (ho:Bu t 0 (n - 1) = false) {x:T × T × T} (hx:x∈TW t) {O:AL} {Φ:BX} {Ξ:Value→AL→Prop} (q:Φ (kT (Cw n ps)) O):OY [x.1,BA n ps,x.2.1,x.2.2] O Φ Ξ:=by
 have q1:Ey (AY n ps) = .non→Φ (kT "even") O:=fun h => by
  have:Cw n ps = "even":=by unfold Cw; rw [h]; rfl
  rw [this] at q; exact q
 have q2:∀ d,Ey (AY n ps) = .int d→Φ (kT "place") O:=fun d h => by
  have:Cw n ps = "place":=by unfold Cw; rw [h]; rfl
  rw [this] at q; exact q
 have no:∀ {i:Int},t = .int i→0≤i→i < n→False:=fun e h0 h1 => JP ho e h0 (by omega)
 simp only [TW,List.mem_cons,List.not_mem_nil,or_false] at hx
 rcases hx with rfl | rfl | rfl
 ·exact .inl ⟨n,ps,_,_,rfl,ht,wa,q1,fun d hd => ⟨fun i e h0 h1 => (no e h0 h1).elim,fun _ => q2 d hd⟩⟩
 ·exact .inr (.inl ⟨n,ps,_,_,rfl,ht,ht,wa,q1,fun d hd => ⟨fun i j e _ h0 h1 _ _ => (no e h0 h1).elim,fun _ => q2 d hd⟩⟩)
 ·exact .inr (.inl ⟨n,ps,_,_,rfl,rfl,ht,wa,q1,fun d hd => ⟨fun i j _ e _ _ h0 h1 => (no e h0 h1).elim,fun _ => q2 d hd⟩⟩)
theorem TX {n:Int} {ps:List (Int × Int)}:PyData.strOk (Cw n ps) = true:=by
 unfold Cw
 split <;> decide +kernel
theorem UL {y:Str} (h:PyData.strOk y = true) (m:Nat):Bn (.lst (List.replicate m (kT y))) = true:=by
 rw [Bn,KH]
 intro t ht
 rw [List.eq_of_mem_replicate ht]
 exact MJ h
theorem RW {y:Str}:∀ (m:Nat),PyData.eqvAll (dTs (List.replicate m (kT y))) (dTs (List.replicate m (kT y))) = true
 | 0 => rfl
 | m + 1 => by
  rw [List.replicate_succ,dTs,PyData.eqvAll,RW m,RS]
  rfl
theorem Kr {y:Str}:∀ (m:Nat),PyData.depthAll (dTs (List.replicate m (kT y)))≤2
 | 0 => by simp [dTs,PyData.depthAll]
 | m + 1 => by
  have:=Kr (y:=y) m
  rw [List.replicate_succ,dTs,PyData.depthAll]
  simp only [dT,dTs,PyData.depth,PyData.depthAll]
  omega
theorem UM {Z:Zx} {ρ:List (Option T)} {O:AL} {a b:Expr} {pos:Pos} {y:Str} {m:Nat} (hu:Z.X.A.units + 101 < cLine) (h:PyData.strOk y = true) (ha:ET Z ρ O a (.lst (List.replicate m (kT y)))) (hb:ET Z ρ O b (.lst (List.replicate m (kT y)))):EB Z ρ O (.Compare a [.NotEq] [b] pos) false :=
 EB.cast (BI (Io hu) (Af _) (Ip (UL h m) (UL h m) (by show PyData.depthAll _ + 1≤100; have:=Kr (y:=y) m; omega)) ha hb) (by
  show (!PyData.eqvAll _ _) = false
  rw [RW]; rfl)
structure Rho (ρ:List (Option T)) (v0:Option T) (p:Addr) (n:Int) (ps:List (Int × Int)):Prop where
 ex:∃ v2 v3 v4 v6 v7 v8 v9 v10 v11 v12 v13 v14 v15,ρ = [v0,some (BA n ps),v2,v3,v4,some (.raw (.ref p)),v6,v7,v8,v9,v10,v11,v12,v13,v14,v15]
theorem MM {O0 O1:AL} {ρ:List (Option T)} {v0:Option T} {p:Addr} {n:Int} {ps:List (Int × Int)} {ss:List Stmt} {Ψ:Es} (B:Has P w K mg base) (hr:Room 8 (zL P w K mg base f cdv A outer s H E).X.A) (xf:XFly (zL P w K mg base f cdv A outer s H E).X (zL P w K mg base f cdv A outer s H E).W) (po:PO O0 p O1) (wa:WebA n ps) (R:Rho ρ v0 p n ps)
  (k:∀ ρ' O',PO O0 p O'→Rho ρ' v0 p n ps→DW (zL P w K mg base f cdv A outer s H E) ρ' O' ss Ψ):DW (zL P w K mg base f cdv A outer s H E) ρ O1 ((FI (NS 2)).getD 2 (.Pass ⟨0,0,0,0⟩) :: ss) Ψ:=by
 have n1:=wa.n1
 have n0:=wa.n0
 have hl:=wa.hl
 refine AC (BP Ac.own rfl (EI.wi (As (k:=3) B.tx.nRange AA ⟨by decide,by decide⟩) ⟨fun i ρ' O' => PO O0 p O'∧Rho ρ' v0 p n ps,⟨po,R⟩,?_,?_⟩))
 ·rintro i t _ O2 e ⟨po2,⟨v2,v3,v4,v6,v7,v8,v9,v10,v11,v12,v13,v14,v15,rfl⟩⟩
  refine ⟨[v0,some (BA n ps),v2,v3,v4,some (.raw (.ref p)),some t,v7,v8,v9,v10,v11,v12,v13,v14,v15],AS 6 Bf.nd (by show 6 < 16; decide),?_⟩
  refine AC (AG 7 (Ap B.gd (hr.mono (by decide)) xf po2 (ev 5) (BJ (ev 1) AA) (by omega) (by omega) fun r O3 r0 r1 po3 => ?_) Bf.nd)
  obtain ⟨ns,hne,hnl,hns,near⟩:∃ ns:List Int,ns≠[]∧ns.length≤200∧(∀ z∈ns,0≤z∧z < n)∧(if (!((BD ps r).map T.int).isEmpty) = true then T.lst ((BD ps r).map T.int) else T.lst [T.int r]) = T.lst (ns.map T.int):=by
   have:=Hr (ps:=ps) (x:=r)
   cases z:BD ps r with
   | nil => exact ⟨[r],by simp,by simp,by simp; exact ⟨r0,r1⟩,rfl⟩
   | cons x xs => exact ⟨x :: xs,by simp,by rw [← z]; omega,fun y hy => by
     rw [← z] at hy
     have:=(CS.mp hy).inb wa.wn.hw
     exact ⟨this.1,this.2.1⟩,rfl⟩
  refine AC (AG 8 (ET.we (t:=.lst (ns.map T.int)) (ET.cast (WV (t:=.lst ((BD ps r).map T.int)) (x:=!((BD ps r).map T.int).isEmpty) (Ai B.gw (hr.mono (by decide)) xf (AE (ev 1) (AE (ev 7) AD)) ⟨n,ps,r,rfl,wa.hl,rfl⟩) rfl fun _ => Ld (Az (AE (ev 7) AD) (by show 1≤sizeLine; decide))) near) ?_) Bf.nd)
  have hnp:0 < ns.length:=List.length_pos_iff.mpr hne
  refine AC (AG 9 (Mo CY (fun _ _ => rfl) (ET.we (ev 8) (Ap (m:=((ns.map T.int).length:Int)) B.gd (hr.mono (by decide)) xf po3 (ev 5) (FR B.tx.nLen (ev 8)) (by rw [List.length_map]; omega) (by rw [List.length_map]; omega) fun r2 O4 r20 r21 po4 => ?_))) Bf.nd)
  obtain ⟨t9,e9,m9⟩:=DN (L:=ns.map T.int) r20 r21
  obtain ⟨j,hj,rfl⟩:=List.mem_map.mp m9
  have hjb:=hns j hj
  refine Ia e9 _ ?_
  refine AF (Pg (WW.wt (Ts (EB.wt (EB.cast (Ch (k:=true) (EM (Ai B.gr hr xf (AE (ev 1) (AE (ev 7) (AE (ev 9) AD))) ⟨n,ps,r,j,rfl,wa,⟨r0,r1⟩,hjb,rfl⟩))) rfl) (Dl ?_)))))
  refine Pd (Pc (Jy (AN B.gr hr xf ?_)))
  refine CO (ET.we (ev 1) (CO (ET.we (ev 7) (CO (Ap B.gd (hr.mono (by decide)) xf po4 (ev 5) (BJ (ev 1) AA) (by omega) (by omega) fun r3 O5 r30 r31 po5 => ?_)))))
  refine BE ⟨_,⟨n,ps,r,r3,rfl,wa,⟨r0,r1⟩,⟨r30,r31⟩,rfl⟩,?_⟩
  exact ⟨true,rfl,Dl (Ab ⟨po5,⟨v2,v3,v4,some t,_,_,_,v10,v11,v12,v13,v14,v15,rfl⟩⟩)⟩
 ·rintro ρ' O' ⟨po2,R2⟩
  exact k ρ' O' po2 R2
end
section
variable {P:Program} {w:World} {K:PySem.W.Frag} {mg:Str→Option Value} {base:Heap} {f:Addr} {cdv:Value} {A:Around} {outer:List Env} {s:Shared} {H:Hp} {E:XK}
theorem TY {Z:Zx} {ρ:List (Option T)} {O:AL} {c:Expr} {n:Int} {ps:List (Int × Int)} {p1 p2 pos pos' pos2:Pos} {k1 k2 k3 k4:Nat} (hc:EB Z ρ O c (CQ (Ey (AY n ps)))) :
  ET Z ρ O (.IfExp c (.Tuple [.Constant (.str "even") k1 p1] k2 pos) (.Tuple [.Constant (.str "place") k3 p2] k4 pos') pos2) (kT (Cw n ps)):=by
 refine ET.cast (Ha hc (fun _ => Ay (AE Dp AD) (by show 1≤sizeLine; decide)) (fun _ => Ay (AE Dp AD) (by show 1≤sizeLine; decide))) ?_
 unfold Cw
 split <;> rfl
theorem RX {O0 O1:AL} {ρ:List (Option T)} {v0:Option T} {p:Addr} {n:Int} {ps:List (Int × Int)} {ss:List Stmt} {Ψ:Es} (B:Has P w K mg base) (hr:Room 8 (zL P w K mg base f cdv A outer s H E).X.A) (xf:XFly (zL P w K mg base f cdv A outer s H E).X (zL P w K mg base f cdv A outer s H E).W) (po:PO O0 p O1) (wa:WebA n ps) (R:Rho ρ v0 p n ps)
  (k:∀ ρ' O',PO O0 p O'→Rho ρ' v0 p n ps→DW (zL P w K mg base f cdv A outer s H E) ρ' O' ss Ψ):DW (zL P w K mg base f cdv A outer s H E) ρ O1 ((FI (NS 2)).getD 3 (.Pass ⟨0,0,0,0⟩) :: (FI (NS 2)).getD 4 (.Pass ⟨0,0,0,0⟩) :: (FI (NS 2)).getD 5 (.Pass ⟨0,0,0,0⟩) :: ss) Ψ:=by
 have n1:=wa.n1
 have n0:=wa.n0
 have hu:(zL P w K mg base f cdv A outer s H E).X.A.units + 101 < cLine:=by have:=hr.un; omega
 obtain ⟨v2,v3,v4,v6,v7,v8,v9,v10,v11,v12,v13,v14,v15,rfl⟩:=R.ex
 obtain ⟨ys,hy,py⟩:=po.at
 refine AC (AG 10 (AN B.gn (hr.mono (by decide)) xf (EA.wa (AE (ev 5) (AE (BJ (ev 1) AA) AD)) ⟨p,ys,n,rfl,hy,py,by omega,n1,fun odd O3 o1 o2 po3 => ?_⟩)) Bf.nd)
 have po4:=po.trans po3
 refine AC (AG 11 (ET.we (t:=.lst (List.replicate 3 (kT (Cw n ps)))) (JK (i:=3) (Az (AE (TY (DH (t:=Ey (AY n ps)) WX (Ai B.ge (hr.mono (by decide)) xf (AE (ev 1) AD) ⟨n,ps,rfl,wa,rfl⟩))) AD) (by show 1≤sizeLine; decide)) AA ⟨by decide,by decide⟩) ?_) Bf.nd)
 refine AC (AZ (k:=false) (UM (y:=Cw n ps) (m:=3) hu TX (ET.cast (Dq ["_law_way","_law_one","_law_two"] [("_law_web",1)] (TW odd) (fun x => .tup [x.1,x.2.1,x.2.2]) (fun _ => kT (Cw n ps)) rfl (CD (AB KN) ML (by decide +kernel)) (Ak (ts:=(TW odd).map fun x => .tup [x.1,x.2.1,x.2.2]) (Az (AE (Ay (AE AA (AE (ev 10) (AE AA AD))) (by show 3≤sizeLine; decide)) (AE (Ay (AE AA (AE (ev 10) (AE (ev 10) AD))) (by show 3≤sizeLine; decide)) (AE (Ay (AE AA (AE AA (AE (ev 10) AD))) (by show 3≤sizeLine; decide)) AD))) (by show 3≤sizeLine; decide))) (by show 3≤sizeLine; decide) fun x hx => ⟨[some x.1,some x.2.1,some x.2.2,some (BA n ps)],fun X' Oe He is O' => ?_⟩) rfl) (ev 11)) (fun h => by cases h) (fun _ => Ab ?_))
 ·obtain ⟨cl,s',H',fp,rfl⟩:=is
  exact ⟨TV 0 1 2 rfl YW (by decide) (by decide) (by decide),Cj B.gt (hr.mono (by decide)) DX (AE (ev 0) (AE (ev 3) (AE (ev 1) (AE (ev 2) AD)))) fun Φ q => RV wa o1 o2 hx q⟩
 ·exact k _ _ po4 ⟨_,_,_,_,_,_,_,_,_,_,_,_,_,rfl⟩
theorem RY {O0 O1:AL} {ρ:List (Option T)} {v0:Option T} {p:Addr} {n:Int} {ps:List (Int × Int)} {Φ:BX} {N Bk Ct:Ic} (B:Has P w K mg base) (hr:Room 8 (zL P w K mg base f cdv A outer s H E).X.A) (xf:XFly (zL P w K mg base f cdv A outer s H E).X (zL P w K mg base f cdv A outer s H E).W) (po:PO O0 p O1) (R:Rho ρ v0 p n ps)
  (k:∀ ρ' O',(∃ v1 v2 v3 v4 v5 v6 v7 v8 v9 v10 v11 v12 v13 v14 v15,ρ' = [v0,v1,v2,v3,v4,v5,v6,v7,v8,v9,v10,v11,v12,v13,v14,v15])→N ρ' O'):DW (zL P w K mg base f cdv A outer s H E) ρ O1 [(FI (NS 2)).getD 6 (.Pass ⟨0,0,0,0⟩),(FI (NS 2)).getD 7 (.Pass ⟨0,0,0,0⟩),(FI (NS 2)).getD 8 (.Pass ⟨0,0,0,0⟩),(FI (NS 2)).getD 9 (.Pass ⟨0,0,0,0⟩),(FI (NS 2)).getD 10 (.Pass ⟨0,0,0,0⟩),(FI (NS 2)).getD 11 (.Pass ⟨0,0,0,0⟩)] { nx:=N,rt:=Φ,bk:=Bk,ct:=Ct }:=by
 have hu:(zL P w K mg base f cdv A outer s H E).X.A.units + 101 < cLine:=by have:=hr.un; omega
 obtain ⟨v2,v3,v4,v6,v7,v8,v9,v10,v11,v12,v13,v14,v15,rfl⟩:=R.ex
 refine AC (JO 2 3 rfl Bf.nd (CO (Bx CW (ET.we AA (Ap (m:=14) B.gd (hr.mono (by decide)) xf po (ev 5) AA (by decide) (by decide) fun r O2 r0 r1 po2 => Di _ ?_)))))
 refine CO (Bx CW (ET.we AA (Ap (m:=16) B.gd (hr.mono (by decide)) xf po2 (ev 5) AA (by decide) (by decide) fun r' O3 r0' r1' po3 => Di _ ?_)))
 refine BE ⟨_,_,rfl,?_⟩
 have hd:2≤2 + r∧2 + r≤15:=by omega
 have hm:1≤1 + r'∧1 + r'≤16:=by omega
 generalize 2 + r = d at hd
 generalize 1 + r' = m at hm
 refine AC (AG 12 (ET.we (t:=Bv (Bz d m)) (Cj B.gt (hr.mono (by decide)) xf (AE AA (AE (ev 2) (AE (ev 3) (AE BU AD)))) fun Φ q => Hx hd hm q) ?_) Bf.nd)
 refine AC (AZ (k:=false) (EB.cast (EW.eb (Mq (x:=false) (y:=false) (EB.cast (BI (Io hu) (Af _) (Ip (t:=Bv (Bz d m)) (u:=Bv (Bz d m)) FY FY Gi) (ev 12) (Ai B.gl (hr.mono (by decide)) xf (AE (ev 2) (AE (ev 3) AD)) ⟨d,m,rfl,⟨by omega,by omega⟩,rfl⟩)) (by rw [Ko]; rfl)) fun _ => IZ (EB.cast (EW.eb (GE (x:=!CQ (Bv (Bz d m))) (y:=false) (NG Kq (ev 12)) fun h => EN (EB.cast (Ch (k:=true) (EM (ET.cast (Ai B.gh (hr.mono (by decide)) xf (AE (ev 12) AD) ⟨Bv (Bz d m),rfl,Kq,rfl⟩) ?_))) rfl))) (by simp)))) rfl) (fun h => by cases h) (fun _ => Ab ?_))
 ·cases z:Bz d m with
  | none => rw [z] at h; cases h
  | some x => rfl
 obtain ⟨ys,hy,py⟩:=po3.at
 refine AC (JO 13 14 rfl Bf.nd (CO (AN B.go (hr.mono (by decide)) xf (EA.wa (AE (ev 5) (AE AA (AE AA AD))) ⟨p,ys,2,15,rfl,hy,py,by decide,fun bad O4 b1 b2 po4 => ?_⟩))))
 obtain ⟨zs,hz,pz⟩:=po4.at
 refine CO (AN B.go (hr.mono (by decide)) xf (EA.wa (AE (ev 5) (AE AA (AE AA AD))) ⟨p,zs,1,16,rfl,hz,pz,by decide,fun more O5 m1 m2 po5 => ?_⟩))
 refine BE ⟨_,_,rfl,?_⟩
 refine AC (AG 15 (ET.we (t:=.lst ([(bad,T.int m),(T.int d,more),(bad,more)].map fun x => .tup [x.1,x.2])) (Az (AE (Ay (AE (ev 13) (AE (ev 3) AD)) (by show 2≤sizeLine; decide)) (AE (Ay (AE (ev 2) (AE (ev 14) AD)) (by show 2≤sizeLine; decide)) (AE (Ay (AE (ev 13) (AE (ev 14) AD)) (by show 2≤sizeLine; decide)) AD))) (by show 3≤sizeLine; decide)) ?_) Bf.nd)
 refine AF (AZ (k:=false) (UM (y:="number") (m:=3) hu (by decide +kernel) (ET.cast (Dq ["_law_one","_law_two"] [] [(bad,T.int m),(T.int d,more),(bad,more)] (fun x => .tup [x.1,x.2]) (fun _ => kT "number") rfl (CD (AB KN) ML (by decide +kernel)) (Ak (ev 15)) (by show 3≤sizeLine; decide) fun x hx => ⟨[some x.1,some x.2],fun X' Oe He is O' => ?_⟩) rfl) (JK (i:=3) (Az (AE (Ay (AE Dp AD) (by show 1≤sizeLine; decide)) AD) (by show 1≤sizeLine; decide)) AA ⟨by decide,by decide⟩)) (fun h => by cases h) (fun _ => Ab (k _ _ ⟨_,_,_,_,_,_,_,_,_,_,_,_,_,_,_,rfl⟩)))
 obtain ⟨cl,s',H',fp,rfl⟩:=is
 refine ⟨EO 0 1 rfl YX (by decide) (by decide),Cj B.gt (hr.mono (by decide)) DX (AE AA (AE (ev 0) (AE (ev 1) (AE BU AD)))) fun Φ q => ?_⟩
 simp only [List.mem_cons,List.not_mem_nil,or_false] at hx
 rcases hx with rfl | rfl | rfl
 ·exact Gj b1 rfl (.inl b2) q
 ·exact Gj rfl m1 (.inr m2) q
 ·exact Gj b1 m1 (.inl b2) q
theorem RZ {O:AL} {v0 v1 v2 v3 v5 v6 v7 v8 v9 v10 v11 v12 v13 v14 v15:Option T} {c:Int} {Φ:BX} {N Bk Ct:Ic} (B:Has P w K mg base) (hr:Room 8 (zL P w K mg base f cdv A outer s H E).X.A) (xf:XFly (zL P w K mg base f cdv A outer s H E).X (zL P w K mg base f cdv A outer s H E).W)
  (k:∀ ρ' O',(∃ v1 v2 v3 v4 v5 v6 v7 v8 v9 v10 v11 v12 v13 v14 v15,ρ' = [v0,v1,v2,v3,v4,v5,v6,v7,v8,v9,v10,v11,v12,v13,v14,v15])→N ρ' O'):HS (zL P w K mg base f cdv A outer s H E) [v0,v1,v2,v3,some (.int c),v5,v6,v7,v8,v9,v10,v11,v12,v13,v14,v15] O (FI (NS 2)) { nx:=N,rt:=Φ,bk:=Bk,ct:=Ct }:=by
 refine EV (AG 5 (AN B.gp (hr.mono (by decide)) xf (EA.wa (AE (ev 4) AD) ⟨c,rfl,fun p xs hp px => ?_⟩)) Bf.nd)
 refine EV (AG 1 (AN B.gs (hr.mono (by decide)) xf (EA.wa (AE (ev 5) (AE AA AD)) ⟨p,xs,rfl,AH,px,fun n ps O1 n0 n1 hP pw hl po => ?_⟩)) Bf.nd)
 have wa:WebA n ps:=⟨by omega,n1,hP,hl⟩
 exact ⟨MM B hr xf po wa ⟨_,_,_,_,_,_,_,_,_,_,_,_,_,rfl⟩ fun ρ2 O2 po2 R2 => RX B hr xf po2 wa R2 fun ρ3 O3 po3 R3 => RY B hr xf po3 R3 k⟩
section
variable {Z:Zx} {ρ:List (Option T)} {O:AL} {i j n:Int} {k1 k2 x y:Nat} {p1 p2 pos pos':Pos} {es:List Expr} {ps:List (Int × Int)}
theorem MN (h:HEA Z ρ O es (ps.map AM)):HEA Z ρ O (.Tuple [.Constant (.int i) k1 p1,.Constant (.int j) k2 p2] x pos :: es) (((i,j) :: ps).map AM):=⟨ZT (DY AA AA) h.out⟩
theorem JQ:HEA Z ρ O [] (([]:List (Int × Int)).map AM):=⟨Xj⟩
theorem NU (h:HEA Z ρ O es (ps.map AM)) (hl:ps.length≤1000):HET Z ρ O (.Tuple [.Constant (.int n) k1 p1,.Tuple es y pos'] x pos) (BA n ps) :=
 ⟨Ay (AE AA (AE (Ay h.out (by rw [List.length_map]; exact Nat.le_trans hl (Nat.le_of_lt AT))) AD)) (Nat.le_trans (show 2≤1000 by decide) (Nat.le_of_lt AT))⟩
theorem NV {W:Expr} {xs:List (Int × List (Int × Int))} (h:HET Z ρ O W (BA n ps)) (hr:HEA Z ρ O es (xs.map fun x => BA x.1 x.2)) (hn:Bb W = true):HEA Z ρ O (W :: es) (((n,ps) :: xs).map fun x => BA x.1 x.2):=.cons h hr hn
theorem DL {ns:List Int} (h:HEA Z ρ O es (ns.map T.int)):HEA Z ρ O (.Constant (.int i) k1 p1 :: es) ((i :: ns).map T.int):=.cons .int h
end
def Zh:Stmt→Expr
 | .For e _ _ _ _ => e
 | _ => .Constant .none 0 ⟨0,0,0,0⟩
def YY:List (Int × List (Int × Int)):=[(1,[]),(4,[]),(2,[(0,1)]),(4,[(0,1),(2,3)])]
theorem WY:∀ x∈YY,WebA x.1 x.2:=by
 intro x hx
 simp only [YY,List.mem_cons,List.not_mem_nil,or_false] at hx
 rcases hx with rfl | rfl | rfl | rfl
 ·exact ⟨by decide,by decide,(fun p hp => by cases hp),by decide⟩
 ·exact ⟨by decide,by decide,(fun p hp => by cases hp),by decide⟩
 ·exact ⟨by decide,by decide,(fun p hp => by rw [List.mem_singleton.mp hp]; unfold Hm; decide),by decide⟩
 ·refine ⟨by decide,by decide,(fun p hp => ?_),by decide⟩
  simp only [List.mem_cons,List.not_mem_nil,or_false] at hp
  rcases hp with rfl | rfl <;> (unfold Hm; decide)
theorem TZ {a1 b1 c1 a2 b2 c2 a3 b3 c3 a4 b4 c4 d1 d2 d3 d4 d5 d6 d7 d8 d9:Nat} {q1 r1 s1 q2 r2 s2 q3 r3 s3 q4 r4 s4 t1 t2 t3 t4 t5 t6 t7 t8 t9:Pos} {Z:Zx} {ρ:List (Option T)} {O:AL} :
  HEA Z ρ O [.Tuple [.Constant (.int 1) a1 q1,.Tuple [] b1 r1] c1 s1,.Tuple [.Constant (.int 4) a2 q2,.Tuple [] b2 r2] c2 s2,.Tuple [.Constant (.int 2) a3 q3,.Tuple [.Tuple [.Constant (.int 0) d1 t1,.Constant (.int 1) d2 t2] d3 t3] b3 r3] c3 s3,
   .Tuple [.Constant (.int 4) a4 q4,.Tuple [.Tuple [.Constant (.int 0) d4 t4,.Constant (.int 1) d5 t5] d6 t6,.Tuple [.Constant (.int 2) d7 t7,.Constant (.int 3) d8 t8] d9 t9] b4 r4] c4 s4] (YY.map fun x => BA x.1 x.2) :=
 NV (xs:=[(4,[]),(2,[(0,1)]),(4,[(0,1),(2,3)])]) (NU (ps:=[]) JQ (by decide)) (NV (xs:=[(2,[(0,1)]),(4,[(0,1),(2,3)])]) (NU (ps:=[]) JQ (by decide)) (NV (xs:=[(4,[(0,1),(2,3)])]) (NU (ps:=[(0,1)]) (MN JQ) (by decide)) (NV (xs:=[]) (NU (ps:=[(0,1),(2,3)]) (MN (MN JQ)) (by decide)) .nil rfl) rfl) rfl) rfl
theorem Ta {es:List Expr} {p1 p2:Pos} {ss:List Stmt} {a:Addr} (B:Has P w K mg base) (hr:Room 8 (zL P w K mg base f cdv A outer s H E).X.A) (xf:XFly (zL P w K mg base f cdv A outer s H E).X (zL P w K mg base f cdv A outer s H E).W) {Ψ:Es} (h:HEA (zL P w K mg base f cdv A outer s H E) (Ck ML [.raw (.ref a)]) Mw es (YY.map fun x => BA x.1 x.2)) (k:∀ v1,HS (zL P w K mg base f cdv A outer s H E) [some (.raw (.ref a)),v1,none,none,none,none,none,none,none,none,none,none,none,none,none,none] Mw ss Ψ) :
  HS (zL P w K mg base f cdv A outer s H E) (Ck ML [.raw (.ref a)]) Mw (.For (Zh (NS 0)) (.List es p1) (FI (NS 0)) [] p2 :: ss) Ψ:=by
 refine EV (SS Ac.own rfl h (by show 4≤sizeLine; decide) (fun i ρ' O' => Mw = O'∧∃ v1,ρ' = [some (.raw (.ref a)),v1,none,none,none,none,none,none,none,none,none,none,none,none,none,none]) ⟨rfl,none,rfl⟩ ?_ ?_)
 ·rintro i t _ _ e ⟨rfl,v1,rfl⟩
  rw [List.getElem?_map] at e
  cases ec:YY[i]? with
  | none => rw [ec] at e; cases e
  | some x =>
   rw [ec] at e
   cases e
   have wa:=WY x (List.mem_of_getElem? ec)
   have n0:=wa.n0
   refine ⟨[some (.raw (.ref a)),some (BA x.1 x.2),none,none,none,none,none,none,none,none,none,none,none,none,none,none],AS 1 Bf.nd (by show 1 < 16; decide),?_⟩
   exact Il (AZ (k:=false) (EB.cast (EW.eb (Mq (x:=false) (y:=false) (EB.cast (Ch (k:=true) (EM (Ai B.gr hr xf (AE (ev 1) (AE AA (AE (BF (BJ (ev 1) AA) AA) AD))) ⟨x.1,x.2,0,x.1 - 1,rfl,wa,⟨by omega,by omega⟩,⟨by omega,by omega⟩,rfl⟩))) rfl) fun _ => IZ (EB.cast (Ch (k:=true) (EM (Ai B.gr hr xf (AE (ev 1) (AE AA (AE (Ii B.tx.nMin rfl AA (BF (BJ (ev 1) AA) AA)) AD))) ⟨x.1,x.2,0,min 1 (x.1 - 1),rfl,wa,⟨by omega,by omega⟩,⟨by omega,by omega⟩,rfl⟩))) rfl))) rfl) (fun h => by cases h) (fun _ => Ab ⟨rfl,_,rfl⟩))
 ·rintro _ _ ⟨rfl,v1,rfl⟩
  exact k v1
theorem Ra {a:Addr} {ns:List Int} {fC:Addr} {fdC:FuncData} (B:Has P w K mg base) (hr:Room 8 (zL P w K mg base f cdv A outer s H E).X.A) (xf:XFly (zL P w K mg base f cdv A outer s H E).X (zL P w K mg base f cdv A outer s H E).W) (hS:SqL K H a (ns.map V.int)) (hn:ns.length≤63)
  (FC:FnOk P w K mg base (CXe P w) 1 fC fdC ["_law_script","_law_k"] (GT K)) (mC:mg "_law_cell_at" = some (.ref fC)) (kC:PySem.W.keepIn K (.ref fC) = true) (bC:Binds K fdC ["_law_script","_law_k"] []):HS (zL P w K mg base f cdv A outer s H E) (Ck ML [.raw (.ref a)]) Mw (Aj KN) { nx:=fun _ O' => Zg .non O',rt:=Zg }:=by
 have hu:(zL P w K mg base f cdv A outer s H E).X.A.units + 101 < cLine:=by have:=hr.un; omega
 refine Ta B hr xf TZ fun v1 => ?_
 refine EV (Kn Ac.own rfl (ts:=[2,3,4,15].map T.int) (DL (DL (DL (DL .nil)))) (by show 4≤sizeLine; decide) (fun i ρ' O' => Mw = O'∧∃ v1 v2 v3,ρ' = [some (.raw (.ref a)),v1,v2,v3,none,none,none,none,none,none,none,none,none,none,none,none]) ⟨rfl,v1,none,none,rfl⟩ ?_ ?_)
 ·rintro i t _ _ e ⟨rfl,v1,v2,v3,rfl⟩
  rw [List.getElem?_map] at e
  cases ec:([2,3,4,15]:List Int)[i]? with
  | none => rw [ec] at e; cases e
  | some d =>
   rw [ec] at e
   cases e
   have hd:2≤d∧d≤15:=by
    have:=List.mem_of_getElem? ec
    simp only [List.mem_cons,List.not_mem_nil,or_false] at this
    omega
   refine ⟨[some (.raw (.ref a)),v1,some (.int d),v3,none,none,none,none,none,none,none,none,none,none,none,none],AS 2 Bf.nd (by show 2 < 16; decide),?_⟩
   refine Il (Kn Ac.own rfl (ts:=[1,3,4,10,13,14,16].map T.int) (DL (DL (DL (DL (DL (DL (DL .nil))))))) (by show 7≤sizeLine; decide) (fun i ρ' O' => Mw = O'∧∃ v3,ρ' = [some (.raw (.ref a)),v1,some (.int d),v3,none,none,none,none,none,none,none,none,none,none,none,none]) ⟨rfl,v3,rfl⟩ ?_ ?_)
   ·rintro j t _ _ e ⟨rfl,v3,rfl⟩
    rw [List.getElem?_map] at e
    cases ec:([1,3,4,10,13,14,16]:List Int)[j]? with
    | none => rw [ec] at e; cases e
    | some m =>
     rw [ec] at e
     cases e
     have hm:1≤m∧m≤16:=by
      have:=List.mem_of_getElem? ec
      simp only [List.mem_cons,List.not_mem_nil,or_false] at this
      omega
     refine ⟨[some (.raw (.ref a)),v1,some (.int d),some (.int m),none,none,none,none,none,none,none,none,none,none,none,none],AS 3 Bf.nd (by show 3 < 16; decide),?_⟩
     exact Il (AZ (k:=false) (EB.cast (BI (Io hu) (Af _) (Ip (t:=Bv (Bz d m)) (u:=Bv (Bz d m)) FY FY Gi) (Cj B.gt (hr.mono (by decide)) xf (AE AA (AE (ev 2) (AE (ev 3) (AE BU AD)))) fun Φ q => Hx hd hm q) (Ai B.gl (hr.mono (by decide)) xf (AE (ev 2) (AE (ev 3) AD)) ⟨d,m,rfl,⟨by omega,by omega⟩,rfl⟩)) (by rw [Ko]; rfl)) (fun h => by cases h) (fun _ => Ab ⟨rfl,_,rfl⟩))
   ·rintro _ _ ⟨rfl,v3,rfl⟩
    exact ⟨rfl,_,_,_,rfl⟩
 rintro _ _ ⟨rfl,v1,v2,v3,rfl⟩
 refine EV (ST Ac.own rfl (RU hr xf hS hn rfl FC mC kC bC fun ms hm => ⟨ms.map T.int,rfl,fun i ρ' O' => ∃ v1 v2 v3 v4 v5 v6 v7 v8 v9 v10 v11 v12 v13 v14 v15,ρ' = [some (.raw (.ref a)),v1,v2,v3,v4,v5,v6,v7,v8,v9,v10,v11,v12,v13,v14,v15],⟨_,_,_,_,_,_,_,_,_,_,_,_,_,_,_,rfl⟩,?_,?_⟩) (by intro _; rfl))
 ·rintro i t _ O1 e ⟨v1,v2,v3,v4,v5,v6,v7,v8,v9,v10,v11,v12,v13,v14,v15,rfl⟩
  rw [List.getElem?_map] at e
  cases ec:ms[i]? with
  | none => rw [ec] at e; cases e
  | some c =>
   rw [ec] at e
   cases e
   exact ⟨[some (.raw (.ref a)),v1,v2,v3,some (.int c),v5,v6,v7,v8,v9,v10,v11,v12,v13,v14,v15],AS 4 Bf.nd (by show 4 < 16; decide),RZ B hr xf fun ρ' O' h => h⟩
 ·rintro _ _ _
  exact Il (AR (ET.we HY rfl))
theorem WZ {fd:FuncData} {fC:Addr} {fdC:FuncData} (F:Fun K "law" "law" KN f fd) (B:Has P w K mg base)
  (FC:FnOk P w K mg base (CXe P w) 1 fC fdC ["_law_script","_law_k"] (GT K)) (mC:mg "_law_cell_at" = some (.ref fC)) (kC:PySem.W.keepIn K (.ref fC) = true) (bC:Binds K fdC ["_law_script","_law_k"] []) :
  FnOk P w K mg base (CXe P w) 9 f fd ["_law_script"] (NT K):=by
 refine Xl F Bf (fun vs H Q E h => ?_) (fun cdv A outer s H vs Q E hr h => ?_)
 ·obtain ⟨a,ns,rfl,_⟩:=h
  rfl
 ·obtain ⟨a,ns,rfl,hS,hn,k⟩:=h
  refine ⟨[.raw (.ref a)],Mw,Zg,fun _ _ => False,.cons (.raw _) .nil,Pv,fun xf => Ra B hr xf hS hn FC mC kC bC,fun v H' t O' p f r => ?_,fun cls O' H' z => z.elim⟩
  have p:t = T.bl true:=p
  subst p
  cases r.bl_inv
  exact k H'
end
end K11
namespace L2.TL
open PySem PySem.Spec PyProof.Rows
structure Fi (K:PySem.W.Frag) (x:Str) (st:Stmt) (f:Addr) (fd:FuncData):Prop where
 F:Fun K x x st f fd
 a:PySem.W.nsIn K mainGlobals x = some (some (.ref f))
def Fx (K:PySem.W.Frag) (x:Str) (st:Stmt):Prop:=∃ f fd,Fi K x st f fd
def Zn (K:PySem.W.Frag) (x:Str):Prop:=PySem.W.nsIn K mainGlobals x = some none
def Cn (K:PySem.W.Frag) (x:Str) (C:Addr):Prop:=PySem.W.nsIn K mainGlobals x = some (some (.ref C))
structure Mg (P:Program) (w:World) (K:PySem.W.Frag) (mg:Str→Option Value) (base:Heap):Prop where
 mm:∀ {x:Str} {v:Value},PySem.W.nsIn K mainGlobals x = some (some v)→mg x = some v
section
variable {P:Program} {w:World} {K:PySem.W.Frag} {mg:Str→Option Value} {base:Heap} {x:Str} {st:Stmt} {f:Addr} {fd:FuncData} {ps:List Str} {k:Nat}
theorem fi {oc:Value} {od:Option Addr} {kV doc pm:Value} {an:Option Addr} {cdv ct:Value} {osl:Array (Option Value)} (a:PySem.W.nsIn K mainGlobals x = some (some (.ref f))) (l:K.lookup f = some ⟨oc,od,.func (PySem.W.fnOf x x (EE st) (Aj st) (AB st) .none kV doc pm an cdv ct),osl⟩) (q:PySem.W.codeIn K cdv x = true) (h:PySem.W.keepIn K (.ref f) = true) :
  Fx K x st:=⟨f,_,⟨⟨⟨oc,od,kV,doc,pm,an,cdv,ct,osl,rfl,l,q⟩,h⟩,a⟩⟩
abbrev Bi (x:Str) (st:Stmt) (ps:List Str) (us:List Value):Prop:=∀ (kV doc pm:Value) (an:Option Addr) (cdv ct:Value),bindArgs (PySem.W.fnOf x x (EE st) (Aj st) (AB st) .none kV doc pm an cdv ct) ⟨us,[]⟩ = pure (ps.zip us)
theorem Fi.b1 (h:Fi K x st f fd) (hl:ps.length = 1) (q:∀ a,Bi x st ps [a]):Binds K fd ps []:=h.F.binds fun _ _ _ _ _ _ us e => match us,e.trans hl with | [a],_ => q a ..
theorem Fi.b2 (h:Fi K x st f fd) (hl:ps.length = 2) (q:∀ a b,Bi x st ps [a,b]):Binds K fd ps []:=h.F.binds fun _ _ _ _ _ _ us e => match us,e.trans hl with | [a,b],_ => q a b ..
theorem Fi.b3 (h:Fi K x st f fd) (hl:ps.length = 3) (q:∀ a b c,Bi x st ps [a,b,c]):Binds K fd ps []:=h.F.binds fun _ _ _ _ _ _ us e => match us,e.trans hl with | [a,b,c],_ => q a b c ..
theorem Fi.b4 (h:Fi K x st f fd) (hl:ps.length = 4) (q:∀ a b c d,Bi x st ps [a,b,c,d]):Binds K fd ps []:=h.F.binds fun _ _ _ _ _ _ us e => match us,e.trans hl with | [a,b,c,d],_ => q a b c d ..
theorem Fi.t {s:Br} (h:Fi K x st f fd) (M:Mg P w K mg base) (ok:FnOk P w K mg base (CXe P w) k f fd ps (By K s)) (b:Binds K fd ps []):FnT P w K mg base x k ps s:=⟨f,fd,ok,M.mm h.a,h.F.kp,b⟩
structure Xk (K:PySem.W.Frag) (C CR c0 c1 c2 c3 c4 c5 c6 c7:Addr) (b0 b1 b2 b3 b4 b5 b6 b7:Bool):Prop where
 e0:PySem.W.kitOne K (.ref C) (.ref c0) = some b0
 e1:PySem.W.kitOne K (.ref C) (.ref c1) = some b1
 e2:PySem.W.kitOne K (.ref C) (.ref c2) = some b2
 e3:PySem.W.kitOne K (.ref C) (.ref c3) = some b3
 e4:PySem.W.kitOne K (.ref C) (.ref c4) = some b4
 e5:PySem.W.kitOne K (.ref C) (.ref c5) = some b5
 e6:PySem.W.kitOne K (.ref C) (.ref c6) = some b6
 e7:PySem.W.kitOne K (.ref C) (.ref c7) = some b7
 kR:PySem.W.kitOne K (.ref C) (.ref CR) = some true
 nR:(Value.ref C == Value.ref CR) = false
 ve:PySem.W.kitOne K (.ref C) (.type "ValueError") = some true
 g1:PySem.W.findIn K (.ref C) "__getattribute__" = some (some (.builtin "BaseException.__getattribute__"))
 g2:PySem.W.findIn K (.ref C) "__getattr__" = some none
 g3:PySem.W.mroIn K C (.type "BaseException") = some true
 g4:PySem.W.mroIn K C (.type "object") = some true
 g5:PySem.W.findIn K (.ref C) "__class__" = some (some (.builtin "object.__class__"))
structure Xg (K:PySem.W.Frag) (CR:Addr):Prop where
 bR:PySem.W.mroIn K CR (.type "BaseException") = some true
 g6:PySem.W.specialIn K (.builtin "object.__class__") "__get__" = some (some (.builtin "getset_descriptor.__get__"))
 g7:PySem.W.takesIn K (.builtin "object.__class__") = some true
theorem Xk.kit {C CR c0 c1 c2 c3 c4 c5 c6 c7:Addr} {b0 b1 b2 b3 b4 b5 b6 b7:Bool} (x:Xk K C CR c0 c1 c2 c3 c4 c5 c6 c7 b0 b1 b2 b3 b4 b5 b6 b7):PySem.W.kitCls K (.ref C) (.ref CR) = some true:=by
 have h:=x.kR
 unfold PySem.W.kitOne at h
 rw [x.nR,if_neg Bool.false_ne_true] at h
 exact h
end
end L2.TL
namespace K11
open PySem L2 L2.TL
theorem Ed {P:Program} {w:World} {K:PySem.W.Frag} {mg:Str→Option Value} {base:Heap} {C CR CNoPlace CNoNumber CNoLine CNoRing CNotEven CNoWeb CNoText CTooGreat:Addr} {b0 b1 b2 b3 b4 b5 b6 b7:Bool} (M:Mg P w K mg base) (mNoPlace:Cn K "NoPlace" CNoPlace) (mNoNumber:Cn K "NoNumber" CNoNumber) (mNoLine:Cn K "NoLine" CNoLine) (mNoRing:Cn K "NoRing" CNoRing) (mNotEven:Cn K "NotEven" CNotEven) (mNoWeb:Cn K "NoWeb" CNoWeb) (mNoText:Cn K "NoText" CNoText) (mTooGreat:Cn K "TooGreat" CTooGreat) (g:Xg K CR) (x:Xk K C CR CNoPlace CNoNumber CNoLine CNoRing CNotEven CNoWeb CNoText CTooGreat b0 b1 b2 b3 b4 b5 b6 b7):Kinds K mg C b0 b1 b2 b3 b4 b5 b6 b7 :=
 ⟨⟨_,M.mm mNoPlace,x.e0⟩,⟨_,M.mm mNoNumber,x.e1⟩,⟨_,M.mm mNoLine,x.e2⟩,⟨_,M.mm mNoRing,x.e3⟩,⟨_,M.mm mNotEven,x.e4⟩,⟨_,M.mm mNoWeb,x.e5⟩,⟨_,M.mm mNoText,x.e6⟩,⟨_,M.mm mTooGreat,x.e7⟩,x.ve,⟨x.g1,x.g2,x.g3,x.g4,x.g5,g.g6,g.g7⟩⟩
theorem Wa {l:PySem.W.OpenLaw} {w:World} {K:PySem.W.Frag} {h:Heap} {mg:Str→Option Value} {fa CR CNoPlace CNoNumber CNoLine CNoRing CNotEven CNoWeb CNoText CTooGreat:Addr} {tMOST_PLACES tLEAST_RING tLEAST_TIES tMOST_TIES tMOST_RING:Tok} (X:K.In h) (G:h.Ns mainGlobals mg) (hfa:mg "law" = some (.ref fa))
  (H0:Fx K "is_whole" Ll) (H1:Fx K "need_number" Iy) (H2:Fx K "is_place" Lm) (H3:Fx K "need_place" QF) (H4:Fx K "are_tied" Mz) (H5:Fx K "nears_of" Iz) (H6:Fx K "fars_from" Hn) (H7:Fx K "even_by" ND) (H8:Fx K "need_ties" QH) (H9:Fx K "need_ring" QI) (H10:Fx K "need_ties_and_ring" ZW) (H11:Fx K "sum_of_powers" Vh) (H12:Fx K "grown_places" Ln) (H13:Fx K "least_by_growth" Vi) (H14:Fx K "need_tie" Vl) (H15:Fx K "layers_from" DJ) (H16:Fx K "places_so_far" GR) (H17:Fx K "layers_of" Lq) (H18:Fx K "layers_by_tie" Iv) (H19:Fx K "evenness" Vj) (H20:Fx K "full_layers" Lo) (H21:Fx K "full_at" Ir) (H22:Fx K "full_by" Iu) (H23:Fx K "longest_fit" EX) (H24:Fx K "_law_cell_at" QL) (H25:Fx K "_law_next" QM) (H26:Fx K "_law_pen_of" Vm) (H27:Fx K "_law_draw" QN) (H28:Fx K "_law_whole" Ix) (H29:Fx K "_law_kind_of" GO) (H30:Fx K "_law_refused" Vg) (H31:Fx K "_law_web_of" GP) (H32:Fx K "_law_near_of" GS) (H33:Fx K "_law_round" Iq) (H34:Fx K "_law_some_web" Cr) (H35:Fx K "_law_fars" Ds) (H36:Fx K "_law_even" GQ) (H37:Fx K "_law_no_place" QG) (H38:Fx K "_law_odd_of" Vk) (H39:Fx K "_law_told" QJ) (H40:Fx K "_law_full" Hl) (H41:Fx K "_law_longest" Lp) (H42:Fx K "_law_right" DI) (H43:Fx K "law" KN)
  (zint:Zn K "int") (zbool:Zn K "bool") (ztuple:Zn K "tuple") (zlist:Zn K "list") (zset:Zn K "set") (zrange:Zn K "range") (zisinstance:Zn K "isinstance") (zmax:Zn K "max") (zmin:Zn K "min") (zlen:Zn K "len") (zall:Zn K "all") (zsorted:Zn K "sorted") (zrepr:Zn K "repr") (zValueError:Zn K "ValueError") (zenumerate:Zn K "enumerate") (vMOST_PLACES:PySem.W.nsIn K mainGlobals "MOST_PLACES" = some (some (.int 16 tMOST_PLACES))) (vLEAST_RING:PySem.W.nsIn K mainGlobals "LEAST_RING" = some (some (.int 3 tLEAST_RING))) (vLEAST_TIES:PySem.W.nsIn K mainGlobals "LEAST_TIES" = some (some (.int 2 tLEAST_TIES))) (vMOST_TIES:PySem.W.nsIn K mainGlobals "MOST_TIES" = some (some (.int 15 tMOST_TIES))) (vMOST_RING:PySem.W.nsIn K mainGlobals "MOST_RING" = some (some (.int 16 tMOST_RING))) (mNoPlace:Cn K "NoPlace" CNoPlace) (mNoNumber:Cn K "NoNumber" CNoNumber) (mNoLine:Cn K "NoLine" CNoLine) (mNoRing:Cn K "NoRing" CNoRing) (mNotEven:Cn K "NotEven" CNotEven) (mNoWeb:Cn K "NoWeb" CNoWeb) (mNoText:Cn K "NoText" CNoText) (mTooGreat:Cn K "TooGreat" CTooGreat) (mR:Cn K "RingError" CR) (gR:Xg K CR)
  (yNoPlace:Xk K CNoPlace CR CNoPlace CNoNumber CNoLine CNoRing CNotEven CNoWeb CNoText CTooGreat true false false false false false false false) (xNoPlace:PySem.W.excIn K CNoPlace Go "ValueError.__new__" = true) (yNoNumber:Xk K CNoNumber CR CNoPlace CNoNumber CNoLine CNoRing CNotEven CNoWeb CNoText CTooGreat false true false false false false false false) (xNoNumber:PySem.W.excIn K CNoNumber Go "ValueError.__new__" = true) (yNoLine:Xk K CNoLine CR CNoPlace CNoNumber CNoLine CNoRing CNotEven CNoWeb CNoText CTooGreat false false true false false false false false) (xNoLine:PySem.W.excIn K CNoLine Go "ValueError.__new__" = true) (yNotEven:Xk K CNotEven CR CNoPlace CNoNumber CNoLine CNoRing CNotEven CNoWeb CNoText CTooGreat false false false false true false false false) (xNotEven:PySem.W.excIn K CNotEven Go "ValueError.__new__" = true)
  : ∃ fd:FuncData,(∀ (s:Shared) (v:Value),BindsTo s fd ⟨[v],[]⟩ [("_law_script",v)])∧∀ base:Heap,K.In base→base.Ns mainGlobals mg→FnOk l.prog w K mg base (CXe l.prog w) 9 fa fd ["_law_script"] (NT K):=by
 obtain ⟨f0,d0,h0⟩:=H0
 obtain ⟨f1,d1,h1⟩:=H1
 obtain ⟨f2,d2,h2⟩:=H2
 obtain ⟨f3,d3,h3⟩:=H3
 obtain ⟨f4,d4,h4⟩:=H4
 obtain ⟨f5,d5,h5⟩:=H5
 obtain ⟨f6,d6,h6⟩:=H6
 obtain ⟨f7,d7,h7⟩:=H7
 obtain ⟨f8,d8,h8⟩:=H8
 obtain ⟨f9,d9,h9⟩:=H9
 obtain ⟨f10,d10,h10⟩:=H10
 obtain ⟨f11,d11,h11⟩:=H11
 obtain ⟨f12,d12,h12⟩:=H12
 obtain ⟨f13,d13,h13⟩:=H13
 obtain ⟨f14,d14,h14⟩:=H14
 obtain ⟨f15,d15,h15⟩:=H15
 obtain ⟨f16,d16,h16⟩:=H16
 obtain ⟨f17,d17,h17⟩:=H17
 obtain ⟨f18,d18,h18⟩:=H18
 obtain ⟨f19,d19,h19⟩:=H19
 obtain ⟨f20,d20,h20⟩:=H20
 obtain ⟨f21,d21,h21⟩:=H21
 obtain ⟨f22,d22,h22⟩:=H22
 obtain ⟨f23,d23,h23⟩:=H23
 obtain ⟨f24,d24,h24⟩:=H24
 obtain ⟨f25,d25,h25⟩:=H25
 obtain ⟨f26,d26,h26⟩:=H26
 obtain ⟨f27,d27,h27⟩:=H27
 obtain ⟨f28,d28,h28⟩:=H28
 obtain ⟨f29,d29,h29⟩:=H29
 obtain ⟨f30,d30,h30⟩:=H30
 obtain ⟨f31,d31,h31⟩:=H31
 obtain ⟨f32,d32,h32⟩:=H32
 obtain ⟨f33,d33,h33⟩:=H33
 obtain ⟨f34,d34,h34⟩:=H34
 obtain ⟨f35,d35,h35⟩:=H35
 obtain ⟨f36,d36,h36⟩:=H36
 obtain ⟨f37,d37,h37⟩:=H37
 obtain ⟨f38,d38,h38⟩:=H38
 obtain ⟨f39,d39,h39⟩:=H39
 obtain ⟨f40,d40,h40⟩:=H40
 obtain ⟨f41,d41,h41⟩:=H41
 obtain ⟨f42,d42,h42⟩:=H42
 obtain ⟨f43,d43,h43⟩:=H43
 have e:=hfa.symm.trans (PySem.W.mg_of X G h43.a)
 cases e
 have mm:∀ {x:Str} {v:Value},PySem.W.nsIn K mainGlobals x = some (some v)→mg x = some v:=fun e => PySem.W.mg_of X G e
 have nn:∀ {x:Str},Zn K x→mg x = none:=fun e => PySem.W.mg_none_of X G e
 have Tx:Txt mg:=⟨nn zint,nn zbool,nn ztuple,nn zlist,nn zset,nn zrange,nn zisinstance,nn zmax,nn zmin,nn zlen,nn zall,nn zsorted,nn zrepr,nn zValueError,nn zenumerate,⟨tMOST_PLACES,mm vMOST_PLACES⟩,⟨tLEAST_RING,mm vLEAST_RING⟩,⟨tLEAST_TIES,mm vLEAST_TIES⟩,⟨tMOST_TIES,mm vMOST_TIES⟩,⟨tMOST_RING,mm vMOST_RING⟩⟩
 refine ⟨d43,fun s v => ?_,fun base _ _ => ?_⟩
 ·obtain ⟨⟨_,_,_,_,_,_,_,_,_,rfl,_⟩,_⟩:=h43.F
  exact .of_eq rfl
 have M:Mg l.prog w K mg base:=⟨mm⟩
 have UNoPlace:=Ed M mNoPlace mNoNumber mNoLine mNoRing mNotEven mNoWeb mNoText mTooGreat gR yNoPlace
 have UNoNumber:=Ed M mNoPlace mNoNumber mNoLine mNoRing mNotEven mNoWeb mNoText mTooGreat gR yNoNumber
 have UNoLine:=Ed M mNoPlace mNoNumber mNoLine mNoRing mNotEven mNoWeb mNoText mTooGreat gR yNoLine
 have UNotEven:=Ed M mNoPlace mNoNumber mNoLine mNoRing mNotEven mNoWeb mNoText mTooGreat gR yNotEven
 have G0:=h0.t M (QK h0.F Tx) (h0.b3 rfl fun _ _ _ _ _ _ _ _ _ => rfl)
 have G1:=h1.t M (Vr h1.F (mm mNoNumber) xNoNumber G0) (h1.b3 rfl fun _ _ _ _ _ _ _ _ _ => rfl)
 have G2:=h2.t M (QT h2.F G0) (h2.b2 rfl fun _ _ _ _ _ _ _ _ => rfl)
 have G3:=h3.t M (Sj h3.F (mm mNoPlace) xNoPlace G2) (h3.b2 rfl fun _ _ _ _ _ _ _ _ => rfl)
 have G4:=h4.t M (Sk h4.F Tx) (h4.b3 rfl fun _ _ _ _ _ _ _ _ _ => rfl)
 have G5:=h5.t M (QV h5.F Tx) (h5.b1 rfl fun _ _ _ _ _ _ _ => rfl)
 have G6:=h6.t M (Sl h6.F) (h6.b2 rfl fun _ _ _ _ _ _ _ _ => rfl)
 have G7:=h7.t M (Sn h7.F Tx G5) (h7.b1 rfl fun _ _ _ _ _ _ _ => rfl)
 have G8:=h8.t M (TD h8.F Tx G1) (h8.b1 rfl fun _ _ _ _ _ _ _ => rfl)
 have G9:=h9.t M (TF h9.F Tx G1) (h9.b1 rfl fun _ _ _ _ _ _ _ => rfl)
 have G10:=h10.t M (YN h10.F G8 G9) (h10.b2 rfl fun _ _ _ _ _ _ _ _ => rfl)
 have G11:=h11.t M (WL h11.F Tx) (h11.b2 rfl fun _ _ _ _ _ _ _ _ => rfl)
 have G12:=h12.t M (RC h12.F G11) (h12.b2 rfl fun _ _ _ _ _ _ _ _ => rfl)
 have G13:=h13.t M (WM h13.F G10 G12) (h13.b2 rfl fun _ _ _ _ _ _ _ _ => rfl)
 have G14:=h14.t M (Vu h14.F (mm mNoLine) xNoLine G3 G4) (h14.b3 rfl fun _ _ _ _ _ _ _ _ _ => rfl)
 have G16:=h16.t M (OO h16.F Tx) (h16.b2 rfl fun _ _ _ _ _ _ _ _ => rfl)
 have G15:=h15.t M (Sr h15.F Tx G5 G6 G16) (h15.b2 rfl fun _ _ _ _ _ _ _ _ => rfl)
 have G17:=h17.t M (OP h17.F G3 G15) (h17.b2 rfl fun _ _ _ _ _ _ _ _ => rfl)
 have G18:=h18.t M (Ly h18.F G14 G15) (h18.b3 rfl fun _ _ _ _ _ _ _ _ _ => rfl)
 have G19:=h19.t M (WO h19.F (mm mNotEven) xNotEven G7) (h19.b1 rfl fun _ _ _ _ _ _ _ => rfl)
 have G20:=h20.t M (RL h20.F Tx) (h20.b3 rfl fun _ _ _ _ _ _ _ _ _ => rfl)
 have G21:=h21.t M (MH h21.F G19 G20 G17) (h21.b2 rfl fun _ _ _ _ _ _ _ _ => rfl)
 have G22:=h22.t M (MI h22.F G19 G20 G18) (h22.b3 rfl fun _ _ _ _ _ _ _ _ _ => rfl)
 have G23:=h23.t M (TJ h23.F Tx G8 G1 G13) (h23.b2 rfl fun _ _ _ _ _ _ _ _ => rfl)
 have W24:FnOk l.prog w K mg base (CXe l.prog w) 1 f24 _ _ (GT K):=Sf h24.F Tx
 have G25:=h25.t M (Sg h25.F) (h25.b1 rfl fun _ _ _ _ _ _ _ => rfl)
 have G26:=h26.t M (Vo h26.F Tx) (h26.b1 rfl fun _ _ _ _ _ _ _ => rfl)
 have G27:=h27.t M (Sh h27.F G25) (h27.b2 rfl fun _ _ _ _ _ _ _ _ => rfl)
 have G28:=h28.t M (OK h28.F Tx) (h28.b1 rfl fun _ _ _ _ _ _ _ => rfl)
 have WNoPlace:=JF (P:=l.prog) (w:=w) (base:=base) (by decide) (by decide) h30.F (Gx h29.F Tx UNoPlace) (mm h29.a) h29.F.kp (h29.b1 rfl fun _ _ _ _ _ _ _ => rfl)
 have WNoLine:=JF (P:=l.prog) (w:=w) (base:=base) (by decide) (by decide) h30.F (JD h29.F Tx UNoLine) (mm h29.a) h29.F.kp (h29.b1 rfl fun _ _ _ _ _ _ _ => rfl)
 have WNotEven:=JF (P:=l.prog) (w:=w) (base:=base) (by decide) (by decide) h30.F (JE h29.F Tx UNotEven) (mm h29.a) h29.F.kp (h29.b1 rfl fun _ _ _ _ _ _ _ => rfl)
 have WNoNumber:=JF (P:=l.prog) (w:=w) (base:=base) (by decide) (by decide) h30.F (GY h29.F Tx UNoNumber) (mm h29.a) h29.F.kp (h29.b1 rfl fun _ _ _ _ _ _ _ => rfl)
 have G31:=h31.t M (OQ h31.F Tx) (h31.b2 rfl fun _ _ _ _ _ _ _ _ => rfl)
 have G32:=h32.t M (Qn h32.F) (h32.b2 rfl fun _ _ _ _ _ _ _ _ => rfl)
 have G33:=h33.t M (Qq h33.F Tx) (h33.b3 rfl fun _ _ _ _ _ _ _ _ _ => rfl)
 have G34:=h34.t M (Kc h34.F Tx G27 G33 G31) (h34.b2 rfl fun _ _ _ _ _ _ _ _ => rfl)
 have G35:=h35.t M (Qp h35.F Tx G32) (h35.b2 rfl fun _ _ _ _ _ _ _ _ => rfl)
 have G36:=h36.t M (RM h36.F Tx G32) (h36.b1 rfl fun _ _ _ _ _ _ _ => rfl)
 have G37:=h37.t M (Kb h37.F G27) (h37.b2 rfl fun _ _ _ _ _ _ _ _ => rfl)
 have G38:=h38.t M (WR h38.F G27) (h38.b3 rfl fun _ _ _ _ _ _ _ _ _ => rfl)
 have G39:=h39.t M (TR h39.F WNoPlace WNoLine WNotEven WNoNumber (mm h30.a) h30.F.kp (h30.b1 rfl fun _ _ _ _ _ _ _ => rfl) (mm mR) gR.bR yNoPlace.kit yNoLine.kit yNotEven.kit yNoNumber.kit G21 G22 G23) (h39.b4 rfl fun _ _ _ _ _ _ _ _ _ _ => rfl)
 have G40:=h40.t M (RO h40.F Tx G35) (h40.b3 rfl fun _ _ _ _ _ _ _ _ _ => rfl)
 have G41:=h41.t M (RN h41.F Tx) (h41.b2 rfl fun _ _ _ _ _ _ _ _ => rfl)
 have G42:=h42.t M (YV h42.F G28 G32 G36 G39 G40) (h42.b3 rfl fun _ _ _ _ _ _ _ _ _ => rfl)
 exact WZ h43.F ⟨Tx,G27,G26,G28,G34,G32,G36,G37,G38,G39,G41,G42⟩ W24 (mm h24.a) h24.F.kp (h24.b2 rfl fun _ _ _ _ _ _ _ _ => rfl)
theorem walk {l:PySem.W.OpenLaw} {q:Program} {loose:List Str} {XP:(Str→Option Value)→Heap→Prop} {YP:World→Heap→Prop} {d:DefRec} {K:Params→PySem.W.Frag} (hn:l.most = some 63) (hdf:d.params.defaults = [])
  (hY:∀ (w:World) (h:Heap),YP w h→(K w.params).In h)
  (F:∀ (w:World) (mg:Str→Option Value) (fa:Addr) (h:Heap),(K w.params).In h→h.Ns mainGlobals mg→mg d.name = some (.ref fa) →
   ∃ fd:FuncData,(∀ (s:Shared) (u:Value),BindsTo s fd ⟨[u],[]⟩ [("_law_script",u)])∧∀ base:Heap,(K w.params).In base→base.Ns mainGlobals mg→FnOk l.prog w (K w.params) mg base (CXe l.prog w) 9 fa fd ["_law_script"] (NT (K w.params))) :
  PySem.W.WalkO q loose XP YP l.row.toRowW d [] (fun f vs => PySem.call f vs) :=
 L2.Rs (n:=63) (k:=9) (x:="_law_script") (CX:=fun w => CXe l.prog w) (sp:=fun w => NT (K w.params)) hn (by decide) hdf ⟨rfl,by decide,by decide,rfl⟩ hY F (fun _ _ a ns hl _ hS => ⟨a,ns,rfl,hS,hl,fun _ => rfl⟩) fun _ _ _ _ _ z => z.never
end K11
open PySem PySem.W PyProof.Rows
set_option maxRecDepth 100000 in
set_option maxHeartbeats 0 in
theorem PySem.Challenge.cw_noshortring_k11_full_layers_holds : PySem.Challenge.rw_noshortring_k11_full_layers.Holds := by
 w_on; o_law
 refine PySem.W.holds_open (q:=K11.kq) (loose:=[]) (Xt:=fun s => PySem.W.xlAt K11.kq [] s && PySem.W.recOk [] s) (XP:=PySem.W.XL K11.kq []) (Yf:=fun s => K11.ka.map s.heap.get?) (Ya:=fun w => (K11.Kk w.params).map fun (p:Addr × Obj) => some p.2) (YP:=PySem.W.InK K11.Kk) (N:=6898) K11.left (PySem.W.InK.of fun _ => by kernel_rfl) PySem.W.InK.keeps (fun s e => xl_of s (Bool.and_eq_true_iff.mp e).1) XL.keeps (by rfl) (by rfl) (by rfl) (fun s e => recFacts_of (Bool.and_eq_true_iff.mp e).2) (by rfl) (by first | assumption | decide +kernel) (by first | k_qdec | decide +kernel) ⟨rfl,rfl,rfl,rfl,rfl,by decide +kernel⟩ ?hw ?hc
 (case hw => w_witness2)
 k_fill
 refine K11.walk (l:=PySem.Challenge.rw_noshortring_k11_full_layers) rfl rfl (fun w h Y => Y) ?F
 case F =>
  intro w mg fa h KX G hmg
  refine' K11.Wa KX G hmg ?H0 ?H1 ?H2 ?H3 ?H4 ?H5 ?H6 ?H7 ?H8 ?H9 ?H10 ?H11 ?H12 ?H13 ?H14 ?H15 ?H16 ?H17 ?H18 ?H19 ?H20 ?H21 ?H22 ?H23 ?H24 ?H25 ?H26 ?H27 ?H28 ?H29 ?H30 ?H31 ?H32 ?H33 ?H34 ?H35 ?H36 ?H37 ?H38 ?H39 ?H40 ?H41 ?H42 ?H43 ?zint ?zbool ?ztuple ?zlist ?zset ?zrange ?zisinstance ?zmax ?zmin ?zlen ?zall ?zsorted ?zrepr ?zValueError ?zenumerate ?vMOST_PLACES ?vLEAST_RING ?vLEAST_TIES ?vMOST_TIES ?vMOST_RING ?mNoPlace ?mNoNumber ?mNoLine ?mNoRing ?mNotEven ?mNoWeb ?mNoText ?mTooGreat ?mR ?gR ?yNoPlace ?xNoPlace ?yNoNumber ?xNoNumber ?yNoLine ?xNoLine ?yNotEven ?xNotEven
  case H0 | H1 | H2 | H3 | H4 | H5 | H6 | H7 | H8 | H9 | H10 | H11 | H12 | H13 | H14 | H15 | H16 | H17 | H18 | H19 | H20 | H21 | H22 | H23 | H24 | H25 | H26 | H27 | H28 | H29 | H30 | H31 | H32 | H33 | H34 | H35 | H36 | H37 | H38 | H39 | H40 | H41 | H42 | H43 => (refine' L2.TL.fi ?a ?l ?q ?k; (case a => k_is); (case l => k_is); (case q => k_is); (case k => k_is))
  case zint | zbool | ztuple | zlist | zset | zrange | zisinstance | zmax | zmin | zlen | zall | zsorted | zrepr | zValueError | zenumerate => (delta L2.TL.Zn; k_is)
  case mNoPlace | mNoNumber | mNoLine | mNoRing | mNotEven | mNoWeb | mNoText | mTooGreat | mR => (delta L2.TL.Cn; k_is)
  case vMOST_PLACES => k_is
  case vLEAST_RING => k_is
  case vLEAST_TIES => k_is
  case vMOST_TIES => k_is
  case vMOST_RING => k_is
  case gR => exact ⟨by k_is,by k_is,by k_is⟩
  case yNoPlace => exact ⟨by kit_is,by kit_is,by kit_is,by kit_is,by kit_is,by kit_is,by kit_is,by kit_is,by kit_is,rfl,by kit_is,by k_is,by k_is,by k_is,by k_is,by k_is⟩
  case xNoPlace => k_exc
  case yNoNumber => exact ⟨by kit_is,by kit_is,by kit_is,by kit_is,by kit_is,by kit_is,by kit_is,by kit_is,by kit_is,rfl,by kit_is,by k_is,by k_is,by k_is,by k_is,by k_is⟩
  case xNoNumber => k_exc
  case yNoLine => exact ⟨by kit_is,by kit_is,by kit_is,by kit_is,by kit_is,by kit_is,by kit_is,by kit_is,by kit_is,rfl,by kit_is,by k_is,by k_is,by k_is,by k_is,by k_is⟩
  case xNoLine => k_exc
  case yNotEven => exact ⟨by kit_is,by kit_is,by kit_is,by kit_is,by kit_is,by kit_is,by kit_is,by kit_is,by kit_is,rfl,by kit_is,by k_is,by k_is,by k_is,by k_is,by k_is⟩
  case xNotEven => k_exc
